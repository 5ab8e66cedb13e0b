import PyProof.Rows.All
import Wide.All
import OpenK.AllK
import Wide.FinOn
import Lean
import PyProof.EqAt
import PyProof.EqKinds
import PyProof.TupleCall
import PyProof.ReprRoads
import PyProof.IsInstance
import PyProof.IsInstanceH
import PyProof.FitsBits
import PyProof.CompFree
import PyProof.Rows.SumAny
import PyProof.Rows.SortShell
import PyProof.Rows.TupAdd
import PyProof.NeKinds
import PyProof.ConsumeWalk
import PyProof.ZipIter
import PyProof.TupleIter
import PyProof.LayNew
import PyProof.CollectWalk
import PyProof.ListNew
import PyProof.Draws
import PyProof.EnumFor
import PyProof.EnumMake
import PyProof.ListRange
import PyProof.CollectIter
import KE.KRevIter
import PyProof.ListMulRoad
import PyProof.TupleOps
import PyProof.TupleOfStr
import PyProof.WalksMore
import PyProof.FactsAll.range_iterator
import PyProof.IsRules
import PyProof.CompUse
import PyProof.P3In
import PyProof.EqLayable
import KE.KIsAll
import PyProof.Rows.FactsN_isinstance
import PyProof.CallStr
import PyProof.Rows.StrWeight2
import PyProof.Rows.FStr
import PyProof.StrLawsRepr
import PyProof.Rows.SetFrom
import KE.KIntText
import KE.KRevSl
import PyProof.Rows.SeqMore2
import OpenK.KOwn
import KE.KTryMore
import PySem.Challenge.RW_askedpairs_k77_chances_raised
set_option Elab.async false
set_option linter.all false
set_option maxRecDepth 100000
namespace L2
open PySem PySem.Spec PyProof.Rows
abbrev iS:=Sum Int Str
def qO:iS→Value→Bool
  | .inl k,v=>Value.isInt k v
  | .inr x,v=>Value.isStrOf x v
def Ao(w:World):iS→Int
  | .inl k=>hashInt k
  | .inr x=>hashStr w x
theorem a9:∀{k:iS} {v:Value},qO k v=true→(∃i t,k=Sum.inl i∧v=Value.int i t)∨(∃x t,k=Sum.inr x∧v=Value.str x t)
  | .inl i,v,h=>by
    obtain⟨t,e⟩:=Value.isInt_shape (k:=i) (v:=v) h
    exact .inl ⟨i,t,rfl,e⟩
  | .inr x,v,h=>by
    obtain⟨t,e⟩:=Value.isStrOf_shape (x:=x) (v:=v) h
    exact .inr ⟨x,t,rfl,e⟩
theorem wn(a b:Int):decide ((Sum.inl a:iS)=Sum.inl b)=(a==b):=by
  by_cases e:a=b
  · subst e;simp
  · have h:¬(Sum.inl a:iS)=Sum.inl b:=fun q=>e (Sum.inl.inj q)
    rw [decide_eq_false h]
    exact(beq_eq_false_iff_ne.mpr e).symm
theorem wu(a b:Str):decide ((Sum.inr a:iS)=Sum.inr b)=decide (a=b):=by
  by_cases e:a=b
  · subst e;simp
  · have h:¬(Sum.inr a:iS)=Sum.inr b:=fun q=>e (Sum.inr.inj q)
    rw [decide_eq_false h,decide_eq_false e]
theorem wo(a:Int)(b:Str):decide ((Sum.inl a:iS)=Sum.inr b)=false:=decide_eq_false (fun q=>nomatch q)
theorem wq(a:Str)(b:Int):decide ((Sum.inr a:iS)=Sum.inl b)=false:=decide_eq_false (fun q=>nomatch q)
def lQ(prog:Program)(w:World):PySem.KeyKind prog w iS where
  is:=qO
  hash:=Ao w
  inj:=fun v a b ha hb=>by
    rcases a9 ha with ⟨i,t,rfl,rfl⟩ | ⟨x,t,rfl,rfl⟩
    · rcases a9 hb with ⟨j,u,rfl,e⟩ | ⟨y,u,rfl,e⟩
      · injection e with e1 _;rw [e1]
      · exact nomatch e
    · rcases a9 hb with ⟨j,u,rfl,e⟩ | ⟨y,u,rfl,e⟩
      · exact nomatch e
      · injection e with e1 _;rw [e1]
  byValue:=fun k v h=>by
    rcases a9 h with ⟨i,t,rfl,rfl⟩ | ⟨x,t,rfl,rfl⟩<;>rfl
  pyHash:=fun hv h=>by
    rcases a9 hv with ⟨i,t,rfl,rfl⟩ | ⟨x,t,rfl,rfl⟩
    · exact wpAny_pyHash_int h
    · exact wpAny_pyHash_str h
  eqBool:=fun hu hv h=>by
    rcases a9 hu with ⟨i,t,rfl,rfl⟩ | ⟨x,t,rfl,rfl⟩
    · rcases a9 hv with ⟨j,u,rfl,rfl⟩ | ⟨y,u,rfl,rfl⟩
      · rw [wn] at h;exact wpAny_eqBool_int h
      · rw [wo] at h;exact SeqAt.EqAt.int_str i t y u _ _ _ _ h
    · rcases a9 hv with ⟨j,u,rfl,rfl⟩ | ⟨y,u,rfl,rfl⟩
      · rw [wq] at h;exact SeqAt.EqAt.str_int x t j u _ _ _ _ h
      · rw [wu] at h;exact wpAny_eqBool_str h
  «strs»:=fun k x t v h=>by
    rcases a9 h with ⟨i,u,rfl,e⟩ | ⟨y,u,rfl,e⟩
    · exact nomatch e
    · injection e with e1 _
      subst e1
      cases v<;>rfl
end L2
namespace L2
open PySem PySem.Spec PyProof.Rows
inductive V where
  | non | bl (b:Bool) | int (i:Int) | str (x:Str) | byt (b:Array UInt8) | flt (b:UInt64) | ref (a:Addr) | ty (n:String)
  deriving DecidableEq
def aZ:V→Value→Prop
  | .non,u=>u=Value.none
  | .bl b,u=>u=Value.bool b
  | .int i,u=>∃t,u=Value.int i t
  | .str x,u=>∃t,u=Value.str x t
  | .byt b,u=>∃t,u=Value.bytes b t
  | .flt b,u=>∃t,u=Value.float b t
  | .ref a,u=>u=Value.ref a
  | .ty n,u=>u=Value.type n
abbrev aM:List V→List Value→Prop:=Paired aZ
theorem aM.length{xs:List V}{us:List Value}(r:aM xs us):xs.length=us.length:=Paired.length r
theorem aM.get:∀{xs:List V} {us:List Value} {i:Nat} {x:V},aM xs us→xs[i]?=some x→∃u,us[i]?=some u∧aZ x u
  | _,_,_,_,.nil,e=>by simp at e
  | _,_,0,_,.cons r _,e=>by simp at e;subst e;exact⟨_,rfl,r⟩
  | _,_,i+1,x,.cons _ t,e=>by
    obtain⟨u,h1,h2⟩:=aM.get (i:=i) (x:=x) t (by simpa using e)
    exact⟨u,by simpa using h1,h2⟩
theorem aM.append:∀{xs ys:List V} {us ws:List Value},aM xs us→aM ys ws→aM (xs++ys) (us++ws)
  | _,_,_,_,.nil,s=>s
  | _,_,_,_,.cons r t,s=>.cons r (aM.append t s)
theorem aM.take:∀{xs:List V} {us:List Value} (n:Nat),aM xs us→aM (xs.take n) (us.take n)
  | _,_,0,_=>.nil
  | _,_,_+1,.nil=>.nil
  | _,_,n+1,.cons r t=>.cons r (aM.take n t)
theorem aM.drop:∀{xs:List V} {us:List Value} (n:Nat),aM xs us→aM (xs.drop n) (us.drop n)
  | _,_,0,r=>r
  | _,_,_+1,.nil=>.nil
  | _,_,n+1,.cons _ t=>aM.drop n t
def yi:Option V→Option Value→Prop
  | some v,some u=>aZ v u
  | none,none=>True
  | _,_=>False
def KV{κ:Type}:List (κ × V)→List (κ × Value)→Prop:=Paired fun(p:κ × V) (q:κ × Value)=>p.1=q.1∧aZ p.2 q.2
def kV:iS→V
  | .inl i=>.int i
  | .inr x=>.str x
inductive HO where
  /-- a list -/
  | lst (xs:List V)
  /-- a tuple (never changes) -/
  | tup (xs:List V)
  /-- a dict whose keys are ints and texts; one whose keys are tuples of ints and texts (the empty one is both) -/
  | dK (kvs:List (iS × V)) | dT (kvs:List (List iS × V))
  /-- a set of ints: its members, its size -/
  | set (S:Int→Bool) (n:Nat)
  /-- an instance of the class at C, its dict at dx, its attributes -/
  | ins (C dx:Addr) (fs:List (Str × V))
  /-- the dict of the instance at x -/
  | own (x:Addr)
  /-- the dict of an exception -/
  | xd (fs:List (Str × V))
  /-- a bound method, f of x -/
  | met (f x:Addr)
  /-- a range object lo, lo + 1, .. below hi -/
  | rng (lo hi:Int)
  /-- a thing that is known to the object (the script; a dict while a loop walks it): read, never written while it is so -/
  | frz (o:Obj) (u:HO)
  /-- a code object's table -/
  | tbl (ps:Array Value)
  /-- any other thing, by what is true of its one object (a def of one's own: SetO a S n := HO.ext fun h => ..) -/
  | ext (φ:Heap→Prop)
abbrev Hp:=Addr→Option HO
def bP(H:Hp)(a:Addr)(o:HO):Hp:=fun b=>if b=a then some o else H b
theorem aE{H:Hp}{a:Addr}{o:HO}:bP H a o a=some o:=by unfold bP;rw [if_pos rfl]
theorem aF{H:Hp}{a b:Addr}{o:HO}(h:b≠a):bP H a o b=H b:=by unfold bP;rw [if_neg h]
theorem cN{H:Hp}{a b:Addr}{o:HO}(h:H a=some o)(h':H b=none):a≠b:=by
  intro e;subst e;rw [h] at h';cases h'
def lg(h:Heap)(a:Addr)(items:Array Value):Prop:=∃o,h.get? a=some o∧o.cls=.type "tuple"∧∃n,o.data=.seq items n∧o.dict=none
theorem lg.tup{h:Heap}{a:Addr}{items:Array Value}(x:lg h a items):IsTup h a items:=let ⟨o,ho,hc,n,hd,_⟩:=x;⟨o,ho,hc,n,hd⟩
theorem lg.new(h:Heap)(items:Array Value):lg (h.push {cls:=.type "tuple",data:=.seq items}) h.objs.size items:=⟨_,Heap.get?_push_size _ rfl,rfl,_,rfl,rfl⟩
section
variable(P:Program)(w:World)
def cG(H:Hp)(h:Heap)(a:Addr):HO→Prop
  | .lst xs=>xs.length≤sizeLine∧∃(its:List Value) (n:Nat),aM xs its∧h.get? a=some {cls:=.type "list",data:=.seq its.toArray n}
  | .tup xs=>xs.length≤sizeLine∧∃its:List Value,aM xs its∧lg h a its.toArray
  | .dK kvs=>kvs.length≤sizeLine∧(a==sysModules)=false∧∃vs,KV kvs vs∧h.DictOf (lQ P w) a vs
  | .dT kvs=>kvs.length≤sizeLine∧(a==sysModules)=false∧∃xs:List (List iS × Addr × Value),
      Paired (fun(p:List iS × V) (q:List iS × Addr × Value)=>p.1=q.1∧H q.2.1=some (.tup (p.1.map kV))∧aZ p.2 q.2.2) kvs xs∧
      ∃o es ep,h.get? a=some o∧o.ExactDict∧o.data=.dict es ep∧es.toList=xs.map (entryOfKey (tupleKind (lQ P w)))∧(xs.map (·.1)).Nodup
  | .set S n=>h.SetOf (intKind P w) a S n
  | .ins C dx fs=>H dx=some (.own a)∧fs.length≤1000∧dx≠a∧h.get? a=some (PySem.W.instObj C dx)∧
      ∃mA,h.Ns1 dx mA∧(∀f,yi (fs.lookup f) (mA f))∧PySem.Within mA (fs.map (·.1))
  | .own _=>∃o,h.get? a=some o
  | .xd fs=>∃mA,h.Ns1 a mA∧∀f,yi (fs.lookup f) (mA f)
  | .rng lo hi=>∃t u v,h.get? a=some {cls:=.type "range",data:=.fields #[.int lo t,.int hi u,.int 1 v]}
  | .frz o u=>h.get? a=some o∧cG H h a u
  | .tbl ps=>h.get? a=some {cls:=.none,data:=.fields ps}
  | .met f x=>h.get? a=some (PySem.W.methodObj (.ref f) (.ref x))
  | .ext φ=>φ h∧(∃o,h.get? a=some o)∧∀h1 h2:Heap,φ h1→(∀o,h1.get? a=some o→h2.get? a=some o)→φ h2
def i6(H:Hp)(h:Heap):Prop:=∀a o,H a=some o→cG P w H h a o
end
section
variable{P:Program}{w:World}{H H':Hp}{h h':Heap}{a:Addr}{o:HO}
theorem cG.lt(x:cG P w H h a o):a < h.objs.size:=by
  cases o with
  | lst xs=>obtain⟨_,_,_,_,e⟩:=x;exact Heap.lt_size e
  | tup xs=>obtain⟨_,_,_,p⟩:=x;exact p.tup.lt
  | dK kvs=>obtain⟨_,_,_,_,o,_,_,e,_⟩:=x;exact Heap.lt_size e
  | dT kvs=>obtain⟨_,_,_,_,o,_,_,e,_⟩:=x;exact Heap.lt_size e
  | set S n=>obtain⟨o,_,_,_,e,_⟩:=x;exact Heap.lt_size e
  | ins C dx fs=>obtain⟨_,_,_,e,_⟩:=x;exact Heap.lt_size e
  | own y=>obtain⟨_,e⟩:=x;exact Heap.lt_size e
  | xd fs=>obtain⟨_,⟨_,_,_,e,_⟩,_⟩:=x;exact Heap.lt_size e
  | rng lo hi=>obtain⟨_,_,_,e⟩:=x;exact Heap.lt_size e
  | frz ob u=>obtain⟨e,_⟩:=x;exact Heap.lt_size e
  | tbl ps=>exact Heap.lt_size (show h.get? a=some _ from x)
  | met f y=>exact Heap.lt_size (show h.get? a=some _ from x)
  | ext φ=>obtain⟨_,⟨_,e⟩,_⟩:=x;exact Heap.lt_size e
theorem Paired.mapP{α β:Type}{F G:α→β→Prop}:∀{l₁:List α} {l₂:List β},Paired F l₁ l₂→(∀a b,F a b→G a b)→Paired G l₁ l₂
  | _,_,.nil,_=>.nil
  | _,_,.cons r t,f=>.cons (f _ _ r) (Paired.mapP t f)
theorem cG.stay(x:cG P w H h a o)(k:∀b u,(b=a∨H b=some (.own a))→h.get? b=some u→h'.get? b=some u)
    (ho:∀b,H b=some (.own a)→H' b=some (.own a))(ht:∀b xs,H b=some (.tup xs)→H' b=some (.tup xs)):cG P w H' h' a o:=by
  induction o with
  | lst xs=>obtain⟨z,its,n,r,e⟩:=x;exact⟨z,its,n,r,k _ _ (.inl rfl) e⟩
  | tup xs=>obtain⟨z,its,r,ob,e,c⟩:=x;exact⟨z,its,r,ob,k _ _ (.inl rfl) e,c⟩
  | dK kvs=>obtain⟨z,y,vs,r,ob,es,ep,e,c⟩:=x;exact⟨z,y,vs,r,ob,es,ep,k _ _ (.inl rfl) e,c⟩
  | dT kvs=>
    obtain⟨z,y,xs,r,ob,es,ep,e,c⟩:=x
    exact⟨z,y,xs,Paired.mapP r fun p q z=>⟨z.1,ht _ _ z.2.1,z.2.2⟩,ob,es,ep,k _ _ (.inl rfl) e,c⟩
  | set S n=>obtain⟨ob,es,ep,t,e,c⟩:=x;exact⟨ob,es,ep,t,k _ _ (.inl rfl) e,c⟩
  | ins C dx fs=>
    obtain⟨d,z,ne,e,mA,⟨od,es,ep,e2,c⟩,r⟩:=x
    exact⟨ho _ d,z,ne,k _ _ (.inl rfl) e,mA,⟨od,es,ep,k _ _ (.inr d) e2,c⟩,r⟩
  | own y=>obtain⟨ob,e⟩:=x;exact⟨ob,k _ _ (.inl rfl) e⟩
  | xd fs=>obtain⟨mA,⟨od,es,ep,e,c⟩,r⟩:=x;exact⟨mA,⟨od,es,ep,k _ _ (.inl rfl) e,c⟩,r⟩
  | rng lo hi=>obtain⟨t,u,v,e⟩:=x;exact⟨t,u,v,k _ _ (.inl rfl) e⟩
  | frz ob u ih=>obtain⟨e,q⟩:=x;exact⟨k _ _ (.inl rfl) e,ih q⟩
  | tbl ps=>
    have e:h.get? a=some {cls:=.none,data:=.fields ps}:=x
    show h'.get? a=some {cls:=.none,data:=.fields ps}
    exact k a _ (.inl rfl) e
  | met f y=>
    have e:h.get? a=some (PySem.W.methodObj (.ref f) (.ref y)):=x
    show h'.get? a=some (PySem.W.methodObj (.ref f) (.ref y))
    exact k a _ (.inl rfl) e
  | ext φ=>obtain⟨p,⟨o,e⟩,st⟩:=x;exact⟨st _ _ p fun o q=>k _ _ (.inl rfl) q,⟨o,k _ _ (.inl rfl) e⟩,st⟩
theorem i6.lt(x:i6 P w H h)(e:H a=some o):a < h.objs.size:=(x a o e).lt
theorem i6.fresh(x:i6 P w H h)(e:h.objs.size≤a):H a=none:=by
  cases q:H a with
  | none=>rfl
  | some u=>exact absurd (Nat.lt_of_lt_of_le (x.lt q) e) (Nat.lt_irrefl _)
theorem i6.kept(x:i6 P w H h)(k:∀b u,h.get? b=some u→h'.get? b=some u):i6 P w H h':=fun a o e=>
  (x a o e).stay (fun b u _ q=>k b u q) (fun _ q=>q) fun _ _ q=>q
theorem i6.laid(x:i6 P w H h)(k:∀b u,h.get? b=some u→h'.get? b=some u)(hp:h.objs.size≤a)(new:cG P w (bP H a o) h' a o):i6 P w (bP H a o) h':=fun b u e=>by
  have hn:=x.fresh hp
  by_cases hb:b=a
  · subst hb;rw [aE] at e;cases e;exact new
  · rw [aF hb] at e
    exact(x b u e).stay (fun c v _ q=>k c v q) (fun c q=>by rw [aF (cN q hn)];exact q) fun c xs q=>by rw [aF (cN q hn)];exact q
end
def Rd(H:Hp)(a:Addr)(u:HO):Prop:=H a=some u∨∃o,H a=some (.frz o u)
theorem Rd.ok{P:Program}{w:World}{H:Hp}{h:Heap}{a:Addr}{u:HO}(r:Rd H a u)(x:i6 P w H h):cG P w H h a u:=by
  rcases r with r | ⟨o,r⟩
  · exact x a u r
  · obtain⟨_,q⟩:=x a _ r
    exact q
def zG:Option HO→Prop
  | some (.lst _)=>True
  | some (.dK _)=>True
  | some (.dT _)=>True
  | some (.set _ _)=>True
  | some (.ins _ _ _)=>True
  | some (.ext _)=>True
  | _=>False
section
variable{P:Program}{w:World}{H:Hp}{h h':Heap}{x e:Addr}{o':HO}
theorem i6.write(ok:i6 P w H h)(mu:zG (H x))(he:e=x∨H e=some (.own x))(k:∀b u,b≠e→h.get? b=some u→h'.get? b=some u)(heo:∃u,h'.get? e=some u)
    (new:cG P w (bP H x o') h' x o'):i6 P w (bP H x o') h':=fun b u q=>by
  have nown:∀c y,H c=some (.own y)→c≠x:=fun c y r z=>by subst z;rw [r] at mu;exact mu
  have ntup:∀c xs,H c=some (.tup xs)→c≠x:=fun c xs r z=>by subst z;rw [r] at mu;exact mu
  by_cases hb:b=x
  · subst hb;rw [aE] at q;cases q;exact new
  · rw [aF hb] at q
    by_cases hbe:b=e
    · have q':H b=some (.own x):=by
        rcases he with z | z
        · exact absurd (hbe.trans z) hb
        · rw [hbe];exact z
      rw [q] at q';cases q'
      obtain⟨v,hv⟩:=heo
      exact⟨v,by rw [hbe];exact hv⟩
    · refine(ok b u q).stay (fun c v hc r=>k c v ?_ r) (fun c r=>by rw [aF (nown c b r)];exact r) fun c xs r=>by rw [aF (ntup c xs r)];exact r
      rcases hc with rfl | hc
      · exact hbe
      · rintro rfl
        rcases he with z | z
        · exact nown c b hc z
        · rw [hc] at z;cases z;exact hb rfl
end
structure Un (fs ex:List Addr) (H H':Hp) (h h':Heap):Prop where
  keep:∀b o,h.get? b=some o→H b=none→b∉fs→b∉ex→h'.get? b=some o
  slot:∀b o,h.get? b=some o→H b=none→b∈fs→b∉ex→∃sl,h'.get? b=some {o with slots:=sl}
  free:∀b o,h.get? b=some o→H b=none→b∉ex→H' b=none
  there:∀b o,h.get? b=some o→b∉ex→∃o',h'.get? b=some o'
  tups:∀b xs,H b=some (.tup xs)→H' b=some (.tup xs)
  frzs:∀b o u,H b=some (.frz o u)→H' b=some (.frz o u)
  tbls:∀b ps,H b=some (.tbl ps)→∃more,H' b=some (.tbl (ps++more))
section
variable{fs fs' ex ex':List Addr}{H H1 H2:Hp}{h h1 h2 h':Heap}{a x e:Addr}{o:HO}
theorem Un.any(u:Un fs ex H H1 h h1){b:Addr}{ob:Obj}(q:h.get? b=some ob)(n:H b=none)(hx:b∉ex):∃sl,h1.get? b=some {ob with slots:=sl}:=by
  by_cases hb:b∈fs
  · exact u.slot b ob q n hb hx
  · exact⟨ob.slots,u.keep b ob q n hb hx⟩
theorem Un.kept(k:∀b u,h.get? b=some u→h'.get? b=some u):Un fs ex H H h h':=
  ⟨fun b ob q _ _ _=>k b ob q,fun b ob q _ _ _=>⟨ob.slots,k b ob q⟩,fun _ _ _ n _=>n,fun b ob q _=>⟨ob,k b ob q⟩,fun _ _ q=>q,fun _ _ _ q=>q,fun _ ps q=>⟨#[],by rw [q];simp⟩⟩
theorem Un.refl:Un fs ex H H h h:=Un.kept fun _ _ q=>q
theorem Un.laid(k:∀b u,h.get? b=some u→h'.get? b=some u)(hp:h.objs.size≤a)(hn:H a=none):Un fs ex H (bP H a o) h h' where
  keep:=fun b u q _ _ _=>k b u q
  slot:=fun b u q _ _ _=>⟨u.slots,k b u q⟩
  free:=fun b u q n _=>by rw [aF (Nat.ne_of_lt (Nat.lt_of_lt_of_le (Heap.lt_size q) hp))];exact n
  there:=fun b u q _=>⟨u,k b u q⟩
  tups:=fun b xs q=>by rw [aF (cN q hn)];exact q
  frzs:=fun b u xs q=>by rw [aF (cN q hn)];exact q
  tbls:=fun b ps q=>⟨#[],by rw [aF (cN q hn),q];simp⟩
theorem Un.write(mu:zG (H x))(he:e=x∨H e=some (.own x))(k:∀b u,b≠e→h.get? b=some u→h'.get? b=some u)(heo:∃u,h'.get? e=some u):Un fs ex H (bP H x o) h h':=by
  have hx:∀b,H b=none→b≠x:=fun b n z=>by subst z;rw [n] at mu;exact mu
  have hb:∀b,H b=none→b≠e:=fun b n z=>by
    subst z
    rcases he with r | r
    · exact hx b n r
    · rw [n] at r;cases r
  have hm:∀b u,H b=some u→¬zG (some u)→b≠x:=fun b u q nm z=>by subst z;rw [q] at mu;exact nm mu
  refine⟨fun b u q n _ _=>k b u (hb b n) q,fun b u q n _ _=>⟨u.slots,k b u (hb b n) q⟩,fun b u q n _=>by rw [aF (hx b n)];exact n,fun b u q _=>?_,
    fun b xs q=>by rw [aF (hm b _ q fun z=>z)];exact q,fun b u xs q=>by rw [aF (hm b _ q fun z=>z)];exact q,fun b ps q=>⟨#[],by rw [aF (hm b _ q fun z=>z),q];simp⟩⟩
  by_cases hbe:b=e
  · subst hbe;exact heo
  · exact⟨u,k b u hbe q⟩
end
def zS(h:Heap)(H:Hp):List Addr:=(List.range h.objs.size).filter fun a=>(H a).isSome
def lJ(h:Heap)(H:Hp):Heap:=PySem.W.hideAll h (zS h H)
theorem pj(h:Heap)(H:Hp):(lJ h H).objs.size=h.objs.size:=PySem.W.hideAll_size _ _
theorem qK{h:Heap}{H:Hp}{b:Addr}{o:Obj}(e:h.get? b=some o)(n:H b=none):(lJ h H).get? b=some o:=
  PySem.W.hideAll_get _ e fun hm=>by
    have q:(H b).isSome=true:=(List.mem_filter.mp hm).2
    rw [n] at q;simp at q
theorem tV{h:Heap}{H:Hp}{b:Addr}{o:Obj}(e:(lJ h H).get? b=some o):h.get? b=some o∧H b=none:=by
  have e':h.get? b=some o:=PySem.W.of_hideAll (zS h H) e
  refine⟨e',?_⟩
  cases q:H b with
  | none=>rfl
  | some x=>
    have hm:b∈zS h H:=List.mem_filter.mpr ⟨List.mem_range.mpr (Heap.lt_size e'),by simp [q]⟩
    have z:(lJ h H).get? b=none:=PySem.W.hideAll_none (zS h H) hm
    rw [z] at e;cases e
def lp(g h:Heap)(L:Addr):List (Addr × Obj):=(List.range h.objs.size).filterMap fun a=>if a=L∨(g.get? a).isSome=true then none else(h.get? a).map fun o=>(a,o)
theorem jO{g h:Heap}{L:Addr}{p:Addr × Obj}(hp:p∈lp g h L):p.1≠L∧g.get? p.1=none∧h.get? p.1=some p.2:=by
  obtain⟨b,_,e⟩:=List.mem_filterMap.mp hp
  split at e
  · cases e
  · rename_i hn
    cases q:h.get? b with
    | none=>rw [q] at e;simp at e
    | some u=>
      rw [q] at e
      simp only [Option.map_some,Option.some.injEq] at e
      subst e
      refine⟨fun z=>hn (.inl z),?_,q⟩
      show g.get? b=none
      cases r:g.get? b with
      | none=>rfl
      | some v=>exact(hn (.inr (by simp [r]))).elim
def cO(g h:Heap)(L d:Addr):List (Addr × Obj):=(lp g h L).filter fun p=>decide (p.1≠d)
theorem qX{g h:Heap}{L:Addr}:News g L h (lp g h L):=fun p hp=>let ⟨a,b,c⟩:=jO hp;⟨c,a,b⟩
end L2
namespace L2
open PySem PySem.Spec PyProof.Rows
structure Mod (K:PySem.W.Frag) (mg:Str→Option Value) (base:Heap):Prop where
  kin:K.In base
  glob:base.Ns mainGlobals mg
  blt:∃mb,base.Ns builtinsNs mb∧∀x:Str,x≠"__name__"→mb x=bootBuiltins x
  nolimit:base.NoLimit
structure Cx where
  prog:Program
  w:World
  K:PySem.W.Frag
  mg:Str→Option Value
  base:Heap
  A:Around
  N:List Str
  s₀:Shared
  H₀:Hp
  env:Env
  outer:List Env
  stack:List Env
  ex:List Addr
  fn:Str→Bool
  calm:Bool
  pn:List (Addr × Obj)
  xe:Value→Shared→Prop
def iu(l:List Env):List Addr:=l.filterMap (·.frame)
abbrev Cx.fs(X:Cx):List Addr:=iu X.outer
def x8(sc:Scope)(x:Str):Prop:=sc.names.lookup x=some .local∨sc.names.lookup x=some .cell∨sc.names.lookup x=some .free
def x6(sc:Scope)(x:Str):Prop:=sc.names.lookup x=some .local∨sc.names.lookup x=some .cell
def zZ(env:Env)(h:Heap)(m:Str→Option Value)(x:Str)(u:Value):Prop:=
  (env.kindOf x=some .local∧m x=some u)∨((env.kindOf x=some .cell∨env.kindOf x=some .free)∧∃c,env.cells.lookup x=some c∧h.IsCell c (some u))
structure Cx.Ok (X:Cx):Prop where
  mod:Mod X.K X.mg X.base
  kind:X.env.scope.kind=.function
  glob:X.env.globals=mainGlobals
  blt:X.env.builtins=builtinsNs
  above:X.s₀.heap.objs.size≤X.env.locals
  inj:∀x y c,X.env.cells.lookup x=some c→X.env.cells.lookup y=some c→x=y
  has:∀x,(X.env.kindOf x=some .cell∨X.env.kindOf x=some .free)→∃c,X.env.cells.lookup x=some c
  cab:∀x c,X.fn x=true→X.env.cells.lookup x=some c→X.s₀.heap.objs.size≤c
  hd:X.calm=true→X.A.handled=none
  frames:X.A.frames=some X.stack
  stk:X.stack=X.outer∨(X.stack=X.env::X.outer∧X.env.frame=some X.env.locals)
  exf:∀b∈X.ex,b≠X.env.locals∧∀x c,X.env.cells.lookup x=some c→c≠b
  bs:∀b o,X.base.get? b=some o→X.s₀.heap.get? b=some o∧X.H₀ b=none
  bsz:X.base.objs.size≤X.s₀.heap.objs.size
  noex:∀b o,X.base.get? b=some o→b∉X.ex
  exfs:∀b∈X.ex,b∉X.fs
  funs:X.s₀.heap.FunFrames X.base X.outer
  frf:∀b∈X.fs,X.H₀ b=none
structure ax (X:Cx) (pins:List (Addr × Obj)) (σ:List (Option V)) (H:Hp) (s:Shared):Prop where
  ok:X.Ok
  os:s.os=X.s₀.os
  bare:AllBare s.gens
  base:Un X.fs X.ex X.H₀ H X.s₀.heap s.heap
  loc:∃m,s.heap.Ns X.env.locals m∧∀(i:Nat) (x:Str) (v:V),X.N[i]?=some x→σ[i]?=some (some v)→x8 X.env.scope x→∃u,aZ v u∧zZ X.env s.heap m x u
  cell:∀x c,X.env.cells.lookup x=some c→∃v,s.heap.IsCell c v
  free:H X.env.locals=none
  freeC:∀x c,X.env.cells.lookup x=some c→H c=none
  pin:∀p∈X.pn++pins,s.heap.get? p.1=some p.2∧H p.1=none∧p.1≠X.env.locals∧p.1∉X.fs∧∀v,p.2.data≠.cell v
  hok:i6 X.prog X.w H s.heap
  len:σ.length=X.N.length
section
variable{X:Cx}{pins:List (Addr × Obj)}{σ:List (Option V)}{H H':Hp}{s:Shared}{h':Heap}
theorem Cx.Ok.nofr(ok:X.Ok){b:Addr}{o:Obj}(e:X.base.get? b=some o):b∉X.fs:=fun hb=>by
  have:=(ok.funs.mem hb).1
  rw [e] at this;cases this
theorem ax.bs(I:ax X pins σ H s):∀b o,X.base.get? b=some o→s.heap.get? b=some o∧H b=none:=fun b o e=>
  ⟨I.base.keep b o (I.ok.bs b o e).1 (I.ok.bs b o e).2 (I.ok.nofr e) (I.ok.noex b o e),I.base.free b o (I.ok.bs b o e).1 (I.ok.bs b o e).2 (I.ok.noex b o e)⟩
theorem ax.bk(I:ax X pins σ H s):∀b o,X.base.get? b=some o→s.heap.get? b=some o:=fun b o e=>(I.bs b o e).1
theorem ax.mod(I:ax X pins σ H s):Mod X.K X.mg X.base:=I.ok.mod
theorem ax.kIn(I:ax X pins σ H s):X.K.In s.heap:=I.ok.mod.kin.keeps I.bk
theorem ax.fr(I:ax X pins σ H s):∃m,Fr X.base X.env.locals s.heap m:=
  let ⟨m,hn,_⟩:=I.loc
  ⟨m,hn,I.bk,Nat.le_trans I.ok.bsz I.ok.above⟩
theorem ax.lt(I:ax X pins σ H s):X.env.locals < s.heap.objs.size:=let ⟨_,hn,_⟩:=I.loc;hn.lt
theorem ax.sz(I:ax X pins σ H s):X.s₀.heap.objs.size≤s.heap.objs.size:=Nat.le_trans I.ok.above (Nat.le_of_lt I.lt)
theorem ax.nofs(I:ax X pins σ H s){a:Addr}(h:s.heap.objs.size≤a):a∉X.fs:=fun hb=>by
  obtain⟨_,o,ho,_⟩:=I.ok.funs.mem hb
  exact absurd (Nat.lt_of_lt_of_le (Heap.lt_size ho) (Nat.le_trans I.sz h)) (Nat.lt_irrefl _)
theorem ax.cne(I:ax X pins σ H s):∀x c,X.env.cells.lookup x=some c→c≠X.env.locals:=fun x c e z=>by
  obtain⟨v,o,ho,hd⟩:=I.cell x c e
  obtain⟨m,⟨o',es,ep,ho',hd',_⟩,_⟩:=I.loc
  rw [z,ho'] at ho;cases ho;rw [hd'] at hd;cases hd
theorem ax.funs(I:ax X pins σ H s):s.heap.FunFrames X.base X.outer:=by
  have all:∀(l:List Env),(∀b∈iu l,b∈X.fs)→X.s₀.heap.FunFrames X.base l→s.heap.FunFrames X.base l:=by
    intro l
    induction l with
    | nil=>intro _ _;trivial
    | cons env r ih=>
      intro hs hl
      obtain⟨hk,⟨L,o,hf,hn,ho,hd⟩,hr⟩:=hl
      have hL:L∈X.fs:=hs L (by unfold iu;rw [List.filterMap_cons,hf];exact List.mem_cons_self)
      obtain⟨sl,e⟩:=I.base.slot L o ho (I.ok.frf L hL) hL fun z=>I.ok.exfs L z hL
      exact⟨hk,⟨L,_,hf,hn,e,hd⟩,ih (fun b hb=>hs b (by unfold iu;rw [List.filterMap_cons,hf];exact List.mem_cons_of_mem _ hb)) hr⟩
  exact all X.outer (fun _ hb=>hb) I.ok.funs
theorem ax.stack(I:ax X pins σ H s):s.heap.FunFrames X.base X.stack:=by
  rcases I.ok.stk with e | ⟨e,hf⟩
  · rw [e];exact I.funs
  · rw [e]
    obtain⟨m,hn,_⟩:=I.loc
    refine .cons (by rw [I.ok.kind];decide) hf hn ?_ I.funs
    exact Heap.get?_none_of_le (Nat.le_trans I.ok.bsz I.ok.above)
theorem ax.stkSub(I:ax X pins σ H s):∀b∈iu X.stack,b∈X.env.locals::X.fs:=fun b hb=>by
  rcases I.ok.stk with e | ⟨e,hf⟩
  · rw [e] at hb;exact List.mem_cons_of_mem _ hb
  · rw [e] at hb
    unfold iu at hb
    rw [List.filterMap_cons,hf] at hb
    exact hb
theorem ax.stkFree(I:ax X pins σ H s):∀b∈iu X.stack,H b=none:=fun b hb=>by
  rcases List.mem_cons.mp (I.stkSub b hb) with e | hb
  · rw [e];exact I.free
  · obtain⟨_,o,ho,_⟩:=I.ok.funs.mem hb
    exact I.base.free b o ho (I.ok.frf b hb) fun z=>I.ok.exfs b z hb
theorem ax.step{g':Array GenState}{t':Nat}{d':Drawn}{ch:List Addr}(I:ax X pins σ H s)
    (hch:∀b∈ch,(b∈X.ex∨X.s₀.heap.objs.size≤b)∧b≠X.env.locals∧(∀x c,X.env.cells.lookup x=some c→c≠b)∧∀p∈X.pn++pins,p.1≠b)
    (keep:∀b o,b≠X.env.locals→b∉X.fs→b∉ch→s.heap.get? b=some o→H b=none→h'.get? b=some o)
    (slot:∀b o,b≠X.env.locals→b∈X.fs→b∉ch→s.heap.get? b=some o→H b=none→∃sl,h'.get? b=some {o with slots:=sl})(free:∀b o,b∉ch→s.heap.get? b=some o→H b=none→H' b=none)
    (there:∀b o,b∉ch→s.heap.get? b=some o→∃o',h'.get? b=some o')
    (tups:∀b xs,H b=some (.tup xs)→H' b=some (.tup xs))(frzs:∀b o u,H b=some (.frz o u)→H' b=some (.frz o u))(tbls:∀b ps,H b=some (.tbl ps)→∃more,H' b=some (.tbl (ps++more)))
    (ns:∀m,s.heap.Ns X.env.locals m→h'.Ns X.env.locals m)(hok:i6 X.prog X.w H' h')(hg:AllBare g'):
    ax X pins σ H' {s with heap:=h',gens:=g',drawn:=d',toks:=t'}:=by
  have neL:∀b o,X.s₀.heap.get? b=some o→b≠X.env.locals:=fun b o e=>Nat.ne_of_lt (Nat.lt_of_lt_of_le (Heap.lt_size e) I.ok.above)
  have neC:∀b o,X.s₀.heap.get? b=some o→b∉X.ex→b∉ch:=fun b o e hx hb=>by
    rcases(hch b hb).1 with z | z
    · exact hx z
    · exact absurd (Nat.lt_of_lt_of_le (Heap.lt_size e) z) (Nat.lt_irrefl _)
  have cellK:∀x c,X.env.cells.lookup x=some c→∀v,s.heap.IsCell c v→h'.IsCell c v:=fun x c e v ⟨o,ho,hd⟩=>by
    have nch:c∉ch:=fun z=>(hch c z).2.2.1 x c e rfl
    by_cases hc:c∈X.fs
    · obtain⟨sl,q⟩:=slot c o (I.cne x c e) hc nch ho (I.freeC x c e)
      exact⟨_,q,hd⟩
    · exact⟨o,keep c o (I.cne x c e) hc nch ho (I.freeC x c e),hd⟩
  refine⟨I.ok,I.os,hg,⟨fun b o e n hb hx=>?_,fun b o e n hb hx=>?_,fun b o e n hx=>?_,fun b o e hx=>?_,fun b xs e=>tups b xs (I.base.tups b xs e),fun b o xs e=>frzs b o xs (I.base.frzs b o xs e),fun b ps e=>?_⟩,?_,fun x c e=>?_,?_,fun x c e=>?_,fun p hp=>?_,hok,I.len⟩
  · exact keep b o (neL b o e) hb (neC b o e hx) (I.base.keep b o e n hb hx) (I.base.free b o e n hx)
  · obtain⟨sl,e1⟩:=I.base.slot b o e n hb hx
    obtain⟨sl',e2⟩:=slot b _ (neL b o e) hb (neC b o e hx) e1 (I.base.free b o e n hx)
    exact⟨sl',e2⟩
  · obtain⟨o',e1⟩:=I.base.there b o e hx
    exact free b o' (neC b o e hx) e1 (I.base.free b o e n hx)
  · obtain⟨o',e1⟩:=I.base.there b o e hx
    exact there b o' (neC b o e hx) e1
  · obtain⟨m1,e1⟩:=I.base.tbls b ps e
    obtain⟨m2,e2⟩:=tbls b _ e1
    exact⟨m1++m2,by rw [e2,Array.append_assoc]⟩
  · obtain⟨m,hn,hl⟩:=I.loc
    refine⟨m,ns m hn,fun i x v e1 e2 e3=>?_⟩
    obtain⟨u,r,l⟩:=hl i x v e1 e2 e3
    refine⟨u,r,?_⟩
    rcases l with l | ⟨k,c,e,z⟩
    · exact .inl l
    · exact .inr ⟨k,c,e,cellK x c e _ z⟩
  · obtain⟨v,z⟩:=I.cell x c e
    exact⟨v,cellK x c e v z⟩
  · obtain⟨m,⟨o,_,_,ho,_⟩,_⟩:=I.loc
    exact free _ o (fun z=>(hch _ z).2.1 rfl) ho I.free
  · obtain⟨v,o,ho,hd⟩:=I.cell x c e
    exact free c o (fun z=>(hch c z).2.2.1 x c e rfl) ho (I.freeC x c e)
  · obtain⟨e,n,ne,nf,d⟩:=I.pin p hp
    have nch:p.1∉ch:=fun z=>(hch p.1 z).2.2.2 p hp rfl
    exact⟨keep p.1 p.2 ne nf nch e n,free p.1 p.2 nch e n,ne,nf,d⟩
theorem ax.un{t':Nat}(I:ax X pins σ H s)(u:Un X.fs [] H H' s.heap h')(hok:i6 X.prog X.w H' h'):ax X pins σ H' {s with heap:=h',toks:=t'}:=by
  obtain⟨m,⟨o,es,ep,ho,r⟩,_⟩:=id I.loc
  obtain⟨sl,hL⟩:=u.any ho I.free (by simp)
  exact I.step (g':=s.gens) (d':=s.drawn) (ch:=[]) (fun _ z=>nomatch z) (fun b o _ hb _ e n=>u.keep b o e n hb (by simp)) (fun b o _ hb _ e n=>u.slot b o e n hb (by simp)) (fun b o _ e n=>u.free b o e n (by simp)) (fun b o _ e=>u.there b o e (by simp)) u.tups u.frzs u.tbls (fun m' hm=>by
    obtain⟨o',es',ep',ho',r'⟩:=hm
    rw [ho] at ho';cases ho'
    exact⟨_,es',ep',hL,r'⟩) hok I.bare
theorem ax.call{g':Array GenState}{t':Nat}{d':Drawn}{ch:List Addr}(I:ax X pins σ H s)(u:Un (iu X.stack) ch H H' s.heap h')(hok:i6 X.prog X.w H' h')(hg:AllBare g')
    (hch:∀b∈ch,(b∈X.ex∨X.s₀.heap.objs.size≤b)∧b≠X.env.locals∧(∀x c,X.env.cells.lookup x=some c→c≠b)∧∀p∈X.pn++pins,p.1≠b):
    ax X pins σ H' {s with heap:=h',gens:=g',drawn:=d',toks:=t'}:=by
  obtain⟨m,⟨o,es,ep,ho,r⟩,_⟩:=id I.loc
  obtain⟨sl,hL⟩:=u.any ho I.free fun z=>(hch _ z).2.1 rfl
  exact I.step (ch:=ch) hch (fun b o hL hb hc e n=>u.keep b o e n (fun z=>(List.mem_cons.mp (I.stkSub b z)).elim hL hb) hc) (fun b o _ _ hc e n=>u.any e n hc) (fun b o hc e n=>u.free b o e n hc) (fun b o hc e=>u.there b o e hc) u.tups u.frzs u.tbls (fun m' hm=>by
    obtain⟨o',es',ep',ho',r'⟩:=hm
    rw [ho] at ho';cases ho'
    exact⟨_,es',ep',hL,r'⟩) hok hg
theorem ax.turned{t':Nat}{it:Addr}(I:ax X pins σ H s)(k:∀b o,b≠it→s.heap.get? b=some o→h'.get? b=some o)(hn:H it=none)(hL:it≠X.env.locals)
    (h1:it∈X.ex∨X.s₀.heap.objs.size≤it)(h2:∀x c,X.env.cells.lookup x=some c→c≠it)(h3:∀p∈X.pn++pins,p.1≠it):ax X pins σ H {s with heap:=h',toks:=t'}:=by
  have nit:∀b u,H b=some u→b≠it:=fun b u e z=>by rw [z,hn] at e;cases e
  refine I.step (g':=s.gens) (d':=s.drawn) (ch:=[it]) (fun b hb=>?_) (fun b o _ _ hc e _=>k b o (fun z=>hc (by simp [z])) e) (fun b o _ _ hc e _=>⟨o.slots,k b o (fun z=>hc (by simp [z])) e⟩) (fun _ _ _ _ n=>n)
    (fun b o hc e=>⟨o,k b o (fun z=>hc (by simp [z])) e⟩) (fun _ _ e=>e) (fun _ _ _ e=>e) (fun b ps e=>⟨#[],by rw [e];simp⟩) (fun m hm=>?_) (fun b u e=>?_) I.bare
  · have e:b=it:=by simpa using hb
    subst e
    exact⟨h1,hL,h2,h3⟩
  · obtain⟨o,es,ep,ho,r⟩:=hm
    exact⟨o,es,ep,k _ o (Ne.symm hL) ho,r⟩
  · refine(I.hok b u e).stay (fun c v hc q=>k c v ?_ q) (fun _ q=>q) fun _ _ q=>q
    rcases hc with z | z
    · rw [z];exact nit b u e
    · exact nit c _ z
theorem ax.tok(I:ax X pins σ H s)(t:Nat):ax X pins σ H {s with toks:=t}:=I.un (h':=s.heap) (t':=t) Un.refl I.hok
theorem ax.kept{t':Nat}(I:ax X pins σ H s)(k:∀b u,s.heap.get? b=some u→h'.get? b=some u):ax X pins σ H {s with heap:=h',toks:=t'}:=I.un (Un.kept k) (I.hok.kept k)
theorem ax.laid{a:Addr}{o:HO}{t':Nat}(I:ax X pins σ H s)(k:∀b u,s.heap.get? b=some u→h'.get? b=some u)(hp:s.heap.objs.size≤a)(new:cG X.prog X.w (bP H a o) h' a o):
    ax X pins σ (bP H a o) {s with heap:=h',toks:=t'}:=I.un (Un.laid k hp (I.hok.fresh hp)) (I.hok.laid k hp new)
theorem ax.write{x e:Addr}{o:HO}{t':Nat}(I:ax X pins σ H s)(mu:zG (H x))(he:e=x∨H e=some (.own x))(k:∀b u,b≠e→s.heap.get? b=some u→h'.get? b=some u)(heo:∃u,h'.get? e=some u)
    (new:cG X.prog X.w (bP H x o) h' x o):ax X pins σ (bP H x o) {s with heap:=h',toks:=t'}:=I.un (Un.write mu he k heo) (I.hok.write mu he k heo new)
theorem ax.pins_of{pins':List (Addr × Obj)}(I:ax X pins σ H s)(h:∀p∈pins',s.heap.get? p.1=some p.2∧H p.1=none∧p.1≠X.env.locals∧p.1∉X.fs∧∀v,p.2.data≠.cell v):ax X pins' σ H s:=
  ⟨I.ok,I.os,I.bare,I.base,I.loc,I.cell,I.free,I.freeC,fun p hp=>(List.mem_append.mp hp).elim (fun z=>I.pin p (List.mem_append_left _ z)) (h p),I.hok,I.len⟩
theorem jN{N:List Str}(hN:N.Nodup){i j:Nat}{x:Str}(a:N[i]?=some x)(b:N[j]?=some x):i=j:=by
  obtain⟨h1,e1⟩:=List.getElem?_eq_some_iff.mp a
  obtain⟨h2,e2⟩:=List.getElem?_eq_some_iff.mp b
  exact(List.getElem_inj hN).mp (e1.trans e2.symm)
theorem pM{M:Model}{A:Around}{E:Value→Shared→Prop}{i:Nat}{x:Str}{v:V}{u:Value}{Q:Unit→Shared→Prop}(I:ax X pins σ H s)(hN:X.N.Nodup)(hi:X.N[i]?=some x)(hx:x6 X.env.scope x)(r:aZ v u)
    (h:∀s',ax X pins (σ.set i (some v)) H s'→(∃a,Heap.SameBut a s.heap s'.heap∧(a=X.env.locals∨X.env.cells.lookup x=some a))→Q () s')(hf:X.fn x=true∨X.env.scope.names.lookup x=some .local:=by first | exact .inl rfl | exact .inr rfl | assumption):wpAny M A (storeName X.env x u) Q E s:=by
  obtain⟨m,hn,hl⟩:=id I.loc
  have hcls:(X.env.scope.kind==.class || (X.env.scope.kind==.module&&X.env.locals != X.env.globals))=false:=by rw [I.ok.kind];rfl
  have hiσ:i < σ.length:=by rw [I.len];exact(List.getElem?_eq_some_iff.mp hi).1
  have cne:=I.cne
  have tracked:∀{a:Addr} {h':Heap},(∃o,s.heap.get? a=some o∧H a=none)→Heap.SameBut a s.heap h'→i6 X.prog X.w H h':=fun{a h'} ha hs b ob e=>by
    obtain⟨_,_,hfree⟩:=ha
    refine(I.hok b ob e).stay (fun c w' hc q=>(hs.2 c ?_).trans q) (fun _ q=>q) fun _ _ q=>q
    rintro rfl
    rcases hc with rfl | hc
    · rw [hfree] at e;cases e
    · rw [hfree] at hc;cases hc
  rcases hx with hk | hk
  · refine wpAny_storeName_local hk hn (fun h' hn' hs=>?_) hcls
    obtain⟨oL,_,_,hoL,_⟩:=id hn
    refine h _ ⟨I.ok,I.os,I.bare,⟨fun b o e n hb hx=>?_,fun b o e n hb hx=>?_,I.base.free,fun b o e hx=>?_,I.base.tups,I.base.frzs,I.base.tbls⟩,⟨_,hn',fun j y v' e1 e2 e3=>?_⟩,fun y c e=>?_,I.free,I.freeC,fun p hp=>?_,tracked ⟨oL,hoL,I.free⟩ hs,by simpa using I.len⟩ ⟨_,hs,.inl rfl⟩
    · exact(hs.2 b (Nat.ne_of_lt (Nat.lt_of_lt_of_le (Heap.lt_size e) I.ok.above))).trans (I.base.keep b o e n hb hx)
    · obtain⟨sl,e1⟩:=I.base.slot b o e n hb hx
      exact⟨sl,(hs.2 b (Nat.ne_of_lt (Nat.lt_of_lt_of_le (Heap.lt_size e) I.ok.above))).trans e1⟩
    · obtain⟨o',e1⟩:=I.base.there b o e hx
      exact⟨o',(hs.2 b (Nat.ne_of_lt (Nat.lt_of_lt_of_le (Heap.lt_size e) I.ok.above))).trans e1⟩
    · by_cases hj:j=i
      · subst hj
        rw [hi] at e1;cases e1
        rw [List.getElem?_set_self hiσ] at e2
        cases e2
        exact⟨u,r,.inl ⟨hk,by simp⟩⟩
      · rw [List.getElem?_set_ne (Ne.symm hj)] at e2
        obtain⟨u',r',q⟩:=hl j y v' e1 e2 e3
        refine⟨u',r',?_⟩
        rcases q with ⟨k,e⟩ | ⟨k,c,e,z⟩
        · refine .inl ⟨k,?_⟩
          have:y≠x:=fun e=>hj (jN hN e1 (e ▸ hi))
          simp [this,e]
        · exact .inr ⟨k,c,e,z.sameBut hs (cne y c e)⟩
    · obtain⟨w',z⟩:=I.cell y c e
      exact⟨w',z.sameBut hs (cne y c e)⟩
    · obtain⟨e,n,ne,nf,d⟩:=I.pin p hp
      exact⟨(hs.2 p.1 ne).trans e,n,ne,nf,d⟩
  · have hfn:X.fn x=true:=by
      rcases hf with z | z
      · exact z
      · rw [z] at hk;cases hk
    obtain⟨c,hc⟩:=I.ok.has x (.inl hk)
    obtain⟨w',z⟩:=I.cell x c hc
    refine wpAny_storeName_cell I.ok.kind hk hc z (fun h' hc' hs=>?_)
    obtain⟨oc,hoc,hocd⟩:=id z
    refine h {s with heap:=h'} ⟨I.ok,I.os,I.bare,⟨fun b o e n hb hx=>?_,fun b o e n hb hx=>?_,I.base.free,fun b o e hx=>?_,I.base.tups,I.base.frzs,I.base.tbls⟩,⟨m,hn.sameBut hs (Ne.symm (cne x c hc)),fun j y v' e1 e2 e3=>?_⟩,fun y c' e=>?_,I.free,I.freeC,fun p hp=>?_,tracked ⟨oc,hoc,I.freeC x c hc⟩ hs,by simpa using I.len⟩ ⟨c,hs,.inr hc⟩
    · exact(hs.2 b (Nat.ne_of_lt (Nat.lt_of_lt_of_le (Heap.lt_size e) (I.ok.cab x c hfn hc)))).trans (I.base.keep b o e n hb hx)
    · obtain⟨sl,e1⟩:=I.base.slot b o e n hb hx
      exact⟨sl,(hs.2 b (Nat.ne_of_lt (Nat.lt_of_lt_of_le (Heap.lt_size e) (I.ok.cab x c hfn hc)))).trans e1⟩
    · obtain⟨o',e1⟩:=I.base.there b o e hx
      exact⟨o',(hs.2 b (Nat.ne_of_lt (Nat.lt_of_lt_of_le (Heap.lt_size e) (I.ok.cab x c hfn hc)))).trans e1⟩
    · by_cases hj:j=i
      · subst hj
        rw [hi] at e1;cases e1
        rw [List.getElem?_set_self hiσ] at e2
        cases e2
        exact⟨u,r,.inr ⟨.inl hk,c,hc,hc'⟩⟩
      · rw [List.getElem?_set_ne (Ne.symm hj)] at e2
        obtain⟨u',r',q⟩:=hl j y v' e1 e2 e3
        refine⟨u',r',?_⟩
        rcases q with q | ⟨k,c',e,z'⟩
        · exact .inl q
        · refine .inr ⟨k,c',e,z'.sameBut hs ?_⟩
          rintro rfl
          exact hj (jN hN e1 (I.ok.inj _ _ _ e hc ▸ hi))
    · by_cases hcc:c'=c
      · subst hcc;exact⟨_,hc'⟩
      · obtain⟨w2,z2⟩:=I.cell y c' e
        exact⟨w2,z2.sameBut hs hcc⟩
    · obtain⟨e,n,ne,nf,d⟩:=I.pin p hp
      refine⟨(hs.2 p.1 ?_).trans e,n,ne,nf,d⟩
      intro q
      rw [q,hoc] at e
      have q':oc=p.2:=Option.some.inj e
      exact d w' (by rw [←q'];exact hocd)
theorem fx{M:Model}{A:Around}{E:Value→Shared→Prop}{i:Nat}{x:Str}{v:V}{u:Value}{Q:Unit→Shared→Prop}(I:ax X pins σ H s)(hN:X.N.Nodup)(hi:X.N[i]?=some x)(hx:x6 X.env.scope x)(r:aZ v u)
    (h:∀s',ax X pins (σ.set i (some v)) H s'→Q () s')(hf:X.fn x=true∨X.env.scope.names.lookup x=some .local:=by first | exact .inl rfl | exact .inr rfl | assumption):wpAny M A (storeName X.env x u) Q E s:=
  pM I hN hi hx r (fun s' I' _=>h s' I') hf
theorem ax.call'{s':Shared}{ch:List Addr}(I:ax X pins σ H s)(ho:s'.os=s.os)(u:Un (iu X.stack) ch H H' s.heap s'.heap)(hok:i6 X.prog X.w H' s'.heap)(hg:AllBare s'.gens)
    (hch:∀b∈ch,(b∈X.ex∨X.s₀.heap.objs.size≤b)∧b≠X.env.locals∧(∀x c,X.env.cells.lookup x=some c→c≠b)∧∀p∈X.pn++pins,p.1≠b):ax X pins σ H' s':=by
  obtain⟨h',g',d',t',o'⟩:=s'
  have e:o'=s.os:=ho
  subst e
  exact I.call (g':=g') (t':=t') (d':=d') u hok hg hch
end
abbrev XK:=Value→Option Addr→Hp→Prop
abbrev St:=List (Option V)
abbrev VK:=V→Hp→Prop
abbrev TE:=St→Hp→VK→Prop
abbrev TT:=St→Hp→(Bool→Hp→Prop)→Prop
abbrev TA:=St→Hp→(List V→Hp→Prop)→Prop
structure lb where
  nx:St→Hp→Prop
  rt:VK
  bk:St→Hp→Prop:=fun _ _=>False
  ct:St→Hp→Prop:=fun _ _=>False
abbrev TS:=lb→St→Hp→Prop
def EP(X:Cx)(pins:List (Addr × Obj))(σ:St)(Q:VK)(u:Value)(s':Shared):Prop:=∃v H',ax X pins σ H' s'∧aZ v u∧Q v H'
def TP(X:Cx)(pins:List (Addr × Obj))(σ:St)(Q:Bool→Hp→Prop)(b:Bool)(s':Shared):Prop:=∃H',ax X pins σ H' s'∧Q b H'
def AP(X:Cx)(pins:List (Addr × Obj))(σ:St)(Q:List V→Hp→Prop)(us:List Value)(s':Shared):Prop:=∃vs H',ax X pins σ H' s'∧aM vs us∧Q vs H'
def SP(X:Cx)(pins:List (Addr × Obj))(D:lb)(f:Flow)(s':Shared):Prop:=
  match f with
  | .next=>∃σ' H',ax X pins σ' H' s'∧D.nx σ' H'
  | .brk=>∃σ' H',ax X pins σ' H' s'∧D.bk σ' H'
  | .cont=>∃σ' H',ax X pins σ' H' s'∧D.ct σ' H'
  | .ret u=>∃v σ' H',ax X pins σ' H' s'∧aZ v u∧D.rt v H'
def PE(X:Cx)(e:Expr)(t:TE):Prop:=
  ∀(pins:List (Addr × Obj)) (s:Shared) (σ:St) (H:Hp) (Q:VK),ax X pins σ H s→t σ H Q→wpAny (model X.prog X.w) X.A (eval e X.env) (EP X pins σ Q) X.xe s
def PT(X:Cx)(e:Expr)(t:TT):Prop:=
  ∀(pins:List (Addr × Obj)) (s:Shared) (σ:St) (H:Hp) (Q:Bool→Hp→Prop),ax X pins σ H s→t σ H Q→wpAny (model X.prog X.w) X.A (isTrue e X.env (eval e X.env)) (TP X pins σ Q) X.xe s
def PW(X:Cx)(e:Expr)(t:TT):Prop:=
  ∀(whole:Sem Value) (pins:List (Addr × Obj)) (s:Shared) (σ:St) (H:Hp) (Q:Bool→Hp→Prop),ax X pins σ H s→t σ H Q→wpAny (model X.prog X.w) X.A (isTrue e X.env whole) (TP X pins σ Q) X.xe s
theorem PW.pt{X:Cx}{e:Expr}{t:TT}(h:PW X e t):PT X e t:=h _
def PA(X:Cx)(es:List Expr)(t:TA):Prop:=
  ∀(pos:Pos) (pins:List (Addr × Obj)) (s:Shared) (σ:St) (H:Hp) (Q:List V→Hp→Prop),ax X pins σ H s→t σ H Q→wpAny (model X.prog X.w) X.A (spliced (backTo pos (starEach es X.env))) (AP X pins σ Q) X.xe s
def PS(X:Cx)(st:Stmt)(t:TS):Prop:=
  ∀(pins:List (Addr × Obj)) (s:Shared) (σ:St) (H:Hp) (D:lb),ax X pins σ H s→t D σ H→wpAny (model X.prog X.w) X.A (exec st X.env) (SP X pins D) X.xe s
def gL(X:Cx)(st:List Stmt)(t:TS):Prop:=
  ∀(pins:List (Addr × Obj)) (s:Shared) (σ:St) (H:Hp) (D:lb),ax X pins σ H s→t D σ H→wpAny (model X.prog X.w) X.A (execs st X.env) (SP X pins D) X.xe s
theorem bV{α:Type}{t:Sem α}{Q Q':α→Shared→Prop}{M:Model}{A:Around}{E:Value→Shared→Prop}{s:Shared}(h:wpAny M A t Q E s)(hQ:∀a s,Q a s→Q' a s):wpAny M A t Q' E s:=wpAny_mono h hQ fun _ _ x=>x
end L2
namespace L2
open PySem PySem.Spec PyProof.Rows
section
variable{X:Cx}
def pP(i:Nat):TE:=fun σ H Q=>∃v,σ[i]?=some (some v)∧Q v H
def tC(v:V):TE:=fun _ H Q=>Q v H
theorem nL{i:Nat}{x:Str}{pos:Pos}(hN:X.N[i]?=some x)(hv:x8 X.env.scope x)(hd:(x==("__debug__":Str))=false:=by decide)(hcd:(x==("__classdict__":Str))=false:=by decide):PE X (.Name x pos) (pP i):=by
  intro pins s σ H Q I h
  obtain⟨v,e,h⟩:=h
  obtain⟨m,hn,hl⟩:=I.loc
  obtain⟨u,r,l⟩:=hl i x v hN e hv
  have fin:EP X pins σ Q u s:=⟨v,H,I,r,h⟩
  rcases l with ⟨hk,hm⟩ | ⟨hk,c,hc,hcell⟩
  · exact wpAny_Name (wpAny_loadName_local I.ok.kind hk hn hm fin) hd
  · rcases hk with hk | hk
    · exact wpAny_Name (wpAny_loadName_cell I.ok.kind hk hc hcell fin) hd
    · exact wpAny_Name (wpAny_loadName_free I.ok.kind hk hc hcell fin hcd) hd
theorem xa{i j pos}:PE X (.Constant (.int i) j pos) (tC (.int i)):=fun _ _ _ H _ I h=>wpAny_Constant_int ⟨.int i,H,I.tok _,⟨_,rfl⟩,h⟩
theorem jS{b j pos}:PE X (.Constant (.bool b) j pos) (tC (.bl b)):=fun _ _ _ H _ I h=>Constant_bool ⟨.bl b,H,I,rfl,h⟩
theorem xb{j pos}:PE X (.Constant .none j pos) (tC .non):=fun _ _ _ H _ I h=>Constant_none ⟨.non,H,I,rfl,h⟩
theorem xg{x j pos}:PE X (.Constant (.str x) j pos) (tC (.str x)):=fun _ _ _ H _ I h=>Calls.Constant_str ⟨.str x,H,I.tok _,⟨_,rfl⟩,h⟩
def Gl(X:Cx)(x:Str):Prop:=X.env.kindOf x=some .globalImplicit
theorem gZ{E:Value→Shared→Prop}{pins:List (Addr × Obj)}{s:Shared}{σ:St}{H:Hp}{x:Str}{u:Value}{pos:Pos}{Q:Value→Shared→Prop}(I:ax X pins σ H s)(hg:Gl X x)(hm:X.mg x=some u)(h:Q u s)
    (hd:(x==("__debug__":Str))=false:=by decide):wpAny (model X.prog X.w) X.A (eval (.Name x pos) X.env) Q E s:=
  Calls.Name_function_global I.ok.kind hg (Calls.loadGlobal_global (by rw [I.ok.glob];exact I.mod.glob.keeps I.bk) hm h) hd
theorem lN{E:Value→Shared→Prop}{pins:List (Addr × Obj)}{s:Shared}{σ:St}{H:Hp}{x:Str}{u:Value}{pos:Pos}{Q:Value→Shared→Prop}(I:ax X pins σ H s)(hg:Gl X x)(hm:X.mg x=none)(hv:bootBuiltins x=some u)(h:Q u s)
    (hn:x≠"__name__":=by decide)(hd:(x==("__debug__":Str))=false:=by decide):wpAny (model X.prog X.w) X.A (eval (.Name x pos) X.env) Q E s:=by
  obtain⟨mb,h1,h2⟩:=I.mod.blt
  exact Calls.Name_function_global I.ok.kind hg (Calls.loadGlobal_builtin (by rw [I.ok.glob];exact I.mod.glob.keeps I.bk) hm (by rw [I.ok.blt];exact h1.keeps I.bk) ((h2 x hn).trans hv) h) hd
theorem fN{x:Str}{v:V}{u:Value}{pos:Pos}(hg:Gl X x)(hm:X.mg x=some u)(r:aZ v u)(hd:(x==("__debug__":Str))=false:=by decide):PE X (.Name x pos) (tC v):=
  fun _ _ _ H _ I h=>gZ I hg hm ⟨v,H,I,r,h⟩ hd
variable{a b:Expr}{ta tb:TE}{pos:Pos}
def tB(t:TE):TT:=fun σ H Q=>t σ H fun x H1=>∃c,x=.bl c∧Q c H1
theorem xo{e:Expr}{t:TE}(h:PE X e t)(he:∀whole,isTrue e X.env whole=(do let v ←whole;standAt e.pos;holding [v] (truthy v)):=by intro _;rfl):PT X e (tB t):=by
  intro pins s σ H Q I hw
  refine isTrue_plain (bV (h pins s σ H _ I hw) fun v s1 ⟨x,H1,I1,r1,q1⟩=>?_) (he _)
  obtain⟨d,rfl,q⟩:=q1
  cases r1
  exact wpAny_truthy_bool ⟨H1,I1,q⟩
variable{tA tB':TT}{cO:List Expr}
def zo(t u:TT):TT:=fun σ H Q=>t σ H fun c H1=>if c=true then u σ H1 Q else Q false H1
def A8(t u:TT):TT:=fun σ H Q=>t σ H fun c H1=>if c=true then Q true H1 else u σ H1 Q
def zt(t:TT):TT:=fun σ H Q=>t σ H fun c H1=>Q (!c) H1
theorem uC(ha:PT X a tA):PW X (.BoolOp .And [a] pos) tA:=by
  intro wh pins s σ H Q I h
  refine isTrue_and (bV (ha pins s σ H Q I h) fun c s1 e=>?_)
  cases c with
  | true=>exact isTrue_and_nil e
  | false=>exact e
theorem xt(ha:PT X a tA):PW X (.BoolOp .Or [a] pos) tA:=by
  intro wh pins s σ H Q I h
  refine isTrue_or (bV (ha pins s σ H Q I h) fun c s1 e=>?_)
  cases c with
  | false=>exact isTrue_or_nil e
  | true=>exact e
theorem xr(ha:PT X a tA)(hb:PW X (.BoolOp .And (b::cO) pos) tB'):PW X (.BoolOp .And (a::b::cO) pos) (zo tA tB'):=by
  intro wh pins s σ H Q I h
  refine isTrue_and (bV (ha pins s σ H _ I h) fun c s1 ⟨H1,I1,q1⟩=>?_)
  cases c with
  | true=>exact hb wh pins s1 σ H1 Q I1 q1
  | false=>exact⟨H1,I1,q1⟩
theorem y0(ha:PT X a tA)(hb:PW X (.BoolOp .Or (b::cO) pos) tB'):PW X (.BoolOp .Or (a::b::cO) pos) (A8 tA tB'):=by
  intro wh pins s σ H Q I h
  refine isTrue_or (bV (ha pins s σ H _ I h) fun c s1 ⟨H1,I1,q1⟩=>?_)
  cases c with
  | true=>exact⟨H1,I1,q1⟩
  | false=>exact hb wh pins s1 σ H1 Q I1 q1
theorem xn(ha:PT X a tA):PT X (.UnaryOp .Not a pos) (zt tA):=by
  intro pins s σ H Q I h
  exact isTrue_not (ha pins s σ H (fun c H1=>Q (!c) H1) I h)
def zp(ta tb:TE):TE:=fun σ H Q=>ta σ H fun x H1=>∃c,x=.bl c∧if c=true then tb σ H1 Q else Q (.bl false) H1
def zu(ta:TE):TE:=fun σ H Q=>ta σ H fun x H1=>∃c,x=.bl c∧Q (.bl (!c)) H1
theorem xf{op}{t:TE}(h:PE X a t):PE X (.BoolOp op [a] pos) t:=fun pins s σ H Q I hw=>BoolOp_one (h pins s σ H Q I hw)
theorem w_(ha:PE X a ta)(hb:PE X (.BoolOp .And (b::cO) pos) tb):PE X (.BoolOp .And (a::b::cO) pos) (zp ta tb):=by
  intro pins s σ H Q I h
  refine BoolOp_and (bV (ha pins s σ H _ I h) fun v s1 ⟨x,H1,I1,r1,q1⟩=>?_)
  obtain⟨c,rfl,q1⟩:=q1
  cases r1
  refine wpAny_truthy_bool ?_
  cases c with
  | true=>exact hb pins s1 σ H1 Q I1 q1
  | false=>exact⟨.bl false,H1,I1,rfl,q1⟩
theorem xc(ha:PE X a ta):PE X (.UnaryOp .Not a pos) (zu ta):=by
  intro pins s σ H Q I h
  refine UnaryOp_ (bV (ha pins s σ H _ I h) fun v s1 ⟨x,H1,I1,r1,q1⟩=>?_)
  obtain⟨c,rfl,q1⟩:=q1
  cases r1
  exact not_of (wpAny_truthy_bool ⟨.bl (!c),H1,I1,rfl,q1⟩)
end
end L2
namespace L2
open PySem PySem.Spec PyProof.Rows
def eM(K:PySem.W.Frag)(H:Hp)(a:Addr)(xs:List V):Prop:=
  Rd H a (.lst xs)∨
    ∃(o:Obj) (its:Array Value) (n:Nat),K.lookup a=some o∧o.cls=.type "list"∧o.dict=none∧o.data=.seq its n∧its.size≤sizeLine∧aM xs its.toList
def dm(K:PySem.W.Frag)(H:Hp)(a:Addr)(xs:List V):Prop:=
  Rd H a (.tup xs)∨
    ∃(o:Obj) (its:Array Value) (n:Nat),K.lookup a=some o∧o.cls=.type "tuple"∧o.dict=none∧o.data=.seq its n∧its.size≤sizeLine∧aM xs its.toList
def Ab:Value→Option V
  | .none=>some .non
  | .bool b=>some (.bl b)
  | .int i _=>some (.int i)
  | .str x _=>some (.str x)
  | .bytes b _=>some (.byt b)
  | .float b _=>some (.flt b)
  | .ref a=>some (.ref a)
  | .type n=>some (.ty n)
  | _=>none
theorem aZ.abs{x:V}{u:Value}(r:aZ x u):Ab u=some x:=by
  cases x with
  | non=>cases r;rfl
  | bl _=>cases r;rfl
  | int _=>obtain⟨t,rfl⟩:=r;rfl
  | str _=>obtain⟨t,rfl⟩:=r;rfl
  | byt _=>obtain⟨t,rfl⟩:=r;rfl
  | flt _=>obtain⟨t,rfl⟩:=r;rfl
  | ref _=>cases r;rfl
  | ty _=>cases r;rfl
theorem aZ.inj{x y:V}{u:Value}(r:aZ x u)(q:aZ y u):x=y:=Option.some.inj (r.abs.symm.trans q.abs)
theorem aM.inj:∀{xs ys:List V} {us:List Value},aM xs us→aM ys us→xs=ys
  | _,_,_,.nil,.nil=>rfl
  | _,_,_,.cons r t,.cons r' t'=>by rw [r.inj r',aM.inj t t']
section
variable{X:Cx}{pins:List (Addr × Obj)}{σ:St}{H:Hp}{s:Shared}{a:Addr}{xs ys:List V}
theorem eM.of{K:PySem.W.Frag}(h:H a=some (.lst xs)):eM K H a xs:=.inl (.inl h)
theorem dm.of{K:PySem.W.Frag}(h:H a=some (.tup xs)):dm K H a xs:=.inl (.inl h)
theorem ax.list(I:ax X pins σ H s)(h:eM X.K H a xs):∃its:List Value,aM xs its∧PlainL s.heap a its.toArray∧xs.length≤sizeLine:=by
  rcases h with h | ⟨o,its,n,hk,hc,hd,hs,hz,r⟩
  · obtain⟨z,its,n,r,e⟩:=h.ok I.hok
    exact⟨its,r,⟨_,n,e,rfl,rfl,rfl⟩,z⟩
  · refine⟨its.toList,r,⟨o,n,I.kIn a o hk,hc,hd,by simpa using hs⟩,?_⟩
    have e:=r.length
    simp only [Array.length_toList] at e
    lia
theorem ax.tuple(I:ax X pins σ H s)(h:dm X.K H a xs):∃its:List Value,aM xs its∧IsTup s.heap a its.toArray∧xs.length≤sizeLine:=by
  rcases h with h | ⟨o,its,n,hk,hc,_,hs,hz,r⟩
  · obtain⟨z,its,r,p⟩:=h.ok I.hok
    exact⟨its,r,p.tup,z⟩
  · refine⟨its.toList,r,⟨o,I.kIn a o hk,hc,n,by simpa using hs⟩,?_⟩
    have e:=r.length
    simp only [Array.length_toList] at e
    lia
theorem ax.list_inj(I:ax X pins σ H s)(h:eM X.K H a xs)(h':eM X.K H a ys):xs=ys:=by
  obtain⟨its,r,⟨o,n,e,_,_,d⟩,_⟩:=I.list h
  obtain⟨its',r',⟨o',n',e',_,_,d'⟩,_⟩:=I.list h'
  rw [e] at e';cases e'
  rw [d] at d'
  injection d' with d1 _
  have:its=its':=by simpa using congrArg Array.toList d1
  subst this
  exact r.inj r'
theorem ax.tuple_inj(I:ax X pins σ H s)(h:dm X.K H a xs)(h':dm X.K H a ys):xs=ys:=by
  obtain⟨its,r,⟨o,e,_,n,d⟩,_⟩:=I.tuple h
  obtain⟨its',r',⟨o',e',_,n',d'⟩,_⟩:=I.tuple h'
  rw [e] at e';cases e'
  rw [d] at d'
  injection d' with d1 _
  have:its=its':=by simpa using congrArg Array.toList d1
  subst this
  exact r.inj r'
end
abbrev Cx.wish(X:Cx)(E:Value→Shared→Prop):Cx:={X with xe:=E}
abbrev Cx.nox(X:Cx):Cx:=X.wish fun _ _=>False
theorem Cx.Ok.wish{X:Cx}(ok:X.Ok)(E:Value→Shared→Prop):(X.wish E).Ok:=
  ⟨ok.mod,ok.kind,ok.glob,ok.blt,ok.above,ok.inj,ok.has,ok.cab,ok.hd,ok.frames,ok.stk,ok.exf,ok.bs,ok.bsz,ok.noex,ok.exfs,ok.funs,ok.frf⟩
theorem Cx.Ok.unwish{X:Cx}{E:Value→Shared→Prop}(ok:(X.wish E).Ok):X.Ok:=
  ⟨ok.mod,ok.kind,ok.glob,ok.blt,ok.above,ok.inj,ok.has,ok.cab,ok.hd,ok.frames,ok.stk,ok.exf,ok.bs,ok.bsz,ok.noex,ok.exfs,ok.funs,ok.frf⟩
section
variable{X:Cx}{pins:List (Addr × Obj)}{σ:St}{H:Hp}{s:Shared}{E:Value→Shared→Prop}
theorem ax.wish(I:ax X pins σ H s)(E:Value→Shared→Prop):ax (X.wish E) pins σ H s:=⟨I.ok.wish E,I.os,I.bare,I.base,I.loc,I.cell,I.free,I.freeC,I.pin,I.hok,I.len⟩
theorem ax.unwish(I:ax (X.wish E) pins σ H s):ax X pins σ H s:=⟨I.ok.unwish,I.os,I.bare,I.base,I.loc,I.cell,I.free,I.freeC,I.pin,I.hok,I.len⟩
theorem SP.unwish{D:lb}{f:Flow}{s':Shared}(h:SP (X.wish E) pins D f s'):SP X pins D f s':=by
  cases f with
  | next=>obtain⟨σ',H',I,q⟩:=h;exact⟨σ',H',I.unwish,q⟩
  | brk=>obtain⟨σ',H',I,q⟩:=h;exact⟨σ',H',I.unwish,q⟩
  | cont=>obtain⟨σ',H',I,q⟩:=h;exact⟨σ',H',I.unwish,q⟩
  | ret u=>obtain⟨v,σ',H',I,r,q⟩:=h;exact⟨v,σ',H',I.unwish,r,q⟩
theorem PT.nox{e:Expr}{t:TT}(h:PT X.nox e t):PT X e t:=fun pins s σ H Q I hw=>
  wpAny_mono (h pins s σ H Q (I.wish _) hw) (fun _ _ ⟨H',I',q⟩=>⟨H',I'.unwish,q⟩) fun _ _ z=>False.elim z
theorem gL.nox{st:List Stmt}{t:TS}(h:gL X.nox st t):gL X st t:=fun pins s σ H D I hw=>
  wpAny_mono (h pins s σ H D (I.wish _) hw) (fun _ _ q=>q.unwish) fun _ _ z=>False.elim z
end
section
variable{X:Cx}{st:Stmt}{cO:List Stmt}{t u:TS}{e:Expr}{te:TE}{pos:Pos}
def zr:TS:=fun D σ H=>D.nx σ H
def zw(t u:TS):TS:=fun D σ H=>t {D with nx:=u D} σ H
theorem ox:gL X [] zr:=fun _ _ σ H _ I h=>wpAny_execs_nil ⟨σ,H,I,h⟩
theorem eY(h1:PS X st t)(h2:gL X cO u):gL X (st::cO) (zw t u):=by
  intro pins s σ H D I h
  refine wpAny_execs_cons (bV (h1 pins s σ H {D with nx:=u D} I h) fun f s1 q=>?_)
  cases f with
  | next=>
    obtain⟨σ',H',I',q⟩:=q
    exact h2 pins s1 σ' H' D I' q
  | ret v=>exact q
  | brk=>exact q
  | cont=>exact q
theorem hV(h1:PS X st t):gL X [st] t:=by
  intro pins s σ H D I h
  refine wpAny_execs_cons (bV (h1 pins s σ H D I h) fun f s1 q=>?_)
  cases f with
  | next=>exact wpAny_execs_nil q
  | ret v=>exact q
  | brk=>exact q
  | cont=>exact q
theorem ax.quiet{pins:List (Addr × Obj)}{σ:St}{H:Hp}{s:Shared}(I:ax X pins σ H s):interactive X.env=false:=by simp [interactive,I.ok.kind]
def zq(te:TE):TS:=fun D σ H=>te σ H fun _ H1=>D.nx σ H1
theorem uy(he:PE X e te)(hs:swapsWith e none pos.line X.env=pure false:=by rfl):PS X (.Expr e pos) (zq te):=by
  intro pins s σ H D I h
  exact wpAny_Expr_any (bV (he pins s σ H _ I h) fun v s1 ⟨x,H1,I1,r1,q1⟩=>⟨σ,H1,I1,q1⟩) I.quiet hs
def xP(te:TE):TS:=fun D σ H=>te σ H D.rt
theorem nO(he:PE X e te):PS X (.Return (some e) pos) (xP te):=by
  intro pins s σ H D I h
  exact wpAny_Return_some (bV (he pins s σ H _ I h) fun v s1 ⟨x,H1,I1,r1,q1⟩=>⟨x,σ,H1,I1,r1,q1⟩)
def AF(c:TT)(t u:TS):TS:=fun D σ H=>c σ H fun b H1=>if b=true then t D σ H1 else u D σ H1
theorem vF{c:Expr}{a b:List Stmt}{tc:TT}(hc:PT X c tc)(ha:gL X a t)(hb:gL X b u):PS X (.If c a b pos) (AF tc t u):=by
  intro pins s σ H D I h
  refine wpAny_If (bV (hc pins s σ H _ I h) fun d s1 ⟨H1,I1,q1⟩=>?_)
  cases d with
  | true=>exact ha pins s1 σ H1 D I1 q1
  | false=>exact hb pins s1 σ H1 D I1 q1
end
abbrev TG:=V→St→Hp→(St→Hp→Prop)→Prop
abbrev sN:=List V→St→Hp→(St→Hp→Prop)→Prop
def PG(X:Cx)(target:Expr)(t:TG):Prop:=
  ∀(pins:List (Addr × Obj)) (s:Shared) (σ:St) (H:Hp) (v:V) (u:Value) (Q:St→Hp→Prop),ax X pins σ H s→aZ v u→t v σ H Q→
    wpAny (model X.prog X.w) X.A (assign target X.env u) (fun _ s'=>∃σ' H',ax X pins σ' H' s'∧Q σ' H') X.xe s
def pW(X:Cx)(ts:List Expr)(t:sN):Prop:=
  ∀(pins:List (Addr × Obj)) (s:Shared) (σ:St) (H:Hp) (vs:List V) (us:List Value) (Q:St→Hp→Prop),ax X pins σ H s→aM vs us→t vs σ H Q→
    wpAny (model X.prog X.w) X.A (assignInOrder ((assignEach ts X.env).map (·.2)) us) (fun _ s'=>∃σ' H',ax X pins σ' H' s'∧Q σ' H') X.xe s
section
variable{X:Cx}{pos:Pos}
def qE(i:Nat):TG:=fun v σ H Q=>Q (σ.set i (some v)) H
theorem ul{i:Nat}{x:Str}(hN:X.N.Nodup)(hi:X.N[i]?=some x)(hx:x6 X.env.scope x)(hf:X.fn x=true∨X.env.scope.names.lookup x=some .local:=by first | exact .inl rfl | exact .inr rfl | assumption):PG X (.Name x pos) (qE i):=by
  intro pins s σ H v u Q I r h
  exact wpAny_assign_Name (fx I hN hi hx r (fun s' I'=>⟨_,H,I',h⟩) hf)
def Ag:sN:=fun vs σ H Q=>vs=[]∧Q σ H
def yw(t:TG)(u:sN):sN:=fun vs σ H Q=>∃v r,vs=v::r∧t v σ H fun σ' H'=>u r σ' H' Q
theorem uo:pW X [] Ag:=by
  intro pins s σ H vs us Q I r h
  obtain⟨e,h⟩:=h
  subst e
  cases r
  exact assignInOrder_nil ⟨σ,H,I,h⟩
theorem rA{e:Expr}{es:List Expr}{t:TG}{u:sN}(h1:PG X e t)(h2:pW X es u)
    (hs:(assignEach (e::es) X.env).map (·.2)=assign e X.env::(assignEach es X.env).map (·.2):=by rfl):pW X (e::es) (yw t u):=by
  intro pins s σ H vs us Q I r h
  obtain⟨v,vr,e1,h⟩:=h
  subst e1
  cases r with
  | cons r rr=>
    rw [hs]
    refine assignInOrder_cons (bV (h1 pins s σ H _ _ _ I r h) fun _ s1 ⟨σ1,H1,I1,q1⟩=>?_)
    exact h2 pins s1 σ1 H1 _ _ Q I1 rr q1
def yA(K:PySem.W.Frag)(n:Nat)(t:sN):TG:=fun v σ H Q=>∃a xs,v=.ref a∧dm K H a xs∧xs.length=n∧t xs σ H Q
theorem xi{es:List Expr}{k:Nat}{t:sN}{n:Nat}(hc:X.calm=true)(h:pW X es t)
    (hn:(assignEach es X.env).length=n:=by rfl)(hst:(assignEach es X.env).findIdx? (·.1)=none:=by rfl):PG X (.Tuple es k pos) (yA X.K n t):=by
  intro pins s σ H v u Q I r hw
  obtain⟨a,xs,e1,hq,hl,hw⟩:=hw
  subst e1
  cases r
  obtain⟨its,rv,ht,hz⟩:=I.tuple hq
  refine assign_Tuple_tuple (I.ok.hd hc) ht (by simp [hn,←hl,rv.length]) hst fun h' hx=>?_
  have I1:ax X pins σ H {s with heap:=h'}:=I.kept (t':=s.toks) fun b o e=>hx b o (Nat.ne_of_lt (Heap.lt_size e)) e
  exact h pins _ σ H xs _ Q I1 (by simpa using rv) hw
def xK(te:TE)(g:TG):TS:=fun D σ H=>te σ H fun x H1=>g x σ H1 D.nx
theorem xk{tg e:Expr}{te:TE}{g:TG}(he:PE X e te)(hg:PG X tg g)(hs:swapsWithSole [tg] e pos.line X.env=pure false:=by rfl)(hw:swappedStores [tg] e X.env=pure none:=by rfl)
    (h1:(assignEach [tg] X.env).map (·.2)=[assign tg X.env]:=by rfl):PS X (.Assign [tg] e pos) (xK te g):=by
  intro pins s σ H D I h
  refine wpAny_Assign_stores (bV (he pins s σ H _ I h) fun v s1 ⟨x,H1,I1,r1,q1⟩=>?_) hs hw
  rw [h1]
  exact bV (hg pins s1 σ H1 x v _ I1 r1 q1) fun _ s2 q=>q
theorem lX{i:Nat}{x:Str}{e:Expr}{te:TE}{pos':Pos}(hN:X.N.Nodup)(hi:X.N[i]?=some x)(hx:x6 X.env.scope x)(he:PE X e te)(hs:swapsWith e (some (.Name x pos')) pos.line X.env=pure false:=by rfl)(hf:X.fn x=true∨X.env.scope.names.lookup x=some .local:=by first | exact .inl rfl | exact .inr rfl | assumption):
    PS X (.Assign [.Name x pos'] e pos) (xK te (qE i)):=by
  intro pins s σ H D I h
  refine wpAny_Assign_Name (bV (he pins s σ H _ I h) fun v s1 ⟨y,H1,I1,r1,q1⟩=>?_) hs
  exact fx I1 hN hi hx r1 (fun s2 I2=>⟨_,H1,I2,q1⟩) hf
def AH(i j:Nat)(ta:TA):TS:=fun D σ H=>ta σ H fun vs H1=>∃v w,vs=[v,w]∧D.nx ((σ.set i (some v)).set j (some w)) H1
theorem xm{i j:Nat}{x y:Str}{a b:Expr}{ta:TA}{px py pt:Pos}{kt k2 pt2}(hc:X.calm=true)(hN:X.N.Nodup)(hi:X.N[i]?=some x)(hj:X.N[j]?=some y)(hij:i≠j)
    (hx:X.env.scope.names.lookup x=some .local)(hy:X.env.scope.names.lookup y=some .local)(ha:PA X [a,b] ta)
    (hw:swappedStores [.Tuple [.Name x px,.Name y py] kt pt] (.Tuple [a,b] k2 pt2) X.env=pure (some [x,y]))
    (hs:swapsWithSole [.Tuple [.Name x px,.Name y py] kt pt] (.Tuple [a,b] k2 pt2) pos.line X.env=pure false:=by rfl):
    PS X (.Assign [.Tuple [.Name x px,.Name y py] kt pt] (.Tuple [a,b] k2 pt2) pos) (AH i j ta):=by
  intro pins s σ H D I h
  rw [exec_Assign_arm]
  refine wpAny_bind (wpAny_standAt ?_)
  rw [hs]
  refine wpAny_bind (wpAny_pure ?_)
  rw [if_neg (by decide)]
  refine wpAny_bind (Tuple_ (bV (ha _ pins s σ H _ I h) fun us s1 ⟨vs,H1,I1,r1,q1⟩=>?_))
  obtain⟨v,w,e1,q1⟩:=q1
  subst e1
  obtain⟨u1,u2,rfl,rv,rw'⟩:∃u1 u2,us=[u1,u2]∧aZ v u1∧aZ w u2:=by
    cases r1 with
    | cons p q=>
      cases q with
      | cons p' q'=>
        cases q'
        exact⟨_,_,rfl,p,p'⟩
  refine wpAny_newObj_type ?_ (by show 2≤sizeLine;decide)
  have I2:ax X pins σ H1 {s1 with heap:=s1.heap.push {cls:=.type "tuple",data:=.seq [u1,u2].toArray}}:=I1.kept (t':=s1.toks) fun b o e=>Heap.get?_push_of_some _ e
  rw [hw]
  refine wpAny_bind (wpAny_pure ?_)
  show wpAny (model X.prog X.w) X.A (do rule "assign.swapped-stores";let items ←unpackItems (.ref s1.heap.objs.size) 2 none;assignInOrder [fun v=>bindName X.env y v,fun v=>bindName X.env x v] items.reverse;pure Flow.next) _ _ _
  refine wpAny_bind (wpAny_rule (wpAny_bind (unpackItems_tuple (items:=#[u1,u2]) (I.ok.hd hc) (IsTup.new s1.heap _) fun h' hx'=>?_)))
  have I3:=I2.kept (h':=h') (t':=s1.toks) fun b o e=>hx' b o (Nat.ne_of_lt (Heap.lt_size e)) e
  show wpAny _ _ (assignInOrder [fun v=>bindName X.env y v,fun v=>bindName X.env x v] [u2,u1] >>= fun _=>pure Flow.next) _ _ _
  refine wpAny_bind (assignInOrder_cons (wpAny_bindName (fx I3 hN hj (.inl hy) rw' (fun s2 I4=>?_) (.inr hy))))
  refine assignInOrder_cons (wpAny_bindName (fx I4 hN hi (.inl hx) rv (fun s3 I5=>assignInOrder_nil (wpAny_pure ?_)) (.inr hx)))
  rw [List.set_comm _ _ (Ne.symm hij)] at I5
  exact⟨_,H1,I5,q1⟩
end
section
variable{X:Cx}{pos:Pos}
def xQ(c:TT)(tb:TS):TS:=fun D σ H=>∃W:Nat→St→Hp→Prop,(∃m,W m σ H)∧∀m σ H,W m σ H→
  c σ H fun b H1=>if b=true then ∃N:St→Hp→Prop,(∀σ' H',N σ' H'→∃m',m' < m∧W m' σ' H')∧tb {D with nx:=N,ct:=N,bk:=D.nx} σ H1 else D.nx σ H1
theorem rH{c:Expr}{body:List Stmt}{tc:TT}{tb:TS}(hp:PassesOwn (model X.prog X.w) X.A X.env X.xe)(hc:PT X c tc)(hb:gL X body tb):PS X (.While c body [] pos) (xQ tc tb):=by
  intro pins s σ H D I h
  obtain⟨W,⟨m0,w0⟩,turn⟩:=h
  refine wpAny_While (codeAny_whileLoop (fun n s'=>∃σ' H',ax X pins σ' H' s'∧W n σ' H') ?_ m0 ⟨σ,H,I,w0⟩)
  rintro n s1 ⟨σ1,H1,I1,w1⟩
  refine wpAny_passesOwn hp (bV (hc pins s1 σ1 H1 _ I1 (turn n σ1 H1 w1)) fun b s2 ⟨H2,I2,q2⟩=>?_)
  cases b with
  | true=>
    obtain⟨N,hN,q2⟩:=q2
    rw [if_pos rfl]
    refine wpAny_passesOwn hp (bV (hb pins s2 σ1 H2 _ I2 q2) fun f s3 q3=>?_)
    cases f with
    | next=>
      obtain⟨σ3,H3,I3,n3⟩:=q3
      obtain⟨m',hm,w3⟩:=hN σ3 H3 n3
      exact⟨m',hm,σ3,H3,I3,w3⟩
    | cont=>
      obtain⟨σ3,H3,I3,n3⟩:=q3
      obtain⟨m',hm,w3⟩:=hN σ3 H3 n3
      exact⟨m',hm,σ3,H3,I3,w3⟩
    | brk=>exact q3
    | ret v=>exact q3
  | false=>
    rw [if_neg Bool.false_ne_true]
    exact wpAny_execs_nil ⟨σ1,H2,I2,q2⟩
end
structure It where
  go:Nat→Hp→Prop
  yld:Nat→Hp→V→Hp→Prop
  stop:Nat→Hp→Prop
def l8(X:Cx)(pins:List (Addr × Obj))(H:Hp)(b:Addr):Prop:=
  H b=none∧b≠X.env.locals∧b∉X.fs∧(b∈X.ex∨X.s₀.heap.objs.size≤b)∧(∀x c,X.env.cells.lookup x=some c→c≠b)∧∀p∈X.pn++pins,p.1≠b
theorem ax.fpOk{X:Cx}{pins:List (Addr × Obj)}{σ:St}{H H':Hp}{s:Shared}{b:Addr}(I:ax X pins σ H s)(hb:s.heap.objs.size≤b)(hn:H' b=none):l8 X pins H' b:=by
  refine⟨hn,Nat.ne_of_gt (Nat.lt_of_lt_of_le I.lt hb),I.nofs hb,.inr (Nat.le_trans I.sz hb),fun x c e z=>?_,fun p hp z=>?_⟩
  · obtain⟨v,q⟩:=I.cell x c e
    exact absurd (Nat.lt_of_lt_of_le q.lt (by rw [z];exact hb)) (Nat.lt_irrefl _)
  · exact absurd (Nat.lt_of_lt_of_le (Heap.lt_size (I.pin p hp).1) (by rw [z];exact hb)) (Nat.lt_irrefl _)
structure sY (P:Program) (w:World) (K:PySem.W.Frag) (tg:Expr) (J:It) (fp:List Addr) (it:Addr) (tn:Nat→Heap→Prop):Prop where
  mem:it∈fp
  obj:∀i h,tn i h→∀b∈fp,∃o,h.get? b=some o∧∀v,o.data≠.cell v
  keep:∀i h h',tn i h→(∀b∈fp,∀o,h.get? b=some o→h'.get? b=some o)→tn i h'
  item:∀(X:Cx),X.prog=P→X.w=w→X.K=K→X.calm=true→∀(i:Nat) (pins:List (Addr × Obj)) (s:Shared) (σ:St) (H:Hp) (E:Value→Shared→Prop),ax X pins σ H s→(∀b∈fp,l8 X pins H b)→tn i s.heap→J.go i H→
    wpAny (model P w) X.A (pyNext (.ref it)) (fun r s1=>∃u,r=some u∧
      wpAny (model P w) X.A (letOwnedTupleGo tg (.ref it) u) (fun _ s2=>∃x H',ax X pins σ H' s2∧aZ x u∧J.yld i H x H'∧tn (i+1) s2.heap∧∀b∈fp,H' b=none) E s1) E s
  done:∀(X:Cx),X.prog=P→X.w=w→X.K=K→X.calm=true→∀(i:Nat) (pins:List (Addr × Obj)) (s:Shared) (σ:St) (H:Hp) (E:Value→Shared→Prop),ax X pins σ H s→(∀b∈fp,l8 X pins H b)→tn i s.heap→J.stop i H→
    wpAny (model P w) X.A (pyNext (.ref it)) (fun r s1=>r=none∧ax X pins σ H s1) E s
  self:∀(A:Around) (i:Nat) (s:Shared) (Q:Value→Shared→Prop) (E:Value→Shared→Prop),tn i s.heap→Q (.ref it) s→wpAny (model P w) A (pyIter (.ref it)) Q E s
abbrev TI:=St→Hp→(It→Hp→Prop)→Prop
def AQ(X:Cx)(pins:List (Addr × Obj))(σ:St)(tg:Expr)(R:It→Hp→Prop)(itv:Value)(s2:Shared):Prop:=
  ∃(it:Addr) (fp:List Addr) (tn:Nat→Heap→Prop) (J:It) (H':Hp),itv=.ref it∧ax X pins σ H' s2∧sY X.prog X.w X.K tg J fp it tn∧tn 0 s2.heap∧(∀b∈fp,l8 X pins H' b)∧R J H'
def PI(X:Cx)(tg iter:Expr)(wi:TI):Prop:=
  ∀(pins:List (Addr × Obj)) (s:Shared) (σ:St) (H:Hp) (R:It→Hp→Prop),ax X pins σ H s→wi σ H R→
    wpAny (model X.prog X.w) X.A (eval iter X.env) (fun v s1=>wpAny (model X.prog X.w) X.A (pyIter v) (AQ X pins σ tg R) X.xe s1) X.xe s
theorem qJ{M:Model}{A:Around}{E:Value→Shared→Prop}{s:Shared}{tg:Expr}{it:Addr}{u:Value}{o:Obj}{n:String}{vs:Array Value}{Q:Unit→Shared→Prop}(ho:s.heap.get? it=some o)(hc:o.cls=.type n)(hd:o.data=.fields vs)
    (hn:["enumerate","zip","dict_itemiterator","dict_reverseitemiterator","odict_iterator","itertools.zip_longest","itertools.pairwise"].contains n=false)(hQ:Q () s):wpAny M A (letOwnedTupleGo tg (.ref it) u) Q E s:=by
  unfold letOwnedTupleGo
  cases tg<;>first
    | exact wpAny_pure hQ
    | (cases u<;>first
        | exact wpAny_pure hQ
        | (refine wpAny_bind (wpAny_load ho ?_)
           rw [hc,hd]
           show wpAny M A (if (["enumerate","zip","dict_itemiterator","dict_reverseitemiterator","odict_iterator","itertools.zip_longest","itertools.pairwise"].contains n&&vs[0]?==some (rawInt _))=true then _ else _) Q E s
           rw [if_neg (by intro h;rw [hn,Bool.false_and] at h;cases h)]
           exact wpAny_pure hQ))
def zW(K:PySem.W.Frag)(a:Addr):It:=
  ⟨fun i H=>∃xs x,eM K H a xs∧xs[i]?=some x,fun i H x H'=>H'=H∧∀xs,eM K H a xs→xs[i]?=some x,fun i H=>∃xs,eM K H a xs∧xs.length≤i⟩
def zX(K:PySem.W.Frag)(a:Addr):It:=
  ⟨fun i H=>∃xs x,dm K H a xs∧xs[i]?=some x,fun i H x H'=>H'=H∧∀xs,dm K H a xs→xs[i]?=some x,fun i H=>∃xs,dm K H a xs∧xs.length≤i⟩
def zF(lo:Int)(n:Nat):It:=⟨fun i _=>i < n,fun i H x H'=>H'=H∧x=.int (lo+i),fun i _=>n≤i⟩
theorem pT{P:Program}{w:World}{K:PySem.W.Frag}{tg:Expr}(a it:Addr):sY P w K tg (zW K a) [it] it (fun i h=>h.IsListIter it a i) where
  mem:=by simp
  obj:=fun i h st b hb=>by
    have e:b=it:=by simpa using hb
    subst e
    obtain⟨o,e,c,d⟩:=st
    exact⟨o,e,fun v z=>by rw [d] at z;cases z⟩
  keep:=fun i h h' st k=>st.at fun o e=>k it (by simp) o e
  item:=by
    intro X hP hw hK hc i pins s σ H E I hf st hg
    subst hP hw hK
    obtain⟨xs,x,hq,hx⟩:=hg
    obtain⟨its,rv,p,hz⟩:=I.list hq
    obtain⟨u,hu,ru⟩:=rv.get hx
    obtain⟨f0,f1,f2,f3,f4,f5⟩:=hf it (by simp)
    refine wpAny_pyNext_list_item st p.isList (x:=u) (by simpa using hu) fun h' st' sb=>?_
    have I1:ax X pins σ H {s with heap:=h'}:=I.turned (t':=s.toks) (fun b o hb e=>(sb.2 b hb).trans e) f0 f1 f3 f4 f5
    obtain⟨o,e,c,d⟩:=id st'
    exact⟨u,rfl,qJ (s:={s with heap:=h'}) e c d (by decide) ⟨x,H,I1,ru,⟨rfl,fun ys hy=>by rw [I.list_inj hy hq];exact hx⟩,st',fun b hb=>(hf b hb).1⟩⟩
  done:=by
    intro X hP hw hK hc i pins s σ H E I hf st hg
    subst hP hw hK
    obtain⟨xs,hq,hx⟩:=hg
    obtain⟨its,rv,p,hz⟩:=I.list hq
    obtain⟨f0,f1,f2,f3,f4,f5⟩:=hf it (by simp)
    have hl:=rv.length
    exact wpAny_pyNext_list_end (I.ok.hd hc) st p.isList (by simp;lia) fun h' eb=>⟨rfl,I.turned (t':=s.toks) (fun b o hb e=>eb b o hb e) f0 f1 f3 f4 f5⟩
  self:=fun _ _ _ _ _ st h=>wpAny_pyIter_listiter st h
theorem nW{P:Program}{w:World}{K:PySem.W.Frag}{tg:Expr}(a it:Addr):sY P w K tg (zX K a) [it] it (fun i h=>h.IsTupleIter it a i) where
  mem:=by simp
  obj:=fun i h st b hb=>by
    have e:b=it:=by simpa using hb
    subst e
    obtain⟨o,e,c,d⟩:=st
    exact⟨o,e,fun v z=>by rw [d] at z;cases z⟩
  keep:=fun i h h' st k=>st.at fun o e=>k it (by simp) o e
  item:=by
    intro X hP hw hK hc i pins s σ H E I hf st hg
    subst hP hw hK
    obtain⟨xs,x,hq,hx⟩:=hg
    obtain⟨its,rv,p,hz⟩:=I.tuple hq
    obtain⟨u,hu,ru⟩:=rv.get hx
    obtain⟨f0,f1,f2,f3,f4,f5⟩:=hf it (by simp)
    refine wpAny_pyNext_tuple_item st (show s.heap.IsTuple a its.toArray from p) (x:=u) (by simpa using hu) fun h' st' sb=>?_
    have I1:ax X pins σ H {s with heap:=h'}:=I.turned (t':=s.toks) (fun b o hb e=>(sb.2 b hb).trans e) f0 f1 f3 f4 f5
    obtain⟨o,e,c,d⟩:=id st'
    exact⟨u,rfl,qJ (s:={s with heap:=h'}) e c d (by decide) ⟨x,H,I1,ru,⟨rfl,fun ys hy=>by rw [I.tuple_inj hy hq];exact hx⟩,st',fun b hb=>(hf b hb).1⟩⟩
  done:=by
    intro X hP hw hK hc i pins s σ H E I hf st hg
    subst hP hw hK
    obtain⟨xs,hq,hx⟩:=hg
    obtain⟨its,rv,p,hz⟩:=I.tuple hq
    obtain⟨f0,f1,f2,f3,f4,f5⟩:=hf it (by simp)
    have hl:=rv.length
    exact wpAny_pyNext_tuple_end (I.ok.hd hc) st (show s.heap.IsTuple a its.toArray from p) (by simp;lia) fun h' eb=>⟨rfl,I.turned (t':=s.toks) (fun b o hb e=>eb b o hb e) f0 f1 f3 f4 f5⟩
  self:=fun _ _ _ _ _ st h=>wpAny_pyIter_tupleiter st h
theorem nV{P:Program}{w:World}{K:PySem.W.Frag}{tg:Expr}(it:Addr)(lo:Int)(n:Nat):sY P w K tg (zF lo n) [it] it (fun i h=>IsRangeIter h it (lo+(i:Nat)*1) ((n:Int) - (i:Nat)) 1) where
  mem:=by simp
  obj:=fun i h st b hb=>by
    have e:b=it:=by simpa using hb
    subst e
    exact⟨_,st,fun v z=>by
      have z':Data.fields _=Data.cell v:=z
      cases z'⟩
  keep:=fun i h h' st k=>k it (by simp) _ st
  item:=by
    intro X hP hw hK hc i pins s σ H E I hf st hg
    subst hP hw hK
    obtain⟨f0,f1,f2,f3,f4,f5⟩:=hf it (by simp)
    have W:=Walks.range (prog:=X.prog) (w:=X.w) (I.ok.hd hc) it lo 1 n
    refine W.item i s _ _ hg st fun v h' tk hv st' kk=>?_
    obtain⟨t,rfl⟩:=hv
    have I1:ax X pins σ H {s with heap:=h',toks:=tk}:=I.turned (fun b o hb e=>kk b o (by simpa using hb) e) f0 f1 f3 f4 f5
    refine⟨_,rfl,qJ (s:={s with heap:=h',toks:=tk}) (n:="range_iterator") st' rfl rfl (by decide) ⟨.int (lo+i),H,I1,⟨t,?_⟩,⟨rfl,rfl⟩,st',fun b hb=>(hf b hb).1⟩⟩
    rw [Int.mul_one]
  done:=by
    intro X hP hw hK hc i pins s σ H E I hf st hg
    subst hP hw hK
    obtain⟨f0,f1,f2,f3,f4,f5⟩:=hf it (by simp)
    exact wpAny_pyNext_range_end (I.ok.hd hc) st (by have:n≤i:=hg;lia) fun h' eb=>⟨rfl,I.turned (t':=s.toks) (fun b o hb e=>eb b o hb e) f0 f1 f3 f4 f5⟩
  self:=fun _ _ _ _ _ st h=>wpAny_pyIter_rangeiter st h
end L2
namespace L2
open PySem PySem.Spec PyProof.Rows
section
variable{X:Cx}{tg:Expr}
def vw(K:PySem.W.Frag)(tl:TE):TI:=fun σ H R=>tl σ H fun x H1=>∃a,x=.ref a∧(∃xs,eM K H1 a xs)∧R (zW K a) H1
def yC(K:PySem.W.Frag)(tl:TE):TI:=fun σ H R=>tl σ H fun x H1=>∃a,x=.ref a∧(∃xs,dm K H1 a xs)∧R (zX K a) H1
theorem uq{l:Expr}{tl:TE}(hl:PE X l tl):PI X tg l (vw X.K tl):=by
  intro pins s σ H R I h
  refine bV (hl pins s σ H _ I h) fun v s1 ⟨x,H1,I1,r1,q1⟩=>?_
  obtain⟨a,e,⟨xs,hq⟩,q⟩:=q1
  subst e
  cases r1
  obtain⟨its,rv,p,hz⟩:=I1.list hq
  refine wpAny_pyIter_list p.isList ?_
  refine⟨s1.heap.objs.size,[s1.heap.objs.size],_,_,H1,rfl,I1.kept (t':=s1.toks) fun b o e=>Heap.get?_push_of_some _ e,pT a _,⟨_,Heap.get?_push_size _ rfl,rfl,rfl⟩,fun b hb=>?_,q⟩
  have e:b=s1.heap.objs.size:=by simpa using hb
  subst e
  exact I1.fpOk (Nat.le_refl _) (I1.hok.fresh (Nat.le_refl _))
theorem xj{l:Expr}{tl:TE}(hl:PE X l tl):PI X tg l (yC X.K tl):=by
  intro pins s σ H R I h
  refine bV (hl pins s σ H _ I h) fun v s1 ⟨x,H1,I1,r1,q1⟩=>?_
  obtain⟨a,e,⟨xs,hq⟩,q⟩:=q1
  subst e
  cases r1
  obtain⟨its,rv,p,hz⟩:=I1.tuple hq
  refine wpAny_pyIter_tuple (show s1.heap.IsTuple a its.toArray from p) ?_
  refine⟨s1.heap.objs.size,[s1.heap.objs.size],_,_,H1,rfl,I1.kept (t':=s1.toks) fun b o e=>Heap.get?_push_of_some _ e,nW a _,⟨_,Heap.get?_push_size _ rfl,rfl,rfl⟩,fun b hb=>?_,q⟩
  have e:b=s1.heap.objs.size:=by simpa using hb
  subst e
  exact I1.fpOk (Nat.le_refl _) (I1.hok.fresh (Nat.le_refl _))
theorem rY{pins:List (Addr × Obj)}{σ:St}{H:Hp}{s:Shared}{R:It→Hp→Prop}{E:Value→Shared→Prop}{lo hi:Int}{t u v:Tok}{tk:Nat}(I:ax X pins σ H s)(h1: -(2 ^ 62)≤lo)(h2:lo < 2 ^ 62)(h3: -(2 ^ 62)≤hi)(h4:hi < 2 ^ 62)
    (q:R (zF lo (hi - lo).toNat) H):wpAny (model X.prog X.w) X.A (pyIter (.ref s.heap.objs.size)) (AQ X pins σ tg R) E {s with heap:=s.heap.push {cls:=.type "range",data:=.fields #[.int lo t,.int hi u,.int 1 v]},toks:=tk}:=by
  refine wpAny_pyIter_range (IsRange.new ..) (small_one h1 h2 h3 h4) ?_
  have I1:ax X pins σ H {s with heap:=s.heap.push {cls:=.type "range",data:=.fields #[.int lo t,.int hi u,.int 1 v]},toks:=tk}:=I.kept fun b o e=>Heap.get?_push_of_some _ e
  refine⟨(s.heap.push {cls:=.type "range",data:=.fields #[.int lo t,.int hi u,.int 1 v]}).objs.size,[(s.heap.push {cls:=.type "range",data:=.fields #[.int lo t,.int hi u,.int 1 v]}).objs.size],_,_,H,rfl,
    I1.kept (t':=tk) fun b o e=>Heap.get?_push_of_some _ e,nV _ lo (hi - lo).toNat,?_,fun b hb=>?_,q⟩
  · have e1:lo+((0:Nat):Int)*1=lo:=by simp
    have e2:(((hi - lo).toNat:Nat):Int) - ((0:Nat):Int)=Builtin.Range.rangeSize lo hi 1:=by rw [rangeSize_one];split<;>lia
    show IsRangeIter _ _ (lo+((0:Nat):Int)*1) ((((hi - lo).toNat:Nat):Int) - ((0:Nat):Int)) 1
    rw [e1,e2]
    exact Heap.get?_push_size _ rfl
  · have e:b=(s.heap.push {cls:=.type "range",data:=.fields #[.int lo t,.int hi u,.int 1 v]}).objs.size:=by simpa using hb
    subst e
    exact I1.fpOk (Nat.le_refl _) (I1.hok.fresh (Nat.le_refl _))
def yB(ta:TA):TI:=fun σ H R=>ta σ H fun vs H1=>∃j:Int,vs=[.int j]∧ -(2 ^ 62)≤j∧j < 2 ^ 62∧R (zF 0 j.toNat) H1
theorem pG{a:Expr}{ta:TA}{p pos:Pos}(hg:Gl X "range")(hm:X.mg "range"=none)(ha:PA X [a] ta)(hs:starEach [a] X.env=[(false,eval a X.env)]:=by rfl):PI X tg (.Call (.Name "range" p) [a] [] pos) (yB ta):=by
  intro pins s σ H R I h
  refine Call_ (lN I hg hm boot_range (PyProof.Rows.callWith_type1 (bV (ha pos pins s σ H _ I h) fun us s1 ⟨vs,H1,I1,r1,q1⟩=>?_) hs rfl))
  obtain⟨j,e,q1,q2,q⟩:=q1
  subst e
  cases r1 with
  | cons r rr=>
    cases rr
    obtain⟨t,rfl⟩:=r
    exact call_range_1 (rY I1 (by lia) (by lia) q1 q2 (by simpa using q))
def AE(wi:TI)(g:TG)(tb:TS):TS:=fun D σ H=>wi σ H fun J H1=>∃W:Nat→Nat→St→Hp→Prop,(∃m,W 0 m σ H1)∧∀i m σ H,W i m σ H→
  (J.stop i H∧D.nx σ H)∨(J.go i H∧∃N:St→Hp→Prop,(∀σ' H',N σ' H'→∃m',m' < m∧W (i+1) m' σ' H')∧∀x H',J.yld i H x H'→g x σ H' fun σ2 H2=>tb {D with nx:=N,ct:=N,bk:=D.nx} σ2 H2)
def jU(fp:List Addr)(h:Heap):List (Addr × Obj):=fp.filterMap fun b=>(h.get? b).map fun o=>(b,o)
theorem eB{fp:List Addr}{h:Heap}{b:Addr}{o:Obj}(hb:b∈fp)(e:h.get? b=some o):(b,o)∈jU fp h:=List.mem_filterMap.mpr ⟨b,hb,by rw [e];rfl⟩
theorem pz{fp:List Addr}{h:Heap}{p:Addr × Obj}(hp:p∈jU fp h):p.1∈fp∧h.get? p.1=some p.2:=by
  obtain⟨b,hb,e⟩:=List.mem_filterMap.mp hp
  cases q:h.get? b with
  | none=>rw [q] at e;cases e
  | some o=>
    rw [q] at e
    have e':(b,o)=p:=Option.some.inj e
    subst e'
    exact⟨hb,q⟩
theorem ax.pinned{pins:List (Addr × Obj)}{σ:St}{H:Hp}{s:Shared}{fp:List Addr}(I:ax X pins σ H s)(hf:∀b∈fp,l8 X pins H b)(ho:∀b∈fp,∃o,s.heap.get? b=some o∧∀v,o.data≠.cell v):ax X (pins++jU fp s.heap) σ H s:=
  I.pins_of fun p hp=>(List.mem_append.mp hp).elim (fun z=>I.pin p (List.mem_append_right _ z)) fun z=>by
    obtain⟨hb,e⟩:=pz z
    obtain⟨f0,f1,f2,_⟩:=hf p.1 hb
    obtain⟨o,e',d⟩:=ho p.1 hb
    rw [e] at e';cases e'
    exact⟨e,f0,f1,f2,d⟩
theorem ax.unpinned{pins pl:List (Addr × Obj)}{σ:St}{H:Hp}{s:Shared}(I:ax X (pins++pl) σ H s):ax X pins σ H s:=I.pins_of fun p hp=>I.pin p (List.mem_append_right _ (List.mem_append_left _ hp))
theorem xl{iter:Expr}{body:List Stmt}{wi:TI}{g:TG}{tb:TS}{pos:Pos}(hp:PassesOwn (model X.prog X.w) X.A X.env X.xe)(hc:X.calm=true)(hi:PI X tg iter wi)(hg:PG X tg g)(hb:gL X body tb)
    (hs:∀x,foldedSetIterable iter X.env x=pure x:=by intro _;rfl):PS X (.For tg iter body [] pos) (AE wi g tb):=by
  intro pins s σ H D I h
  refine wpAny_For (bV (hi pins s σ H _ I h) fun v s1 h1=>bV h1 fun itv s2 h2=>?_) hs
  obtain⟨it,fp,tn,J,H2,e,I2,T,st2,f2,W,⟨m0,w0⟩,turn⟩:=h2
  subst e
  have stat:∀{H':Hp},(∀b∈fp,H' b=none)→∀b∈fp,l8 X pins H' b:=fun hn b hb=>⟨hn b hb,(f2 b hb).2⟩
  refine codeAny_forLoop_any (fun n s'=>∃i σ' H',ax X pins σ' H' s'∧tn i s'.heap∧(∀b∈fp,H' b=none)∧W i n σ' H') ?_ m0 ⟨0,σ,H2,I2,st2,fun b hb=>(f2 b hb).1,w0⟩
  rintro n s3 ⟨i,σ3,H3,I3,st3,fr3,w3⟩
  rcases turn i n σ3 H3 w3 with ⟨stop,qn⟩ | ⟨go,N,hN,step⟩
  · refine wpAny_passesOwn hp (bV (T.done X rfl rfl rfl hc i pins s3 σ3 H3 X.xe I3 (stat fr3) st3 stop) fun r s4 ⟨hr,I4⟩=>?_)
    subst hr
    exact wpAny_execs_nil ⟨σ3,H3,I4,qn⟩
  · refine wpAny_passesOwn hp (bV (T.item X rfl rfl rfl hc i pins s3 σ3 H3 X.xe I3 (stat fr3) st3 go) fun r s4 ⟨u,hr,h4⟩=>?_)
    subst hr
    refine wpAny_passesOwn hp (bV h4 fun _ s5 ⟨x,H5,I5,r5,y5,st5,fr5⟩=>?_)
    have I5':=I5.pinned (stat fr5) (T.obj _ _ st5)
    refine wpAny_passesOwn hp (bV (hg _ s5 σ3 H5 x u _ I5' r5 (step x H5 y5)) fun _ s6 ⟨σ6,H6,I6,q6⟩=>?_)
    refine wpAny_passesOwn hp (bV (hb _ s6 σ6 H6 _ I6 q6) fun f s7 q7=>?_)
    have again:∀{σ7:St} {H7:Hp},ax X (pins++jU fp s5.heap) σ7 H7 s7→N σ7 H7→∃m,m < n∧∃i σ' H',ax X pins σ' H' s7∧tn i s7.heap∧(∀b∈fp,H' b=none)∧W i m σ' H':=fun{σ7 H7} I7 n7=>by
      obtain⟨m',hm,w7⟩:=hN σ7 H7 n7
      refine⟨m',hm,i+1,σ7,H7,I7.unpinned,T.keep _ _ _ st5 fun b hb o e=>(I7.pin (b,o) (List.mem_append_right _ (List.mem_append_right _ (eB hb e)))).1,fun b hb=>?_,w7⟩
      obtain⟨o,e,d⟩:=T.obj _ _ st5 b hb
      exact(I7.pin (b,o) (List.mem_append_right _ (List.mem_append_right _ (eB hb e)))).2.1
    cases f with
    | next=>obtain⟨σ7,H7,I7,n7⟩:=q7;exact again I7 n7
    | cont=>obtain⟨σ7,H7,I7,n7⟩:=q7;exact again I7 n7
    | brk=>obtain⟨σ7,H7,I7,q7⟩:=q7;exact⟨σ7,H7,I7.unpinned,q7⟩
    | ret v=>obtain⟨x7,σ7,H7,I7,r7,q7⟩:=q7;exact⟨x7,σ7,H7,I7.unpinned,r7,q7⟩
end
end L2
namespace L2
open PySem PySem.Spec PyProof.Rows
abbrev R2:=V→V→Hp→VK→Prop
def dJ(X:Cx)(f:Value→Value→Sem Value)(r:R2):Prop:=
  ∀(pins:List (Addr × Obj)) (s:Shared) (σ:St) (H:Hp) (x y:V) (v u:Value) (Q:VK),ax X pins σ H s→aZ x v→aZ y u→r x y H Q→
    wpAny (model X.prog X.w) X.A (f v u) (EP X pins σ Q) X.xe s
def zJ(X:Cx)(f:Value→Sem Value)(r:V→Hp→VK→Prop):Prop:=
  ∀(pins:List (Addr × Obj)) (s:Shared) (σ:St) (H:Hp) (x:V) (v:Value) (Q:VK),ax X pins σ H s→aZ x v→r x H Q→
    wpAny (model X.prog X.w) X.A (f v) (EP X pins σ Q) X.xe s
def dh(X:Cx)(f:Value)(r:List V→Hp→VK→Prop):Prop:=
  ∀(pins:List (Addr × Obj)) (s:Shared) (σ:St) (H:Hp) (xs:List V) (us:List Value) (Q:VK),ax X pins σ H s→aM xs us→r xs H Q→
    wpAny (model X.prog X.w) X.A (call f us) (EP X pins σ Q) X.xe s
def xO(r:R2)(ta tb:TE):TE:=fun σ H Q=>ta σ H fun x H1=>tb σ H1 fun y H2=>r x y H2 Q
def A9(r:V→Hp→VK→Prop)(ta:TE):TE:=fun σ H Q=>ta σ H fun x H1=>r x H1 Q
def rI(C:Int→Int→Prop)(g:Int→Int→V):R2:=fun x y H Q=>∃i j,x=.int i∧y=.int j∧C i j∧Q (g i j) H
def nQ(g:Int→Int→V):R2:=fun x y H Q=>∃i j,x=.int i∧y=.int j∧Q (g i j) H
def rU(g:Int→V):V→Hp→VK→Prop:=fun x H Q=>∃i,x=.int i∧Q (g i) H
section
variable{X:Cx}{a b c:Expr}{ta tb tc:TE}{pos:Pos}
theorem vV(ha:PE X a ta)(hb:PE X b tb){pins:List (Addr × Obj)}{s:Shared}{σ:St}{H:Hp}{R:V→V→Hp→Prop}(I:ax X pins σ H s)
    (h:ta σ H fun x H1=>tb σ H1 fun y H2=>R x y H2){Q:Value→Shared→Prop}{f:Value→Value→Sem Value}
    (hf:∀v u s2 x y H2,ax X pins σ H2 s2→aZ x v→aZ y u→R x y H2→wpAny (model X.prog X.w) X.A (f v u) Q X.xe s2):
    wpAny (model X.prog X.w) X.A (eval a X.env) (fun v s₁=>wpAny (model X.prog X.w) X.A (eval b X.env) (fun u s₂=>wpAny (model X.prog X.w) X.A (f v u) Q X.xe s₂) X.xe s₁) X.xe s:=by
  refine bV (ha pins s σ H _ I h) fun v s1 ⟨x,H1,I1,r1,q1⟩=>?_
  refine bV (hb pins s1 σ H1 _ I1 q1) fun u s2 ⟨y,H2,I2,r2,q2⟩=>?_
  exact hf v u s2 x y H2 I2 r1 r2 q2
theorem vE{op:Operator}{r:R2}(ho:dJ X (binaryOp op) r)(ha:PE X a ta)(hb:PE X b tb):PE X (.BinOp a op b pos) (xO r ta tb):=by
  intro pins s σ H Q I h
  exact wpAny_BinOp (vV ha hb I h fun v u s2 x y H2 I2 rx ry q=>ho pins s2 σ H2 x y v u Q I2 rx ry q)
theorem yY{op:UnaryOp}{r:V→Hp→VK→Prop}(ho:zJ X (unaryOp op) r)(ha:PE X a ta):PE X (.UnaryOp op a pos) (A9 r ta):=by
  intro pins s σ H Q I h
  exact UnaryOp_ (bV (ha pins s σ H _ I h) fun v s1 ⟨x,H1,I1,r1,q1⟩=>ho pins s1 σ H1 x v Q I1 r1 q1)
theorem yQ{f:Value→Value→Sem Value}{C:Int→Int→Prop}{g:Int→Int→Int}
    (rule:∀(i j:Int) (t u:Tok) (s:Shared) (Q:Value→Shared→Prop) (E:Value→Shared→Prop),C i j→Q (.int (g i j) s.toks) {s with toks:=s.toks+1}→wpAny (model X.prog X.w) X.A (f (.int i t) (.int j u)) Q E s):
    dJ X f (rI C fun i j=>.int (g i j)):=by
  intro pins s σ H x y v u Q I rx ry h
  obtain⟨i,j,rfl,rfl,hc,q⟩:=h
  obtain⟨t,rfl⟩:=rx
  obtain⟨t',rfl⟩:=ry
  exact rule i j t t' s _ _ hc ⟨.int (g i j),H,I.tok _,⟨_,rfl⟩,q⟩
theorem yR{f:Value→Value→Sem Value}{g:Int→Int→Int}
    (rule:∀(i j:Int) (t u:Tok) (s:Shared) (Q:Value→Shared→Prop) (E:Value→Shared→Prop),Q (.int (g i j) s.toks) {s with toks:=s.toks+1}→wpAny (model X.prog X.w) X.A (f (.int i t) (.int j u)) Q E s):
    dJ X f (nQ fun i j=>.int (g i j)):=by
  intro pins s σ H x y v u Q I rx ry h
  obtain⟨i,j,rfl,rfl,q⟩:=h
  obtain⟨t,rfl⟩:=rx
  obtain⟨t',rfl⟩:=ry
  exact rule i j t t' s _ _ ⟨.int (g i j),H,I.tok _,⟨_,rfl⟩,q⟩
theorem ua{f:Value→Value→Sem Value}{g:Int→Int→Bool}
    (rule:∀(i j:Int) (t u:Tok) (s:Shared) (Q:Value→Shared→Prop) (E:Value→Shared→Prop),Q (.bool (g i j)) s→wpAny (model X.prog X.w) X.A (f (.int i t) (.int j u)) Q E s):
    dJ X f (nQ fun i j=>.bl (g i j)):=by
  intro pins s σ H x y v u Q I rx ry h
  obtain⟨i,j,rfl,rfl,q⟩:=h
  obtain⟨t,rfl⟩:=rx
  obtain⟨t',rfl⟩:=ry
  exact rule i j t t' s _ _ ⟨.bl (g i j),H,I,rfl,q⟩
def vO(i j:Int):Prop:=0≤j∧j≤1000000∧i.natAbs < 2 ^ 64
def sT(i j:Int):Prop:=(-(2 ^ 64) < i∧i < 2 ^ 64)∨(-(2 ^ 64) < j∧j < 2 ^ 64)
theorem sT.ok{i j:Int}(h:sT i j):IntMulOk i j:=by
  rcases h with ⟨h1,h2⟩ | ⟨h1,h2⟩
  · exact .of_left (intBits_le_64 h1 h2)
  · exact .of_right (intBits_le_64 h1 h2)
theorem wN:dJ X (binaryOp .Add) (nQ fun i j=>.int (i+j)):=yR fun _ _ _ _ _ _ _ q=>add_int q
theorem wZ:dJ X (binaryOp .Sub) (nQ fun i j=>.int (i - j)):=yR fun _ _ _ _ _ _ _ q=>sub_int q
theorem wV:dJ X (binaryOp .Mult) (rI sT fun i j=>.int (i*j)):=yQ fun _ _ _ _ _ _ _ hc q=>mul_int q hc.ok
theorem uf:dJ X (binaryOp .Mod) (rI (fun _ j=>j≠0) fun i j=>.int (i.fmod j)):=yQ fun _ _ _ _ _ _ _ hc q=>mod_int' hc q
theorem wX:dJ X (binaryOp .Pow) (rI vO fun i j=>.int (i ^ j.toNat)):=yQ fun _ _ _ _ _ _ _ hc q=>pow_int_small hc.1 hc.2.1 hc.2.2 q
theorem Bz{f:Value→Sem Value}{g:Int→Int}
    (rule:∀(i:Int) (t:Tok) (s:Shared) (Q:Value→Shared→Prop) (E:Value→Shared→Prop),Q (.int (g i) s.toks) {s with toks:=s.toks+1}→wpAny (model X.prog X.w) X.A (f (.int i t)) Q E s):
    zJ X f (rU fun i=>.int (g i)):=by
  intro pins s σ H x v Q I rx h
  obtain⟨i,rfl,q⟩:=h
  obtain⟨t,rfl⟩:=rx
  exact rule i t s _ _ ⟨.int (g i),H,I.tok _,⟨_,rfl⟩,q⟩
theorem xW:zJ X (unaryOp .USub) (rU fun i=>.int (-i)):=Bz fun _ _ _ _ _ q=>neg_int q
end
section
variable{X:Cx}{a b c:Expr}{ta tb tc:TE}{pos:Pos}
theorem we{pins:List (Addr × Obj)}{σ:St}{H:Hp}{s:Shared}{Q:VK}{k k':Bool}(I:ax X pins σ H s)(q:Q (.bl k) H)(e:k=k'):EP X pins σ Q (.bool k') s:=by
  subst e
  exact⟨.bl k,H,I,rfl,q⟩
theorem yV:dJ X (compareOp .Lt) (nQ fun i j=>.bl (decide (i < j))):=ua fun _ _ _ _ _ _ _ q=>lt_int q
theorem yU:dJ X (compareOp .LtE) (nQ fun i j=>.bl (decide (i≤j))):=ua fun _ _ _ _ _ _ _ q=>le_int q
theorem yT:dJ X (compareOp .Gt) (nQ fun i j=>.bl (decide (j < i))):=ua fun _ _ _ _ _ _ _ q=>gt_int q
theorem yS:dJ X (compareOp .GtE) (nQ fun i j=>.bl (decide (j≤i))):=ua fun _ _ _ _ _ _ _ q=>ge_int q
theorem wU:dJ X (compareOp .Is) (fun x y H Q=>y=.non∧Q (.bl (decide (x=.non))) H):=by
  intro pins s σ H x y v u Q I rx ry h
  obtain⟨rfl,q⟩:=h
  cases ry
  refine is_none_gen (we I q ?_)
  cases x<;>first
    | (cases rx;rfl)
    | (obtain⟨t,rfl⟩:=rx;rfl)
theorem dJ.or{f:Value→Value→Sem Value}{r r':R2}(h:dJ X f r)(h':dJ X f r'):dJ X f (fun x y H Q=>r x y H Q∨r' x y H Q):=by
  intro pins s σ H x y v u Q I rx ry q
  rcases q with q | q
  · exact h pins s σ H x y v u Q I rx ry q
  · exact h' pins s σ H x y v u Q I rx ry q
theorem bc(b:Expr){op:CmpOp}(h:op≠.In:=by decide)(h2:op≠.NotIn:=by decide):behindInMarks op b=false:=by
  have e1:(op==CmpOp.In)=false:=by cases op<;>first | rfl | exact absurd rfl h
  have e2:(op==CmpOp.NotIn)=false:=by cases op<;>first | rfl | exact absurd rfl h2
  cases b<;>simp [behindInMarks,e1,e2]
theorem ov{op:CmpOp}{r:R2}(ho:dJ X (compareOp op) r)(ha:PE X a ta)(hb:PE X b tb)(hm:behindInMarks op b=false):PE X (.Compare a [op] [b] pos) (xO r ta tb):=by
  intro pins s σ H Q I h
  exact wpAny_Compare1 (vV ha hb I h fun v u s2 x y H2 I2 rx ry q=>ho pins s2 σ H2 x y v u Q I2 rx ry q) hm
def zx(t:TE):TT:=fun σ H Q=>t σ H fun x H'=>∃k,x=.bl k∧Q k H'
theorem uA{op:CmpOp}{r:R2}(ho:dJ X (compareOp op) r)(ha:PE X a ta)(hb:PE X b tb)(hm:behindInMarks op b=false):PT X (.Compare a [op] [b] pos) (zx (xO r ta tb)):=by
  intro pins s σ H Q I h
  refine wpAny_isTrue_Compare1 (bV (ha pins s σ H _ I h) fun v s1 ⟨x,H1,I1,r1,q1⟩=>bV (hb pins s1 σ H1 _ I1 q1) fun u s2 ⟨y,H2,I2,r2,q2⟩=>
    bV (ho pins s2 σ H2 x y v u _ I2 r1 r2 q2) fun c s3 ⟨z,H3,I3,r3,k,e,q3⟩=>?_) hm
  subst e
  cases r3
  exact wpAny_truthy_bool ⟨H3,I3,q3⟩
def sr(r r':R2)(ta tb tc:TE):TE:=fun σ H Q=>ta σ H fun x H1=>tb σ H1 fun y H2=>r x y H2 fun z H3=>∃k,z=.bl k∧
  (if k=true then tc σ H3 fun w' H4=>r' y w' H4 Q else Q (.bl false) H3)
theorem ro{op op':CmpOp}{r r':R2}(ho:dJ X (compareOp op) r)(ho':dJ X (compareOp op') r')(ha:PE X a ta)(hb:PE X b tb)(hc:PE X c tc)
    (hm:lastMarks [op,op'] [b,c]=false:=by with_unfolding_all rfl):PE X (.Compare a [op,op'] [b,c] pos) (sr r r' ta tb tc):=by
  intro pins s σ H Q I h
  refine Compare_chain (bV (ha pins s σ H _ I h) fun v s1 ⟨x,H1,I1,r1,q1⟩=>chain_link (bV (hb pins s1 σ H1 _ I1 q1) fun u s2 ⟨y,H2,I2,r2,q2⟩=>
    bV (ho pins s2 σ H2 x y v u _ I2 r1 r2 q2) fun d s3 ⟨z,H3,I3,r3,k,e,q3⟩=>?_)) hm
  subst e
  cases r3
  refine wpAny_truthy_bool ?_
  cases k with
  | false=>exact ite_ff ⟨.bl false,H3,I3,rfl,q3⟩
  | true=>exact ite_tt (chain_last (bV (hc pins s3 σ H3 _ I3 q3) fun w' s4 ⟨z',H4,I4,r4,q4⟩=>ho' pins s4 σ H4 y z' u w' Q I4 r2 r4 q4))
theorem nF:(sizeLine:Nat) < 2 ^ 63:=by rw [sizeLine_eq];decide
theorem mW{x:V}{us:List Value}(r:aM [x] us):∃u,us=[u]∧aZ x u:=by
  cases r with
  | cons r1 r2=>cases r2;exact⟨_,rfl,r1⟩
theorem vN{x y:V}{us:List Value}(r:aM [x,y] us):∃u w',us=[u,w']∧aZ x u∧aZ y w':=by
  cases r with
  | cons r1 r2=>
    cases r2 with
    | cons r3 r4=>cases r4;exact⟨_,_,rfl,r1,r3⟩
theorem qb:dh X (.builtin "abs") (fun xs H Q=>∃i,xs=[.int i]∧Q (.int (if i < 0 then -i else i)) H):=by
  intro pins s σ H xs us Q I r h
  obtain⟨i,rfl,q⟩:=h
  obtain⟨u,rfl,t,rfl⟩:=mW r
  exact call_abs_int fun u tk=>⟨.int (if i < 0 then -i else i),H,I.tok _,⟨_,rfl⟩,q⟩
theorem oV(hc:X.calm=true):dh X (.builtin "max") (fun xs H Q=>∃i j,xs=[.int i,.int j]∧Q (.int (if j > i then j else i)) H):=by
  intro pins s σ H xs us Q I r h
  obtain⟨i,j,rfl,q⟩:=h
  obtain⟨u,w',rfl,⟨t,rfl⟩,⟨t',rfl⟩⟩:=vN r
  refine max_two_ints (I.ok.hd hc) fun h' tk k=>⟨_,H,I.kept k,?_,q⟩
  by_cases hj:j > i
  · rw [if_pos hj,if_pos hj];exact⟨_,rfl⟩
  · rw [if_neg hj,if_neg hj];exact⟨_,rfl⟩
theorem oW(hc:X.calm=true):dh X (.builtin "min") (fun xs H Q=>∃i j,xs=[.int i,.int j]∧Q (.int (if j < i then j else i)) H):=by
  intro pins s σ H xs us Q I r h
  obtain⟨i,j,rfl,q⟩:=h
  obtain⟨u,w',rfl,⟨t,rfl⟩,⟨t',rfl⟩⟩:=vN r
  refine min_two_ints (I.ok.hd hc) fun h' tk k=>⟨_,H,I.kept k,?_,q⟩
  by_cases hj:j < i
  · rw [if_pos hj,if_pos hj];exact⟨_,rfl⟩
  · rw [if_neg hj,if_neg hj];exact⟨_,rfl⟩
theorem oU:dh X (.type "int") (fun xs H Q=>(∃i,xs=[.int i]∧Q (.int i) H)∨∃k,xs=[.bl k]∧Q (.int (if k then 1 else 0)) H):=by
  intro pins s σ H xs us Q I r h
  rcases h with ⟨i,rfl,q⟩ | ⟨k,rfl,q⟩
  · obtain⟨u,rfl,t,rfl⟩:=mW r
    exact call_int_int ⟨.int i,H,I,⟨_,rfl⟩,q⟩
  · obtain⟨u,rfl,r1⟩:=mW r
    cases r1
    exact call_int_bool ⟨.int (if k then 1 else 0),H,I.tok _,⟨_,rfl⟩,q⟩
end
end L2
namespace L2
open PySem PySem.Spec PyProof.Rows
structure Bh (h:Heap) (x dx C:Addr) (mA:Str→Option Value):Prop where
  obj:h.get? x=some (PySem.W.instObj C dx)
  ns:h.Ns1 dx mA
  ne:dx≠x
section
variable{prog:Program}{w:World}{A:Around}{E:Value→Shared→Prop}{s:Shared}{K:PySem.W.Frag}{x dx C f:Addr}{mA:Str→Option Value}{name:Str}{v:Value}
end
section
variable{P:Program}{w:World}{H H':Hp}{h h':Heap}{a C dx:Addr}{fs fs':List (Str × V)}
end
structure Bb (K:PySem.W.Frag) (C:Addr):Prop where
  pg:PySem.W.plainGet K C Str.empty=true
  hd:PySem.W.hasDictIn K C=true
  po:PySem.W.plainOver K C=true
  sa:PySem.W.findIn K (.ref C) "__setattr__"=some (some (.builtin "object.__setattr__"))
structure BA (K:PySem.W.Frag) (C:Addr) (f:Str) (v:V) (u:Value):Prop where
  at_:PySem.W.findIn K (.ref C) f=some (some u)
  rel:aZ v u
  get:PySem.W.specialIn K u "__get__"=some none
  cp:PySem.W.copiedNames.contains f=false
structure Bg (K:PySem.W.Frag) (C:Addr) (m:Str) (f:Addr):Prop where
  at_:PySem.W.findIn K (.ref C) m=some (some (.ref f))
  fn:PySem.W.isFn K (.ref f)=true
  kp:PySem.W.keepIn K (.ref f)=true
section
variable{X:Cx}{pins:List (Addr × Obj)}{σ:St}{H:Hp}{s:Shared}{a C dx:Addr}{fs:List (Str × V)}{f:Str}{v:V}{A:Around}{E:Value→Shared→Prop}
end
section
variable{X:Cx}{o e value:Expr}{f:Str}{pos pos' tpos:Pos}{ta tv:TE}
end
section
variable{X:Cx}{pins:List (Addr × Obj)}{σ:St}{H:Hp}{s:Shared}{A:Around}{E:Value→Shared→Prop}{Q:Value→Shared→Prop}{c:Value}{b:Bool}
inductive jn (K:PySem.W.Frag) (H:Hp):V→Value→Prop where
  | non:jn K H .non (.type "NoneType")
  | bl (x:Bool):jn K H (.bl x) (.type "bool")
  | int (i:Int):jn K H (.int i) (.type "int")
  | str (x:Str):jn K H (.str x) (.type "str")
  | flt (x:UInt64):jn K H (.flt x) (.type "float")
  | lst {a:Addr} {xs:List V} (e:H a=some (.lst xs)):jn K H (.ref a) (.type "list")
  | frz {a:Addr} {o:Obj} {xs:List V} (e:H a=some (.frz o (.lst xs))):jn K H (.ref a) (.type "list")
  | tup {a:Addr} {xs:List V} (e:H a=some (.tup xs)):jn K H (.ref a) (.type "tuple")
  | dK {a:Addr} {kvs:List (iS × V)} (e:H a=some (.dK kvs)):jn K H (.ref a) (.type "dict")
  | dT {a:Addr} {kvs:List (List iS × V)} (e:H a=some (.dT kvs)):jn K H (.ref a) (.type "dict")
  | ins {a C dx:Addr} {fs:List (Str × V)} (e:H a=some (.ins C dx fs)) (cl:Bb K C) (ha:PySem.W.findIn K (.ref C) "__class__"=some (some (.builtin "object.__class__")))
      (hn:PySem.W.specialIn K (.builtin "object.__class__") "__get__"=some (some (.builtin "getset_descriptor.__get__"))) (htk:PySem.W.takesIn K (.builtin "object.__class__")=some true)
      (hm:PySem.W.mroIn K C (.type "object")=some true):jn K H (.ref a) (.ref C)
end
end L2
namespace L2
open PySem PySem.Spec PyProof.Rows
structure cf (k:Nat) (A:Around):Prop where
  hd:A.handled=none
  dp:A.depth+3*k+5 < recursionLimit
  un:A.units+16*k+200 < cLine
  gd:A.guards=some []
theorem cf.mono{j k:Nat}{A:Around}(r:cf k A)(h:j≤k):cf j A:=⟨r.hd,by have:=r.dp;lia,by have:=r.un;lia,r.gd⟩
theorem cf.deeper{k:Nat}{A:Around}(r:cf (k+1) A)(env:Env):cf k (A.deeper env):=
  ⟨r.hd,by have:=r.dp;show A.depth+1+3*k+5 < _;lia,by have:=r.un;show A.units+3+16*k+200 < _;lia,r.gd⟩
theorem cf.depth{k:Nat}{A:Around}(r:cf k A):A.depth < recursionLimit:=by have:=r.dp;lia
theorem cf.units{k:Nat}{A:Around}(r:cf k A):A.units+64 < cLine:=by have:=r.un;lia
def su:TA:=fun _ H Q=>Q [] H
def ip(ta:TE)(tr:TA):TA:=fun σ H Q=>ta σ H fun x H1=>tr σ H1 fun xs H2=>Q (x::xs) H2
section
variable{X:Cx}{e:Expr}{es:List Expr}{te:TE}{t:TA}{pos:Pos}
theorem eC:PA X [] su:=fun _ _ _ _ H Q I h=>Calls.spliced_nil ⟨[],H,I,.nil,h⟩
theorem aS(ha:PE X e te)(hr:PA X es t)(hs:starEach (e::es) X.env=(false,eval e X.env)::starEach es X.env:=by rfl):PA X (e::es) (ip te t):=by
  intro pos pins s σ H Q I h
  rw [hs]
  show wpAny _ _ (spliced ((false,eval e X.env)::backTo pos (starEach es X.env))) _ _ s
  refine Calls.spliced_cons (bV (ha pins s σ H _ I h) fun u s1 ⟨x,H1,I1,r1,q1⟩=>?_)
  exact bV (hr pos pins s1 σ H1 _ I1 q1) fun us s2 ⟨xs,H2,I2,r2,q2⟩=>⟨x::xs,H2,I2,.cons r1 r2,q2⟩
def zy(t:TA):TE:=fun σ H Q=>t σ H fun xs H1=>xs.length≤sizeLine∧∀p,H1 p=none→Q (.ref p) (bP H1 p (.tup xs))
def xN(t:TA):TE:=fun σ H Q=>t σ H fun xs H1=>xs.length≤sizeLine∧∀p,H1 p=none→Q (.ref p) (bP H1 p (.lst xs))
theorem xh{x1}(h:PA X es t):PE X (.Tuple es x1 pos) (zy t):=by
  intro pins s σ H Q I hq
  refine wpAny_Tuple_spliced (bV (h pos pins s σ H _ I hq) fun us s1 ⟨xs,H1,I1,r,z,q⟩=>⟨by rw [←r.length];exact z,?_⟩)
  have hf:H1 s1.heap.objs.size=none:=I1.hok.fresh (Nat.le_refl _)
  refine⟨.ref s1.heap.objs.size,bP H1 s1.heap.objs.size (.tup xs),I1.laid (t':=s1.toks) (fun b u e=>Heap.get?_push_of_some _ e) (Nat.le_refl _) ?_,rfl,q _ hf⟩
  exact⟨z,us,r,⟨_,Heap.get?_push_size _ rfl,rfl,_,rfl,rfl⟩⟩
theorem lW(h:PA X es t):PE X (.List es pos) (xN t):=by
  intro pins s σ H Q I hq
  refine wpAny_List_spliced (bV (h pos pins s σ H _ I hq) fun us s1 ⟨xs,H1,I1,r,z,q⟩=>⟨by rw [←r.length];exact z,?_⟩)
  have hf:H1 s1.heap.objs.size=none:=I1.hok.fresh (Nat.le_refl _)
  refine⟨.ref s1.heap.objs.size,bP H1 s1.heap.objs.size (.lst xs),I1.laid (t':=s1.toks) (fun b u e=>Heap.get?_push_of_some _ e) (Nat.le_refl _) ?_,rfl,q _ hf⟩
  exact⟨z,us,0,r,Heap.get?_push_size _ rfl⟩
end
abbrev Sp:=List V→Hp→VK→XK→Prop
abbrev mX:=List Env→Hp→Shared→XK→Value→Shared→Prop
structure sU (P:Program) (w:World) (K:PySem.W.Frag) (mg:Str→Option Value) (base:Heap) (A:Around) (outer:List Env) (s:Shared) (H:Hp):Prop where
  frames:A.frames=some outer
  mod:Mod K mg base
  bs:∀b o,base.get? b=some o→s.heap.get? b=some o∧H b=none
  bsz:base.objs.size≤s.heap.objs.size
  funs:s.heap.FunFrames base outer
  frf:∀b∈iu outer,H b=none
  hok:i6 P w H s.heap
  bare:AllBare s.gens
def CE(outer:List Env)(P:Program)(w:World)(H:Hp)(s:Shared)(Q:VK)(u:Value)(s':Shared):Prop:=
  ∃v H',s'.os=s.os∧AllBare s'.gens∧Un (iu outer) [] H H' s.heap s'.heap∧i6 P w H' s'.heap∧aZ v u∧Q v H'
def CR(CX:mX)(outer:List Env)(P:Program)(w:World)(H:Hp)(s:Shared)(Q:VK)(E:XK)(r:Result)(s':Shared):Prop:=
  match r with
  | .ok (.ret u)=>CE outer P w H s Q u s'
  | .ok _=>False
  | .error e=>CX outer H s E e s'
structure az (P:Program) (w:World) (K:PySem.W.Frag) (mg:Str→Option Value) (base:Heap) (CX:mX) (k:Nat) (f:Addr) (fd:FuncData) (ps:List Str) (sp:Sp):Prop where
  len:∀vs H Q E,sp vs H Q E→vs.length=ps.length
  run:∀(A:Around) (outer:List Env) (s:Shared) (H:Hp) (args:Args) (us:List Value) (vs:List V) (Q:VK) (E:XK),cf k A→sU P w K mg base A outer s H→BindsTo s fd args (ps.zip us)→aM vs us→sp vs H Q E→
    codeAny (model P w) A (.call (.ref f) args) (CR CX outer P w H s Q E) s
section
variable{X:Cx}{pins:List (Addr × Obj)}{σ:St}{H:Hp}{s s':Shared}
theorem ax.env0(I:ax X pins σ H s):sU X.prog X.w X.K X.mg X.base X.A X.stack s H:=
  ⟨I.ok.frames,I.ok.mod,I.bs,Nat.le_trans I.ok.bsz I.sz,I.stack,I.stkFree,I.hok,I.bare⟩
theorem ax.after{Q:VK}{u:Value}(I:ax X pins σ H s)(h:CE X.stack X.prog X.w H s Q u s'):EP X pins σ Q u s':=by
  obtain⟨v,H',os,bare,un,hok,r,q⟩:=h
  obtain⟨hh,g,d,t,os'⟩:=s'
  obtain rfl:os'=s.os:=os
  exact⟨v,H',I.call (h':=hh) (g':=g) (d':=d) (t':=t) (ch:=[]) un hok bare (fun b z=>absurd z (by simp)),r,q⟩
end
def oK(sp:Sp)(dvs:List V)(E:XK)(t:TA):TE:=fun σ H Q=>t σ H fun vs H1=>sp (vs++dvs) H1 Q E
def jm(K:PySem.W.Frag)(fd:FuncData)(ps:List Str)(ds:List Value):Prop:=
  ∀(s:Shared) (us:List Value),K.In s.heap→(us++ds).length=ps.length→BindsTo s fd ⟨us,[]⟩ (ps.zip (us++ds))
theorem jm.all{K:PySem.W.Frag}{fd:FuncData}{ps:List Str}(h:∀us:List Value,us.length=ps.length→bindArgs fd ⟨us,[]⟩=pure (ps.zip us)):jm K fd ps []:=fun s us _ hl=>by
  rw [List.append_nil] at hl ⊢
  exact .of_eq (h us hl)
def m4(CX:mX)(X:Cx)(E:XK):Prop:=∀(pins:List (Addr × Obj)) (σ:St) (H:Hp) (s:Shared) (e:Value) (s':Shared),ax X pins σ H s→CX X.stack H s E e s'→X.xe e s'
section
variable{X:Cx}{CX:mX}{k:Nat}{f C:Addr}{fd:FuncData}{ps:List Str}{sp:Sp}{dvs:List V}{ds:List Value}{E:XK}{x m:Str}{p pos apos:Pos}{e o:Expr}{es:List Expr}{ta:TE}{t:TA}
theorem xF{pins:List (Addr × Obj)}{σ:St}{H:Hp}{s:Shared}{Q:VK}{us:List Value}{vs:List V}(F:az X.prog X.w X.K X.mg X.base CX k f fd ps sp)(hr:cf k X.A)(hb:jm X.K fd ps ds)(hd:aM dvs ds)(hx:m4 CX X E)
    (I:ax X pins σ H s)(r:aM vs us)(h:sp (vs++dvs) H Q E):wpAny (model X.prog X.w) X.A (call (.ref f) us) (EP X pins σ Q) X.xe s:=by
  have r2:aM (vs++dvs) (us++ds):=r.append hd
  have hl:(us++ds).length=ps.length:=by rw [←r2.length];exact F.len _ _ _ _ h
  refine wpAny_call (codeAny_mono (F.run X.A X.stack s H ⟨us,[]⟩ (us++ds) (vs++dvs) Q E hr I.env0 (hb s us I.kIn hl) r2 h) fun r s' hq=>?_)
  cases r with
  | error e=>exact hx pins σ H s e s' I hq
  | ok fl=>
    cases fl with
    | ret u=>exact I.after hq
    | next=>exact False.elim hq
    | brk=>exact False.elim hq
    | cont=>exact False.elim hq
theorem ou(F:az X.prog X.w X.K X.mg X.base CX k f fd ps sp)(hr:cf k X.A)(hg:Gl X x)(hm:X.mg x=some (.ref f))(hk:PySem.W.keepIn X.K (.ref f)=true)(hb:jm X.K fd ps ds)(hd:aM dvs ds)(hx:m4 CX X E)
    (ha:PA X (e::es) t)(hdb:(x==("__debug__":Str))=false:=by decide)(he:starEach (e::es) X.env=(false,eval e X.env)::starEach es X.env:=by rfl)(hpl:(backTo pos (starEach es X.env)).any (·.1)=false:=by rfl):
    PE X (.Call (.Name x p) (e::es) [] pos) (oK sp dvs E t):=by
  intro pins s σ H Q I h
  refine wpAny_Call_Name_kw (gZ I hg hm ?_ hdb)
  refine PySem.W.callWith_K (h₀:=X.base) I.ok.mod.kin hk (bV (ha pos pins s σ H _ I h) fun us s1 ⟨vs,H1,I1,r,q⟩=>⟨I1.kIn,?_⟩) he hpl
  exact xF F hr hb hd hx I1 r q
structure Mk (K:PySem.W.Frag) (C f:Addr):Prop where
  makes:PySem.W.makesIn K C=true
  init:PySem.W.findIn K (.ref C) "__init__"=some (some (.ref f))
  fn:PySem.W.isFn K (.ref f)=true
  kp:PySem.W.keepIn K (.ref C)=true
end
section
variable{X:Cx}{CX:mX}{k:Nat}{f C:Addr}{fd:FuncData}{ps ks:List Str}{sp:Sp}{E:XK}{x m:Str}{p pos apos kpos:Pos}{e o:Expr}{es:List Expr}{kws:List Keyword}{te ta:TE}{t tk:TA}{nm:Option Str}
structure zY (K:PySem.W.Frag) (fd:FuncData) (ps ks:List Str) (g:List Value→List Value→List Value) (gV:List V→List V→List V):Prop where
  to:∀(s:Shared) (us ws:List Value),K.In s.heap→(g us ws).length=ps.length→BindsTo s fd ⟨us,ks.zip ws⟩ (ps.zip (g us ws))
  rel:∀{vs:List V} {us:List Value} {zs:List V} {ws:List Value},aM vs us→aM zs ws→aM (gV vs zs) (g us ws)
variable{g:List Value→List Value→List Value}{gV:List V→List V→List V}
end
structure av (N P:List Str) (sc:Scope):Prop where
  kind:sc.kind=.function
  co:sc.isCoroutine=false
  gen:sc.isGenerator=false
  nd:N.Nodup
  pre:N.take P.length=P
  par:∀x∈P,sc.names.lookup x=some .local∨sc.names.lookup x=some .cell
  nofree:∀y∈sc.names,y.2≠.free
theorem kz{kindOf:Str→Option NameKind}{x:Str}:∀{binds:List (Str × Value)} {m:Str→Option Value},(∀v,(x,v)∉binds)→bindL kindOf binds m x=m x
  | [],_,_=>rfl
  | (n,v)::r,m,h=>by
    unfold bindL
    rw [kz fun w hw=>h w (List.mem_cons_of_mem _ hw)]
    split
    · have:x≠n:=by rintro rfl;exact h v List.mem_cons_self
      simp [this]
    · rfl
theorem ku{kindOf:Str→Option NameKind}{x:Str}:∀{binds:List (Str × Value)} {m:Str→Option Value},(∀v,(x,v)∉binds)→bindC kindOf binds m x=m x
  | [],_,_=>rfl
  | (n,v)::r,m,h=>by
    unfold bindC
    rw [ku fun w hw=>h w (List.mem_cons_of_mem _ hw)]
    split
    · rfl
    · have:x≠n:=by rintro rfl;exact h v List.mem_cons_self
      simp [this]
theorem ky{kindOf:Str→Option NameKind}{x:Str}{v:Value}:∀{P:List Str} {vs:List Value} {i:Nat} {m:Str→Option Value},P.Nodup→P[i]?=some x→vs[i]?=some v→kindOf x=some .local→
    bindL kindOf (P.zip vs) m x=some v
  | [],_,_,_,_,h,_,_=>by simp at h
  | _::_,[],_,_,_,_,h,_=>by simp at h
  | p::P,w::vs,0,m,nd,h1,h2,hk=>by
    simp at h1 h2;subst h1;subst h2
    show bindL kindOf ((p,w)::P.zip vs) m p=_
    unfold bindL
    rw [kz fun v hv=>(List.nodup_cons.mp nd).1 (List.of_mem_zip hv).1,if_pos hk]
    simp
  | p::P,w::vs,i+1,m,nd,h1,h2,hk=>by
    show bindL kindOf ((p,w)::P.zip vs) m x=_
    unfold bindL
    exact ky (i:=i) (List.nodup_cons.mp nd).2 (by simpa using h1) (by simpa using h2) hk
theorem kr{kindOf:Str→Option NameKind}{x:Str}{v:Value}:∀{P:List Str} {vs:List Value} {i:Nat} {m:Str→Option Value},P.Nodup→P[i]?=some x→vs[i]?=some v→kindOf x≠some .local→
    bindC kindOf (P.zip vs) m x=some v
  | [],_,_,_,_,h,_,_=>by simp at h
  | _::_,[],_,_,_,_,h,_=>by simp at h
  | p::P,w::vs,0,m,nd,h1,h2,hk=>by
    simp at h1 h2;subst h1;subst h2
    show bindC kindOf ((p,w)::P.zip vs) m p=_
    unfold bindC
    rw [ku fun v hv=>(List.nodup_cons.mp nd).1 (List.of_mem_zip hv).1,if_neg hk]
    simp
  | p::P,w::vs,i+1,m,nd,h1,h2,hk=>by
    show bindC kindOf ((p,w)::P.zip vs) m x=_
    unfold bindC
    exact kr (i:=i) (List.nodup_cons.mp nd).2 (by simpa using h1) (by simpa using h2) hk
def dH(N:List Str)(vs:List V):St:=vs.map some++List.replicate (N.length - vs.length) none
def i7(CX:mX)(P:Program)(w:World)(K:PySem.W.Frag)(mg:Str→Option Value)(base:Heap)(N:List Str)(qual:Str)(scope:Scope)(f:Addr)(cd:Value)(A:Around)(outer:List Env)(s:Shared)(H:Hp)(E:XK):Cx where
  prog:=P
  w:=w
  K:=K
  mg:=mg
  base:=base
  A:=A.deeper (envOfC qual scope s.heap.objs.size f cd)
  N:=N
  s₀:=s
  H₀:=H
  env:=envOfC qual scope s.heap.objs.size f cd
  outer:=outer
  stack:=envOfC qual scope s.heap.objs.size f cd::outer
  ex:=[]
  calm:=true
  fn:=fun _=>true
  pn:=[]
  xe:=fun e s'=>wpAny (model P w) (A.deeper (envOfC qual scope s.heap.objs.size f cd)) (leaving (envOfC qual scope s.heap.objs.size f cd) e) (fun _ s''=>CX outer H s E e s'') (fun e' s''=>CX outer H s E e' s'') s'
theorem mf{sc:Scope}{n:Nat}{x:Str}(h:sc.names.lookup x=some .cell):∃c,(cellsFrom n sc.names []).lookup x=some c:=by
  have q:=PySem.W.cellsFrom_some sc.names n [] (.inl h)
  exact Option.isSome_iff_exists.mp q
theorem pk{CX:mX}{P:Program}{w:World}{K:PySem.W.Frag}{mg:Str→Option Value}{base:Heap}{N ps:List Str}{qual:Str}{scope:Scope}{f:Addr}{cd:Value}{A:Around}{outer:List Env}{s s1:Shared}{H:Hp}{E:XK}{us:List Value}{vs:List V}
    (S:av N ps scope)(hd:A.handled=none)(e0:sU P w K mg base A outer s H)(hl:vs.length=ps.length)(r:aM vs us)
    (x:InCallC s s.heap.objs.size (bindL (envOfC qual scope s.heap.objs.size f cd).kindOf (ps.zip us) fun _=>none) (cellsFrom (s.heap.objs.size+1) scope.names []) (bindC (envOfC qual scope s.heap.objs.size f cd).kindOf (ps.zip us) fun _=>none) s1):
    ax (i7 CX P w K mg base N qual scope f cd A outer s H E) [] (dH N vs) H s1:=by
  have hpl:ps.length≤N.length:=by have:=congrArg List.length S.pre;rw [List.length_take] at this;lia
  obtain⟨h1,tk,rfl,hk⟩:=x.done
  have noA:∀b:Addr,b∉(i7 CX P w K mg base N qual scope f cd A outer s H E).ex:=fun b z=>absurd (show b∈([]:List Addr) from z) (by simp)
  refine⟨⟨e0.mod,S.kind,rfl,rfl,Nat.le_refl _,fun y z c h1 h2=>?_,fun y hy=>?_,fun y c _ h=>?_,fun _=>hd,Around.frames_deeper e0.frames,.inr ⟨rfl,rfl⟩,fun b z=>absurd z (noA b),e0.bs,e0.bsz,fun b _ _=>noA b,fun b z=>absurd z (noA b),e0.funs,e0.frf⟩,
    rfl,e0.bare,Un.kept hk,⟨_,x.toInCall.ns,fun i y v h1 h2 h3=>?_⟩,fun y c h=>⟨_,x.cell y c h⟩,e0.hok.fresh (Nat.le_refl _),fun y c h=>?_,fun p hp=>absurd (show p∈([]:List (Addr × Obj)) from hp) (by simp),e0.hok.kept hk,?_⟩
  · exact name_of_addr x.apart (PySem.mem_of_lookup h1) (PySem.mem_of_lookup h2)
  · have hy:scope.names.lookup y=some .cell∨scope.names.lookup y=some .free:=hy
    rcases hy with hy | hy
    · exact mf hy
    · exact absurd rfl (S.nofree _ (PySem.mem_of_lookup hy))
  · exact Nat.le_of_lt (x.above y c (PySem.mem_of_lookup h))
  · have hi:i < vs.length:=by
      unfold dH at h2
      by_cases hi:i < vs.length
      · exact hi
      · rw [List.getElem?_append_right (by simpa using hi)] at h2
        rw [List.getElem?_replicate] at h2
        split at h2<;>cases h2
    have ha:vs[i]?=some v:=by
      unfold dH at h2
      rw [List.getElem?_append_left (by simpa using hi),List.getElem?_map] at h2
      cases e:vs[i]? with
      | none=>rw [e] at h2;cases h2
      | some a=>rw [e] at h2;cases h2;rfl
    obtain⟨u,hu,rv⟩:=r.get ha
    have hp:ps[i]?=some y:=by
      rw [←S.pre,List.getElem?_take_of_lt (by lia)];exact h1
    have ndP:ps.Nodup:=by rw [←S.pre];exact S.nd.sublist (List.take_sublist _ _)
    refine⟨u,rv,?_⟩
    rcases S.par y (List.mem_of_getElem? hp) with k | k
    · exact .inl ⟨k,ky ndP hp hu k⟩
    · obtain⟨c,e⟩:=mf (n:=s.heap.objs.size+1) k
      refine .inr ⟨.inl k,c,e,?_⟩
      have q:=x.cell y c e
      rw [kr ndP hp hu (by show scope.names.lookup y≠_;rw [k];decide)] at q
      exact q
  · exact e0.hok.fresh (Nat.le_of_lt (x.above y c (PySem.mem_of_lookup h)))
  · unfold dH
    show _=N.length
    rw [List.length_append,List.length_map,List.length_replicate]
    lia
theorem vp{CX:mX}{P:Program}{w:World}{K:PySem.W.Frag}{mg:Str→Option Value}{base:Heap}{k:Nat}{f:Addr}{name qual:Str}{params:Arguments}{body:List Stmt}{scope:Scope}{dV kV doc pm cdv ct oc:Value}{an od:Option Addr}
    {osl:Array (Option Value)}{N ps:List Str}{sp:Sp}(lk:K.lookup f=some ⟨oc,od,.func (PySem.W.fnOf name qual params body scope dV kV doc pm an cdv ct),osl⟩)(hcd:PySem.W.codeIn K cdv qual=true)(S:av N ps scope)
    (len:∀vs H Q E,sp vs H Q E→vs.length=ps.length)
    (hbody:∀(A:Around) (outer:List Env) (s:Shared) (H:Hp) (vs:List V) (Q:VK) (E:XK),cf k (A.deeper (envOfC qual scope s.heap.objs.size f cdv))→sp vs H Q E→
      ∃t,gL (i7 CX P w K mg base N qual scope f cdv A outer s H E) body t∧t {nx:=fun _ H'=>Q .non H',rt:=Q} (dH N vs) H):
    az P w K mg base CX (k+1) f (PySem.W.fnOf name qual params body scope dV kV doc pm an cdv ct) ps sp:=by
  refine⟨len,fun A outer s H args us vs Q E hr e0 hb r hsp=>?_⟩
  have hl:=len _ _ _ _ hsp
  have KX:K.In s.heap:=e0.mod.kin.keeps fun b o e=>(e0.bs b o e).1
  have lim:s.heap.NoLimit:=e0.mod.nolimit.keeps fun b o e=>(e0.bs b o e).1
  have hkind:∀y∈ps.zip us,scope.names.lookup y.1=some .local∨(scope.names.lookup y.1=some .cell∧((cellsFrom (s.heap.objs.size+1) scope.names []).lookup y.1).isSome=true):=fun⟨n,v⟩ hy=>by
    rcases S.par n (List.of_mem_zip hy).1 with q | q
    · exact .inl q
    · exact .inr ⟨q,PySem.W.cellsFrom_some _ _ _ (.inl q)⟩
  refine codeAny_call_function hr.depth (KX _ _ lk) rfl S.co S.gen rfl (PySem.W.codeRec_of KX hcd) (hb _ _ _ _ ?_)
  refine wpAny_newFunctionEnv_cells S.kind hkind fun env he s1 x=>?_
  subst he
  refine⟨lim.keeps x.toInCall.keep,codeAny_func ?_⟩
  obtain⟨t,ht,hq⟩:=hbody A outer s H vs Q E (hr.deeper _) hsp
  have I:ax (i7 CX P w K mg base N qual scope f cdv A outer s H E) [] (dH N vs) H s1:=pk S hr.hd e0 hl r x
  refine wpAny_mono (ht [] s1 (dH N vs) H _ I hq) (fun fl s' hs=>?_) fun e s' hs=>hs
  have fin:∀{σ':St} {H':Hp} {v:V} {u:Value},ax (i7 CX P w K mg base N qual scope f cdv A outer s H E) [] σ' H' s'→aZ v u→Q v H'→CE outer P w H s Q u s':=
    fun{σ' H' v u} J rv q=>⟨v,H',J.os,J.bare,J.base,J.hok,rv,q⟩
  cases fl with
  | ret u=>
    obtain⟨v,σ',H',J,rv,q⟩:=hs
    exact fin J rv q
  | next=>
    obtain⟨σ',H',J,q⟩:=hs
    exact fin (v:=V.non) (u:=Value.none) J rfl q
  | brk=>
    obtain⟨_,_,_,q⟩:=hs
    exact False.elim q
  | cont=>
    obtain⟨_,_,_,q⟩:=hs
    exact False.elim q
end L2
namespace L2
open PySem PySem.Spec PyProof.Rows
section
variable{X:Cx}{x:Str}{p pos:Pos}{e:Expr}{es:List Expr}{t:TA}{id T:String}{r:List V→Hp→VK→Prop}
def AC(r:List V→Hp→VK→Prop)(t:TA):TE:=fun σ H Q=>t σ H fun vs H1=>r vs H1 Q
theorem jT(hc:dh X (.builtin id) r)(hg:Gl X x)(hm:X.mg x=none)(hv:bootBuiltins x=some (.builtin id))(ha:PA X (e::es) t)(hn:x≠"__name__":=by decide)(hdb:(x==("__debug__":Str))=false:=by decide)
    (he:starEach (e::es) X.env=(false,eval e X.env)::starEach es X.env:=by rfl)(hpl:(backTo pos (starEach es X.env)).any (·.1)=false:=by rfl):PE X (.Call (.Name x p) (e::es) [] pos) (AC r t):=by
  intro pins s σ H Q I h
  refine wpAny_Call_Name_kw (lN I hg hm hv ?_ hn hdb)
  exact PyProof.Rows.callWith_builtin1 (bV (ha pos pins s σ H _ I h) fun us s1 ⟨vs,H1,I1,r1,q1⟩=>hc pins s1 σ H1 vs us Q I1 r1 q1) he hpl
theorem pE(hc:dh X (.type T) r)(hg:Gl X x)(hm:X.mg x=none)(hv:bootBuiltins x=some (.type T))(ha:PA X (e::es) t)(hn:x≠"__name__":=by decide)(hdb:(x==("__debug__":Str))=false:=by decide)
    (he:starEach (e::es) X.env=(false,eval e X.env)::starEach es X.env:=by rfl)(hpl:(backTo pos (starEach es X.env)).any (·.1)=false:=by rfl):PE X (.Call (.Name x p) (e::es) [] pos) (AC r t):=by
  intro pins s σ H Q I h
  refine wpAny_Call_Name_kw (lN I hg hm hv ?_ hn hdb)
  exact PyProof.Rows.callWith_type1 (bV (ha pos pins s σ H _ I h) fun us s1 ⟨vs,H1,I1,r1,q1⟩=>hc pins s1 σ H1 vs us Q I1 r1 q1) he hpl
end
end L2
namespace HT
open PySem PyProof.Rows
section
open PySem.SeqAt
open PySem.AutoSeq1 (wpAny_loadPart')
open PySem.MeetsSeq PySem.MeetsSeq2 PySem.MeetsSeq3
end
section
variable{prog:Program}{w:World}{A:Around}{E:Value→Shared→Prop}{s:Shared}
theorem cat_tup{t b:Addr}{vs ws:List Value}{Q:Value→Shared→Prop}(ht:IsTup s.heap t vs.toArray)(hb:IsTup s.heap b ws.toArray)(hv:vs≠[])
    (h1:ws=[]→Q (.ref t) s)(h2:ws≠[]→Q (.ref s.heap.objs.size) {s with heap:=s.heap.push {cls:=.type "tuple",data:=.seq (vs++ws).toArray}})
    (hsz:vs.length+ws.length≤sizeLine):wpAny (model prog w) A (binaryOp .Add (.ref t) (.ref b)) Q E s:=by
  obtain⟨⟨cls,dd,data,sl⟩,ho,hc,n,hd⟩:=id ht
  obtain⟨⟨cls2,dd2,data2,sl2⟩,ho2,hc2,n2,hd2⟩:=id hb
  simp only at hc hd hc2 hd2
  subst hc hd hc2 hd2
  have e:vs.toArray++ws.toArray=(vs++ws).toArray:=by simp
  by_cases hw:ws=[]
  · exact concat_meets ⟨_,ho,rfl⟩ ⟨_,ho2,rfl⟩ noFill_tuple_add seq_tuple_add PySem.F.slot_tuple_add PySem.F.entry_tuple_add (PySem.F.args_tuple_add_2 _ _)
      (tuple_addW1 t b vs.toArray ws.toArray n n2 dd dd2 sl sl2 (by simpa using hv) (by simp [hw])) ⟨ho,ho2,h1 hw⟩
  · refine concat_meets ⟨_,ho,rfl⟩ ⟨_,ho2,rfl⟩ noFill_tuple_add seq_tuple_add PySem.F.slot_tuple_add PySem.F.entry_tuple_add (PySem.F.args_tuple_add_2 _ _)
      (tuple_addW2 t b vs.toArray ws.toArray n n2 dd dd2 sl sl2 (by simpa using hv) (by simpa using hw) (by rw [List.size_toArray,List.size_toArray];exact hsz)) ⟨ho,ho2,?_⟩
    rw [e]
    exact h2 hw
def sIx(n d:Nat):Option Int→Nat
  | none=>d
  | some v=>if v < 0 then(v+(n:Int)).toNat else min v.toNat n
theorem sIx_none(n d:Nat):sIx n d none=d:=rfl
theorem sIx_nat(n d k:Nat):sIx n d (some (k:Int))=min k n:=by
  show(if (k:Int) < 0 then((k:Int)+(n:Int)).toNat else min (k:Int).toNat n)=min k n
  rw [if_neg (by lia),Int.toNat_natCast]
theorem xG(n d:Nat)(hd:d≤n)(o:Option Int):sIx n d o≤n:=by
  cases o with
  | none=>exact hd
  | some v=>
    show(if v < 0 then(v+(n:Int)).toNat else min v.toNat n)≤n
    by_cases hv:v < 0
    · rw [if_pos hv];lia
    · rw [if_neg hv];exact Nat.min_le_right _ _
theorem ol(v:Int)(n d:Nat):(if v < 0 then max (v+(n:Int)) 0 else min v (n:Int))=((sIx n d (some v):Nat):Int):=by
  show(if v < 0 then max (v+(n:Int)) 0 else min v (n:Int))=(((if v < 0 then(v+(n:Int)).toNat else min v.toNat n):Nat):Int)
  by_cases hv:v < 0
  · simp only [if_pos hv];lia
  · simp only [if_neg hv];lia
theorem m5(lo hi:Option Int)(n:Nat):Builtin.Slice.sliceAdjust lo hi 1 (n:Int)=(((sIx n 0 lo:Nat):Int),((sIx n n hi:Nat):Int)):=by
  have h1:¬((1:Int) < 0):=by lia
  unfold Builtin.Slice.sliceAdjust
  simp only [h1,if_false]
  refine Prod.ext ?_ ?_
  · cases lo with
    | none=>rfl
    | some v=>exact ol v n 0
  · cases hi with
    | none=>rfl
    | some v=>exact ol v n n
theorem nM(i j:Nat):Builtin.Slice.slicePlaces (i:Int) (j:Int) 1=j - i:=by
  unfold Builtin.Slice.slicePlaces
  have h1:(1:Int) > 0:=by lia
  simp only [h1,if_true,Int.ediv_one]
  split<;>lia
theorem j8{v:Value}{o:Option Int}{Q:Option Int→Shared→Prop}(p:IsPart v o)(h:Q o s):wpAny (model prog w) A (Builtin.Slice.slicePartIndex v) Q E s:=by
  cases p with
  | none=>exact slicePart_none h
  | int i t=>exact slicePart_int h
theorem et{sl:Addr}{vl vu:Value}{lo hi:Option Int}{n:Nat}{Q:Int × Int × Nat→Shared→Prop}(hs:s.heap.IsSliceOf sl vl vu .none)(pl:IsPart vl lo)(pu:IsPart vu hi)
    (h:Q (((sIx n 0 lo:Nat):Int),1,sIx n n hi - sIx n 0 lo) s):wpAny (model prog w) A (Builtin.Slice.sliceApplied (.ref sl) (pure (n:Int))) Q E s:=by
  obtain⟨os,hos,hcs,hds⟩:=id hs
  unfold Builtin.Slice.sliceApplied Builtin.Slice.sliceFields
  refine wpAny_bind (wpAny_bind (wpAny_field hos hds (x:=vl) rfl (wpAny_bind (wpAny_field hos hds (x:=vu) rfl (wpAny_bind (wpAny_field hos hds (x:=.none) rfl (wpAny_pure ?_)))))))
  refine wpAny_bind (slicePart_none ?_)
  show wpAny _ _ (if ((1:Int)==0)=true then _ else _) _ _ s
  rw [if_neg (by decide)]
  refine wpAny_bind (j8 pl (wpAny_bind (j8 pu (wpAny_bind (wpAny_pure ?_)))))
  show wpAny _ _ (match Builtin.Slice.sliceAdjust lo hi 1 (n:Int) with | (lo,hi)=>pure (lo,(1:Int),Builtin.Slice.slicePlaces lo hi 1)) _ _ s
  rw [m5 lo hi n]
  show wpAny _ _ (pure (((sIx n 0 lo:Nat):Int),(1:Int),Builtin.Slice.slicePlaces ((sIx n 0 lo:Nat):Int) ((sIx n n hi:Nat):Int) 1)) _ _ s
  rw [nM]
  exact wpAny_pure h
theorem rC(xs:Array Value)(i k:Nat):((List.range k).filterMap fun(m:Nat)=>xs[((i:Int)+(m:Int)*1).toNat]?).toArray=((xs.toList.drop i).take k).toArray:=by
  have e:(fun(m:Nat)=>xs[((i:Int)+(m:Int)*1).toNat]?)=fun m=>xs[i+m]?:=by
    funext m
    have:((i:Int)+(m:Int)*1).toNat=i+m:=by lia
    rw [this]
  rw [e]
  have:=pick_run xs i k
  rw [List.filterMap_map] at this
  have e2:((fun x=>xs[x]?) ∘ fun x=>i+x)=fun m=>xs[i+m]?:=rfl
  rw [e2] at this
  rw [this]
theorem getItem_tuple_cut{t sl:Addr}{items:Array Value}{vl vu:Value}{lo hi:Option Int}{Q:Value→Shared→Prop}(ht:IsTup s.heap t items)(hs:s.heap.IsSliceOf sl vl vu .none)(pl:IsPart vl lo)(pu:IsPart vu hi)
    (hw:¬(sIx items.size 0 lo=0∧sIx items.size items.size hi=items.size))
    (h:Q (.ref s.heap.objs.size) {s with heap:=s.heap.push {cls:=.type "tuple",data:=.seq ((items.toList.drop (sIx items.size 0 lo)).take (sIx items.size items.size hi - sIx items.size 0 lo)).toArray}})
    (hsz:items.size≤sizeLine):wpAny (model prog w) A (getItem (.ref t) (.ref sl)) Q E s:=by
  have htake:sizeOk (.seq ((items.toList.drop (sIx items.size 0 lo)).take (sIx items.size items.size hi - sIx items.size 0 lo)).toArray):=by
    show((items.toList.drop (sIx items.size 0 lo)).take (sIx items.size items.size hi - sIx items.size 0 lo)).toArray.size≤sizeLine
    rw [List.size_toArray,List.length_take,List.length_drop,Array.length_toList]
    lia
  have hj:sIx items.size items.size hi≤items.size:=xG _ _ (Nat.le_refl _) hi
  obtain⟨os,hos,hcs,hds⟩:=id hs
  have hTs:s.TypeIs (.ref sl) "slice":=⟨os,hos,hcs⟩
  unfold getItem
  try with_reducible refine wpAny_holding ?_
  first | refine wpAny_bind (wpAny_pure ?_) | skip
  refine wpAny_bind (wpAny_sequenceKey ht.typeIs (by decide) ?_)
  refine wpAny_bind (wpAny_callSpecial?_slot (name:=Str.ofString "__getitem__") ht.typeIs PyProof.Rows.slot_tuple_getitem
    (wpAny_call_entry PyProof.Rows.slot_tuple_getitem ht.typeIs entry_tuple_getitem ?_ (args_tuple_getitem _ _)))
  show wpAny _ _ (Builtin.Tuple.tupleItemsOf (.ref t) >>= _) _ _ s
  refine wpAny_bind (tupleItemsOf_ ht ?_)
  refine wpAny_bind (wpAny_typeOf hTs ?_)
  rw [if_pos (by decide)]
  refine wpAny_bind (et hs pl pu ?_)
  have hno:¬((((sIx items.size 0 lo:Nat):Int)==0&&(1:Int)==1&&(sIx items.size items.size hi - sIx items.size 0 lo)==items.size)=true):=by
    intro q
    rw [Bool.and_eq_true,Bool.and_eq_true] at q
    have q1:((sIx items.size 0 lo:Nat):Int)=0:=eq_of_beq q.1.1
    have q2:sIx items.size items.size hi - sIx items.size 0 lo=items.size:=eq_of_beq q.2
    exact hw ⟨by lia,by lia⟩
  show wpAny _ _ (if (((sIx items.size 0 lo:Nat):Int)==0&&(1:Int)==1&&(sIx items.size items.size hi - sIx items.size 0 lo)==items.size)=true then _ else _) _ _ s
  rw [if_neg hno,rC]
  first
    | exact wpAny_bind (m:=Builtin.Tuple.tupleExact _) (wpAny_newObj_type (wpAny_pure ⟨_,rfl,wpAny_pure h⟩) htake)
    | exact wpAny_bind (m:=Builtin.Tuple.tupleExact _) (wpAny_newObj_type (wpAny_bind (wpAny_pure (wpAny_pure ⟨_,rfl,wpAny_pure h⟩))) htake)
    | exact wpAny_bind (wpAny_bind (m:=Builtin.Tuple.tupleExact _) (wpAny_newObj_type (wpAny_pure (wpAny_pure ⟨_,rfl,wpAny_pure h⟩)) htake))
    | exact wpAny_bind (wpAny_bind (m:=Builtin.Tuple.tupleExact _) (wpAny_newObj_type (wpAny_pure ⟨_,rfl,wpAny_pure h⟩) htake))
end
end HT
namespace L2
open PySem PySem.Spec PyProof.Rows
abbrev TO:=St→Hp→(Option Int→Hp→Prop)→Prop
def PO(X:Cx)(e:Option Expr)(t:TO):Prop:=
  ∀(pins:List (Addr × Obj)) (s:Shared) (σ:St) (H:Hp) (Q:Option Int→Hp→Prop),ax X pins σ H s→t σ H Q→
    wpAny (model X.prog X.w) X.A (evalPart e X.env) (fun u s'=>∃o H',ax X pins σ H' s'∧IsPart u o∧Q o H') X.xe s
def uQ:TO:=fun _ H Q=>Q none H
def zv(t:TE):TO:=fun σ H Q=>t σ H fun x H1=>∃i,x=.int i∧Q (some i) H1
section
variable{X:Cx}{e:Expr}{te:TE}{lo hi:Option Expr}{tl th:TO}{pos p2:Pos}
theorem ut:PO X none uQ:=by
  intro pins s σ H Q I h
  rw [evalPart_none]
  exact wpAny_pure ⟨none,H,I,.none,h⟩
theorem uv(h:PE X e te):PO X (some e) (zv te):=by
  intro pins s σ H Q I hw
  rw [evalPart_some]
  refine bV (h pins s σ H _ I hw) fun u s1 ⟨x,H1,I1,r1,q1⟩=>?_
  obtain⟨i,rfl,q⟩:=q1
  obtain⟨t,rfl⟩:=r1
  exact⟨some i,H1,I1,.int i t,q⟩
def sX(X:Cx)(r:V→Option Int→Option Int→Hp→VK→Prop):Prop:=
  ∀(pins:List (Addr × Obj)) (s:Shared) (σ:St) (H:Hp) (x:V) (v vl vu:Value) (lo hi:Option Int) (sl:Addr) (Q:VK),ax X pins σ H s→aZ x v→s.heap.IsSliceOf sl vl vu .none→IsPart vl lo→IsPart vu hi→r x lo hi H Q→
    ∃T id,typeLookup (.type T) "__getitem__"=pure (some (.builtin id))∧s.TypeIs v T∧wpAny (model X.prog X.w) X.A (getItem v (.ref sl)) (EP X pins σ Q) X.xe s
theorem sX.or{r r':V→Option Int→Option Int→Hp→VK→Prop}(h:sX X r)(h':sX X r'):sX X (fun x lo hi H Q=>r x lo hi H Q∨r' x lo hi H Q):=by
  intro pins s σ H x v vl vu lo hi sl Q I rx hs pl pu q
  rcases q with q | q
  · exact h pins s σ H x v vl vu lo hi sl Q I rx hs pl pu q
  · exact h' pins s σ H x v vl vu lo hi sl Q I rx hs pl pu q
def By(r:V→Option Int→Option Int→Hp→VK→Prop)(te:TE)(tl th:TO):TE:=fun σ H Q=>te σ H fun x H1=>tl σ H1 fun l H2=>th σ H2 fun u H3=>r x l u H3 Q
theorem rq{r:V→Option Int→Option Int→Hp→VK→Prop}(hr:sX X r)(he:PE X e te)(hl:PO X lo tl)(hu:PO X hi th):PE X (.Subscript e (.Slice lo hi none p2) pos) (By r te tl th):=by
  intro pins s σ H Q I h
  refine Subscript_ (bV (he pins s σ H _ I h) fun v s1 ⟨x,H1,I1,r1,q1⟩=>?_)
  refine wpAny_Slice (bV (hl pins s1 σ H1 _ I1 q1) fun vl s2 ⟨l,H2,I2,pl,q2⟩=>bV (hu pins s2 σ H2 _ I2 q2) fun vu s3 ⟨u,H3,I3,pu,q3⟩=>?_)
  rw [evalPart_none]
  refine wpAny_pure ?_
  have I4:ax X pins σ H3 {s3 with heap:=s3.heap.push {cls:=.type "slice",data:=.fields #[vl,vu,.none]}}:=I3.kept (t':=s3.toks) fun b ob q=>Heap.get?_push_of_some _ q
  obtain⟨T,id,hT,ht,hg⟩:=hr pins {s3 with heap:=s3.heap.push {cls:=.type "slice",data:=.fields #[vl,vu,.none]}} σ H3 x v vl vu l u s3.heap.objs.size Q I4 r1 (Heap.IsSliceOf.new ..) pl pu q3
  show wpAny (model X.prog X.w) X.A (subscriptTail e (.Slice lo hi none p2) v (.ref s3.heap.objs.size)) (EP X pins σ Q) X.xe {s3 with heap:=s3.heap.push {cls:=.type "slice",data:=.fields #[vl,vu,.none]}}
  exact tail_any (ops:=[.ref s3.heap.objs.size,v]) ht hT hg (by with_unfolding_all rfl)
def kh(xs:List V)(lo hi:Option Int):List V:=(xs.drop (HT.sIx xs.length 0 lo)).take (HT.sIx xs.length xs.length hi - HT.sIx xs.length 0 lo)
theorem iW(xs:List V)(lo hi:Option Int):(kh xs lo hi).length≤xs.length:=by
  unfold kh
  rw [List.length_take,List.length_drop]
  lia
def za(K:PySem.W.Frag):V→Option Int→Option Int→Hp→VK→Prop:=fun x lo hi H Q=>∃a xs,x=.ref a∧dm K H a xs∧
  ¬(HT.sIx xs.length 0 lo=0∧HT.sIx xs.length xs.length hi=xs.length)∧∀p,H p=none→Q (.ref p) (bP H p (.tup (kh xs lo hi)))
theorem xI:sX X (za X.K):=by
  intro pins s σ H x v vl vu lo hi sl Q I rx hs pl pu h
  obtain⟨a,xs,rfl,hx,hw,q⟩:=h
  cases rx
  obtain⟨its,r,ht,hz⟩:=I.tuple hx
  have hlen:its.toArray.size=xs.length:=by rw [List.size_toArray];exact r.length.symm
  refine⟨"tuple",_,PyProof.Rows.slot_tuple_getitem.lookup,ht.typeIs,?_⟩
  refine HT.getItem_tuple_cut ht hs pl pu (by rw [hlen];exact hw) ?_ (by rw [hlen];exact hz)
  rw [hlen]
  refine⟨.ref s.heap.objs.size,_,I.laid (t':=s.toks) (o:=.tup (kh xs lo hi)) (fun b ob q=>Heap.get?_push_of_some _ q) (Nat.le_refl _) ?_,rfl,q _ (I.hok.fresh (Nat.le_refl _))⟩
  exact⟨Nat.le_trans (iW xs lo hi) hz,_,(r.drop (HT.sIx xs.length 0 lo)).take (HT.sIx xs.length xs.length hi - HT.sIx xs.length 0 lo),lg.new _ _⟩
def y4(K:PySem.W.Frag):R2:=fun x y H Q=>∃a b xs ys,x=.ref a∧y=.ref b∧dm K H a xs∧dm K H b ys∧xs≠[]∧xs.length+ys.length≤sizeLine∧
  (ys=[]→Q (.ref a) H)∧(ys≠[]→∀p,H p=none→Q (.ref p) (bP H p (.tup (xs++ys))))
theorem aM.nil_iff{xs:List V}{us:List Value}(r:aM xs us):us=[]↔ xs=[]:=by
  cases r with
  | nil=>simp
  | cons _ _=>simp
theorem ue:dJ X (binaryOp .Add) (y4 X.K):=by
  intro pins s σ H x y v u Q I rx ry h
  obtain⟨a,b,xs,ys,rfl,rfl,ha,hb,hx,hz,q1,q2⟩:=h
  cases rx
  cases ry
  obtain⟨its,r1,p1,_⟩:=I.tuple ha
  obtain⟨its2,r2,p2,_⟩:=I.tuple hb
  refine HT.cat_tup p1 p2 (fun z=>hx (r1.nil_iff.mp z)) (fun z=>⟨.ref a,H,I,rfl,q1 (r2.nil_iff.mp z)⟩) (fun z=>?_) (by rw [←r1.length,←r2.length];exact hz)
  refine⟨.ref s.heap.objs.size,_,I.laid (t':=s.toks) (o:=.tup (xs++ys)) (fun b ob q=>Heap.get?_push_of_some _ q) (Nat.le_refl _) ?_,rfl,q2 (fun w=>z (r2.nil_iff.mpr w)) _ (I.hok.fresh (Nat.le_refl _))⟩
  exact⟨by rw [List.length_append];exact hz,_,r1.append r2,lg.new _ _⟩
end
end L2
namespace L2
open PySem PySem.Spec PyProof.Rows
def yI(n:Nat)(i:Int):Option Nat:=if 0≤i then(if i < n then some i.toNat else none) else if -(n:Int)≤i then some (i+n).toNat else none
def atI{α:Type}(xs:List α)(i:Int):Option α:=(yI xs.length i).bind fun j=>xs[j]?
theorem tN{n:Nat}{i:Int}{j:Nat}(h:yI n i=some j):seqIndex? i n=some j∧j < n∧ -(n:Int)≤i∧i < n:=by
  unfold yI at h
  by_cases h0:0≤i
  · rw [if_pos h0] at h
    by_cases h1:i < n
    · rw [if_pos h1] at h
      have e:i.toNat=j:=Option.some.inj h
      exact⟨by rw [seqIndex_of h0 h1,e],by lia,by lia,h1⟩
    · rw [if_neg h1] at h;cases h
  · rw [if_neg h0] at h
    by_cases h1: -(n:Int)≤i
    · rw [if_pos h1] at h
      have e:(i+n).toNat=j:=Option.some.inj h
      exact⟨by rw [seqIndex_neg (by lia) h1,e],by lia,h1,by lia⟩
    · rw [if_neg h1] at h;cases h
theorem n6{α:Type}{xs:List α}{i:Int}{v:α}(h:atI xs i=some v):∃j,seqIndex? i xs.length=some j∧xs[j]?=some v∧j < xs.length∧ -(xs.length:Int)≤i∧i < xs.length:=by
  unfold atI at h
  cases e:yI xs.length i with
  | none=>rw [e] at h;cases h
  | some j=>
    rw [e] at h
    obtain⟨h1,h2,h3,h4⟩:=tN e
    exact⟨j,h1,h,h2,h3,h4⟩
def lh(b:Expr):Prop:=∀o i,subscripted b false o i=operate [o,i] (getItem o i)
def sW(X:Cx)(r:R2):Prop:=
  ∀(value slice:Expr) (pins:List (Addr × Obj)) (s:Shared) (σ:St) (H:Hp) (x y:V) (v u:Value) (Q:VK),ax X pins σ H s→aZ x v→aZ y u→r x y H Q→
    subscripted slice false v u=operate [v,u] (getItem v u)→wpAny (model X.prog X.w) X.A (subscriptTail value slice v u) (EP X pins σ Q) X.xe s
def AN(X:Cx)(id:String)(r:V→List V→Hp→VK→Prop):Prop:=
  ∀(pins:List (Addr × Obj)) (s:Shared) (σ:St) (H:Hp) (x:V) (xs:List V) (v:Value) (us:List Value) (Q:VK),ax X pins σ H s→aZ x v→aM xs us→r x xs H Q→
    wpAny (model X.prog X.w) X.A (call (.builtin id) (v::us)) (EP X pins σ Q) X.xe s
section
variable{X:Cx}{a b:Expr}{ta tb:TE}{pos:Pos}
theorem sW.or{r r':R2}(h:sW X r)(h':sW X r'):sW X (fun x y H Q=>r x y H Q∨r' x y H Q):=by
  intro value slice pins s σ H x y v u Q I rx ry q hs
  rcases q with q | q
  · exact h value slice pins s σ H x y v u Q I rx ry q hs
  · exact h' value slice pins s σ H x y v u Q I rx ry q hs
theorem yX{r:R2}(hr:sW X r)(ha:PE X a ta)(hb:PE X b tb)(hs:lh b):PE X (.Subscript a b pos) (xO r ta tb):=by
  intro pins s σ H Q I h
  exact Subscript_ (vV ha hb I h fun v u s2 x y H2 I2 rx ry q=>hr a b pins s2 σ H2 x y v u Q I2 rx ry q (hs _ _))
def y9(K:PySem.W.Frag):R2:=fun x y H Q=>∃p xs i v,x=.ref p∧y=.int i∧eM K H p xs∧atI xs i=some v∧Q v H
def y_(K:PySem.W.Frag):R2:=fun x y H Q=>∃p xs i v,x=.ref p∧y=.int i∧dm K H p xs∧atI xs i=some v∧Q v H
theorem tO:sW X (y9 X.K):=by
  intro value slice pins s σ H x y v u Q I rx ry h hs
  obtain⟨p,xs,i,z,rfl,rfl,hq,he,q⟩:=h
  cases rx
  obtain⟨t,rfl⟩:=ry
  obtain⟨its,r,pl,hz⟩:=I.list hq
  obtain⟨j,h1,h2,h3,h4,h5⟩:=n6 he
  obtain⟨w,ew,rw'⟩:=r.get h2
  have hl:=r.length
  have hn:=nF
  have fin:EP X pins σ Q w s:=⟨z,H,I,rw',q⟩
  by_cases h0:0≤i
  · have hj:i.toNat=j:=by
      rw [seqIndex_of h0 h5] at h1
      exact Option.some.inj h1
    exact item_listR pl.isList h0 (by lia) (by rw [hj];simpa using ew) fin hs
  · have hj:(i+(its.toArray.size:Int)).toNat=j:=by
      rw [seqIndex_neg (by lia) h4] at h1
      rw [List.size_toArray,←hl]
      exact Option.some.inj h1
    exact subscriptTail_builtinR (x:=w) pl.isList.typeIs slot_list_getitem.lookup
      (wpAny_getItem_list_neg (Q:=fun r s'=>r=w∧EP X pins σ Q r s') pl.isList (by lia) (by rw [List.size_toArray]<;>lia) (by lia) (by rw [hj];simpa using ew) ⟨rfl,fin⟩) hs
theorem wm:sW X (y_ X.K):=by
  intro value slice pins s σ H x y v u Q I rx ry h hs
  obtain⟨p,xs,i,z,rfl,rfl,hq,he,q⟩:=h
  cases rx
  obtain⟨t,rfl⟩:=ry
  obtain⟨its,r,pl,hz⟩:=I.tuple hq
  obtain⟨j,h1,h2,h3,h4,h5⟩:=n6 he
  obtain⟨w,ew,rw'⟩:=r.get h2
  have hl:=r.length
  have hn:=nF
  have fin:EP X pins σ Q w s:=⟨z,H,I,rw',q⟩
  exact subscriptTail_builtinR (x:=w) pl.typeIs slot_tuple_getitem.lookup
    (getItem_tuple (j:=j) (Q:=fun r s'=>r=w∧EP X pins σ Q r s') pl (by lia) (by lia) (by rw [List.size_toArray,←hl];exact h1) (by simpa using ew) ⟨rfl,fin⟩) hs
theorem l3(lo hi:Option Int)(n:Nat):(sliceBounds lo hi none n).1=((HT.sIx n 0 lo:Nat):Int)∧(sliceBounds lo hi none n).2.1=((HT.sIx n n hi:Nat):Int)∧(sliceBounds lo hi none n).2.2=1:=by
  refine⟨?_,?_,rfl⟩
  · cases lo with
    | none=>simp [sliceBounds,HT.sIx]
    | some i=>
      simp only [sliceBounds,HT.sIx,Option.getD_none,show(1:Int) > 0 by decide,if_true]
      by_cases h:i < 0
      · simp only [h,if_true]<;>lia
      · simp only [h,if_false]<;>lia
  · cases hi with
    | none=>simp [sliceBounds,HT.sIx]
    | some i=>
      simp only [sliceBounds,HT.sIx,Option.getD_none,show(1:Int) > 0 by decide,if_true]
      by_cases h:i < 0
      · simp only [h,if_true]<;>lia
      · simp only [h,if_false]<;>lia
theorem km(its:List Value)(lo hi:Option Int):slicePick its.toArray lo hi none=((its.drop (HT.sIx its.length 0 lo)).take (HT.sIx its.length its.length hi - HT.sIx its.length 0 lo)).toArray:=by
  obtain⟨h1,h2,h3⟩:=l3 lo hi its.toArray.size
  unfold slicePick
  rw [h1,h2,h3]
  simp only [sliceRange_one,pick_run,List.size_toArray]<;>rfl
def y'(K:PySem.W.Frag):V→Option Int→Option Int→Hp→VK→Prop:=fun x lo hi H Q=>∃a xs,x=.ref a∧eM K H a xs∧∀p,H p=none→Q (.ref p) (bP H p (.lst (kh xs lo hi)))
theorem uM:sX X (y' X.K):=by
  intro pins s σ H x v vl vu lo hi sl Q I rx hs pl pu h
  obtain⟨a,xs,rfl,hx,q⟩:=h
  cases rx
  obtain⟨its,r,ht,hz⟩:=I.list hx
  have hlen:=r.length
  refine⟨"list",_,slot_list_getitem.lookup,ht.isList.typeIs,?_⟩
  refine wpAny_getItem_list_slice ht.isList hs pl pu .none (by simp) ?_ (by rw [List.size_toArray]<;>lia)
  rw [km,←hlen]
  refine⟨.ref s.heap.objs.size,_,I.laid (t':=s.toks) (o:=.lst (kh xs lo hi)) (fun b ob q=>Heap.get?_push_of_some _ q) (Nat.le_refl _) ?_,rfl,q _ (I.hok.fresh (Nat.le_refl _))⟩
  exact⟨Nat.le_trans (iW xs lo hi) hz,_,0,(r.drop (HT.sIx xs.length 0 lo)).take (HT.sIx xs.length xs.length hi - HT.sIx xs.length 0 lo),Heap.get?_push_size _ rfl⟩
theorem lu:dh X (.builtin "len") (fun xs H Q=>∃p ys,xs=[.ref p]∧(eM X.K H p ys∨dm X.K H p ys)∧Q (.int ys.length) H):=by
  intro pins s σ H xs us Q I r h
  obtain⟨p,ys,rfl,hq,q⟩:=h
  obtain⟨u,rfl,rx⟩:=mW r
  cases rx
  have hn:=nF
  rcases hq with hq | hq
  · obtain⟨its,r',pl,hz⟩:=I.list hq
    have hlen:=r'.length
    exact Calls.call_len_list pl.isList (by simp only [List.size_toArray]<;>lia) ⟨.int ys.length,H,I.tok _,⟨s.toks+1,by rw [List.size_toArray,hlen]⟩,q⟩
  · obtain⟨its,r',pl,hz⟩:=I.tuple hq
    have hlen:=r'.length
    exact len_tuple pl (by simp only [List.size_toArray]<;>lia) ⟨.int ys.length,H,I.tok _,⟨s.toks+1,by rw [List.size_toArray,hlen]⟩,q⟩
theorem kg:dh X (.type "tuple") (fun xs H Q=>∃p ys,xs=[.ref p]∧((eM X.K H p ys∧∀l,H l=none→Q (.ref l) (bP H l (.tup ys)))∨(dm X.K H p ys∧Q (.ref p) H))):=by
  intro pins s σ H xs us Q I r h
  obtain⟨p,ys,rfl,h⟩:=h
  obtain⟨u,rfl,rx⟩:=mW r
  cases rx
  rcases h with ⟨hq,q⟩ | ⟨hq,q⟩
  · obtain⟨its,r',pl,hz⟩:=I.list hq
    have hlen:=r'.length
    refine call_tuple_list pl.isList (fun h' kp=>?_) (by simp only [List.size_toArray]<;>lia)
    have I1:ax X pins σ H {s with heap:=h'}:=I.kept (t':=s.toks) kp
    have I2:ax X pins σ (bP H h'.objs.size (.tup ys)) {s with heap:=h'.push {cls:=.type "tuple",data:=.seq its.toArray}}:=
      I1.laid (t':=s.toks) (fun b o e=>Heap.get?_push_of_some _ e) (Nat.le_refl _) (show cG X.prog X.w _ _ _ (.tup ys) from⟨hz,its,r',lg.new _ _⟩)
    exact⟨.ref h'.objs.size,_,I2,rfl,q _ (I1.hok.fresh (Nat.le_refl _))⟩
  · obtain⟨its,r',pl,hz⟩:=I.tuple hq
    exact call_tuple_same pl ⟨.ref p,H,I,rfl,q⟩
def A_(K:PySem.W.Frag)(T:String)(x:V)(H:Hp):Prop:=match x with
  | .str _=>T="str"
  | .int _=>T="int"
  | .ref p=>(T="list"∧∃xs,eM K H p xs)∨(T="tuple"∧∃o,K.lookup p=some o∧o.cls=.type "tuple"∧o.dict=none)∨
      (T="dict"∧((∃kvs,H p=some (.dK kvs))∨∃kvs,H p=some (.dT kvs)))∨(T="set"∧∃S n,H p=some (.set S n))
  | _=>False
theorem xV{pins:List (Addr × Obj)}{σ:St}{H:Hp}{s:Shared}{T:String}{x:V}{v:Value}(I:ax X pins σ H s)(r:aZ x v)(ty:A_ X.K T x H):
    s.TypeIs v T∧∀a,v=.ref a→∃ob,s.heap.get? a=some ob∧ob.dict=none:=by
  cases x with
  | str z=>
    obtain⟨t,rfl⟩:=r
    cases (show T="str" from ty)
    exact⟨typeIs_str s z t,fun _ e=>nomatch e⟩
  | int i=>
    obtain⟨t,rfl⟩:=r
    cases (show T="int" from ty)
    exact⟨typeIs_int s i t,fun _ e=>nomatch e⟩
  | ref p=>
    cases r
    rcases ty with ⟨rfl,xs,hq⟩ | ⟨rfl,o,hk,hc,hd⟩ | ⟨rfl,hk⟩ | ⟨rfl,S,n,hk⟩
    · obtain⟨its,_,pl,_⟩:=I.list hq
      refine⟨pl.isList.typeIs,fun a e=>?_⟩
      cases e
      obtain⟨o,n,e,c,hd,_⟩:=pl
      exact⟨o,e,hd⟩
    · refine⟨⟨o,I.kIn p o hk,hc⟩,fun a e=>?_⟩
      cases e
      exact⟨o,I.kIn _ o hk,hd⟩
    · have z:∃o,s.heap.get? p=some o∧o.ExactDict:=by
        rcases hk with ⟨kvs,hk⟩ | ⟨kvs,hk⟩
        · obtain⟨_,_,_,_,o,_,_,e,ex,_⟩:=I.hok p _ hk
          exact⟨o,e,ex⟩
        · obtain⟨_,_,_,_,o,_,_,e,ex,_⟩:=I.hok p _ hk
          exact⟨o,e,ex⟩
      obtain⟨o,e,ex⟩:=z
      refine⟨⟨o,e,ex.1⟩,fun a e2=>?_⟩
      cases e2
      exact⟨o,e,ex.2.1⟩
    · obtain⟨o,_,_,_,e,ex,_⟩:=I.hok p _ hk
      refine⟨⟨o,e,ex.1⟩,fun a e2=>?_⟩
      cases e2
      exact⟨o,e,ex.2.1⟩
  | _=>exact False.elim ty
def A0(K:PySem.W.Frag)(T:String)(r:V→List V→Hp→VK→Prop)(to:TE)(t:TA):TE:=fun σ H Q=>to σ H fun x H1=>A_ K T x H1∧t σ H1 fun xs H2=>r x xs H2 Q
variable{o e:Expr}{es:List Expr}{to:TE}{t:TA}{name:Str}{apos cpos:Pos}{T id:String}{r:V→List V→Hp→VK→Prop}
theorem yW(pa:PlainAttrs T)(slot:Slot T name id)(hty:typeOf (.builtin id)=pure (.type "method_descriptor"))(hm:AN X id r)(ho:PE X o to)(ha:PA X (e::es) t)
    (hbase:attributeBase o name X.env (eval o X.env)=eval o X.env:=by rfl)
    (hfew:((backTo cpos (starEach (e::es) X.env)).all (fun x=> !x.1)&&(backToKw cpos (keywordEach [] X.env)).all (fun x=>x.1.isSome)
      &&decide ((e::es).length+([]:List Keyword).length+(if ([]:List Keyword).isEmpty then 0 else 1) < 30))=true:=by rfl)
    (hline:(apos.endLine==cpos.line)=true:=by rfl)(hs:starEach (e::es) X.env=(false,eval e X.env)::starEach es X.env:=by rfl)(hplain:(backTo cpos (starEach es X.env)).any (·.1)=false:=by rfl):
    PE X (.Call (.Attribute o name apos) (e::es) [] cpos) (A0 X.K T r to t):=by
  intro pins s σ H Q I h
  refine wpAny_Call_method_late hbase hfew hline rfl (bV (ho pins s σ H _ I h) fun v s1 ⟨x,H1,I1,r1,ty,q1⟩=>?_)
  obtain⟨h1,h2⟩:=xV I1 r1 ty
  refine⟨T,id,pa,slot,hty,h1,h2,?_⟩
  have hA:=ha cpos pins s1 σ H1 _ I1 q1
  rw [hs] at hA ⊢
  refine Calls.callWith_builtin (by show(false || (backTo cpos (starEach es X.env)).any (·.1))=false;rw [hplain]<;>rfl) (Calls.evalArgs_plain ?_)
  exact bV hA fun us s2 ⟨vs,H2,I2,r2,q2⟩=>hm pins s2 σ H2 x vs v us Q I2 r1 r2 q2
end
end L2
namespace L2
open PySem PySem.Spec PyProof.Rows
def AM(X:Cx)(id:String)(r:V→List V→Hp→VK→Prop):Prop:=
  ∀(pins:List (Addr × Obj)) (s:Shared) (σ:St) (H:Hp) (x:V) (xs:List V) (v:Value) (us:List Value) (Q:VK),ax X pins σ H s→aZ x v→aM xs us→r x xs H Q→
    wpAny (model X.prog X.w) X.A (call (.builtin id) (v::us)) (EP X pins σ Q) X.xe s
theorem aM.one:∀{x:V} {us:List Value},aM [x] us→∃u,us=[u]∧aZ x u
  | _,_,.cons r .nil=>⟨_,rfl,r⟩
theorem aM.eraseIdx:∀{xs:List V} {us:List Value} (i:Nat),aM xs us→aM (xs.eraseIdx i) (us.eraseIdx i)
  | _,_,_,.nil=>.nil
  | _,_,0,.cons _ t=>t
  | _,_,i+1,.cons r t=>.cons r (aM.eraseIdx i t)
theorem aM.rep{xs:List V}{us:List Value}(h:aM xs us):∀k:Nat,aM (List.replicate k xs).flatten (List.replicate k us).flatten
  | 0=>.nil
  | k+1=>by
    rw [List.replicate_succ,List.replicate_succ,List.flatten_cons,List.flatten_cons]
    exact aM.append h (aM.rep h k)
theorem kN{α:Type}:∀(l:List α) (i:Nat),(l.eraseIdx i).length≤l.length
  | [],_=>Nat.le_refl _
  | _::_,0=>Nat.le_succ _
  | _::r,i+1=>Nat.succ_le_succ (kN r i)
theorem kG(its:List Value):∀(k:Nat) (acc:List Value),
    List.foldl (fun x1 x2=>x1++x2) acc.toArray (List.replicate k its.toArray)=(acc++(List.replicate k its).flatten).toArray
  | 0,acc=>by simp
  | k+1,acc=>by
    have e:acc.toArray++its.toArray=(acc++its).toArray:=by simp
    have e2:(acc++its)++(List.replicate k its).flatten=acc++(List.replicate (k+1) its).flatten:=by
      rw [List.replicate_succ,List.flatten_cons,List.append_assoc]
    rw [←e2,←kG its k (acc++its),←e,List.replicate_succ,List.foldl_cons]
section
variable{X:Cx}{pins:List (Addr × Obj)}{σ:St}{H:Hp}{s:Shared}{l b:Addr}{xs ys zs:List V}
theorem ax.lset{its its':List Value}{n:Nat}{f:Array Value→Array Value}{t':Nat}(I:ax X pins σ H s)(hH:H l=some (.lst xs))
    (e:s.heap.get? l=some {cls:=.type "list",data:=.seq its.toArray n})(hf:f its.toArray=its'.toArray)(hv:aM ys its')(hz:ys.length≤sizeLine):
    ax X pins σ (bP H l (.lst ys)) {s with heap:=s.heap.update l (Obj.mapSeq f),toks:=t'}:=by
  have q:=PySem.IsL.update e f
  rw [hf] at q
  refine I.write (x:=l) (e:=l) (by rw [hH];exact trivial) (.inl rfl) (fun b' u hb hu=>(Heap.get?_update_other s.heap (Obj.mapSeq f) (Ne.symm hb)).trans hu) ⟨_,q⟩ ?_
  exact⟨hz,its',_,hv,q⟩
theorem ax.lnew{its:List Value}{t':Nat}(I:ax X pins σ H s)(hv:aM ys its)(hz:ys.length≤sizeLine):
    ax X pins σ (bP H s.heap.objs.size (.lst ys)) {s with heap:=s.heap.push {cls:=.type "list",data:=.seq its.toArray},toks:=t'}:=
  I.laid (fun _ _ q=>Heap.get?_push_of_some _ q) (Nat.le_refl _) ⟨hz,its,0,hv,Heap.get?_push_size _ rfl⟩
theorem ax.fresh(I:ax X pins σ H s):H s.heap.objs.size=none:=I.hok.fresh (Nat.le_refl _)
theorem ax.lstM(I:ax X pins σ H s)(hH:H l=some (.lst xs)):xs.length≤sizeLine∧∃(its:List Value) (n:Nat),aM xs its∧xs.length=its.length∧s.heap.get? l=some {cls:=.type "list",data:=.seq its.toArray n}:=by
  obtain⟨z,its,n,r,e⟩:=I.hok l _ hH
  exact⟨z,its,n,r,r.length,e⟩
theorem qZ{n:Nat}(h:n≤sizeLine):Builtin.List.listTooLong n=false:=by
  unfold Builtin.List.listTooLong
  exact decide_eq_false (by lia)
end
section
variable{X:Cx}
def oB:V→List V→Hp→VK→Prop:=fun x vs H Q=>∃l xs y,x=.ref l∧vs=[y]∧H l=some (.lst xs)∧xs.length < sizeLine∧Q .non (bP H l (.lst (xs++[y])))
theorem kO:AM X "list.append" oB:=by
  intro pins s σ H x vs v us Q I rx rv h
  obtain⟨l,xs,y,rfl,rfl,hH,hz,q⟩:=h
  cases rx
  obtain⟨u,rfl,ru⟩:=rv.one
  obtain⟨z,its,n,r,hl,e⟩:=I.lstM hH
  refine call_meets F.slot_list_append ⟨_,e,rfl⟩ F.entry_list_append (F.args_list_append_2 _ _) (PySem.list_append l its.toArray n u (by rw [List.size_toArray];lia)) ⟨e,?_⟩
  refine⟨.non,_,I.lset (its':=its++[u]) hH e (by simp) (r.append (.cons ru .nil)) ?_,rfl,q⟩
  rw [List.length_append,List.length_singleton]
  lia
def rS:V→List V→Hp→VK→Prop:=fun x vs H Q=>∃l xs i k y,x=.ref l∧vs=[.int i]∧H l=some (.lst xs)∧ -(2 ^ 63)≤i∧i < 2 ^ 63∧seqIndex? i xs.length=some k∧xs[k]?=some y∧Q y (bP H l (.lst (xs.eraseIdx k)))
theorem qV:AM X "list.pop" rS:=by
  intro pins s σ H x vs v us Q I rx rv h
  obtain⟨l,xs,i,k,y,rfl,rfl,hH,h1,h2,hk,hy,q⟩:=h
  cases rx
  obtain⟨u,rfl,ru⟩:=rv.one
  obtain⟨t,rfl⟩:=ru
  obtain⟨z,its,n,r,hl,e⟩:=I.lstM hH
  obtain⟨w,hw,rw'⟩:=r.get hy
  refine call_meets F.slot_list_pop ⟨_,e,rfl⟩ F.entry_list_pop (F.args_list_pop_2 _ _)
    (MeetsSeq.list_pop_at l its.toArray n i t k w (fitsIndex_both h1 h2) (by rw [List.size_toArray,←hl];exact hk) (by rw [←Array.getElem?_toList];exact hw) (by rw [List.size_toArray];lia)) ⟨e,?_⟩
  refine⟨y,_,I.lset (its':=its.eraseIdx k) hH e ?_ (r.eraseIdx k) ?_,rw',q⟩
  · show its.toArray.eraseIdxIfInBounds k=(its.eraseIdx k).toArray
    rw [List.eraseIdxIfInBounds_toArray]
  · have:=kN xs k
    lia
def uG:R2:=fun x y H Q=>∃l b xs zs,x=.ref l∧y=.ref b∧H l=some (.lst xs)∧H b=some (.lst zs)∧xs.length+zs.length≤sizeLine∧∀p,H p=none→Q (.ref p) (bP H p (.lst (xs++zs)))
theorem rk:dJ X (binaryOp .Add) uG:=by
  intro pins s σ H x y v u Q I rx ry h
  obtain⟨l,b,xs,zs,rfl,rfl,hH,hB,hz,q⟩:=h
  cases rx
  cases ry
  obtain⟨z,its,n,r,hl,e⟩:=I.lstM hH
  obtain⟨z2,its2,n2,r2,hl2,e2⟩:=I.lstM hB
  refine PySem.P.add_list e e2 ?_ (by rw [List.size_toArray,List.size_toArray];lia)
  have ea:its.toArray++its2.toArray=(its++its2).toArray:=by simp
  rw [ea]
  exact⟨.ref _,_,I.lnew (t':=s.toks) (r.append r2) (by rw [List.length_append];lia),rfl,q _ I.fresh⟩
def xA:R2:=fun x y H Q=>∃l k xs,x=.ref l∧y=.int k∧H l=some (.lst xs)∧ -(2 ^ 63)≤k∧k < 2 ^ 63∧xs.length*k.toNat≤sizeLine∧
  ∀p,H p=none→Q (.ref p) (bP H p (.lst (List.replicate k.toNat xs).flatten))
theorem tQ{α:Type}(xs:List α)(k:Nat):(List.replicate k xs).flatten.length=k*xs.length:=by
  induction k with
  | zero=>simp
  | succ k ih=>rw [List.replicate_succ,List.flatten_cons,List.length_append,ih,Nat.succ_mul,Nat.add_comm]
theorem wY:dJ X (binaryOp .Mult) xA:=by
  intro pins s σ H x y v u Q I rx ry h
  obtain⟨l,k,xs,rfl,rfl,hH,h1,h2,hz,q⟩:=h
  cases rx
  obtain⟨t,rfl⟩:=ry
  obtain⟨z,its,n,r,hl,e⟩:=I.lstM hH
  have hlen:its.toArray.size*k.toNat≤sizeLine:=by rw [List.size_toArray,←hl];exact hz
  have hcap:¬its.toArray.size*k.toNat > (2 ^ 63 - 1) / 8:=by
    have:(sizeLine:Nat)≤(2 ^ 63 - 1) / 8:=by decide
    lia
  have hfit:¬(!Builtin.List.listFitsIndex k)=true:=by
    rw [fitsIndex_both h1 h2]
    exact Bool.false_ne_true
  have hlong:¬Builtin.List.listTooLong (its.toArray.size*k.toNat)=true:=by
    rw [qZ hlen]
    exact Bool.false_ne_true
  have hnew:List.foldl (fun x1 x2=>x1++x2) #[] (List.replicate (if its.toArray.isEmpty=true then 0 else k.toNat) its.toArray)=(List.replicate k.toNat its).flatten.toArray:=by
    have f0:∀m:Nat,List.foldl (fun x1 x2=>x1++x2) #[] (List.replicate m its.toArray)=(List.replicate m its).flatten.toArray:=fun m=>by
      have:=kG its m []
      rw [List.nil_append] at this
      exact this
    rw [f0]
    cases its with
    | nil=>simp
    | cons a r'=>rw [if_neg (by simp)]
  refine wpAny_binaryOp_repeat_ref (T:="list") (U:="int") (by decide) ⟨_,e,rfl⟩ (fun s'=>typeIs_int s' k t) noFill_list_mul F.fills_int_mul F.slot_int_rmul repeat_list F.slot_int_index.lookup
    (call_meets F.slot_int_rmul (typeIs_int s k t) F.entry_int_rmul (F.args_int_rmul_2 _ _) (int___rmul___int_list k t l its.toArray n)
      ⟨e,rfl,⟨_,e,rfl⟩,call_meets F.slot_list_mul ⟨_,e,rfl⟩ F.entry_list_mul (F.args_list_mul_2 _ _) (AutoListH.list___mul___list_int_3 l its.toArray n k t hfit hcap hlong) ⟨e,?_⟩⟩)
  rw [hnew]
  exact⟨.ref _,_,I.lnew (t':=s.toks) (r.rep k.toNat) (by rw [tQ,Nat.mul_comm];exact hz),rfl,q _ I.fresh⟩
end
section
variable{prog:Program}{w:World}{A:Around}{E:Value→Shared→Prop}{s:Shared}
end
section
variable{X:Cx}
end
end L2
namespace Att
open PySem PySem.W PySem.Calls PyProof.Rows
theorem i9{P:Params}{h:Heap}:∀(ns:List Int) (vs:List Value),WellAll P h vs (ns.map WData.int)→IntsAre vs ns:=by
  intro ns
  induction ns with
  | nil=>
    intro vs w
    rw [List.map_nil] at w
    cases w
    exact .nil
  | cons n ns ih=>
    intro vs w
    rw [List.map_cons] at w
    cases w with
    | cons a b=>
      cases a
      exact .cons _ _ (ih _ b)
theorem pK{l:OpenLaw}{n:Nat}(hn:l.most=some n){P:Params}{h:Heap}{args:List WData}{vals:List Value}
    (hpre:l.row.toRowW.claim.pre args=true)(hwl:WellAll P h vals args):
    ∃a vs ns,vals=[Value.ref a]∧args=[WData.list (ns.map WData.int)]∧h.get? a=some {cls:=.type "list",data:=.seq vs.toArray}∧IntsAre vs ns∧ns.length≤n:=by
  have hsh:WShape.hasAll [] args [.list .int]=true:=(pre_splitW hpre).1
  have hc:l.pre.holds [] {args:=args}=true:=(pre_splitW hpre).2
  obtain⟨d,r,rfl,h1,h2⟩:=hasAllW_cons hsh
  obtain rfl:=hasAllW_nil h2
  obtain⟨xs,rfl,h3⟩:=hasW_list h1
  obtain⟨ns,rfl⟩:=items_int h3
  have hlen:ns.length≤n:=by
    unfold OpenLaw.pre at hc
    have h4:(WTm.not (.lt (.lit (.int (n:Int))) (.len (.arg 0)))).holds [] {args:=[.list (ns.map .int)]}=true:=by
      have h4:=(holds_andW hc).1
      rw [hn] at h4
      exact h4
    have h5:=condW_of h4 (w_not (w_lt w_lit (w_len_list (w_arg rfl))))
    rw [List.length_map] at h5
    refine Nat.le_of_not_lt fun q=>?_
    have q':(n:Int) < ((ns.length:Nat):Int):=by lia
    first
      | (rw [decide_eq_true q'] at h5;exact absurd h5 (by decide))
      | (simp at h5;lia)
  cases hwl with
  | cons w1 w2=>
    cases w2
    cases w1 with
    | list ho hall=>exact⟨_,_,ns,rfl,rfl,ho,i9 ns _ hall,hlen⟩
theorem pH(l:OpenLaw)(args:List WData):l.row.toRowW.claim.post args (.bool true) args=true:=
  postW_of (r:=l.row.toRowW) (X:=(true==true))
    (show WShape.has [] (.bool true) .bool=true by first | rfl | decide | simp [WShape.has,WShape.arms,WShape.armsAll])
    (show(WTm.eq .res (.lit (.bool true))).value [] {args:=args,res:=some (.bool true),after:=args}=some (.bool (true==true)) from w_eq_bool (w_res rfl) w_lit) rfl
theorem attach_call{l:OpenLaw}{n:Nat}{q:Program}{loose:List Str}{XP:(Str→Option Value)→Heap→Prop}{YP:World→Heap→Prop}{d:DefRec}
    (hn:l.most=some n)(hdf:d.params.defaults=[])
    (call:∀(w:World) (s₀ s₁:Shared) (mg mb:Str→Option Value) (fa:Addr) (o:Obj) (pm cd doc:Value) (a:Addr) (vs:List Value) (ns:List Int),
      Ground q loose [] XP w s₀ mg mb s₁.heap→YP w s₁.heap→
      s₁.heap.get? fa=some o→o.data=.func (docDef d.name d.params d.body d.scope pm cd doc)→s₁.heap.CodeRec cd d.name→mg d.name=some (.ref fa)→
      s₁.heap.get? a=some {cls:=.type "list",data:=.seq vs.toArray}→IntsAre vs ns→ns.length≤n→s₁.gens=#[]→
      codeAny (model l.prog w) callerA (.call (.ref fa) ⟨[.ref a],[]⟩) (fun r s'=>r=.ok (.ret (.bool true))∧OldK s₁.heap s'.heap∧s'.os=s₁.os∧AllBare s'.gens) s₁):
    WalkO q loose XP YP l.row.toRowW d [] (fun f vs=>PySem.call f vs):=by
  intro w s₀ s₁ mg mb G Y fa o pm cd doc dV kV ho hd hcd hD hmg hg args vals as hpre hlay hrd hwl hlo
  obtain rfl:dV=.none:=Dflts.none hD hdf
  obtain rfl:kV=.none:=Dflts.noKw hD
  obtain⟨a,vs,ns,rfl,rfl,hobj,hints,hlen⟩:=pK hn hpre hwl
  refine enter_call (codeAny_mono (call w s₀ s₁ mg mb fa o pm cd doc a vs ns G Y ho (fd_plain hd) hcd hmg hobj hints hlen hg) fun r s' hq=>?_)
  obtain⟨rfl,h2,h3,h4⟩:=hq
  exact⟨.inl ⟨.bool true,.bool true,[],rfl,fun _=>rfl,.bool true,pH l _,fun _=>⟨List.Pairwise.nil,fun _ hm=>(nomatch hm)⟩⟩,h2,h3,h4⟩
section
variable{prog:Program}{w:World}{A:Around}{E:Value→Shared→Prop}{s:Shared}{K:Frag}
end
end Att
namespace L2
open PySem PySem.Spec PyProof.Rows
theorem k9:∀{vs:List Value} {ns:List Int},IntsAre vs ns→aM (ns.map V.int) vs
  | _,_,.nil=>.nil
  | _,_,.cons n t h=>.cons ⟨t,rfl⟩ (k9 h)
def vS(H:Hp):Prop:=∀b,H b=none∨∃o xs,H b=some (.frz o (.lst xs))
theorem qQ{P:Program}{w:World}{K:PySem.W.Frag}{mg mb:Str→Option Value}{CX:mX}{k:Nat}{fa a:Addr}{fd:FuncData}{x:Str}{sp:Sp}{s₁:Shared}{vs:List Value}{ns:List Int}
    (KX:K.In s₁.heap)(hns:s₁.heap.Ns mainGlobals mg)(hb:s₁.heap.Ns builtinsNs mb)(hbb:∀x:Str,x≠"__name__"→mb x=bootBuiltins x)(hlim:s₁.heap.NoLimit)(hg:s₁.gens=#[])
    (ha:s₁.heap.get? a=some {cls:=.type "list",data:=.seq vs.toArray})(hi:IntsAre vs ns)(hl:ns.length≤sizeLine)(hr:cf k callerA)
    (F:∀base:Heap,K.In base→base.Ns mainGlobals mg→az P w K mg base CX k fa fd [x] sp)(hbind:∀(s:Shared) (u:Value),BindsTo s fd ⟨[u],[]⟩ [(x,u)])
    (hsp:∀H:Hp,vS H→eM K H a (ns.map V.int)→sp [.ref a] H (fun v _=>v=.bl true) fun _ _ _=>False)
    (hCX:∀H e s',CX [] H s₁ (fun _ _ _=>False) e s'→False):
    codeAny (model P w) callerA (.call (.ref fa) ⟨[.ref a],[]⟩) (fun r s'=>r=.ok (.ret (.bool true))∧OldK s₁.heap s'.heap∧s'.os=s₁.os∧AllBare s'.gens) s₁:=by
  have rv:=k9 hi
  have lenV:=hi.length
  have core:∀H:Hp,vS H→eM K H a (ns.map V.int)→i6 P w H s₁.heap→(∀b,H b≠none→b=a)→(H a≠none→K.lookup a=none)→
      codeAny (model P w) callerA (.call (.ref fa) ⟨[.ref a],[]⟩) (fun r s'=>r=.ok (.ret (.bool true))∧OldK s₁.heap s'.heap∧s'.os=s₁.os∧AllBare s'.gens) s₁:=by
    intro H hO hS hok hA hK
    have base_of:∀{b:Addr} {o:Obj},s₁.heap.get? b=some o→H b=none→(lJ s₁.heap H).get? b=some o:=fun e n=>qK e n
    have noA:∀{b:Addr} {o:Obj} {es:Array DictEntry} {ep:Nat},s₁.heap.get? b=some o→o.data=.dict es ep→H b=none:=fun{b o es ep} e d=>by
      cases q:H b with
      | none=>rfl
      | some u=>
        have e':b=a:=hA b (by rw [q];simp)
        subst e'
        rw [ha] at e;cases e
        have d':Data.seq vs.toArray _=Data.dict es ep:=d
        cases d'
    have nsK:∀{b:Addr} {m:Str→Option Value},s₁.heap.Ns b m→(lJ s₁.heap H).Ns b m:=fun{b m} ⟨o,es,ep,e,d,r⟩=>⟨o,es,ep,base_of e (noA e d),d,r⟩
    have hKb:K.In (lJ s₁.heap H):=fun b o e=>base_of (KX b o e) (by
      cases q:H b with
      | none=>rfl
      | some u=>
        have e':b=a:=hA b (by rw [q];simp)
        subst e'
        rw [hK (by rw [q];simp)] at e;cases e)
    have hM:Mod K mg (lJ s₁.heap H):=⟨hKb,nsK hns,⟨mb,nsK hb,hbb⟩,let ⟨mc,h1,h2⟩:=hlim;⟨mc,nsK h1,h2⟩⟩
    have e0:sU P w K mg (lJ s₁.heap H) callerA [] s₁ H:=⟨rfl,hM,fun b o e=>tV e,Nat.le_of_eq (pj _ _),trivial,fun b hb=>absurd (show b∈([]:List Addr) from hb) (by simp),hok,.of_eq hg⟩
    refine codeAny_mono ((F _ hKb (nsK hns)).run callerA [] s₁ H ⟨[.ref a],[]⟩ [.ref a] [.ref a] _ _ hr e0 (hbind s₁ (.ref a)) (.cons rfl .nil) (hsp H hO hS)) fun r s' h=>?_
    cases r with
    | error e=>exact(hCX H e s' h).elim
    | ok fl=>
      cases fl with
      | next=>exact False.elim h
      | brk=>exact False.elim h
      | cont=>exact False.elim h
      | ret u=>
        obtain⟨v,H',os,bare,un,hok',r',q⟩:=h
        have q':v=.bl true:=q
        subst q'
        obtain rfl:u=Value.bool true:=r'
        refine⟨rfl,OldK.of_keep fun b o e=>?_,os,bare⟩
        cases q:H b with
        | none=>exact un.keep b o e q (by intro z;exact absurd (show b∈([]:List Addr) from z) (by simp)) (by simp)
        | some u=>
          rcases hO b with z | ⟨ob,xs,z⟩
          · rw [q] at z;cases z
          · have z2:=un.frzs b ob _ z
            obtain⟨e1,_⟩:=hok b _ z
            obtain⟨e2,_⟩:=hok' b _ z2
            rw [e] at e1;cases e1
            exact e2
  cases hk:K.lookup a with
  | some o=>
    have e:=KX a o hk
    rw [ha] at e
    cases e
    refine core (fun _=>none) (fun _=>.inl rfl) (.inr ⟨_,vs.toArray,_,hk,rfl,rfl,rfl,by rw [List.size_toArray,lenV];exact hl,by simpa using rv⟩) (fun b u z=>by have z':(none:Option HO)=some u:=z;cases z') (fun b z=>absurd rfl z) fun z=>absurd rfl z
  | none=>
    refine core (fun b=>if b=a then some (.frz {cls:=.type "list",data:=.seq vs.toArray} (.lst (ns.map V.int))) else none) (fun b=>?_) (.inl (.inr ⟨{cls:=.type "list",data:=.seq vs.toArray},if_pos rfl⟩)) (fun b u z=>?_) (fun b z=>?_) fun _=>hk
    · by_cases hb:b=a
      · exact .inr ⟨_,_,if_pos hb⟩
      · exact .inl (if_neg hb)
    · by_cases hb:b=a
      · have z':=(if_pos hb).symm.trans z
        cases z'
        subst hb
        exact⟨ha,by rw [List.length_map];exact hl,vs,_,rv,ha⟩
      · have z':=(if_neg hb).symm.trans z
        cases z'
    · by_cases hb:b=a
      · exact hb
      · exact absurd (if_neg hb) z
end L2
namespace L2
open PySem PySem.Spec PyProof.Rows
theorem walk_of{l:PySem.W.OpenLaw}{n k:Nat}{q:Program}{loose:List Str}{XP:(Str→Option Value)→Heap→Prop}{YP:World→Heap→Prop}{d:DefRec}{K:Params→PySem.W.Frag}{CX:World→mX}{sp:World→Sp}{x:Str}
    (hn:l.most=some n)(hn2:n≤sizeLine)(hdf:d.params.defaults=[])(hr:cf k callerA)
    (hY:∀(w:World) (h:Heap),YP w h→(K w.params).In h)
    (F:∀(w:World) (mg:Str→Option Value) (fa:Addr) (h:Heap),(K w.params).In h→h.Ns mainGlobals mg→mg d.name=some (.ref fa)→
      ∃fd:FuncData,(∀(s:Shared) (u:Value),BindsTo s fd ⟨[u],[]⟩ [(x,u)])∧
        ∀base:Heap,(K w.params).In base→base.Ns mainGlobals mg→az l.prog w (K w.params) mg base (CX w) k fa fd [x] (sp w))
    (hsp:∀(w:World) (H:Hp) (a:Addr) (ns:List Int),ns.length≤n→vS H→eM (K w.params) H a (ns.map V.int)→sp w [.ref a] H (fun v _=>v=.bl true) fun _ _ _=>False)
    (hCX:∀(w:World) (H:Hp) (s:Shared) (e:Value) (s':Shared),CX w [] H s (fun _ _ _=>False) e s'→False):
    PySem.W.WalkO q loose XP YP l.row.toRowW d [] (fun f vs=>PySem.call f vs):=by
  refine Att.attach_call hn hdf fun w s₀ s₁ mg mb fa o pm cd doc a vs ns G Y ho hd hcd hmg hobj hints hlen hg=>?_
  have KX:=hY w _ Y
  obtain⟨fd,hb,hF⟩:=F w mg fa _ KX G.T.g hmg
  exact qQ KX G.T.g G.T.b G.T.builtins G.T.nolimit hg hobj hints (Nat.le_trans hlen hn2) hr hF hb (fun H hO hS=>hsp w H a ns hlen hO hS) fun H e s'=>hCX w H s₁ e s'
end L2
namespace L2
open PySem PySem.Spec PyProof.Rows
def cy(s:Stmt):Arguments:=match s with
  | .FunctionDef _ a _ _ _ _ _ _ _ _=>a
  | _=>{posonlyargs:=[],args:=[],vararg:=none,kwonlyargs:=[],kw_defaults:=[],kwarg:=none,defaults:=[]}
def bG(s:Stmt):List Stmt:=match s with
  | .FunctionDef _ _ b _ _ _ _ _ _ _=>b
  | _=>[]
def ah(s:Stmt):Scope:=match s with
  | .FunctionDef _ _ _ _ _ _ sc _ _ _=>sc
  | _=>{kind:=.function,names:=[],isGenerator:=false,isCoroutine:=false}
abbrev bz:mX:=fun _ _ _ _ _ _=>False
abbrev E0:XK:=fun _ _ _=>False
theorem vD{X:Cx}:m4 bz X E0:=fun _ _ _ _ _ _ _ h=>h.elim
structure vd (K:PySem.W.Frag) (x qual:Str) (st:Stmt) (f:Addr) (fd:FuncData):Prop where
  ex:∃(oc:Value) (od:Option Addr) (kV doc pm:Value) (an:Option Addr) (cdv ct:Value) (osl:Array (Option Value)),
    fd=PySem.W.fnOf x qual (cy st) (bG st) (ah st) .none kV doc pm an cdv ct∧K.lookup f=some ⟨oc,od,.func fd,osl⟩∧PySem.W.codeIn K cdv qual=true
  kp:PySem.W.keepIn K (.ref f)=true
section
variable{P:Program}{w:World}{K:PySem.W.Frag}{mg:Str→Option Value}{base:Heap}
theorem vd.ok{x qual:Str}{st:Stmt}{f:Addr}{fd:FuncData}{N ps:List Str}{k:Nat}{sp:Sp}(F:vd K x qual st f fd)(S:av N ps (ah st))(len:∀vs H Q E,sp vs H Q E→vs.length=ps.length)
    (hbody:∀(cdv:Value) (A:Around) (outer:List Env) (s:Shared) (H:Hp) (vs:List V) (Q:VK) (E:XK),cf k (A.deeper (envOfC qual (ah st) s.heap.objs.size f cdv))→sp vs H Q E→
      ∃t,gL (i7 bz P w K mg base N qual (ah st) f cdv A outer s H E).nox (bG st) t∧t {nx:=fun _ H'=>Q .non H',rt:=Q} (dH N vs) H):az P w K mg base bz (k+1) f fd ps sp:=by
  obtain⟨oc,od,kV,doc,pm,an,cdv,ct,osl,rfl,lk,hcd⟩:=F.ex
  refine vp lk hcd S len fun A outer s H vs Q E hr hsp=>?_
  obtain⟨t,h,q⟩:=hbody cdv A outer s H vs Q E hr hsp
  exact⟨t,h.nox,q⟩
theorem vd.binds{x qual:Str}{st:Stmt}{f:Addr}{fd:FuncData}{ps:List Str}(F:vd K x qual st f fd)
    (h:∀(kV doc pm:Value) (an:Option Addr) (cdv ct:Value) (us:List Value),us.length=ps.length→bindArgs (PySem.W.fnOf x qual (cy st) (bG st) (ah st) .none kV doc pm an cdv ct) ⟨us,[]⟩=pure (ps.zip us)):jm K fd ps []:=by
  obtain⟨oc,od,kV,doc,pm,an,cdv,ct,osl,rfl,lk,hcd⟩:=F.ex
  exact .all (h kV doc pm an cdv ct)
theorem qs{x qual:Str}{st:Stmt}{f:Addr}{oc:Value}{od an:Option Addr}{osl:Array (Option Value)}{kV doc pm cdv ct:Value}(l:K.lookup f=some ⟨oc,od,.func (PySem.W.fnOf x qual (cy st) (bG st) (ah st) .none kV doc pm an cdv ct),osl⟩)
    (c:PySem.W.codeIn K cdv qual=true)(k:PySem.W.keepIn K (.ref f)=true):vd K x qual st f (PySem.W.fnOf x qual (cy st) (bG st) (ah st) .none kV doc pm an cdv ct):=⟨⟨oc,od,kV,doc,pm,an,cdv,ct,osl,rfl,l,c⟩,k⟩
end
theorem kY{n:Nat}(h:n≤1000):n < sizeLine:=Nat.lt_of_le_of_lt h (by decide)
section
variable{X:Cx}
theorem pv(i:Nat){x:Str}{pos:Pos}(hN:X.N[i]?=some x:=by rfl)(hv:x8 X.env.scope x:=by first | exact Or.inl rfl | exact Or.inr (Or.inl rfl) | exact Or.inr (Or.inr rfl))(hd:(x==("__debug__":Str))=false:=by decide)
    (hcd:(x==("__classdict__":Str))=false:=by decide):PE X (.Name x pos) (pP i):=nL hN hv hd hcd
end
theorem yH{A B:Prop}(h:B):if false=true then A else B:=by
  rw [if_neg Bool.false_ne_true]
  exact h
theorem wl{A B:Prop}(h:A):if true=true then A else B:=by
  rw [if_pos rfl]
  exact h
def au(H H':Hp):Prop:=∀b o,H b=some o→H' b=some o
theorem au.refl(H:Hp):au H H:=fun _ _ h=>h
theorem au.trans{H H1 H2:Hp}(a:au H H1)(b:au H1 H2):au H H2:=fun c o h=>b c o (a c o h)
theorem au.free{H H':Hp}(e:au H H'){l:Addr}(h:H' l=Option.none):H l=Option.none:=by
  cases q:H l with
  | none=>rfl
  | some o=>
    rw [e l o q] at h
    cases h
theorem au.seq{K:PySem.W.Frag}{H H':Hp}{a:Addr}{xs:List V}(e:au H H')(h:eM K H a xs):eM K H' a xs:=by
  rcases h with (h | ⟨o,h⟩) | h
  · exact .inl (.inl (e _ _ h))
  · exact .inl (.inr ⟨o,e _ _ h⟩)
  · exact .inr h
end L2
set_option maxHeartbeats 4000000
namespace L2
open PySem PySem.Spec PyProof.Rows
def Bt(n:Nat)(i:Int):Prop:=i.natAbs < 2 ^ n
theorem Bt.mono{m n:Nat}{i:Int}(h:Bt m i)(hm:m≤n):Bt n i:=Nat.lt_of_lt_of_le h (Nat.pow_le_pow_right (by decide) hm)
theorem Bt.log{m:Nat}{i:Int}(h:Bt m i)(hm:0 < m):i.natAbs.log2 < m:=by
  unfold Bt at h
  rcases Nat.eq_zero_or_pos i.natAbs with h0 | hp
  · rw [h0];exact hm
  · exact(Nat.log2_lt (by lia)).mpr h
theorem Bt.bits{m:Nat}{i:Int}(h:Bt m i)(hm:0 < m):Builtin.Int.intBits i≤m:=by
  unfold Builtin.Int.intBits
  split
  · exact Nat.zero_le _
  · exact h.log hm
theorem Bt.of_le{m:Nat}{i:Int}{j:Int}(h:Bt m j)(e:i.natAbs≤j.natAbs):Bt m i:=Nat.lt_of_le_of_lt e h
section
variable{X:Cx}
def va(i j:Int):Prop:=Bt 4000 i∧Bt 4000 j
theorem ui:dJ X (binaryOp .Mult) (rI va fun i j=>.int (i*j)):=yQ fun _ _ _ _ _ _ _ hc q=>
  mul_int q (.of_bits (Nat.le_trans (hc.1.bits (by decide)) (by decide)) (Nat.le_trans (hc.2.bits (by decide)) (by decide)))
def u_(i j:Int):Prop:=j≠0∧Bt 8000 j
theorem rm:dJ X (binaryOp .FloorDiv) (rI u_ fun i j=>.int (i.fdiv j)):=yQ fun _ _ _ _ _ _ _ hc q=>
  floordiv_int hc.1 q (.inl (PyProof.noPylong_of_log2 (Nat.lt_trans (hc.2.log (by decide)) (by decide))))
theorem wQ:dJ X (compareOp .Is) (fun x y H Q=>∃b c,x=.bl b∧y=.bl c∧Q (.bl (b==c)) H):=by
  intro pins s σ H x y v u Q I rx ry h
  obtain⟨b,c,rfl,rfl,q⟩:=h
  cases rx;cases ry
  exact is_bool ⟨.bl _,H,I,rfl,q⟩
end
def iT(H H':Hp):Prop:=∀a o,H a=some o→(∀xs,o≠.lst xs)→(∀ob xs,o≠.frz ob (.lst xs))→H' a=some o
theorem iT.trans{H H1 H2:Hp}(a:iT H H1)(b:iT H1 H2):iT H H2:=fun c o h n m=>b c o (a c o h n m) n m
theorem au.ts{H H':Hp}(h:au H H'):iT H H':=fun a o e _ _=>h a o e
theorem iT.tup{K:PySem.W.Frag}{H H':Hp}(h:iT H H'){a:Addr}{xs:List V}(q:dm K H a xs):dm K H' a xs:=by
  rcases q with (q | ⟨o,q⟩) | q
  · exact .inl (.inl (h _ _ q (fun _ e=>nomatch e) (fun _ _ e=>nomatch e)))
  · exact .inl (.inr ⟨o,h _ _ q (fun _ e=>nomatch e) (fun _ _ e=>nomatch e)⟩)
  · exact .inr q
section
variable{X:Cx}
end
end L2
namespace L2
open PySem PySem.Spec PyProof.Rows
structure aV (K:PySem.W.Frag) (mg:Str→Option Value) (x:Str) (st:Stmt) (f:Addr) (fd:FuncData) (ps:List Str):Prop where
  F:vd K x x st f fd
  m:mg x=some (.ref f)
  b:jm K fd ps []
theorem wj{K:PySem.W.Frag}{mg:Str→Option Value}{h:Heap}{x:Str}{st:Stmt}{f:Addr}{ps:List Str}{oc:Value}{od an:Option Addr}{osl:Array (Option Value)}{kV doc pm cdv ct:Value}(X:K.In h)(G:h.Ns mainGlobals mg)(a:PySem.W.nsIn K mainGlobals x=some (some (.ref f)))
    (l:K.lookup f=some ⟨oc,od,.func (PySem.W.fnOf x x (cy st) (bG st) (ah st) .none kV doc pm an cdv ct),osl⟩)(c:PySem.W.codeIn K cdv x=true)(k:PySem.W.keepIn K (.ref f)=true)
    (hb:∀(kV doc pm:Value) (an:Option Addr) (cdv ct:Value) (us:List Value),us.length=ps.length→bindArgs (PySem.W.fnOf x x (cy st) (bG st) (ah st) .none kV doc pm an cdv ct) ⟨us,[]⟩=pure (ps.zip us)):
    aV K mg x st f (PySem.W.fnOf x x (cy st) (bG st) (ah st) .none kV doc pm an cdv ct) ps:=⟨qs l c k,PySem.W.mg_of X G a,(qs l c k).binds hb⟩
theorem Au{X:Cx}{x:Str}{st:Stmt}{f:Addr}{fd:FuncData}{ps:List Str}{k:Nat}{sp:Sp}{e:Expr}{es:List Expr}{t:TA}{p pos:Pos}(h:aV X.K X.mg x st f fd ps)(G:az X.prog X.w X.K X.mg X.base bz k f fd ps sp)(hr:cf k X.A)(ha:PA X (e::es) t)
    (hg:Gl X x:=by rfl)(hdb:(x==("__debug__":Str))=false:=by decide)(he:starEach (e::es) X.env=(false,eval e X.env)::starEach es X.env:=by rfl)(hpl:(backTo pos (starEach es X.env)).any (·.1)=false:=by rfl):
    PE X (.Call (.Name x p) (e::es) [] pos) (oK sp [] E0 t):=ou G hr hg h.m h.F.kp h.b .nil vD ha hdb he hpl
theorem au.new{H:Hp}{p:Addr}{o:HO}(h:H p=none):au H (bP H p o):=fun b u e=>by
  rw [aF (cN e h)];exact e
theorem au.tup{K:PySem.W.Frag}{H H':Hp}{a:Addr}{xs:List V}(e:au H H')(h:dm K H a xs):dm K H' a xs:=e.ts.tup h
end L2
namespace L2
open PySem PySem.Spec PyProof.Rows
def a_(t b:Int):Int × Int:=if b < 0 then(t.fdiv (-(Int.gcd t b:Int)),b.fdiv (-(Int.gcd t b:Int))) else(t.fdiv (Int.gcd t b:Int),b.fdiv (Int.gcd t b:Int))
theorem mn(x y:Int):Int.gcd y (x.fmod y)=Int.gcd x y:=by
  rw [Int.fmod_def,Int.gcd_sub_mul_left_right,Int.gcd_comm]
theorem dP(x:Int){y:Int}(h:y≠0):(x.fmod y).natAbs < y.natAbs:=by
  rcases Int.lt_or_gt_of_ne h with h | h
  · have h1:x.fmod y= -((-x).fmod (-y)):=by
      have:=Int.neg_fmod_neg x y
      lia
    have h2:=Int.fmod_nonneg_of_pos (-x) (b:= -y) (by lia)
    have h3:=Int.fmod_lt_of_pos (-x) (b:= -y) (by lia)
    lia
  · have h2:=Int.fmod_nonneg_of_pos x h
    have h3:=Int.fmod_lt_of_pos x h
    lia
theorem lI{t b:Int}(h:b≠0):(0:Int) < Int.gcd t b:=by
  have:=Int.gcd_pos_of_ne_zero_right t h
  lia
theorem iG{t b:Int}(h:b≠0):∃d:Int,d.natAbs=Int.gcd t b∧d≠0∧(a_ t b).1*d=t∧(a_ t b).2*d=b∧0 < (a_ t b).2:=by
  have hg:=lI (t:=t) h
  have d1:(Int.gcd t b:Int) ∣ t:=Int.gcd_dvd_left ..
  have d2:(Int.gcd t b:Int) ∣ b:=Int.gcd_dvd_right ..
  unfold a_
  split
  · rename_i hb
    have e1:t.fdiv (-(Int.gcd t b:Int))*(-(Int.gcd t b:Int))=t:=Int.fdiv_mul_cancel (Int.neg_dvd.mpr d1)
    have e2:b.fdiv (-(Int.gcd t b:Int))*(-(Int.gcd t b:Int))=b:=Int.fdiv_mul_cancel (Int.neg_dvd.mpr d2)
    refine⟨-(Int.gcd t b:Int),by lia,by lia,e1,e2,?_⟩
    show 0 < b.fdiv (-(Int.gcd t b:Int))
    have h3:b.fdiv (-(Int.gcd t b:Int))*(Int.gcd t b:Int)= -b:=by rw [Int.mul_neg] at e2;lia
    exact Int.pos_of_mul_pos_left (by lia) (by lia) (b:=(Int.gcd t b:Int))
  · rename_i hb
    have e1:t.fdiv (Int.gcd t b:Int)*(Int.gcd t b:Int)=t:=Int.fdiv_mul_cancel d1
    have e2:b.fdiv (Int.gcd t b:Int)*(Int.gcd t b:Int)=b:=Int.fdiv_mul_cancel d2
    refine⟨(Int.gcd t b:Int),by lia,by lia,e1,e2,?_⟩
    show 0 < b.fdiv (Int.gcd t b:Int)
    exact Int.pos_of_mul_pos_left (by lia) (by lia) (b:=(Int.gcd t b:Int))
theorem jG{t b:Int}(h:b≠0):Int.gcd (a_ t b).1 (a_ t b).2=1:=by
  obtain⟨d,h1,h2,h3,h4,h5⟩:=iG (t:=t) h
  have e:Int.gcd ((a_ t b).1*d) ((a_ t b).2*d)=Int.gcd (a_ t b).1 (a_ t b).2*d.natAbs:=Int.gcd_mul_right ..
  rw [h3,h4,←h1] at e
  have hd:0 < d.natAbs:=by lia
  exact(Nat.eq_of_mul_eq_mul_right hd (by rw [Nat.one_mul];exact e)).symm
theorem qI{t b:Int}(h:b≠0){n:Nat}(hb:Bt n b):Bt n (Int.gcd t b:Int):=by
  refine hb.of_le ?_
  have h1:=Nat.le_of_dvd (show 0 < b.natAbs by lia) (Int.ofNat_dvd.mp (by rw [Int.dvd_natAbs];exact Int.gcd_dvd_right t b))
  lia
mutual
def cnt:PyData→Nat
  | .tuple ds=>1+gp ds
  | .str _=>0
  | _=>1
def gp:List PyData→Nat
  | []=>0
  | d::ds=>cnt d+gp ds
end
mutual
def jM:PyData→Bool
  | .tuple ds=>ek ds
  | .str _=>false
  | .list _=>false
  | .dict _=>false
  | _=>true
def ek:List PyData→Bool
  | []=>true
  | d::ds=>jM d&&ek ds
end
theorem ki{a:Int}(h:a.natAbs.log2 < 1920):(Str.ofString (toString a)).length≤1921:=by
  have e:=int_text_length_le (k:=1920) (by decide) h
  rw [PySem.ofString_length];lia
theorem gA(x:Str)(r:List Str):piled (x::r)=x.length+2+piled r:=by
  simp [piled]
theorem k7(ts:List Str):(tupleText ts).length≤piled ts+3:=by
  unfold tupleText
  rw [strLen_append,strLen_append]
  have h1:(("(":Str)).length=1:=by decide
  have h2:(Str.ofString (if (ts.length==1)=true then ",)" else ")")).length≤2:=by split<;>decide
  have h3:(Str.join ", " ts).length≤piled ts:=by
    cases ts with
    | nil=>show(Str.join ", " []).length≤0;decide
    | cons x r=>have:=join_length_add (x::r) (by simp);lia
  lia
mutual
theorem kX:∀{d:PyData},jM d=true→d.showable=true→d.shown.length+2≤2000*cnt d
  | .none,_,_=>by show(Str.ofString "None").length+2≤2000*1;decide
  | .bool b,_,_=>by
    cases b
    · show(Str.ofString "False").length+2≤2000*1;decide
    · show(Str.ofString "True").length+2≤2000*1;decide
  | .int i,_,hs=>by
    simp only [PyData.showable,decide_eq_true_eq] at hs
    have:=ki hs
    show(Str.ofString (toString i)).length+2≤2000*1
    lia
  | .tuple ds,hn,hs=>by
    simp only [PyData.showable] at hs
    simp only [jM] at hn
    have h1:=io hn hs
    have h2:=k7 (PyData.shownAll ds)
    simp only [PyData.shown,cnt]
    lia
  | .str _,hn,_=>by simp [jM] at hn
  | .list _,hn,_=>by simp [jM] at hn
  | .dict _,hn,_=>by simp [jM] at hn
theorem io:∀{ds:List PyData},ek ds=true→PyData.showableAll ds=true→piled (PyData.shownAll ds)≤2000*gp ds
  | [],_,_=>by simp [PyData.shownAll,piled]
  | d::ds,hn,hs=>by
    simp only [ek,Bool.and_eq_true] at hn
    simp only [PyData.showableAll,Bool.and_eq_true] at hs
    have h1:=kX hn.1 hs.1
    have h2:=io hn.2 hs.2
    simp only [PyData.shownAll,gp,gA]
    lia
end
end L2
namespace L2
open PySem PySem.Spec PyProof.Rows
def iv(env:Env):List (Str × NameKind)→List (Str × Addr)→List (Str × Addr)
  | [],cs=>cs
  | (n,k)::r,cs=>iv env r (if k==.free then(n,(env.cells.lookup n).getD 0)::cs else cs)
theorem gR{env:Env}:∀(names:List (Str × NameKind)) (cs:List (Str × Addr)),(∀y∈names,y.2=.free→∃c,env.cells.lookup y.1=some c)→
    (forIn names cs (fun(x:Str × NameKind) (r:List (Str × Addr))=>(if (x.2==NameKind.free)=true then do let a ←cellOf env x.1;pure (ForInStep.yield ((x.1,a)::r)) else pure (ForInStep.yield r):Sem (ForInStep (List (Str × Addr))))):Sem (List (Str × Addr)))=pure (iv env names cs)
  | [],cs,_=>rfl
  | (n,k)::r,cs,h=>by
    rw [List.forIn_cons]
    have ih:=fun cs'=>gR (env:=env) r cs' (fun y hy=>h y (List.mem_cons_of_mem _ hy))
    by_cases hk:(k==NameKind.free)=true
    · have hk':k=.free:=by simpa using hk
      obtain⟨c,hc⟩:=h (n,k) List.mem_cons_self hk'
      have e:cellOf env n=pure c:=by unfold cellOf;rw [hc]
      simp only [hk,if_true,e,pure_bind,iv,hc,Option.getD_some]
      exact ih _
    · have hk':(k==NameKind.free)=false:=by simpa using hk
      simp only [hk',Bool.false_eq_true,if_false,pure_bind,iv]
      exact ih _
theorem ng{scope:Scope}{env:Env}(h:∀y∈scope.names,y.2=.free→∃c,env.cells.lookup y.1=some c):closureFor scope env=pure (iv env scope.names []):=by
  have e:=gR (env:=env) scope.names [] h
  unfold closureFor
  simp only [pure_bind,bind_pure] at e ⊢
  exact e
theorem jr{env:Env}:∀(names:List (Str × NameKind)) (cs:List (Str × Addr)) (x:Str) (c:Addr),(∀y∈names,y.2=.free→∃c,env.cells.lookup y.1=some c)→(∀x c,cs.lookup x=some c→env.cells.lookup x=some c)→(iv env names cs).lookup x=some c→env.cells.lookup x=some c
  | [],cs,x,c,_,hs,h=>hs x c h
  | (n,k)::r,cs,x,c,hn,hs,h=>by
    refine jr r _ x c (fun y hy=>hn y (List.mem_cons_of_mem _ hy)) (fun x' c' e=>?_) h
    by_cases hk:(k==NameKind.free)=true
    · rw [if_pos hk] at e
      obtain⟨c0,hc⟩:=hn (n,k) List.mem_cons_self (by simpa using hk)
      rw [List.lookup_cons] at e
      cases hx:x'==n with
      | true=>
        rw [hx] at e
        have e1:x'=n:=by simpa using hx
        subst e1
        simp only [hc,Option.getD_some,Option.some.injEq] at e
        rw [←e];exact hc
      | false=>rw [hx] at e;exact hs x' c' e
    · rw [if_neg hk] at e
      exact hs x' c' e
theorem mh{env:Env}:∀(names:List (Str × NameKind)) (cs:List (Str × Addr)) (x:Str),((∃y∈names,y.1=x∧y.2=.free)∨∃c,cs.lookup x=some c)→∃c,(iv env names cs).lookup x=some c
  | [],cs,x,h=>by
    rcases h with ⟨y,hy,_⟩ | h
    · cases hy
    · exact h
  | (n,k)::r,cs,x,h=>by
    refine mh r _ x ?_
    by_cases hk:(k==NameKind.free)=true
    · rw [if_pos hk,List.lookup_cons]
      cases hx:x==n with
      | true=>exact .inr ⟨_,rfl⟩
      | false=>
        rcases h with ⟨y,hy,e1,e2⟩ | h
        · rcases List.mem_cons.mp hy with z | z
          · subst z;subst e1;simp at hx
          · exact .inl ⟨y,z,e1,e2⟩
        · exact .inr h
    · rw [if_neg hk]
      rcases h with ⟨y,hy,e1,e2⟩ | h
      · rcases List.mem_cons.mp hy with z | z
        · subst z;exact absurd (by simpa using e2) hk
        · exact .inl ⟨y,z,e1,e2⟩
      · exact .inr h
theorem eD{env:Env}:∀{names:List (Str × NameKind)} {x:Str},(∀y∈names,y.2≠.cell)→(names.map fun(n,k)=>if (k==NameKind.free&&env.scope.kind==.function&&env.kindOf n==some .cell) then(n,NameKind.cell) else(n,k)).lookup x=some .cell∨
    (names.map fun(n,k)=>if (k==NameKind.free&&env.scope.kind==.function&&env.kindOf n==some .cell) then(n,NameKind.cell) else(n,k)).lookup x=some .free→∃y∈names,y.1=x∧y.2=.free
  | [],x,_,h=>by simp at h
  | (n,k)::r,x,hc,h=>by
    have ih:=@eD env r x (fun y hy=>hc y (List.mem_cons_of_mem _ hy))
    have nc:k≠.cell:=hc (n,k) List.mem_cons_self
    rw [List.map_cons] at h
    cases hx:x==n with
    | true=>
      have e1:x=n:=by simpa using hx
      subst e1
      refine⟨(x,k),List.mem_cons_self,rfl,?_⟩
      by_cases q:(k==NameKind.free&&env.scope.kind==.function&&env.kindOf x==some .cell)=true
      · simp only [Bool.and_eq_true,beq_iff_eq] at q;exact q.1.1
      · simp only [q,Bool.false_eq_true,if_false,List.lookup_cons,beq_self_eq_true,Option.some.injEq] at h
        rcases h with h | h
        · exact absurd h nc
        · exact h
    | false=>
      have e2:∀(l:List (Str × NameKind)),((if (k==NameKind.free&&env.scope.kind==.function&&env.kindOf n==some .cell)=true then(n,NameKind.cell) else(n,k))::l).lookup x=l.lookup x:=fun l=>by
        split<;>simp [List.lookup_cons,hx]
      simp only [e2] at h
      obtain⟨y,hy,z⟩:=ih h
      exact⟨y,List.mem_cons_of_mem _ hy,z⟩
theorem eL{env:Env}:∀{names:List (Str × NameKind)} {x:Str},names.lookup x=some .free→
    (names.map fun(n,k)=>if (k==NameKind.free&&env.scope.kind==.function&&env.kindOf n==some .cell) then(n,NameKind.cell) else(n,k)).lookup x≠some .local
  | [],x,h=>by simp at h
  | (n,k)::r,x,h=>by
    rw [List.map_cons]
    cases hx:x==n with
    | true=>
      simp only [hx,List.lookup_cons] at h
      cases h
      show List.lookup x ((if (NameKind.free==NameKind.free&&env.scope.kind==.function&&env.kindOf n==some .cell)=true then(n,NameKind.cell) else(n,NameKind.free))::_)≠_
      split<;>simp [List.lookup_cons,hx]
    | false=>
      simp only [hx,List.lookup_cons] at h
      have ih:=@eL env r x h
      have e2:∀(l:List (Str × NameKind)),((if (k==NameKind.free&&env.scope.kind==.function&&env.kindOf n==some .cell)=true then(n,NameKind.cell) else(n,k))::l).lookup x=l.lookup x:=fun l=>by
        split<;>simp [List.lookup_cons,hx]
      simp only [e2]
      exact ih
def bN(X:Cx)(scope:Scope)(cp:List (Nat × Str))(tgN:List Str)(C:Addr)(s0:Shared)(H0:Hp)(fp:List Addr):Cx where
  prog:=X.prog
  w:=X.w
  K:=X.K
  mg:=X.mg
  base:=X.base
  A:=X.A
  N:=cp.map (·.2)++tgN
  s₀:=s0
  H₀:=H0
  env:=compEnvC scope (iv X.env scope.names []) C X.env
  outer:=X.stack
  stack:=X.stack
  ex:=fp
  fn:=fun x=>scope.names.lookup x==some .local
  calm:=X.calm
  pn:=[]
  xe:=fun _ _=>False
def vT(X:Cx)(ifs:List Expr)(t:TT):Prop:=
  ∀(pins:List (Addr × Obj)) (s:Shared) (σ:L2.St) (H:Hp) (Q:Bool→Hp→Prop),ax X pins σ H s→t σ H Q→
    wpAny (model X.prog X.w) X.A (forIn ifs true fun c r=>if r=true then do let ok ←isTrue c X.env (eval c X.env);pure (ForInStep.yield ok) else pure (ForInStep.yield r)) (TP X pins σ Q) X.xe s
theorem uB{X:Cx}:vT X [] (fun _ H Q=>Q true H):=fun _ _ _ H _ I h=>wpAny_tests_nil ⟨H,I,h⟩
abbrev yd:Value→Shared→Prop:=fun _ _=>False
def wa(prog:Program)(w:World)(A:Around)(elt tg:Expr)(ifs:List Expr)(env:Env)(it acc:Value)(onward:Shared→Prop)(v:Value)(u:Shared):Prop:=
  wpAny (model prog w) A (letOwnedTupleGo tg it v) (fun _ u1=>wpAny (model prog w) A (assign tg env v) (fun _ u2=>wpAny (model prog w) A
    (forIn ifs true fun c r=>if r=true then do let ok ←isTrue c env (eval c env);pure (ForInStep.yield ok) else pure (ForInStep.yield r)) (fun ok u3=>if ok=true then wpAny (model prog w) A (eval elt env) (fun x u4=>wpAny (model prog w) A (call (.builtin "list.append") [acc,x]) (fun _ u5=>onward u5) yd u4) yd u3 else onward u3) yd u2) yd u1) yd u
theorem lw{prog:Program}{w:World}{A:Around}{R:Result→Shared→Prop}{elt tg iter:Expr}{ifs:List Expr}{scope:Scope}{pos:Pos}{it acc:Value}{env:Env}(J:Nat→Shared→Prop)
    (turn:∀n u,J n u→wpAny (model prog w) A (pyNext it) (fun r u1=>(r=none→R (.ok .next) u1)∧∀v,r=some v→wa prog w A elt tg ifs env it acc (fun u2=>∃m,m < n∧J m u2) v u1) yd u){n0:Nat}{u0:Shared}(dH:J n0 u0):
    codeAny (model prog w) A (.compLoop (.ListComp elt [⟨tg,iter,ifs,0⟩] scope pos) 0 it acc env) R u0:=by
  refine codeAny_loop rfl J (fun n u ju=>?_) n0 dH
  show wpAny _ A ((compTurn (.ListComp elt [⟨tg,iter,ifs,0⟩] scope pos) 0 it acc env).onRaise _) _ _ u;refine wpAny_noted ?_;rw [compTurn_list]
  refine wpAny_bind (wpAny_standAt (wpAny_bind (wpAny_mono (turn n u ju) (fun r u1 k1=>?_) fun _ _ z=>z.elim)))
  cases r with
  | none=>exact wpAny_pure (k1.1 rfl)
  | some v=>
    refine wpAny_bind (wpAny_mono (k1.2 v rfl) (fun _ u2 k2=>wpAny_bind (wpAny_mono k2 (fun _ u3 k3=>wpAny_bind (wpAny_mono k3 (fun ok u4 k4=>?_) fun _ _ z=>z.elim)) fun _ _ z=>z.elim)) fun _ _ z=>z.elim)
    cases ok with
    | false=>rw [if_neg Bool.false_ne_true] at k4;exact wpAny_pure ⟨rfl,k4⟩
    | true=>
      rw [if_pos rfl] at k4
      refine wpAny_bind (wpAny_bind (wpAny_mono k4 (fun x u5 k5=>wpAny_bind (wpAny_mono k5 (fun _ u6 k6=>?_) fun _ _ z=>z.elim)) fun _ _ z=>z.elim));exact wpAny_pure (wpAny_pure ⟨rfl,k6⟩)
def fw(cp:List (Nat × Str))(nT:Nat)(σ:L2.St):L2.St:=cp.map (fun p=>(σ[p.1]?).join)++List.replicate nT none
structure vM (cp:List (Nat × Str)) (nT:Nat) (wi:TI) (g:TG) (tc:TT) (te:TE) (σ:L2.St) (H:Hp) (Q:VK):Prop where
  go:wi σ H fun J H1=>∀l,H1 l=none→
  ∃W:Nat→Nat→L2.St→Hp→Prop,(∃m,W 0 m (fw cp nT σ) (bP H1 l (.lst [])))∧∀i m σ' H',W i m σ' H'→
    (J.stop i H'∧Q (.ref l) H')∨(J.go i H'∧∃N:L2.St→Hp→Prop,(∀σ2 H2,N σ2 H2→∃m',m' < m∧W (i+1) m' σ2 H2)∧
      ∀x H2,J.yld i H' x H2→g x σ' H2 fun σ2 H3=>tc σ2 H3 fun b H4=>if b=true then te σ2 H4 fun v H5=>∃ys,H5 l=some (.lst ys)∧ys.length < sizeLine∧N σ2 (bP H5 l (.lst (ys++[v]))) else N σ2 H4)
theorem uk{X:Cx}{elt iter tg:Expr}{ifs:List Expr}{scope:Scope}{pos:Pos}{wi:TI}{g:TG}{tc:TT}{te:TE}(sc0:Scope)(N0:List Str)(cp:List (Nat × Str))(tgN:List Str)
    (hc:X.calm=true)(hsc:X.env.scope=sc0)(hN0:X.N=N0)(hi:PI X tg iter wi)
    (hg:∀C s0 H0 fp,PG (bN X scope cp tgN C s0 H0 fp) tg g)
    (ht:∀C s0 H0 fp,vT (bN X scope cp tgN C s0 H0 fp) ifs tc)
    (he:∀C s0 H0 fp,PE (bN X scope cp tgN C s0 H0 fp) elt te)
    (hk:scope.kind=.function)(hcell:∀y∈scope.names,y.2≠.cell)(hnames:∀y∈scope.names,y.2=.local→scope.names.lookup y.1=some .local)
    (hfr:∀y∈scope.names,y.2=.free→scope.names.lookup y.1=some .free∧sc0.names.lookup y.1=some .cell)
    (hcp:∀p∈cp,N0[p.1]?=some p.2)(hcq:∀p∈cp,sc0.names.lookup p.2=some .cell∧scope.names.lookup p.2=some .free)
    (hs:∀x,foldedSetIterable iter X.env x=pure x:=by intro _;rfl):
    PE X (.ListComp elt [⟨tg,iter,ifs,0⟩] scope pos) (vM cp tgN.length wi g tc te):=by
  intro pins s σ H Q I h
  have hkind:∀x,X.env.kindOf x=sc0.names.lookup x:=fun x=>by unfold Env.kindOf;rw [hsc]
  have hfree:∀y∈scope.names,y.2=.free→∃c,X.env.cells.lookup y.1=some c:=fun y hy e=>I.ok.has y.1 (.inl (by rw [hkind];exact(hfr y hy e).2))
  rw [eval_ListComp]
  refine wpAny_comprehension_free (use:=none) rfl hs (ng hfree) hk hnames (wpAny_mono (hi pins s σ H _ I h.go) (fun xv s₁ h₁=>wpAny_mono h₁ (fun itv s₂ h₂=>?_) fun _ _ e=>e) fun _ _ e=>e)
  obtain⟨it,fp,tn,J,H2,rfl,I2,T,st2,f2,hq⟩:=h₂
  refine wpAny_newObj_type ?_
  have hlF:H2 s₂.heap.objs.size=none:=I2.hok.fresh (Nat.le_refl _)
  have I3:ax X pins σ (bP H2 s₂.heap.objs.size (.lst [])) {s₂ with heap:=s₂.heap.push {cls:=.type "list",data:=.seq ([]:List Value).toArray}}:=I2.lnew (t':=s₂.toks) .nil (Nat.zero_le _)
  obtain⟨W,⟨m0,w0⟩,turn⟩:=hq _ hlF
  have f3:∀b∈fp,l8 X pins (bP H2 s₂.heap.objs.size (.lst [])) b:=fun b hb=>by
    obtain⟨f0,fr⟩:=f2 b hb
    obtain⟨o,ho,_⟩:=T.obj _ _ st2 b hb
    exact⟨by rw [aF (Nat.ne_of_lt (Heap.lt_size ho))];exact f0,fr⟩
  have st3:tn 0 (s₂.heap.push {cls:=.type "list",data:=.seq ([]:List Value).toArray}):=T.keep _ _ _ st2 fun b _ o e=>Heap.get?_push_of_some _ e
  generalize hD:s₂.heap.objs.size=D at*
  generalize hs3:({s₂ with heap:=s₂.heap.push {cls:=.type "list",data:=.seq ([]:List Value).toArray}}:Shared)=s₃ at*
  have hst3:tn 0 s₃.heap:=by rw [←hs3];exact st3
  refine wpAny_newFunctionEnv hcell (by intro y hy;simp at hy) (fun h₁ hns₁ hsb₁=>?_) hk
  generalize hC:s₃.heap.objs.size=C at*
  have old:∀b o,s₃.heap.get? b=some o→h₁.get? b=some o:=fun b o e=>hsb₁.extBut b o (by rw [←hC];exact Nat.ne_of_lt (Heap.lt_size e)) (Heap.get?_push_of_some _ e)
  have nC:∀b o,s₃.heap.get? b=some o→b≠C:=fun b o e=>by rw [←hC];exact Nat.ne_of_lt (Heap.lt_size e)
  have hHC:(bP H2 D (.lst [])) C=none:=I3.hok.fresh (by rw [hC];exact Nat.le_refl _)
  have clS:∀x c,(iv X.env scope.names []).lookup x=some c→X.env.cells.lookup x=some c:=fun x c e=>jr _ _ x c hfree (fun _ _ z=>by simp at z) e
  have clH:∀x,(∃y∈scope.names,y.1=x∧y.2=.free)→∃c,(iv X.env scope.names []).lookup x=some c:=fun x e=>mh _ _ x (.inl e)
  have ok':(bN X scope cp tgN C s₃ (bP H2 D (.lst [])) fp).Ok:=by
    refine⟨I.ok.mod,hk,I.ok.glob,I.ok.blt,by rw [←hC];exact Nat.le_refl _,fun x y c e1 e2=>I.ok.inj x y c (clS _ _ e1) (clS _ _ e2),fun x e=>clH x (eD hcell e),fun x c e1 e2=>?_,I.ok.hd,I.ok.frames,.inl rfl,fun b hb=>?_,fun b o e=>I3.bs b o e,?_,fun b o e hb=>?_,fun b hb z=>?_,I3.stack,fun b hb=>I3.stkFree b hb⟩
    · exfalso
      have e1':scope.names.lookup x=some .local:=by simpa [bN] using e1
      have e2':=clS x c e2
      obtain⟨c',hc'⟩:∃y∈scope.names,y.1=x∧y.2=.free:=by
        by_cases q:∃y∈scope.names,y.1=x∧y.2=.free
        · exact q
        · exfalso
          have:∀(names:List (Str × NameKind)) (cs:List (Str × Addr)),(¬∃y∈names,y.1=x∧y.2=.free)→cs.lookup x=none→(iv X.env names cs).lookup x=none:=by
            intro names
            induction names with
            | nil=>intro cs _ h;exact h
            | cons y r ih=>
              intro cs hn hcs
              obtain⟨n,k⟩:=y
              refine ih _ (fun⟨y,hy,z⟩=>hn ⟨y,List.mem_cons_of_mem _ hy,z⟩) ?_
              by_cases hk:(k==NameKind.free)=true
              · rw [if_pos hk,List.lookup_cons]
                cases hx:x==n with
                | true=>exact absurd ⟨(n,k),List.mem_cons_self,(by simpa using hx:x=n).symm,by simpa using hk⟩ hn
                | false=>exact hcs
              · rw [if_neg hk];exact hcs
          have z:=this scope.names [] q rfl
          have e2'':(iv X.env scope.names []).lookup x=some c:=e2
          rw [z] at e2'';cases e2''
      have z:=(hfr c' hc'.1 hc'.2.2).1
      rw [hc'.2.1,e1'] at z;cases z
    · obtain⟨f0,f1,f4,f5,f6,f7⟩:=f3 b hb
      obtain⟨o,ho,_⟩:=T.obj _ _ hst3 b hb
      exact⟨nC b o ho,fun x c e=>f6 x c (clS x c e)⟩
    · exact Nat.le_trans I.ok.bsz I3.sz
    · obtain⟨f0,f1,f4,f5,f6,f7⟩:=f3 b hb
      rcases f5 with z | z
      · exact I.ok.noex b o e z
      · have:=(I.ok.bs b o e).1
        exact absurd (Nat.lt_of_lt_of_le (Heap.lt_size this) z) (Nat.lt_irrefl _)
    · obtain⟨f0,f1,f4,f5,f6,f7⟩:=f3 b hb
      rcases List.mem_cons.mp (I3.stkSub b z) with z | z
      · exact f1 z
      · exact f4 z
  have I4:ax (bN X scope cp tgN C s₃ (bP H2 D (.lst [])) fp) [] (fw cp tgN.length σ) (bP H2 D (.lst [])) {s₃ with heap:=h₁,toks:=s₃.toks+([]:List (Str × Value)).length}:=by
    refine⟨ok',rfl,I3.bare,Un.kept old,⟨_,hns₁,fun i x v e1 e2 e3=>?_⟩,fun x c e=>?_,hHC,fun x c e=>I3.freeC x c (clS x c e),fun p hp=>by simp [bN] at hp,I3.hok.kept old,by simp [fw,bN]⟩
    · have hlt:i < cp.length:=by
        by_cases q:i < cp.length
        · exact q
        · exfalso
          unfold fw at e2
          rw [List.getElem?_append_right (by simp;lia)] at e2
          rw [List.getElem?_replicate] at e2
          split at e2<;>cases e2
      have e1':(cp.map (·.2))[i]?=some x:=by
        have e1'':(cp.map (·.2)++tgN)[i]?=some x:=e1
        rwa [List.getElem?_append_left (by simp;exact hlt)] at e1''
      have e2':(cp.map (fun p=>(σ[p.1]?).join))[i]?=some (some v):=by
        unfold fw at e2
        rwa [List.getElem?_append_left (by simp;exact hlt)] at e2
      rw [List.getElem?_map,List.getElem?_eq_getElem hlt] at e1' e2'
      have ex:(cp[i]).2=x:=by simpa using e1'
      have ev:(σ[(cp[i]).1]?).join=some v:=by simpa using e2'
      have ev':σ[(cp[i]).1]?=some (some v):=by
        cases q:σ[(cp[i]).1]? with
        | none=>rw [q] at ev;cases ev
        | some z=>rw [q] at ev;simp only [Option.join_some] at ev;rw [ev]
      have hN:=hcp cp[i] (List.getElem_mem hlt)
      rw [←hN0] at hN
      obtain⟨hcl,hcf⟩:=hcq cp[i] (List.getElem_mem hlt)
      rw [ex] at hN hcl hcf
      obtain⟨m,hn,hl⟩:=I3.loc
      obtain⟨u,r,l⟩:=hl _ x v hN ev' (.inr (.inl (by rw [hsc];exact hcl)))
      refine⟨u,r,.inr ?_⟩
      rcases l with ⟨k1,_⟩ | ⟨k1,c,hcc,o,ho,hd⟩
      · rw [hkind,hcl] at k1;cases k1
      · have e3':(relabel scope X.env).names.lookup x=some .local∨(relabel scope X.env).names.lookup x=some .cell∨(relabel scope X.env).names.lookup x=some .free:=e3
        have nl:(relabel scope X.env).names.lookup x=some .cell∨(relabel scope X.env).names.lookup x=some .free:=by
          rcases e3' with z | z | z
          · exact absurd z (eL hcf)
          · exact .inl z
          · exact .inr z
        obtain⟨c',hc'⟩:=clH x (eD hcell nl)
        have:=clS x c' hc'
        rw [hcc] at this;cases this
        exact⟨nl,c,hc',o,old c o ho,hd⟩
    · obtain⟨v,o,ho,hd⟩:=I3.cell x c (clS x c e)
      exact⟨v,o,old c o ho,hd⟩
  have hst4:tn 0 h₁:=T.keep _ _ _ hst3 fun b _ o e=>old b o e
  have loop:codeAny (model X.prog X.w) X.A (.compLoop (.ListComp elt [⟨tg,iter,ifs,0⟩] scope pos) 0 (.ref it) (.ref D) (compEnvC scope (iv X.env scope.names []) C X.env))
      (compPost (model X.prog X.w) X.A X.xe none (EP X pins σ Q) (.ref D) C) {s₃ with heap:=h₁,toks:=s₃.toks+([]:List (Str × Value)).length}:=by
    refine lw (fun n s'=>∃i σ' H',ax (bN X scope cp tgN C s₃ (bP H2 D (.lst [])) fp) [] σ' H' s'∧tn i s'.heap∧(∀b∈fp,H' b=none)∧W i n σ' H') ?_ (n0:=m0) ⟨0,_,_,I4,hst4,fun b hb=>(f3 b hb).1,w0⟩
    rintro n s5 ⟨i,σ5,H5,I5,st5,fr5,w5⟩
    have stat:∀{H':Hp},(∀b∈fp,H' b=none)→∀b∈fp,l8 (bN X scope cp tgN C s₃ (bP H2 D (.lst [])) fp) [] H' b:=fun hn b hb=>
      ⟨hn b hb,(ok'.exf b hb).1,ok'.exfs b hb,.inl hb,(ok'.exf b hb).2,fun p hp=>by simp [bN] at hp⟩
    rcases turn i n σ5 H5 w5 with ⟨stop,qn⟩ | ⟨go,N,hN,step⟩
    · refine bV (T.done (bN X scope cp tgN C s₃ (bP H2 D (.lst [])) fp) rfl rfl rfl hc i [] s5 σ5 H5 (fun _ _=>False) I5 (stat fr5) st5 stop) fun r s6 ⟨hr,I6⟩=>?_
      subst hr
      refine⟨fun _=>?_,fun v z=>by cases z⟩
      obtain⟨m,hn,_⟩:=I6.loc
      refine⟨m,hn,fun h' sb=>⟨.ref D,H5,?_,rfl,qn⟩⟩
      have ub:=I6.base
      have kp:∀b u,b≠C→s6.heap.get? b=some u→h'.get? b=some u:=fun b u ne e=>sb.extBut b u ne e
      have nit:∀b u,H5 b=some u→b≠C:=fun b u e z=>by
        have:=I6.free
        rw [z] at e
        rw [show H5 C=none from this] at e;cases e
      refine I3.call' (s':={s6 with heap:=h'}) (ch:=fp) I6.os ⟨fun b o e n hb hx=>kp b o (nC b o e) (ub.keep b o e n hb hx),fun b o e n hb hx=>?_,ub.free,fun b o e hx=>?_,ub.tups,ub.frzs,ub.tbls⟩ (fun b u e=>?_) I6.bare (fun b hb=>?_)
      · obtain⟨sl,q⟩:=ub.slot b o e n hb hx
        exact⟨sl,kp b _ (nC b o e) q⟩
      · obtain⟨o',q⟩:=ub.there b o e hx
        exact⟨o',kp b _ (nC b o e) q⟩
      · refine(I6.hok b u e).stay (fun c v hc q=>kp c v ?_ q) (fun _ q=>q) fun _ _ q=>q
        rcases hc with z | z
        · rw [z];exact nit b u e
        · exact nit c _ z
      · obtain⟨f0,f1,f4,f5,f6,f7⟩:=f3 b hb
        exact⟨f5,f1,f6,f7⟩
    · refine bV (T.item (bN X scope cp tgN C s₃ (bP H2 D (.lst [])) fp) rfl rfl rfl hc i [] s5 σ5 H5 (fun _ _=>False) I5 (stat fr5) st5 go) fun r s6 ⟨u,hr,h6⟩=>?_
      subst hr
      refine⟨fun z=>(by cases z),fun v z=>?_⟩
      cases z
      refine bV h6 fun _ s7 ⟨x,H7,I7,r7,y7,st7,fr7⟩=>?_
      have I7':=I7.pinned (stat fr7) (T.obj _ _ st7)
      have again:∀{σ8:L2.St} {H8:Hp} {s8:Shared},ax (bN X scope cp tgN C s₃ (bP H2 D (.lst [])) fp) ([]++jU fp s7.heap) σ8 H8 s8→N σ8 H8→∃m,m < n∧∃i σ' H',ax (bN X scope cp tgN C s₃ (bP H2 D (.lst [])) fp) [] σ' H' s8∧tn i s8.heap∧(∀b∈fp,H' b=none)∧W i m σ' H':=fun{σ8 H8 s8} I8 n8=>by
        obtain⟨m',hm,w8⟩:=hN σ8 H8 n8
        refine⟨m',hm,i+1,σ8,H8,I8.unpinned,T.keep _ _ _ st7 fun b hb o e=>(I8.pin (b,o) (List.mem_append_right _ (List.mem_append_right _ (eB hb e)))).1,fun b hb=>?_,w8⟩
        obtain⟨o,e,d⟩:=T.obj _ _ st7 b hb
        exact(I8.pin (b,o) (List.mem_append_right _ (List.mem_append_right _ (eB hb e)))).2.1
      refine bV (hg C s₃ (bP H2 D (.lst [])) fp _ s7 σ5 H7 x u _ I7' r7 (step x H7 y7)) fun _ s8 ⟨σ8,H8,I8,q8⟩=>?_
      refine bV (ht C s₃ (bP H2 D (.lst [])) fp _ s8 σ8 H8 _ I8 q8) fun ok s9 ⟨H9,I9,q9⟩=>?_
      cases ok with
      | false=>
        rw [if_neg Bool.false_ne_true] at q9 ⊢
        exact again I9 q9
      | true=>
        rw [if_pos rfl] at q9 ⊢
        refine bV (he C s₃ (bP H2 D (.lst [])) fp _ s9 σ8 H9 _ I9 q9) fun v s10 ⟨xv,H10,I10,r10,ys,hl,hz,n10⟩=>?_
        refine bV (kO _ s10 σ8 H10 (.ref D) [xv] (.ref D) [v] (fun _ H=>N σ8 H) I10 rfl (.cons r10 .nil) ⟨D,ys,xv,rfl,rfl,hl,hz,n10⟩) fun _ s11 ⟨_,H11,I11,_,q11⟩=>?_
        exact again I11 q11
  exact codeAny_compStart_list loop (T.self X.A 0 _ _ _ hst4 loop)
end L2
namespace L2
open PySem PySem.Spec PyProof.Rows
section
variable{X:Cx}
def rR(K:PySem.W.Frag):R2:=fun x y H Q=>∃a b xs ys,x=.ref a∧y=.ref b∧dm K H a xs∧dm K H b ys∧xs.length+ys.length≤sizeLine∧∀p H',au H H'→dm K H' p (xs++ys)→Q (.ref p) H'
theorem ud:dJ X (binaryOp .Add) (rR X.K):=by
  intro pins s σ H x y v u Q I rx ry h
  obtain⟨a,b,xs,ys,rfl,rfl,ha,hb,hz,q⟩:=h
  cases rx;cases ry
  by_cases hx:xs=[]
  · obtain⟨i1,r1,p1,_⟩:=I.tuple ha
    obtain⟨i2,r2,p2,_⟩:=I.tuple hb
    obtain⟨m,F⟩:=I.fr
    have e1:i1=[]:=by subst hx;cases r1;rfl
    refine add_tuples F (qX (g:=X.base)) p1 p2 (fun _=>?_) (fun z1 _=>absurd e1 z1) (fun z1 _ _ _ _=>absurd e1 z1) (by rw [←r1.length,←r2.length];exact hz)
    exact⟨.ref b,H,I,rfl,q b H (au.refl H) (by rw [hx];exact hb)⟩
  · exact ue pins s σ H (.ref a) (.ref b) _ _ Q I rfl rfl ⟨a,b,xs,ys,rfl,rfl,ha,hb,hx,hz,fun z=>q a H (au.refl H) (by rw [z,List.append_nil];exact ha),fun _ p hp=>q p _ (au.new hp) (dm.of aE)⟩
theorem rj{x:V}{us:List Value}(r:aM [x] us):∃u,us=[u]∧aZ x u:=by
  cases r with
  | cons p p'=>cases p';exact⟨_,rfl,p⟩
end
end L2
namespace L2
open PySem PySem.Spec PyProof.Rows
section
variable{X:Cx}
end
theorem pL{e:Expr}{es:List Expr}{env:Env}(h:PySem.W.isStarred e=false):starEach (e::es) env=(false,eval e env)::starEach es env:=by
  cases e<;>first | rfl | cases h
theorem As{X:Cx}{e:Expr}{es:List Expr}{te:TE}{t:TA}(ha:PE X e te)(hr:PA X es t)(h:PySem.W.isStarred e=false:=by rfl):PA X (e::es) (ip te t):=aS ha hr (pL h)
def oN:List (Int × Int)→TA
  | []=>su
  | p::r=>ip (zy (ip (tC (.int p.1)) (ip (tC (.int p.2)) su))) (oN r)
@[irreducible] def AG(ps:List (Int × Int)):TA:=oN ps
structure eI where
  one:Int
  other:Int
  top:Int
  bot:Int
  worth:Int
structure bU where
  things:Int
  ties:List eI
  pat:List Int
  asks:Int
structure eI.Ok (n:Int) (t:eI):Prop where
  o0:0≤t.one
  o1:t.one < t.other
  o2:t.other < n
  c0:0≤t.top
  c1:t.top≤t.bot
  b0:1≤t.bot
  b1:t.bot≤100
  w0:0≤t.worth
  w1:t.worth≤1000
  cop:Int.gcd t.top t.bot=1
structure bU.Ok (w:bU):Prop where
  t0:0≤w.things
  t1:w.things≤12
  ties:∀t∈w.ties,t.Ok w.things
  len:w.ties.length≤16
  pl:(w.pat.length:Int)=w.things
  pat:∀p∈w.pat,0≤p∧p≤20
  a0:0≤w.asks
  a1:w.asks≤40
def yk(K:PySem.W.Frag)(H:Hp)(v:V)(t:eI):Prop:=∃p q,v=.ref p∧dm K H p [.int t.one,.int t.other,.ref q,.int t.worth]∧dm K H q [.int t.top,.int t.bot]
inductive lm (K:PySem.W.Frag) (H:Hp):List V→List eI→Prop
  | nil:lm K H [] []
  | cons {v vs t ts}:yk K H v t→lm K H vs ts→lm K H (v::vs) (t::ts)
structure AU (K:PySem.W.Frag) (H:Hp) (v:V) (w:bU):Prop where
  ex:∃a b c ts,v=.ref a∧dm K H a [.int w.things,.ref b,.ref c,.int w.asks]∧dm K H b ts∧lm K H ts w.ties∧dm K H c (w.pat.map V.int)
section
variable{K:PySem.W.Frag}{H H':Hp}
end
theorem jH{t b:Int}(hb:0 < b)(h0:0≤t)(h1:t≤b)(h2:b≤100):0≤(a_ t b).1∧(a_ t b).1≤(a_ t b).2∧1≤(a_ t b).2∧(a_ t b).2≤100:=by
  obtain⟨d,e1,e2,e3,e4,e5⟩:=iG (t:=t) (b:=b) (by lia)
  generalize (a_ t b).1=x at*
  generalize (a_ t b).2=y at*
  have dp:0 < d:=by
    rcases Int.lt_or_gt_of_ne e2 with z | z
    · exfalso
      have:y*d < 0:=Int.mul_neg_of_pos_of_neg e5 z
      lia
    · exact z
  have x0:0≤x:=by
    rcases Int.lt_or_le x 0 with z | z
    · have:x*d < 0:=Int.mul_neg_of_neg_of_pos z dp
      lia
    · exact z
  have xy:x≤y:=by
    rcases Int.lt_or_le y x with z | z
    · have:y*d < x*d:=Int.mul_lt_mul_of_pos_right z dp
      lia
    · exact z
  have yb:y≤y*d:=by
    have:=Int.mul_le_mul_of_nonneg_left (show(1:Int)≤d by lia) (show 0≤y by lia)
    lia
  exact⟨x0,xy,by lia,by lia⟩
end L2
namespace L2
open PySem PySem.Spec PyProof.Rows
inductive kf {α β:Type} (R:α→β→Prop):List α→List β→Prop
  | nil:kf R [] []
  | cons {a b as bs}:R a b→kf R as bs→kf R (a::as) (b::bs)
namespace kf
variable{α β:Type}{R S:α→β→Prop}
theorem mono(h:∀a b,R a b→S a b):∀{as:List α} {bs:List β},kf R as bs→kf S as bs
  | _,_,.nil=>.nil
  | _,_,.cons x r=>.cons (h _ _ x) (mono h r)
theorem len:∀{as:List α} {bs:List β},kf R as bs→as.length=bs.length
  | _,_,.nil=>rfl
  | _,_,.cons _ r=>by simp [len r]
theorem get:∀{as:List α} {bs:List β} {i:Nat} {b:β},kf R as bs→bs[i]?=some b→∃a,as[i]?=some a∧R a b
  | _,_,_,_,.nil,e=>by simp at e
  | _,_,0,_,.cons x _,e=>by simp at e;subst e;exact⟨_,rfl,x⟩
  | _,_,i+1,b,.cons _ r,e=>by
    obtain⟨v,h1,h2⟩:=get (i:=i) (b:=b) r (by simpa using e)
    exact⟨v,by simpa using h1,h2⟩
end kf
section
variable{K:PySem.W.Frag}{a l:Addr}{xs:List V}{g:TG}{tc:TT}{te:TE}{Q:VK}{σ:L2.St}{H:Hp}{α β:Type}{us:List α}{cp:List (Nat × Str)}{nT:Nat}
def zH(aQ:Hp→V→β→Prop)(SI:L2.St→Prop)(us:List α)(f:α→Option β)(H:Hp)(l:Addr)(i:Nat)(σ:L2.St)(H':Hp):Prop:=SI σ∧au H H'∧∃vs,H' l=some (.lst vs)∧vs.length≤i∧kf (aQ H') vs ((us.take i).filterMap f)
end
def mK(ns:List Int):List Int:=ns.mergeSort
theorem j_(ns:List Int):(mK ns).Perm ns:=List.mergeSort_perm ns _
theorem yf{ns:List Int}{x:Int}:x∈mK ns↔ x∈ns:=(j_ ns).mem_iff
theorem ye(ns:List Int):(mK ns).length=ns.length:=(j_ ns).length_eq
section
variable{X:Cx}{K:PySem.W.Frag}{pos:Pos}
theorem um{es:List Expr}{k:Nat}{t:sN}{n:Nat}(hK:X.K=K)(hc:X.calm=true)(h:pW X es t)(hn:(assignEach es X.env).length=n:=by rfl)(hst:(assignEach es X.env).findIdx? (·.1)=none:=by rfl):PG X (.Tuple es k pos) (yA K n t):=hK ▸ xi hc h hn hst
theorem ur{tg l:Expr}{tl:TE}(h:X.K=K)(hl:PE X l tl):PI X tg l (yC K tl):=h ▸ xj hl
theorem rB{tg l:Expr}{tl:TE}(h:X.K=K)(hl:PE X l tl):PI X tg l (vw K tl):=h ▸ uq hl
end
instance:Inhabited eI:=⟨⟨0,1,1,1,0⟩⟩
def bU.tie(W:bU)(k:Int):eI:=W.ties.getD k.toNat default
def bU.has(W:bU)(k thing:Int):Bool:=(W.tie k).one==thing || (W.tie k).other==thing
def bU.many(W:bU)(asked:List Int)(thing:Int):Int:=((asked.filter fun k=>W.has k thing).length:Nat)
def bU.bears(W:bU)(asked taken:List Int)(thing:Int):Bool:= !taken.contains thing&&decide (W.many asked thing < W.pat.getD thing.toNat 0)
def bU.may(W:bU)(asked taken:List Int)(k:Int):Bool:= !(asked.contains k || decide (W.asks≤(asked.length:Int)))&&(W.bears asked taken (W.tie k).one&&W.bears asked taken (W.tie k).other)
def bU.askd(asked:List Int)(k:Int):List Int:=mK (asked++[k])
def bU.took(W:bU)(taken:List Int)(k:Int)(truth:Bool):List Int:=if truth then mK (taken++[(W.tie k).one,(W.tie k).other]) else taken
def bU.rng(W:bU):List Int:=(List.range W.ties.length).map Int.ofNat
def oS(W:bU)(k:Int):Prop:=0≤k∧k < (W.ties.length:Int)
theorem oS.get{W:bU}{k:Int}(h:oS W k):W.ties[k.toNat]?=some (W.tie k):=by
  have hk:k.toNat < W.ties.length:=by have:=h.1;have:=h.2;lia
  unfold bU.tie
  rw [List.getD_eq_getElem?_getD,List.getElem?_eq_getElem hk];rfl
theorem oS.ok{W:bU}{k:Int}(h:oS W k)(o:W.Ok):(W.tie k).Ok W.things:=o.ties _ (List.mem_of_getElem? h.get)
theorem zO{W:bU}{k:Int}:k∈W.rng↔ oS W k:=by
  unfold bU.rng oS
  rw [List.mem_map]
  constructor
  · rintro⟨n,hn,rfl⟩
    have:=List.mem_range.mp hn
    exact⟨Int.natCast_nonneg n,by simp;lia⟩
  · rintro⟨h0,h1⟩
    exact⟨k.toNat,List.mem_range.mpr (by lia),by simp;lia⟩
def vU(K:PySem.W.Frag)(H:Hp)(v:V)(asked taken:List Int):Prop:=∃a b c,v=.ref a∧dm K H a [.ref b,.ref c]∧dm K H b (asked.map V.int)∧dm K H c (taken.map V.int)
theorem vU.ts{K:PySem.W.Frag}{H H':Hp}(s:iT H H'){v:V}{asked taken:List Int}(h:vU K H v asked taken):vU K H' v asked taken:=by
  obtain⟨a,b,c,e,h1,h2,h3⟩:=h
  exact⟨a,b,c,e,s.tup h1,s.tup h2,s.tup h3⟩
section
variable{K:PySem.W.Frag}{σ:L2.St}{H:Hp}{Q:VK}{i j:Nat}{vW:V}{W:bU}{k:Int}
end
def vL(k:Int):Prop:= -1000000≤k∧k≤1000000
def Dk(n dep:Nat)(d:PyData):Prop:=d.showable=true∧jM d=true∧L2.cnt d≤n∧d.depth≤dep
theorem Dk.mono{n m dep e:Nat}{d:PyData}(h:Dk n dep d)(h1:n≤m)(h2:dep≤e):Dk m e d:=⟨h.1,h.2.1,Nat.le_trans h.2.2.1 h1,Nat.le_trans h.2.2.2 h2⟩
theorem Dk.int{k:Int}(h:vL k):Dk 1 2 (.int k):=by
  refine⟨?_,rfl,Nat.le_refl _,by simp [PyData.depth]⟩
  show decide (k.natAbs.log2 < 1920)=true
  rw [decide_eq_true_eq]
  exact Nat.lt_trans ((show Bt 64 k by have:=h.1;have:=h.2;unfold Bt;lia).log (by decide)) (by decide)
theorem Dk.bool(b:Bool):Dk 1 2 (.bool b):=⟨rfl,rfl,Nat.le_refl _,by simp [PyData.depth]⟩
theorem Dk.none:Dk 1 2 .none:=⟨rfl,rfl,Nat.le_refl _,by simp [PyData.depth]⟩
theorem Dk.all{n dep:Nat}:∀{ds:List PyData},(∀d∈ds,Dk n dep d)→PyData.showableAll ds=true∧ek ds=true∧gp ds≤ds.length*n∧PyData.depthAll ds≤dep
  | [],_=>⟨rfl,rfl,by simp [gp],by simp [PyData.depthAll]⟩
  | d::r,h=>by
    obtain⟨a1,a2,a3,a4⟩:=h d (by simp)
    obtain⟨b1,b2,b3,b4⟩:=Dk.all (ds:=r) fun x hx=>h x (by simp [hx])
    refine⟨?_,?_,?_,?_⟩
    · simp only [PyData.showableAll,a1,b1,Bool.and_self]
    · simp only [ek,a2,b2,Bool.and_self]
    · simp only [gp,List.length_cons,Nat.succ_mul]
      lia
    · simp only [PyData.depthAll];lia
theorem Dk.tup{n dep m:Nat}{ds:List PyData}(h:∀d∈ds,Dk n dep d)(hl:ds.length≤m):Dk (1+m*n) (dep+2) (.tuple ds):=by
  obtain⟨b1,b2,b3,b4⟩:=Dk.all h
  refine⟨b1,b2,?_,?_⟩
  · simp only [L2.cnt]
    have:=Nat.mul_le_mul_right n hl
    lia
  · simp only [PyData.depth];lia
theorem Dk.ok{n dep:Nat}{d:PyData}(h:Dk n dep d)(h1:n≤8000)(h2:dep≤60):d.showable=true∧d.depth≤60∧d.shown.length≤sizeLine:=by
  have:=kX h.2.1 h.1
  have sl:sizeLine=16777216:=sizeLine_eq
  have:=h.2.2.1
  exact⟨h.1,Nat.le_trans h.2.2.2 h2,by lia⟩
theorem Dk.ints{ns:List Int}{m:Nat}(hl:ns.length≤m)(h:∀r∈ns,vL r):Dk (1+m) 4 (.tuple (ns.map .int)):=by
  have:=Dk.tup (n:=1) (dep:=2) (m:=m) (ds:=ns.map PyData.int) (fun d hd=>by
    obtain⟨x,hx,rfl⟩:=List.mem_map.mp hd
    exact Dk.int (h x hx)) (by rw [List.length_map];exact hl)
  simpa using this
section
variable{K:PySem.W.Frag}{H:Hp}
theorem Dk.bools{ns:List Bool}{m:Nat}(hl:ns.length≤m):Dk (1+m) 4 (.tuple (ns.map .bool)):=by
  have:=Dk.tup (n:=1) (dep:=2) (m:=m) (ds:=ns.map PyData.bool) (fun d hd=>by
    obtain⟨x,hx,rfl⟩:=List.mem_map.mp hd
    exact Dk.bool x) (by rw [List.length_map];exact hl)
  simpa using this
def ay(t:eI):PyData:=.tuple [.int t.one,.int t.other,.tuple [.int t.top,.int t.bot],.int t.worth]
def bj(W:bU):PyData:=.tuple [.int W.things,.tuple (W.ties.map ay),.tuple (W.pat.map .int),.int W.asks]
def BI(asked taken:List Int):PyData:=.tuple [.tuple (asked.map .int),.tuple (taken.map .int)]
end
end L2
namespace L2
open PySem PySem.Spec PyProof.Rows
theorem p9:∀{bs:List Bool} {us:List Value} {i:Nat} {v:Value},aM (bs.map V.bl) us→us[i]?=some v→∃b,bs[i]?=some b∧v=.bool b
  | [],us,i,v,r,e=>by cases r;simp at e
  | b::bs,us,i,v,r,e=>by
    cases r with
    | cons p q=>
      cases i with
      | zero=>simp at e;subst e;cases p;exact⟨b,rfl,rfl⟩
      | succ i=>
        obtain⟨c,h1,h2⟩:=p9 (bs:=bs) (i:=i) (v:=v) q (by simpa using e)
        exact⟨c,by simpa using h1,h2⟩
theorem uL(bs:List Bool):((List.range bs.length).all fun i=>(bs[i]?).getD true)=bs.all id:=by
  rw [Bool.eq_iff_iff,List.all_eq_true,List.all_eq_true]
  constructor
  · intro h b hb
    obtain⟨i,hi,rfl⟩:=List.getElem_of_mem hb
    have:=h i (List.mem_range.mpr hi)
    rw [List.getElem?_eq_getElem hi] at this
    exact this
  · intro h i hi
    have hi':=List.mem_range.mp hi
    rw [List.getElem?_eq_getElem hi']
    exact h _ (List.getElem_mem hi')
section
variable{X:Cx}
theorem qc{k:Nat}{K:PySem.W.Frag}(hr:cf k X.A)(hK:X.K=K):dh X (.builtin "all") (fun xs H Q=>∃(l:Addr) (bs:List Bool),xs=[.ref l]∧eM K H l (bs.map V.bl)∧Q (.bl (bs.all id)) H):=by
  intro pins s σ H xs us Q I r h
  subst hK
  obtain⟨l,bs,rfl,hs,q⟩:=h
  obtain⟨u,rfl,ru⟩:=rj r
  cases ru
  obtain⟨its,rv,p,hz⟩:=I.list hs
  have hl:=p.isList
  have lt:l < s.heap.objs.size:=by obtain⟨_,e,_⟩:=hl;exact Heap.lt_size e
  refine PySem.call_all_walk (wpAny_pyIter_list hl ?_)
  refine⟨s.heap.objs.size,[s.heap.objs.size,l],[s.heap.objs.size],its.toArray.size,_,_,fun i=>(bs[i]?).getD true,rfl,Walks.list (A:=X.A.in1) hr.hd _ l (Nat.ne_of_lt lt) its.toArray,⟨⟨_,Heap.get?_push_size _ rfl,rfl,rfl⟩,hl.push _⟩,fun i v s' Q' E' hP hQ=>?_,fun h' tk hk=>?_⟩
  · obtain⟨b,e,rfl⟩:=p9 rv (by simpa using hP)
    simp only [e,Option.getD_some] at hQ
    exact wpAny_truthy_bool hQ
  · have e:its.toArray.size=bs.length:=by have:=rv.length;rw [List.length_map] at this;simpa using this.symm
    rw [e,uL]
    refine⟨.bl (bs.all id),H,I.kept fun b x e=>hk b x (fun hm=>?_) (Heap.get?_push_of_some _ e),rfl,q⟩
    rw [List.mem_singleton.mp hm] at e
    exact Nat.lt_irrefl _ (Heap.lt_size e)
end
end L2
namespace L2
theorem p_:PySem.bootBuiltins "all"=some (.builtin "all"):=by decide+kernel
end L2
namespace L2
open PySem PySem.Spec PyProof.Rows
section
variable{prog:Program}{w:World}{A:Around}{E:Value→Shared→Prop}{s:Shared}
end
structure Sc (prog:Program) (w:World) (it l:Addr) (St:Nat→Heap→Prop) (Sq:Heap→Array Value→Prop):Prop where
  stay:∀{k h h'},St k h→(∀o,h.get? it=some o→h'.get? it=some o)→St k h'
  live:∀{k h},St k h→∃o,h.get? it=some o∧∀v,o.data≠.cell v
  row:∀{h h' xs},Sq h xs→(∀o,h.get? l=some o→h'.get? l=some o)→Sq h' xs
  next:∀{A:Around} {s:Shared} {E:Value→Shared→Prop} {Q:Value→Shared→Prop} {k:Nat} {xs:Array Value} {x:Value},St k s.heap→Sq s.heap xs→xs[k]?=some x→(∀g,St (k+1) g→Heap.SameBut it s.heap g→Q x {s with heap:=g})→wpAny (model prog w) A (Builtin.SmallTypes.nextOf (.ref it)) Q E s
  last:∀{A:Around} {s:Shared} {E:Value→Shared→Prop} {Q:Value→Shared→Prop} {k:Nat} {xs:Array Value},A.handled=none→St k s.heap→Sq s.heap xs→xs[k]?=none→(∀g e,Heap.ExtBut it s.heap g→(∃o,g.get? e=some o∧o.cls=.type "StopIteration")→E (.ref e) {s with heap:=g})→wpAny (model prog w) A (Builtin.SmallTypes.nextOf (.ref it)) Q E s
structure AL (z TI TO i1 i2 l1 l2:Addr):Prop where
  a1:TO≠z
  a2:i1≠z
  a3:i2≠z
  a4:TO≠i1
  a5:TO≠i2
  a6:i1≠i2
  b1:l1≠z
  b2:l1≠TO
  b3:l1≠i1
  b4:l1≠i2
  c1:l2≠z
  c2:l2≠TO
  c3:l2≠i1
  c4:l2≠i2
section
variable{prog:Program}{w:World}{A:Around}{E:Value→Shared→Prop}{s:Shared}{z TI TO i1 i2 l1 l2:Addr}{k:Nat}{xs ys:Array Value}{a b:Value}{S1 S2:Nat→Heap→Prop}{R1 R2:Heap→Array Value→Prop}
end
end L2
namespace L2
open PySem PySem.Spec PyProof.Rows
section
variable{X:Cx}{pins:List (Addr × Obj)}{σ:L2.St}{H:Hp}{s:Shared}{h':Heap}
end
section
variable{prog:Program}{w:World}{A:Around}{E:Value→Shared→Prop}{s:Shared}
end
end L2
namespace L2
open PySem PySem.Spec PyProof.Rows
def vQ(h:Heap)(z TI TO:Addr)(a:Addr)(f:Bool):Prop:=h.get? z=some {cls:=.type "zip",data:=.fields #[rawInt a,.bool f,.bool false,.ref TI,.ref TO]}
section
variable{prog:Program}{w:World}{A:Around}{E:Value→Shared→Prop}{s:Shared}{z TI TO i1 i2 l1 l2:Addr}{k:Nat}{xs ys:Array Value}{a:Addr}{f:Bool}{S1 S2:Nat→Heap→Prop}{R1 R2:Heap→Array Value→Prop}
end
end L2
namespace L2
open PySem PySem.Spec PyProof.Rows
structure ZL (S z TI TO i1 i2 l1 l2:Addr) (xs ys:Array Value) (i:Nat) (h:Heap):Prop where
  pr:IsPair h TI (.ref i1) (.ref i2)
  t1:h.IsTupleIter i1 l1 i
  t2:h.IsTupleIter i2 l2 i
  s1:h.IsTuple l1 xs
  s2:h.IsTuple l2 ys
  ot:∃o,h.get? TO=some o
  zs:(IsZip h z TI TO .none∧∃a b,IsPair h TO a b)∨∃a f oa,vQ h z TI TO a f∧h.get? a=some oa∧a≠S∧a≠z∧a≠i1∧a≠i2
structure AK (S z TO i1 i2:Addr) (xs ys:Array Value) (h:Heap) (acc:Array Value) (i:Nat):Prop where
  sz:acc.size=i
  at_:∀(j:Nat) (v:Value),acc[j]?=some v→∃(p:Addr) (x y:Value),v=.ref p∧xs[j]?=some x∧ys[j]?=some y∧IsPair h p x y∧p≠S∧p≠z∧p≠TO∧p≠i1∧p≠i2
  lo:∀(j:Nat) (p:Addr),acc[j]?=some (.ref p)→S < p
  Br:∀(i j:Nat) (p q:Addr),i < j→acc[i]?=some (.ref p)→acc[j]?=some (.ref q)→p < q
section
variable{prog:Program}{w:World}{A:Around}{R:Result→Shared→Prop}{S z TI TO i1 i2 l1 l2:Addr}{xs ys:Array Value}{n:Nat}
end
end L2
namespace L2
open PySem PySem.Spec PyProof.Rows
section
variable{X:Cx}{pins:List (Addr × Obj)}{σ:L2.St}{H H':Hp}{s:Shared}{h':Heap}
end
end L2
namespace L2
open PySem PySem.Spec PyProof.Rows
section
variable{prog:Program}{w:World}{A:Around}{E:Value→Shared→Prop}{s:Shared}{e it l:Addr}{k:Nat}{xs:Array Value}{S:Nat→Heap→Prop}{R:Heap→Array Value→Prop}
end
section
variable{X:Cx}{pins:List (Addr × Obj)}{σ:L2.St}{H:Hp}{s:Shared}
end
end L2
namespace L2
open PySem PySem.Spec PyProof.Rows
section
variable{X:Cx}{a:Expr}{ta:TA}{p p2 pos pos2:Pos}
end
end L2
namespace L2
open PySem PySem.Spec PyProof.Rows
theorem pw:fillsNumberSlot (.type "tuple") "mul"=pure false:=
  PySem.fillsNumberSlot_seq (id:="tuple.__mul__") (r:=some (.builtin "tuple.__rmul__")) F.slot_tuple_mul.lookup (by decide+kernel) F.slot_tuple_rmul.lookup (by decide+kernel)
theorem xD:seqRepeat? (.type "tuple")=pure (some (.builtin "tuple.__mul__")):=by
  unfold seqRepeat?;rw [PySem.seqSlot_of (T:="tuple") (name:="__mul__") (id:="tuple.__mul__") F.slot_tuple_mul.lookup (by decide+kernel),PySem.seqSlot_of (T:="tuple") (name:="__rmul__") (id:="tuple.__rmul__") F.slot_tuple_rmul.lookup (by decide+kernel)];rfl
theorem uK(a:Int)(t:Tok)(l:Addr)(items:Array Value)(n:Nat)(dd:Option Addr)(sl:Array (Option Value)):
    Meets (Builtin.«int.__rmul__» ⟨[.int a t,.ref l],[]⟩) (fun _ R s=>s.heap.get? l=some {cls:=.type "tuple",dict:=dd,data:=.seq items n,slots:=sl}∧R (.ok (.ret Value.notImplemented)) s):=
  .of_wp fun prog w A R s h=>by obtain⟨hp,g,d,tk,os⟩:=s;obtain⟨hl,h⟩:=h;wp_walk;exact⟨_,rfl,h⟩
theorem wD(l:Addr)(x:Value)(n:Nat)(k:Int)(u:Tok)(dd:Option Addr)(sl:Array (Option Value))(h0:2≤k)(h1:k≤100000):
    Meets (Builtin.«tuple.__mul__» ⟨[.ref l,.int k u],[]⟩) (fun _ R s=>s.heap.get? l=some {cls:=.type "tuple",dict:=dd,data:=.seq #[x] n,slots:=sl}∧
      R (.ok (.ret (.ref s.heap.objs.size))) {s with heap:=s.heap.push {cls:=.type "tuple",data:=.seq (List.replicate k.toNat x).toArray}}):=
  .of_wp fun prog w A R s h=>by
    obtain⟨hp,g,d,tk,os⟩:=s;obtain⟨hl,h⟩:=h
    have f1:=AutoSeq1.idx_int
    have c1:¬(decide (k < -(2 ^ 63)) || decide (k≥2 ^ 63))=true:=by simp;lia
    have c2:¬((#[x]:Array Value).isEmpty || k==1)=true:=by simp;lia
    have c3:¬(decide (k≤0) || (#[x]:Array Value).isEmpty)=true:=by simp;lia
    have c4:¬(((#[x]:Array Value).size:Int)*k > (2 ^ 63 - 1) / 8):=by simp;lia
    have c5:¬Builtin.Tuple.tupleTooMany (((#[x]:Array Value).size:Int)*k)=true:=by
      unfold Builtin.Tuple.tupleTooMany;rw [sizeLine_eq];simp;lia
    wp_walk using wpAny_loadPart' hl
    rw [if_neg c1]
    wp_walk using wpAny_loadPart' hl
    rw [if_neg c2]
    wp_walk using wpAny_loadPart' hl
    rw [if_neg c3]
    wp_walk using wpAny_loadPart' hl
    rw [if_neg c4]
    show wpAny _ _ (if Builtin.Tuple.tupleTooMany (((#[x]:Array Value).size:Int)*k)=true then _ else _) _ _ _
    rw [if_neg c5]
    have f0:∀(m:Nat) (acc:Array Value),List.foldl (fun x1 x2=>x1++x2) acc (List.replicate m #[x])=acc++(List.replicate m x).toArray:=by
      intro m
      induction m with
      | zero=>intro acc;simp
      | succ m ih=>intro acc;rw [List.replicate_succ,List.foldl_cons,ih,List.replicate_succ];apply Array.toList_inj.mp;simp
    have e:List.foldl (fun x1 x2=>x1++x2) #[] (List.replicate k.toNat #[x])=(List.replicate k.toNat x).toArray:=by rw [f0];simp
    show wpAny _ _ (Builtin.Tuple.tupleExact (List.foldl (fun x1 x2=>x1++x2) #[] (List.replicate k.toNat #[x])) >>= fun v=>ret v) _ _ _
    rw [e]
    unfold Builtin.Tuple.tupleExact
    refine wpAny_bind (wpAny_newObj_type ?_ (by show(List.replicate k.toNat x).toArray.size≤sizeLine;rw [List.size_toArray,List.length_replicate,sizeLine_eq];lia))
    exact wpAny_pure ⟨_,rfl,h⟩
theorem tS(l:Addr)(x:Value)(n:Nat)(u:Tok)(dd:Option Addr)(sl:Array (Option Value)):
    Meets (Builtin.«tuple.__mul__» ⟨[.ref l,.int 0 u],[]⟩) (fun _ R s=>s.heap.get? l=some {cls:=.type "tuple",dict:=dd,data:=.seq #[x] n,slots:=sl}∧R (.ok (.ret (.ref s.heap.objs.size))) {s with heap:=s.heap.push {cls:=.type "tuple",data:=.seq #[]}}):=
  .of_wp fun prog w A R s h=>by
    obtain⟨hp,g,d,tk,os⟩:=s;obtain⟨hl,h⟩:=h;have f1:=AutoSeq1.idx_int
    have c2:¬((#[x]:Array Value).isEmpty || (0:Int)==1)=true:=by simp
    wp_walk using wpAny_loadPart' hl
    first | rw [if_neg c2] | skip
    wp_walk using wpAny_loadPart' hl
    exact⟨_,rfl,h⟩
theorem tT(l:Addr)(x:Value)(n:Nat)(u:Tok)(dd:Option Addr)(sl:Array (Option Value)):
    Meets (Builtin.«tuple.__mul__» ⟨[.ref l,.int 1 u],[]⟩) (fun _ R s=>s.heap.get? l=some {cls:=.type "tuple",dict:=dd,data:=.seq #[x] n,slots:=sl}∧R (.ok (.ret (.ref l))) s):=
  .of_wp fun prog w A R s h=>by
    obtain⟨hp,g,d,tk,os⟩:=s;obtain⟨hl,h⟩:=h;have f1:=AutoSeq1.idx_int
    wp_walk using wpAny_loadPart' hl
    exact⟨_,rfl,h⟩
section
variable{X:Cx}
def rT(K:PySem.W.Frag):R2:=fun x y H Q=>∃a k v,x=.ref a∧y=.int k∧dm K H a [v]∧0≤k∧k≤100000∧∀p H',au H H'→dm K H' p (List.replicate k.toNat v)→Q (.ref p) H'
theorem uj:dJ X (binaryOp .Mult) (rT X.K):=by
  intro pins s σ H x y v u Q I rx ry h
  obtain⟨a,k,z,rfl,rfl,ha,k0,k1,q⟩:=h
  cases rx
  obtain⟨t,rfl⟩:=ry
  obtain⟨its,r,p,hz⟩:=I.tuple ha
  obtain⟨uz,rfl,rz⟩:=rj r
  obtain⟨⟨cls,dd,data,sl⟩,ho,hc,n,hd⟩:=id p
  simp only at hc hd
  subst hc hd
  refine wpAny_binaryOp_repeat_ref (T:="tuple") (U:="int") (by decide) ⟨_,ho,rfl⟩ (fun s'=>PySem.typeIs_int s' k t) pw F.fills_int_mul F.slot_int_rmul xD F.slot_int_index.lookup (call_meets F.slot_int_rmul (PySem.typeIs_int s k t) F.entry_int_rmul (F.args_int_rmul_2 _ _) (uK k t a #[uz] n dd sl) ⟨ho,rfl,⟨_,ho,rfl⟩,?_⟩)
  have new:∀m:Nat,m=k.toNat→EP X pins σ Q (.ref s.heap.objs.size) {s with heap:=s.heap.push {cls:=.type "tuple",data:=.seq (List.replicate m uz).toArray},toks:=s.toks}:=fun m hm=>by
    have hf:H s.heap.objs.size=none:=I.hok.fresh (Nat.le_refl _)
    have vv:∀j:Nat,aM (List.replicate j z) (List.replicate j uz):=fun j=>by
      induction j with
      | zero=>exact .nil
      | succ j ih=>exact .cons rz ih
    refine⟨.ref s.heap.objs.size,_,I.laid (t':=s.toks) (o:=.tup (List.replicate m z)) (fun b ob q=>Heap.get?_push_of_some _ q) (Nat.le_refl _) ⟨by rw [List.length_replicate,sizeLine_eq];lia,_,vv m,lg.new _ _⟩,rfl,q _ _ (au.new hf) (dm.of (by rw [aE,hm]))⟩
  rcases(by lia:k=0∨k=1∨2≤k) with e | e | e
  · subst e
    exact call_meets F.slot_tuple_mul ⟨_,ho,rfl⟩ F.entry_tuple_mul (F.args_tuple_mul_2 _ _) (tS a uz n t dd sl) ⟨ho,new 0 rfl⟩
  · subst e
    exact call_meets F.slot_tuple_mul ⟨_,ho,rfl⟩ F.entry_tuple_mul (F.args_tuple_mul_2 _ _) (tT a uz n t dd sl) ⟨ho,⟨.ref a,H,I,rfl,q a H (au.refl H) ha⟩⟩
  · exact call_meets F.slot_tuple_mul ⟨_,ho,rfl⟩ F.entry_tuple_mul (F.args_tuple_mul_2 _ _) (wD a uz n k t dd sl e k1) ⟨ho,new _ rfl⟩
end
end L2
namespace L2
open PySem PySem.Spec PyProof.Rows
section
variable{prog:Program}{w:World}{A:Around}{E:Value→Shared→Prop}{s:Shared}
end
section
variable{X:Cx}{a:Expr}{ta:TA}{p p2 p3 pos pos2 pos3:Pos}
end
end L2
namespace L2
open PySem PySem.Spec PyProof.Rows
section
variable{prog:Program}{w:World}{A:Around}{E:Value→Shared→Prop}{s:Shared}
end
section
variable{X:Cx}{K:PySem.W.Frag}{es:List Expr}{k0:Nat}{tp:Pos}{a:Expr}{ta:TA}{p pos:Pos}
end
end L2
namespace L2
open PySem PySem.Spec PyProof.Rows
section
variable{prog:Program}{w:World}{A:Around}{E:Value→Shared→Prop}{s:Shared}
end
section
variable{prog:Program}{w:World}{A:Around}{E:Value→Shared→Prop}{s:Shared}
end
section
variable{prog:Program}{w:World}{A:Around}{E:Value→Shared→Prop}{s:Shared}
end
end L2
namespace L2
open PySem PySem.Spec PyProof.Rows
end L2
namespace L2
open PySem PySem.Spec PyProof.Rows
inductive pX where
  | vi (k:Int)
  | vb (x:Bool)
  | vn
def pX.toV:pX→V
  | .vi k=>.int k
  | .vb x=>.bl x
  | .vn=>.non
def pX.toD:pX→PyData
  | .vi k=>.int k
  | .vb x=>.bool x
  | .vn=>.none
mutual
def DA(K:PySem.W.Frag)(F:Hp):PyData→V→Prop
  | .none,v=>v=.non
  | .bool b,v=>v=.bl b
  | .int i,v=>v=.int i
  | .str x,v=>v=.str x
  | .tuple ds,v=>∃a xs,v=.ref a∧dm K F a xs∧aH K F ds xs
  | .list ds,v=>∃a xs,v=.ref a∧eM K F a xs∧aH K F ds xs
  | .dict kvs,v=>∃(a:Addr) (m:List (Int × pX)),v=.ref a∧F a=some (.dK (m.map fun p=>(Sum.inl p.1,p.2.toV)))∧kvs=m.map fun p=>(PyData.int p.1,p.2.toD)
def aH(K:PySem.W.Frag)(F:Hp):List PyData→List V→Prop
  | [],xs=>xs=[]
  | d::ds,xs=>∃x r,xs=x::r∧DA K F d x∧aH K F ds r
end
mutual
theorem DA.mono{K:PySem.W.Frag}{F F':Hp}(h:au F F'):∀{d:PyData} {v:V},DA K F d v→DA K F' d v
  | .none,_,q=>by simp only [DA] at q ⊢;exact q
  | .bool b,_,q=>by simp only [DA] at q ⊢;exact q
  | .int i,_,q=>by simp only [DA] at q ⊢;exact q
  | .str x,_,q=>by simp only [DA] at q ⊢;exact q
  | .tuple ds,_,q=>by
    simp only [DA] at q ⊢
    obtain⟨a,xs,e,s,r⟩:=q
    exact⟨a,xs,e,h.tup s,aH.mono h r⟩
  | .list ds,_,q=>by
    simp only [DA] at q ⊢
    obtain⟨a,xs,e,s,r⟩:=q
    exact⟨a,xs,e,h.seq s,aH.mono h r⟩
  | .dict _,_,q=>by
    simp only [DA] at q ⊢
    obtain⟨a,m,e,s,k⟩:=q
    exact⟨a,m,e,h _ _ s,k⟩
theorem aH.mono{K:PySem.W.Frag}{F F':Hp}(h:au F F'):∀{ds:List PyData} {xs:List V},aH K F ds xs→aH K F' ds xs
  | [],_,q=>by simp only [aH] at q ⊢;exact q
  | d::ds,_,q=>by
    simp only [aH] at q ⊢
    obtain⟨x,r,e,a,b⟩:=q
    exact⟨x,r,e,DA.mono h a,aH.mono h b⟩
end
section
variable{K:PySem.W.Frag}{F:Hp}
theorem aH.len:∀{ds:List PyData} {xs:List V},aH K F ds xs→ds.length=xs.length
  | [],_,q=>by simp only [aH] at q;subst q;rfl
  | d::ds,_,q=>by
    simp only [aH] at q
    obtain⟨x,r,e,a,b⟩:=q
    subst e
    simp [aH.len b]
theorem aH.get:∀{ds:List PyData} {xs:List V} {i:Nat} {d:PyData},aH K F ds xs→ds[i]?=some d→∃v,xs[i]?=some v∧DA K F d v
  | [],_,_,_,_,h=>by simp at h
  | d::ds,_,i,d',q,h=>by
    simp only [aH] at q
    obtain⟨x,r,e,a,b⟩:=q
    subst e
    cases i with
    | zero=>simp at h;subst h;exact⟨x,rfl,a⟩
    | succ i=>
      obtain⟨v,h1,h2⟩:=aH.get (i:=i) b (by simpa using h)
      exact⟨v,by simpa using h1,h2⟩
theorem aH.append:∀{ds es:List PyData} {xs ys:List V},aH K F ds xs→aH K F es ys→aH K F (ds++es) (xs++ys)
  | [],_,_,_,q,s=>by simp only [aH] at q;subst q;simpa using s
  | d::ds,es,_,ys,q,s=>by
    simp only [aH] at q
    obtain⟨x,r,e,a,b⟩:=q
    subst e
    simp only [List.cons_append,aH]
    exact⟨x,_,rfl,a,aH.append b s⟩
theorem aH.one{d:PyData}{v:V}(h:DA K F d v):aH K F [d] [v]:=by simp only [aH];exact⟨_,_,rfl,h,rfl⟩
theorem aH.nil:aH K F [] []:=by simp only [aH]
theorem aH.cons{d:PyData}{v:V}{ds:List PyData}{vs:List V}(h:DA K F d v)(r:aH K F ds vs):aH K F (d::ds) (v::vs):=by simp only [aH];exact⟨_,_,rfl,h,r⟩
theorem aH.drop:∀{ds:List PyData} {xs:List V} (n:Nat),aH K F ds xs→aH K F (ds.drop n) (xs.drop n)
  | _,_,0,q=>q
  | [],_,n+1,q=>by simp only [aH] at q;subst q;exact aH.nil
  | d::ds,_,n+1,q=>by
    simp only [aH] at q
    obtain⟨x,r,e,a,b⟩:=q
    subst e
    simpa using aH.drop n b
theorem aH.take:∀{ds:List PyData} {xs:List V} (n:Nat),aH K F ds xs→aH K F (ds.take n) (xs.take n)
  | _,_,0,q=>by simpa using aH.nil
  | [],_,n+1,q=>by simp only [aH] at q;subst q;exact aH.nil
  | d::ds,_,n+1,q=>by
    simp only [aH] at q
    obtain⟨x,r,e,a,b⟩:=q
    subst e
    simpa using aH.cons a (aH.take n b)
theorem aH.erase:∀{ds:List PyData} {xs:List V} (n:Nat),aH K F ds xs→aH K F (ds.eraseIdx n) (xs.eraseIdx n)
  | [],_,_,q=>by simp only [aH] at q;subst q;exact aH.nil
  | e::ds,_,n,q=>by
    simp only [aH] at q
    obtain⟨x,r,e,a,b⟩:=q
    subst e
    cases n with
    | zero=>exact b
    | succ n=>exact aH.cons a (aH.erase n b)
theorem aH.ints:∀{ns:List Int} {xs:List V},aH K F (ns.map .int) xs↔ xs=ns.map V.int
  | [],xs=>by simp [aH]
  | n::ns,xs=>by
    simp only [List.map_cons,aH,DA]
    constructor
    · rintro⟨x,r,e,rfl,q⟩;rw [e,aH.ints.mp q]
    · rintro rfl;exact⟨_,_,rfl,rfl,aH.ints.mpr rfl⟩
theorem aH.bools:∀{ns:List Bool} {xs:List V},aH K F (ns.map .bool) xs↔ xs=ns.map V.bl
  | [],xs=>by simp [aH]
  | n::ns,xs=>by
    simp only [List.map_cons,aH,DA]
    constructor
    · rintro⟨x,r,e,rfl,q⟩;rw [e,aH.bools.mp q]
    · rintro rfl;exact⟨_,_,rfl,rfl,aH.bools.mpr rfl⟩
theorem bg{i:Int}{v:V}:DA K F (.int i) v↔ v=.int i:=by simp only [DA]
theorem bQ{b:Bool}{v:V}:DA K F (.bool b) v↔ v=.bl b:=by simp only [DA]
theorem gT{v:V}:DA K F .none v↔ v=.non:=by simp only [DA]
theorem nh{x:Str}{v:V}:DA K F (.str x) v↔ v=.str x:=by simp only [DA]
theorem cJ{ds:List PyData}{v:V}:DA K F (.tuple ds) v↔ ∃a xs,v=.ref a∧dm K F a xs∧aH K F ds xs:=by simp only [DA]
theorem cx{ds:List PyData}{v:V}:DA K F (.list ds) v↔ ∃a xs,v=.ref a∧eM K F a xs∧aH K F ds xs:=by simp only [DA]
end
inductive Sv where
  | d (x:PyData)
  | l (xs:List PyData)
  /-- a list of lists that nobody else holds -/
  | n (xss:List (List PyData))
abbrev En:=List (Option Sv)
inductive Rv where
  | d (x:PyData)
  | l (xs:List PyData)
  | s (i:Nat)
def Fp(σ:L2.St)(e:En)(H:Hp)(i:Nat)(a:Addr):Prop:=(∃xs:List PyData,e[i]?=some (some (Sv.l xs))∧σ[i]?=some (some (.ref a)))∨
  ∃(xss:List (List PyData)) (l:Addr) (bs:List Addr),e[i]?=some (some (Sv.n xss))∧σ[i]?=some (some (.ref l))∧H l=some (.lst (bs.map V.ref))∧(a=l∨a∈bs)
def bW(σ:L2.St)(e:En)(H:Hp)(a:Addr):Prop:=∃i,Fp σ e H i a
structure aQ (K:PySem.W.Frag) (F H:Hp) (σ:L2.St) (e:En):Prop where
  sm:au F H
  len:σ.length=e.length
  dat:∀(i:Nat) (x:PyData),e[i]?=some (some (.d x))→∃v,σ[i]?=some (some v)∧DA K F x v
  own:∀(i:Nat) (xs:List PyData),e[i]?=some (some (.l xs))→∃l vs,σ[i]?=some (some (.ref l))∧F l=none∧H l=some (.lst vs)∧aH K F xs vs
  nst:∀(i:Nat) (xss:List (List PyData)),e[i]?=some (some (.n xss))→∃(l:Addr) (bs:List Addr),σ[i]?=some (some (.ref l))∧F l=none∧H l=some (.lst (bs.map V.ref))∧bs.length=xss.length∧bs.Nodup∧l∉bs∧
    ∀(k:Nat) (b:Addr) (ys:List PyData),bs[k]?=some b→xss[k]?=some ys→F b=none∧∃us,H b=some (.lst us)∧aH K F ys us
  fp:∀(i j:Nat) (a:Addr),Fp σ e H i a→Fp σ e H j a→i=j
theorem aQ.inj{K:PySem.W.Frag}{F H:Hp}{σ:L2.St}{e:En}(R:aQ K F H σ e)(i j:Nat)(xs ys:List PyData)(l:Addr)(h1:e[i]?=some (some (.l xs)))(h2:e[j]?=some (some (.l ys)))(h3:σ[i]?=some (some (.ref l)))(h4:σ[j]?=some (some (.ref l))):i=j:=R.fp i j l (.inl ⟨xs,h1,h3⟩) (.inl ⟨ys,h2,h4⟩)
theorem aQ.fpAt{K:PySem.W.Frag}{F H:Hp}{σ:L2.St}{e:En}(R:aQ K F H σ e){i:Nat}{a:Addr}(h:Fp σ e H i a):F a=none∧∃vs,H a=some (.lst vs):=by
  rcases h with ⟨xs,h1,h2⟩ | ⟨xss,l,bs,h1,h2,h3,h4⟩
  · obtain⟨l,vs,g1,g2,g3,_⟩:=R.own i xs h1
    rw [h2] at g1;cases g1
    exact⟨g2,vs,g3⟩
  · obtain⟨l',bs',g1,g2,g3,g4,g5,g6,g7⟩:=R.nst i xss h1
    rw [h2] at g1;cases g1
    rw [h3] at g3
    have e1:bs=bs':=by
      have:=HO.lst.inj (Option.some.inj g3)
      exact List.map_inj_right (fun _ _ z=>V.ref.inj z) |>.mp this
    subst e1
    rcases h4 with rfl | h4
    · exact⟨g2,_,h3⟩
    · obtain⟨k,hk⟩:=List.getElem?_of_mem h4
      have hk2:k < xss.length:=by rw [←g4];exact(List.getElem?_eq_some_iff.mp hk).1
      obtain⟨c1,us,c2,_⟩:=g7 k a xss[k] hk (List.getElem?_eq_getElem hk2)
      exact⟨c1,us,c2⟩
structure dc (σ:L2.St) (F H:Hp) (e:En) (F' H':Hp) (e':En):Prop where
  sf:au F F'
  dom:∀a,H' a=none→H a=none
  fr:∀a vs,F a=none→H a=some (.lst vs)→¬bW σ e H a→F' a=none
  lst:∀a vs,H a=some (.lst vs)→∃vs',H' a=some (.lst vs')
  tmp:∀a o,H a=some o→¬bW σ e H a→H' a=some o
  shp:∀i:Nat,(∃xs,e'[i]?=some (some (.l xs)))↔ (∃xs,e[i]?=some (some (.l xs)))
  ow:∀a,bW σ e' H' a→bW σ e H a∨H a=none
  fd:∀a m,F a=none→H a=some (.dK m)→¬bW σ e H a→F' a=none
theorem dc.refl(σ:L2.St)(F H:Hp)(e:En):dc σ F H e F H e:=⟨au.refl _,fun _ h=>h,fun _ _ h _ _=>h,fun _ vs h=>⟨vs,h⟩,fun _ _ h _=>h,fun _=>Iff.rfl,fun _ h=>.inl h,fun _ _ h _ _=>h⟩
theorem dc.trans{σ:L2.St}{F H F1 H1 F2 H2:Hp}{e e1 e2:En}(x:dc σ F H e F1 H1 e1)(y:dc σ F1 H1 e1 F2 H2 e2):dc σ F H e F2 H2 e2:=
  ⟨x.sf.trans y.sf,fun a h=>x.dom a (y.dom a h),fun a vs h n no=>let ⟨vs',q⟩:=x.lst a vs n;y.fr a vs' (x.fr a vs h n no) q (fun z=>(x.ow a z).elim no fun z=>by rw [n] at z;cases z),fun a vs h=>let ⟨vs',q⟩:=x.lst a vs h;y.lst a vs' q,
    fun a o h n=>y.tmp a o (x.tmp a o h n) (fun z=>(x.ow a z).elim n fun z=>by rw [h] at z;cases z),fun i=>(y.shp i).trans (x.shp i),fun a h=>(y.ow a h).elim (x.ow a) fun z=>.inr (x.dom a z),fun a m h n no=>y.fd a m (x.fd a m h n no) (x.tmp a _ n no) (fun z=>(x.ow a z).elim no fun z=>by rw [n] at z;cases z)⟩
def bR(K:PySem.W.Frag)(σ:L2.St)(H0 F H:Hp)(e:En):Rv→V→Prop
  | .d x,v=>DA K F x v
  | .l xs,v=>∃l vs,v=.ref l∧H0 l=none∧F l=none∧H l=some (.lst vs)∧aH K F xs vs∧¬bW σ e H l
  | .s i,v=>σ[i]?=some (some v)∧∃xs,e[i]?=some (some (.l xs))
section
variable{K:PySem.W.Frag}{σ:L2.St}{H0 F H F' H':Hp}{e e':En}{r:Rv}{v:V}
theorem bR.ext(h:bR K σ H0 F H e r v)(x:dc σ F H e F' H' e'):bR K σ H0 F' H' e' r v:=by
  cases r with
  | d y=>exact DA.mono x.sf h
  | l xs=>
    obtain⟨l,vs,e1,h1,h2,h3,h4,h5⟩:=h
    exact⟨l,vs,e1,h1,x.fr l _ h2 h3 h5,x.tmp l _ h3 h5,aH.mono x.sf h4,fun z=>(x.ow l z).elim h5 fun z=>by rw [h3] at z;cases z⟩
  | s i=>exact⟨h.1,(x.shp i).mpr h.2⟩
theorem bR.weak{H1:Hp}(h:bR K σ H1 F H e r v)(d:∀a,H1 a=none→H0 a=none):bR K σ H0 F H e r v:=by
  cases r with
  | d y=>exact h
  | l xs=>
    obtain⟨l,vs,e1,h1,r⟩:=h
    exact⟨l,vs,e1,d l h1,r⟩
  | s i=>exact h
theorem aQ.ownH(R:aQ K F H σ e)(a:Addr)(h:bW σ e H a):H a≠none:=by
  obtain⟨i,h⟩:=h
  obtain⟨_,vs,h2⟩:=R.fpAt h
  rw [h2];simp
theorem aQ.freeF(R:aQ K F H σ e){p:Addr}(hp:H p=none):F p=none:=R.sm.free hp
theorem tF(R:aQ K F H σ e)(h:∀l bs,H l=some (.lst bs)→bW σ e H l→H' l=some (.lst bs)){i:Nat}{a:Addr}:Fp σ e H' i a↔ Fp σ e H i a:=by
  have key:∀xss l,e[i]?=some (some (.n xss))→σ[i]?=some (some (.ref l))→H' l=H l:=fun xss l h1 h2=>by
    obtain⟨l',bs,g1,g2,g3,_⟩:=R.nst i xss h1
    rw [h2] at g1;cases g1
    rw [g3]
    exact h l _ g3 ⟨i,.inr ⟨xss,l,bs,h1,h2,g3,.inl rfl⟩⟩
  constructor
  · rintro(h1 | ⟨xss,l,bs,h1,h2,h3,h4⟩)
    · exact .inl h1
    · exact .inr ⟨xss,l,bs,h1,h2,by rw [←key xss l h1 h2];exact h3,h4⟩
  · rintro(h1 | ⟨xss,l,bs,h1,h2,h3,h4⟩)
    · exact .inl h1
    · exact .inr ⟨xss,l,bs,h1,h2,by rw [key xss l h1 h2];exact h3,h4⟩
theorem aQ.keep(R:aQ K F H σ e)(sF:au F F')(sm:au F' H')(hf:∀a,bW σ e H a→F' a=none)(hh:∀a o,bW σ e H a→H a=some o→H' a=some o):aQ K F' H' σ e∧∀a,bW σ e H' a↔ bW σ e H a:=by
  have fs:∀{i a},Fp σ e H' i a↔ Fp σ e H i a:=fun{i a}=>tF R fun l bs h1 h2=>hh l _ h2 h1
  refine⟨⟨sm,R.len,fun i x h=>let ⟨v,h1,h2⟩:=R.dat i x h;⟨v,h1,DA.mono sF h2⟩,fun i xs h=>?_,fun i xss h=>?_,fun i j a h1 h2=>R.fp i j a (fs.mp h1) (fs.mp h2)⟩,fun a=>⟨fun⟨i,h⟩=>⟨i,fs.mp h⟩,fun⟨i,h⟩=>⟨i,fs.mpr h⟩⟩⟩
  · obtain⟨l,vs,h1,h2,h3,h4⟩:=R.own i xs h
    have o:bW σ e H l:=⟨i,.inl ⟨xs,h,h1⟩⟩
    exact⟨l,vs,h1,hf l o,hh l _ o h3,h4.mono sF⟩
  · obtain⟨l,bs,h1,h2,h3,h4,h5,h6,h7⟩:=R.nst i xss h
    have o:bW σ e H l:=⟨i,.inr ⟨xss,l,bs,h,h1,h3,.inl rfl⟩⟩
    refine⟨l,bs,h1,hf l o,hh l _ o h3,h4,h5,h6,fun k b ys g1 g2=>?_⟩
    obtain⟨c1,us,c2,c3⟩:=h7 k b ys g1 g2
    have ob:bW σ e H b:=⟨i,.inr ⟨xss,l,bs,h,h1,h3,.inr (List.mem_of_getElem? g1)⟩⟩
    exact⟨hf b ob,us,hh b _ ob c2,c3.mono sF⟩
theorem aQ.same(R:aQ K F H σ e)(s:au H H'):aQ K F H' σ e∧dc σ F H e F H' e:=by
  obtain⟨R',o'⟩:=R.keep (au.refl F) (R.sm.trans s) (fun a ⟨i,h⟩=>(R.fpAt h).1) fun a o _ h=>s a o h
  exact⟨R',⟨au.refl _,fun a h=>s.free h,fun _ _ h _ _=>h,fun a vs h=>⟨vs,s _ _ h⟩,fun a o h _=>s a o h,fun _=>Iff.rfl,fun a h=>.inl ((o' a).mp h),fun _ _ h _ _=>h⟩⟩
theorem aQ.freeze(R:aQ K F H σ e){p:Addr}{o:HO}(hF:F p=none)(hp:H p=some o)(hn:¬bW σ e H p):aQ K (bP F p o) H σ e∧au F (bP F p o):=by
  have sF:au F (bP F p o):=au.new hF
  refine⟨(R.keep sF (fun b u q=>?_) (fun a ha=>?_) fun _ _ _ h=>h).1,sF⟩
  · by_cases z:b=p
    · subst z;rw [aE] at q;cases q;exact hp
    · rw [aF z] at q;exact R.sm _ _ q
  · obtain⟨i,hi⟩:=ha
    have z:a≠p:=fun z=>hn ⟨i,by rw [←z];exact hi⟩
    rw [aF z];exact(R.fpAt hi).1
theorem aQ.notOwn(R:aQ K F H σ e){p:Addr}{o:HO}(hp:H p=some o)(hl:∀vs,o≠.lst vs):¬bW σ e H p:=fun⟨i,h⟩=>by
  obtain⟨_,vs,g⟩:=R.fpAt h
  rw [hp] at g;cases g
  exact hl _ rfl
theorem aQ.newT(R:aQ K F H σ e){p:Addr}{vs:List V}(hp:H p=none):aQ K (bP F p (.tup vs)) (bP H p (.tup vs)) σ e∧dc σ F H e (bP F p (.tup vs)) (bP H p (.tup vs)) e:=by
  have hF:=R.freeF hp
  obtain⟨R1,X1⟩:=R.same (au.new hp (o:=.tup vs))
  obtain⟨R2,s2⟩:=R1.freeze (p:=p) hF aE (R1.notOwn aE (fun _ z=>nomatch z))
  refine⟨R2,⟨s2,X1.dom,fun a ws h n _=>?_,X1.lst,X1.tmp,X1.shp,X1.ow,fun a ws h n _=>?_⟩⟩
  all_goals
    have z:a≠p:=fun z=>by rw [z,hp] at n;cases n
    rw [aF z];exact h
theorem aQ.sameOwn(R:aQ K F H σ e)(s:au H H')(a:Addr):bW σ e H' a↔ bW σ e H a:=(R.keep (au.refl F) (R.sm.trans s) (fun a ⟨i,h⟩=>(R.fpAt h).1) fun a o _ h=>s a o h).2 a
theorem aQ.newL(R:aQ K F H σ e){p:Addr}{vs:List V}(hp:H p=none):aQ K F (bP H p (.lst vs)) σ e∧dc σ F H e F (bP H p (.lst vs)) e∧F p=none∧¬bW σ e (bP H p (.lst vs)) p:=
  ⟨(R.same (au.new hp)).1,(R.same (au.new hp)).2,R.freeF hp,fun z=>R.ownH p ((R.sameOwn (au.new hp) p).mp z) hp⟩
theorem aQ.growT(R:aQ K F H σ e){p:Addr}{xs:List V}(s:au H H')(hp:dm K H' p xs):∃F',aQ K F' H' σ e∧dc σ F H e F' H' e∧dm K F' p xs:=by
  obtain⟨R1,X1⟩:=R.same s
  rcases hp with hp | hp
  · have key:∀o,H' p=some o→(∀vs,o≠.lst vs)→(∀m,o≠.dK m)→(∀G:Hp,G p=some o→Rd G p (.tup xs))→∃F',aQ K F' H' σ e∧dc σ F H e F' H' e∧dm K F' p xs:=by
      intro o ho hl hm hr
      cases q:F p with
      | some u=>
        have:=R1.sm _ _ q
        rw [ho] at this;cases this
        exact⟨F,R1,X1,.inl (hr F q)⟩
      | none=>
        obtain⟨R2,s2⟩:=R1.freeze q ho (R1.notOwn ho hl)
        refine⟨_,R2,⟨s2,X1.dom,fun a ws h n _=>?_,X1.lst,X1.tmp,X1.shp,X1.ow,fun a ws h n _=>?_⟩,.inl (hr _ aE)⟩
        · have z:a≠p:=fun z=>by rw [z] at n;rw [s _ _ n] at ho;cases ho;exact hl _ rfl
          rw [aF z];exact h
        · have z:a≠p:=fun z=>by rw [z] at n;rw [s _ _ n] at ho;cases ho;exact hm _ rfl
          rw [aF z];exact h
    rcases hp with hp | ⟨ob,hp⟩
    · exact key _ hp (fun _ z=>nomatch z) (fun _ z=>nomatch z) fun G g=>.inl g
    · exact key _ hp (fun _ z=>nomatch z) (fun _ z=>nomatch z) fun G g=>.inr ⟨ob,g⟩
  · exact⟨F,R1,X1,.inr hp⟩
theorem bR.frozen(R:aQ K F H σ e){xs:List PyData}(h:bR K σ H0 F H e (.l xs) v):∃F',aQ K F' H σ e∧au F F'∧DA K F' (.list xs) v∧(∀a,F a=none→H0 a≠none→F' a=none):=by
  obtain⟨l,vs,rfl,h1,h2,h3,h4,h5⟩:=h
  obtain⟨R2,s2⟩:=R.freeze h2 h3 h5
  refine⟨_,R2,s2,?_,fun a ha hn=>?_⟩
  · rw [cx]
    exact⟨l,vs,rfl,.inl (.inl aE),aH.mono s2 h4⟩
  · have z:a≠l:=fun z=>hn (by rw [z];exact h1)
    rw [aF z];exact ha
def er(e:En):Rv→Option (Bool × List PyData)
  | .d (.tuple xs)=>some (false,xs)
  | .d (.list xs)=>some (true,xs)
  | .l xs=>some (true,xs)
  | .s i=>match e[i]? with
    | some (some (.l xs))=>some (true,xs)
    | _=>none
  | _=>none
theorem dU(R:aQ K F H σ e)(h:bR K σ H0 F H e r v){b:Bool}{xs:List PyData}(q:er e r=some (b,xs)):
    ∃p vs,v=.ref p∧aH K F xs vs∧(if b=true then eM K H p vs else dm K H p vs):=by
  cases r with
  | d x=>
    cases x with
    | tuple ds=>
      cases q
      obtain⟨a,ys,e1,e2,e3⟩:=cJ.mp h
      exact⟨a,ys,e1,e3,R.sm.tup e2⟩
    | list ds=>
      cases q
      obtain⟨a,ys,e1,e2,e3⟩:=cx.mp h
      exact⟨a,ys,e1,e3,R.sm.seq e2⟩
    | _=>cases q
  | l ys=>
    cases q
    obtain⟨l,vs,e1,h1,h2,h3,h4,_⟩:=h
    exact⟨l,vs,e1,h4,.inl (.inl h3)⟩
  | s i=>
    obtain⟨h1,ys,h2⟩:=h
    simp only [er,h2] at q
    cases q
    obtain⟨l,vs,e1,e2,e3,e4⟩:=R.own i _ h2
    rw [h1] at e1;cases e1
    exact⟨l,vs,rfl,e4,.inl (.inl e3)⟩
end
end L2
namespace L2
open PySem PySem.Spec PyProof.Rows
abbrev FE:=En→Option (Rv × En)
abbrev FT:=En→Option (Bool × En)
abbrev FA:=En→Option (List Rv × En)
def cH(K:PySem.W.Frag)(σ:L2.St)(H0 F H:Hp)(e:En):List Rv→List V→Prop
  | [],vs=>vs=[]
  | r::rs,vs=>∃v ws,vs=v::ws∧bR K σ H0 F H e r v∧cH K σ H0 F H e rs ws
def fE(K:PySem.W.Frag)(f:FE):TE:=fun σ H Q=>∃F e r e',aQ K F H σ e∧f e=some (r,e')∧∀F' H' v,dc σ F H e F' H' e'→aQ K F' H' σ e'→bR K σ H F' H' e' r v→Q v H'
def fT(K:PySem.W.Frag)(f:FT):TT:=fun σ H Q=>∃F e b e',aQ K F H σ e∧f e=some (b,e')∧∀F' H',dc σ F H e F' H' e'→aQ K F' H' σ e'→Q b H'
def fA(K:PySem.W.Frag)(f:FA):TA:=fun σ H Q=>∃F e rs e',aQ K F H σ e∧f e=some (rs,e')∧∀F' H' vs,dc σ F H e F' H' e'→aQ K F' H' σ e'→cH K σ H F' H' e' rs vs→Q vs H'
theorem PE.mono{X:Cx}{e:Expr}{t t':TE}(h:PE X e t)(m:∀σ H Q,t' σ H Q→t σ H Q):PE X e t':=fun pins s σ H Q I q=>h pins s σ H Q I (m σ H Q q)
theorem PT.mono{X:Cx}{e:Expr}{t t':TT}(h:PT X e t)(m:∀σ H Q,t' σ H Q→t σ H Q):PT X e t':=fun pins s σ H Q I q=>h pins s σ H Q I (m σ H Q q)
theorem PW.mono{X:Cx}{e:Expr}{t t':TT}(h:PW X e t)(m:∀σ H Q,t' σ H Q→t σ H Q):PW X e t':=fun wh pins s σ H Q I q=>h wh pins s σ H Q I (m σ H Q q)
theorem PA.mono{X:Cx}{es:List Expr}{t t':TA}(h:PA X es t)(m:∀σ H Q,t' σ H Q→t σ H Q):PA X es t':=fun pos pins s σ H Q I q=>h pos pins s σ H Q I (m σ H Q q)
section
variable{K:PySem.W.Frag}{σ:L2.St}{H0 F H F' H':Hp}{e e':En}
theorem cH.weak{H1:Hp}(d:∀a,H1 a=none→H0 a=none):∀{rs:List Rv} {vs:List V},cH K σ H1 F H e rs vs→cH K σ H0 F H e rs vs
  | [],_,h=>h
  | r::rs,_,h=>by
    obtain⟨v,ws,rfl,h1,h2⟩:=h
    exact⟨v,ws,rfl,h1.weak d,cH.weak d h2⟩
theorem dc.frz{F'':Hp}(x:dc σ F H e F' H' e')(s:au F' F'')(h:∀a,F' a=none→H a≠none→F'' a=none):dc σ F H e F'' H' e':=
  ⟨x.sf.trans s,x.dom,fun a vs h1 h2 h3=>h a (x.fr a vs h1 h2 h3) (by rw [h2];simp),x.lst,x.tmp,x.shp,x.ow,fun a m h1 h2 h3=>h a (x.fd a m h1 h2 h3) (by rw [h2];simp)⟩
def f9:List Rv→Option (List PyData)
  | []=>some []
  | .d x::rs=>(f9 rs).map (x::·)
  | .l xs::rs=>(f9 rs).map (.list xs::·)
  | .s _::_=>none
theorem cH.frozen:∀{rs:List Rv} {vs:List V} {ds:List PyData} {F:Hp},aQ K F H σ e→cH K σ H0 F H e rs vs→f9 rs=some ds→
    ∃F',aQ K F' H σ e∧au F F'∧aH K F' ds vs∧(∀a,F a=none→H0 a≠none→F' a=none)
  | [],_,_,F,R,h,q=>by
    cases q
    have h':_=[]:=h
    subst h'
    exact⟨F,R,au.refl _,aH.nil,fun _ h _=>h⟩
  | .d x::rs,_,ds,F,R,h,q=>by
    obtain⟨v,ws,rfl,h1,h2⟩:=h
    obtain⟨ds',q1,rfl⟩:=Option.map_eq_some_iff.mp q
    obtain⟨F',R',s',d',f'⟩:=cH.frozen R h2 q1
    exact⟨F',R',s',.cons (DA.mono s' h1) d',f'⟩
  | .l xs::rs,_,ds,F,R,h,q=>by
    obtain⟨v,ws,rfl,h1,h2⟩:=h
    obtain⟨ds',q1,rfl⟩:=Option.map_eq_some_iff.mp q
    obtain⟨F',R',s',d',f'⟩:=cH.frozen R h2 q1
    obtain⟨l,us,rfl,g1,g2,g3,g4,g5⟩:=h1
    cases hl:F' l with
    | none=>
      have h1':bR K σ H0 F' H e (.l xs) (.ref l):=⟨l,us,rfl,g1,hl,g3,aH.mono s' g4,g5⟩
      obtain⟨F2,R2,s2,d2,f2⟩:=h1'.frozen R'
      exact⟨F2,R2,s'.trans s2,.cons d2 (aH.mono s2 d'),fun a ha hn=>f2 a (f' a ha hn) hn⟩
    | some o=>
      have:=R'.sm _ _ hl
      rw [g3] at this;cases this
      exact⟨F',R',s',.cons (cx.mpr ⟨l,us,rfl,.inl (.inl hl),aH.mono s' g4⟩) d',f'⟩
end
section
variable{X:Cx}{K:PySem.W.Frag}{a b c:Expr}{fa fb:FE}{ft fu:FT}{pos:Pos}{es:List Expr}{fs:FA}
def ae(i:Nat):FE:=fun e=>match e[i]? with
  | some (some (.d x))=>some (.d x,e)
  | some (some (.l _))=>some (.s i,e)
  | _=>none
def vC(x:PyData):FE:=fun e=>some (.d x,e)
theorem uY{i:Nat}{σ:L2.St}{H:Hp}{Q:VK}(h:fE K (ae i) σ H Q):pP i σ H Q:=by
  obtain⟨F,e,r,e',R,hf,q⟩:=h
  unfold ae at hf
  match h1:e[i]?,hf with
  | some (some (.d x)),hf=>
    cases hf
    obtain⟨v,h2,h3⟩:=R.dat i x h1
    exact⟨v,h2,q F H v (dc.refl _ _ _ _) R h3⟩
  | some (some (.n _)),hf=>cases hf
  | some (some (.l xs)),hf=>
    cases hf
    obtain⟨l,vs,h2,h3⟩:=R.own i xs h1
    exact⟨_,h2,q F H _ (dc.refl _ _ _ _) R ⟨h2,xs,h1⟩⟩
  | some none,hf=>cases hf
  | none,hf=>cases hf
theorem qv(i:Nat){x:Str}{pos:Pos}(hN:X.N[i]?=some x)(hv:x8 X.env.scope x)(hd:(x==("__debug__":Str))=false)(hcd:(x==("__classdict__":Str))=false):PE X (.Name x pos) (fE K (ae i)):=(nL hN hv hd hcd).mono fun _ _ _ h=>uY h
theorem sC{x:PyData}{v:V}{σ:L2.St}{H:Hp}{Q:VK}(hx:∀F,DA K F x v)(h:fE K (vC x) σ H Q):tC v σ H Q:=by
  obtain⟨F,e,r,e',R,hf,q⟩:=h
  cases hf
  exact q F H v (dc.refl _ _ _ _) R (hx F)
theorem ac{i j pos}:PE X (.Constant (.int i) j pos) (fE K (vC (.int i))):=xa.mono fun _ _ _ h=>sC (fun _=>bg.mpr rfl) h
theorem dR{b j pos}:PE X (.Constant (.bool b) j pos) (fE K (vC (.bool b))):=jS.mono fun _ _ _ h=>sC (fun _=>bQ.mpr rfl) h
theorem fP{x:Str}{v:V}{u:Value}{pos:Pos}{y:PyData}(hg:Gl X x)(hm:X.mg x=some u)(r:aZ v u)(hy:∀F,DA K F y v)(hd:(x==("__debug__":Str))=false):PE X (.Name x pos) (fE K (vC y)):=(fN hg hm r hd).mono fun _ _ _ h=>sC hy h
def dI(K:PySem.W.Frag)(r:R2)(g:En→Rv→Rv→Option Rv):Prop:=
  ∀(σ:L2.St) (H0 F H:Hp) (e:En) (x y z:Rv) (v u:V) (Q:VK),aQ K F H σ e→bR K σ H0 F H e x v→bR K σ H0 F H e y u→g e x y=some z→
    (∀F' H' w,dc σ F H e F' H' e→aQ K F' H' σ e→bR K σ H F' H' e z w→Q w H')→r v u H Q
def aB(g:En→Rv→Rv→Option Rv)(fa fb:FE):FE:=fun e=>(fa e).bind fun p=>(fb p.2).bind fun q=>(g q.2 p.1 q.1).map fun z=>(z,q.2)
theorem l6{r:R2}{g:En→Rv→Rv→Option Rv}(ho:dI K r g){σ:L2.St}{H:Hp}{Q:VK}(h:fE K (aB g fa fb) σ H Q):xO r (fE K fa) (fE K fb) σ H Q:=by
  obtain⟨F,e,z,e2,R,hf,q⟩:=h
  unfold aB at hf
  obtain⟨⟨x,e1⟩,h1,hf⟩:=Option.bind_eq_some_iff.mp hf
  obtain⟨⟨y,e2'⟩,h2,hf⟩:=Option.bind_eq_some_iff.mp hf
  obtain⟨z',h3,hf⟩:=Option.map_eq_some_iff.mp hf
  cases hf
  refine⟨F,e,x,e1,R,h1,fun F1 H1 v X1 R1 A1=>⟨F1,e1,y,_,R1,h2,fun F2 H2 u X2 R2 A2=>?_⟩⟩
  have X12:=X1.trans X2
  refine ho σ H F2 H2 _ x y _ v u Q R2 (A1.ext X2) (A2.weak X1.dom) h3 fun F3 H3 w X3 R3 A3=>?_
  exact q F3 H3 w (X12.trans X3) R3 (A3.weak X12.dom)
theorem kR{op:Operator}{r:R2}{g:En→Rv→Rv→Option Rv}(hr:dJ X (binaryOp op) r)(ho:dI K r g)(ha:PE X a (fE K fa))(hb:PE X b (fE K fb)):PE X (.BinOp a op b pos) (fE K (aB g fa fb)):=(vE hr ha hb).mono fun _ _ _ h=>l6 ho h
theorem xu{op:CmpOp}{r:R2}{g:En→Rv→Rv→Option Rv}(hr:dJ X (compareOp op) r)(ho:dI K r g)(ha:PE X a (fE K fa))(hb:PE X b (fE K fb))(hm:behindInMarks op b=false):PE X (.Compare a [op] [b] pos) (fE K (aB g fa fb)):=(ov hr ha hb hm).mono fun _ _ _ h=>l6 ho h
theorem y2{r:R2}{g:En→Rv→Rv→Option Rv}(hr:sW X r)(ho:dI K r g)(ha:PE X a (fE K fa))(hb:PE X b (fE K fb))(hs:lh b):PE X (.Subscript a b pos) (fE K (aB g fa fb)):=(yX hr ha hb hs).mono fun _ _ _ h=>l6 ho h
def pV(g:En→Rv→Option Rv)(fa:FE):FE:=fun e=>(fa e).bind fun p=>(g p.2 p.1).map fun z=>(z,p.2)
def yl(K:PySem.W.Frag)(r:V→Hp→VK→Prop)(g:En→Rv→Option Rv):Prop:=
  ∀(σ:L2.St) (H0 F H:Hp) (e:En) (x z:Rv) (v:V) (Q:VK),aQ K F H σ e→bR K σ H0 F H e x v→g e x=some z→
    (∀F' H' w,dc σ F H e F' H' e→aQ K F' H' σ e→bR K σ H F' H' e z w→Q w H')→r v H Q
theorem sJ{r:V→Hp→VK→Prop}{g:En→Rv→Option Rv}(ho:yl K r g){σ:L2.St}{H:Hp}{Q:VK}(h:fE K (pV g fa) σ H Q):A9 r (fE K fa) σ H Q:=by
  obtain⟨F,e,z,e2,R,hf,q⟩:=h
  unfold pV at hf
  obtain⟨⟨x,e1⟩,h1,hf⟩:=Option.bind_eq_some_iff.mp hf
  obtain⟨z',h3,hf⟩:=Option.map_eq_some_iff.mp hf
  cases hf
  refine⟨F,e,x,_,R,h1,fun F1 H1 v X1 R1 A1=>?_⟩
  refine ho σ H F1 H1 _ x _ v Q R1 A1 h3 fun F3 H3 w X3 R3 A3=>?_
  exact q F3 H3 w (X1.trans X3) R3 (A3.weak X1.dom)
theorem y3{op:UnaryOp}{r:V→Hp→VK→Prop}{g:En→Rv→Option Rv}(hr:zJ X (unaryOp op) r)(ho:yl K r g)(ha:PE X a (fE K fa)):PE X (.UnaryOp op a pos) (fE K (pV g fa)):=(yY hr ha).mono fun _ _ _ h=>sJ ho h
def cw:Rv→Option Bool
  | .d (.bool b)=>some b
  | _=>none
theorem cm{σ:L2.St}{H0 F H:Hp}{e:En}{r:Rv}{v:V}{b:Bool}(h:bR K σ H0 F H e r v)(q:cw r=some b):v=.bl b:=by
  unfold cw at q
  split at q
  · cases q;exact bQ.mp (show DA K F (.bool _) v from h)
  · cases q
theorem cE{σ:L2.St}{H0 F H:Hp}{e:En}{b:Bool}:bR K σ H0 F H e (.d (.bool b)) (.bl b):=(bQ (K:=K) (F:=F)).mpr rfl
def aN(f:FE):FT:=fun e=>(f e).bind fun p=>(cw p.1).map fun b=>(b,p.2)
theorem mV{σ:L2.St}{H:Hp}{Q:Bool→Hp→Prop}(h:fT K (aN fa) σ H Q):fE K fa σ H fun x H'=>∃k,x=.bl k∧Q k H':=by
  obtain⟨F,e,b,e1,R,hf,q⟩:=h
  unfold aN at hf
  obtain⟨⟨x,e1'⟩,h1,hf⟩:=Option.bind_eq_some_iff.mp hf
  obtain⟨b',h3,hf⟩:=Option.map_eq_some_iff.mp hf
  cases hf
  exact⟨F,e,x,_,R,h1,fun F1 H1 v X1 R1 A1=>⟨_,cm A1 h3,q F1 H1 X1 R1⟩⟩
theorem xx{op:CmpOp}{r:R2}{g:En→Rv→Rv→Option Rv}(hr:dJ X (compareOp op) r)(ho:dI K r g)(ha:PE X a (fE K fa))(hb:PE X b (fE K fb))(hm:behindInMarks op b=false):PT X (.Compare a [op] [b] pos) (fT K (aN (aB g fa fb))):=
  (uA hr ha hb hm).mono fun σ H Q h=>by
    obtain⟨F,e,z,e2,R,hf,q⟩:=mV h
    exact l6 ho ⟨F,e,z,e2,R,hf,q⟩
theorem bO{e:Expr}(h:PE X e (fE K fa))(he:∀whole,isTrue e X.env whole=(do let v ←whole;standAt e.pos;holding [v] (truthy v))):PT X e (fT K (aN fa)):=(xo h he).mono fun _ _ _ h=>mV h
def mS(f g:FT):FT:=fun e=>(f e).bind fun p=>if p.1=true then g p.2 else some (false,p.2)
def sI(f g:FT):FT:=fun e=>(f e).bind fun p=>if p.1=true then some (true,p.2) else g p.2
def ed(f:FT):FT:=fun e=>(f e).map fun p=>(!p.1,p.2)
theorem uW{σ:L2.St}{H:Hp}{Q:Bool→Hp→Prop}(h:fT K (mS ft fu) σ H Q):zo (fT K ft) (fT K fu) σ H Q:=by
  obtain⟨F,e,b,e1,R,hf,q⟩:=h
  unfold mS at hf
  obtain⟨⟨x,e1'⟩,h1,hf⟩:=Option.bind_eq_some_iff.mp hf
  refine⟨F,e,x,e1',R,h1,fun F1 H1 X1 R1=>?_⟩
  cases x with
  | true=>exact⟨F1,e1',b,e1,R1,hf,fun F2 H2 X2 R2=>q F2 H2 (X1.trans X2) R2⟩
  | false=>cases hf;exact q F1 H1 X1 R1
theorem xZ{σ:L2.St}{H:Hp}{Q:Bool→Hp→Prop}(h:fT K (sI ft fu) σ H Q):A8 (fT K ft) (fT K fu) σ H Q:=by
  obtain⟨F,e,b,e1,R,hf,q⟩:=h
  unfold sI at hf
  obtain⟨⟨x,e1'⟩,h1,hf⟩:=Option.bind_eq_some_iff.mp hf
  refine⟨F,e,x,e1',R,h1,fun F1 H1 X1 R1=>?_⟩
  cases x with
  | false=>exact⟨F1,e1',b,e1,R1,hf,fun F2 H2 X2 R2=>q F2 H2 (X1.trans X2) R2⟩
  | true=>cases hf;exact q F1 H1 X1 R1
theorem uX{σ:L2.St}{H:Hp}{Q:Bool→Hp→Prop}(h:fT K (ed ft) σ H Q):zt (fT K ft) σ H Q:=by
  obtain⟨F,e,b,e1,R,hf,q⟩:=h
  unfold ed at hf
  obtain⟨⟨x,e1'⟩,h1,hf⟩:=Option.map_eq_some_iff.mp hf
  cases hf
  exact⟨F,e,x,_,R,h1,fun F1 H1 X1 R1=>q F1 H1 X1 R1⟩
variable{cO:List Expr}
theorem oA(ha:PT X a (fT K ft)):PW X (.BoolOp .And [a] pos) (fT K ft):=uC ha
theorem lY(ha:PT X a (fT K ft)):PW X (.BoolOp .Or [a] pos) (fT K ft):=xt ha
theorem rQ(ha:PT X a (fT K ft))(hb:PW X (.BoolOp .And (b::cO) pos) (fT K fu)):PW X (.BoolOp .And (a::b::cO) pos) (fT K (mS ft fu)):=(xr ha hb).mono fun _ _ _ h=>uW h
theorem my(ha:PT X a (fT K ft))(hb:PW X (.BoolOp .Or (b::cO) pos) (fT K fu)):PW X (.BoolOp .Or (a::b::cO) pos) (fT K (sI ft fu)):=(y0 ha hb).mono fun _ _ _ h=>xZ h
theorem cj(ha:PT X a (fT K ft)):PT X (.UnaryOp .Not a pos) (fT K (ed ft)):=(xn ha).mono fun _ _ _ h=>uX h
theorem pJ{e:Expr}(h:PW X e (fT K ft)):PT X e (fT K ft):=h.pt
def fy(f g:FE):FE:=fun e=>(f e).bind fun p=>(cw p.1).bind fun b=>if b=true then g p.2 else some (.d (.bool false),p.2)
def xY(f g:FE):FE:=fun e=>(f e).bind fun p=>(cw p.1).bind fun b=>if b=true then some (.d (.bool true),p.2) else g p.2
def k8(f:FE):FE:=fun e=>(f e).bind fun p=>(cw p.1).map fun b=>(.d (.bool (!b)),p.2)
theorem iM(ha:PE X a (fE K fa))(hb:PE X (.BoolOp .And (b::cO) pos) (fE K fb)):PE X (.BoolOp .And (a::b::cO) pos) (fE K (fy fa fb)):=(w_ ha hb).mono fun σ H Q h=>by
  obtain⟨F,e,z,e2,R,hf,q⟩:=h
  unfold fy at hf
  obtain⟨⟨x,e1⟩,h1,hf⟩:=Option.bind_eq_some_iff.mp hf
  obtain⟨b,h2,hf⟩:=Option.bind_eq_some_iff.mp hf
  refine⟨F,e,x,e1,R,h1,fun F1 H1 v X1 R1 A1=>⟨b,cm A1 h2,?_⟩⟩
  cases b with
  | true=>exact⟨F1,e1,z,e2,R1,hf,fun F2 H2 w X2 R2 A2=>q F2 H2 w (X1.trans X2) R2 (A2.weak X1.dom)⟩
  | false=>cases hf;exact q F1 H1 _ X1 R1 cE
theorem iO{op}(h:PE X a (fE K fa)):PE X (.BoolOp op [a] pos) (fE K fa):=xf h
theorem xw(ha:PE X a (fE K fa)):PE X (.UnaryOp .Not a pos) (fE K (k8 fa)):=(xc ha).mono fun σ H Q h=>by
  obtain⟨F,e,z,e2,R,hf,q⟩:=h
  unfold k8 at hf
  obtain⟨⟨x,e1⟩,h1,hf⟩:=Option.bind_eq_some_iff.mp hf
  obtain⟨b,h2,hf⟩:=Option.map_eq_some_iff.mp hf
  cases hf
  exact⟨F,e,x,_,R,h1,fun F1 H1 v X1 R1 A1=>⟨b,cm A1 h2,q F1 H1 _ X1 R1 cE⟩⟩
def AI(t:FT)(f g:FE):FE:=fun e=>(t e).bind fun p=>if p.1=true then f p.2 else g p.2
def fB(g g':En→Rv→Rv→Option Rv)(fa fb fc:FE):FE:=fun e=>(fa e).bind fun p=>(fb p.2).bind fun q=>(g q.2 p.1 q.1).bind fun z=>(cw z).bind fun k=>if k=true then(fc q.2).bind fun w=>(g' w.2 q.1 w.1).map fun z'=>(z',w.2) else some (.d (.bool false),q.2)
theorem pU{r r':R2}{g g':En→Rv→Rv→Option Rv}{fc:FE}(ho:dI K r g)(ho':dI K r' g'){σ:L2.St}{H:Hp}{Q:VK}(h:fE K (fB g g' fa fb fc) σ H Q):sr r r' (fE K fa) (fE K fb) (fE K fc) σ H Q:=by
  obtain⟨F,e,z,e4,R,hf,q⟩:=h
  unfold fB at hf
  obtain⟨⟨x,e1⟩,h1,hf⟩:=Option.bind_eq_some_iff.mp hf
  obtain⟨⟨y,e2⟩,h2,hf⟩:=Option.bind_eq_some_iff.mp hf
  obtain⟨z',h3,hf⟩:=Option.bind_eq_some_iff.mp hf
  obtain⟨k,h4,hf⟩:=Option.bind_eq_some_iff.mp hf
  refine⟨F,e,x,e1,R,h1,fun F1 H1 v X1 R1 A1=>⟨F1,e1,y,e2,R1,h2,fun F2 H2 u X2 R2 A2=>?_⟩⟩
  have X12:=X1.trans X2
  refine ho σ H F2 H2 e2 x y z' v u _ R2 (A1.ext X2) (A2.weak X1.dom) h3 fun F3 H3 w X3 R3 A3=>⟨k,cm A3 h4,?_⟩
  have X13:=X12.trans X3
  cases k with
  | false=>
    cases hf
    exact q F3 H3 _ X13 R3 cE
  | true=>
    obtain⟨⟨w',e3⟩,h5,hf⟩:=Option.bind_eq_some_iff.mp hf
    obtain⟨z2,h6,hf⟩:=Option.map_eq_some_iff.mp hf
    cases hf
    refine⟨F3,_,w',_,R3,h5,fun F4 H4 u4 X4 R4 A4=>?_⟩
    have X14:=X13.trans X4
    refine ho' σ H F4 H4 _ y w' _ u u4 Q R4 (((A2.weak X1.dom).ext X3).ext X4) (A4.weak X13.dom) h6 fun F5 H5 w5 X5 R5 A5=>?_
    exact q F5 H5 w5 (X14.trans X5) R5 (A5.weak X14.dom)
theorem rN{op op':CmpOp}{r r':R2}{g g':En→Rv→Rv→Option Rv}{fc:FE}(hr:dJ X (compareOp op) r)(ho:dI K r g)(hr':dJ X (compareOp op') r')(ho':dI K r' g')(ha:PE X a (fE K fa))(hb:PE X b (fE K fb))(hc:PE X c (fE K fc))
    (hm:lastMarks [op,op'] [b,c]=false):PE X (.Compare a [op,op'] [b,c] pos) (fE K (fB g g' fa fb fc)):=(ro hr hr' ha hb hc hm).mono fun _ _ _ h=>pU ho ho' h
def am:FA:=fun e=>some ([],e)
def aa(fa:FE)(fs:FA):FA:=fun e=>(fa e).bind fun p=>(fs p.2).map fun q=>(p.1::q.1,q.2)
theorem af:PA X [] (fA K am):=eC.mono fun σ H Q h=>by
  obtain⟨F,e,r,e',R,hf,q⟩:=h
  cases hf
  exact q F H [] (dc.refl _ _ _ _) R rfl
theorem Aw(ha:PE X a (fE K fa))(hr:PA X es (fA K fs))(h:PySem.W.isStarred a=false):PA X (a::es) (fA K (aa fa fs)):=(As ha hr h).mono fun σ H Q h=>by
  obtain⟨F,e,z,e2,R,hf,q⟩:=h
  unfold aa at hf
  obtain⟨⟨x,e1⟩,h1,hf⟩:=Option.bind_eq_some_iff.mp hf
  obtain⟨⟨xs,e2'⟩,h2,hf⟩:=Option.map_eq_some_iff.mp hf
  cases hf
  refine⟨F,e,x,e1,R,h1,fun F1 H1 v X1 R1 A1=>⟨F1,e1,xs,_,R1,h2,fun F2 H2 vs X2 R2 A2=>?_⟩⟩
  exact q F2 H2 (v::vs) (X1.trans X2) R2 ⟨v,vs,rfl,A1.ext X2,A2.weak X1.dom⟩
def c_(fs:FA):FE:=fun e=>(fs e).bind fun p=>(f9 p.1).bind fun ds=>if ds.length≤1000 then some (.d (.tuple ds),p.2) else none
def gJ(fs:FA):FE:=fun e=>(fs e).bind fun p=>(f9 p.1).bind fun ds=>if ds.length≤1000 then some (.l ds,p.2) else none
theorem bi{x1}(h:PA X es (fA K fs)):PE X (.Tuple es x1 pos) (fE K (c_ fs)):=(xh h).mono fun σ H Q h=>by
  obtain⟨F,e,z,e2,R,hf,q⟩:=h
  unfold c_ at hf
  obtain⟨⟨rs,e1⟩,h1,hf⟩:=Option.bind_eq_some_iff.mp hf
  obtain⟨ds,h2,hf⟩:=Option.bind_eq_some_iff.mp hf
  split at hf
  case isFalse=>cases hf
  case isTrue hl=>
  cases hf
  refine⟨F,e,rs,_,R,h1,fun F1 H1 vs X1 R1 A1=>?_⟩
  obtain⟨F2,R2,s2,d2,f2⟩:=cH.frozen R1 A1 h2
  have hlen:=d2.len
  refine⟨Nat.le_of_lt (kY (by lia)),fun p hp=>?_⟩
  obtain⟨R3,X3⟩:=R2.newT (vs:=vs) hp
  exact q _ _ _ ((X1.frz s2 f2).trans X3) R3 (cJ.mpr ⟨p,vs,rfl,.inl (.inl aE),aH.mono X3.sf d2⟩)
theorem d9(h:PA X es (fA K fs)):PE X (.List es pos) (fE K (gJ fs)):=(lW h).mono fun σ H Q h=>by
  obtain⟨F,e,z,e2,R,hf,q⟩:=h
  unfold gJ at hf
  obtain⟨⟨rs,e1⟩,h1,hf⟩:=Option.bind_eq_some_iff.mp hf
  obtain⟨ds,h2,hf⟩:=Option.bind_eq_some_iff.mp hf
  split at hf
  case isFalse=>cases hf
  case isTrue hl=>
  cases hf
  refine⟨F,e,rs,_,R,h1,fun F1 H1 vs X1 R1 A1=>?_⟩
  obtain⟨F2,R2,s2,d2,f2⟩:=cH.frozen R1 A1 h2
  have hlen:=d2.len
  refine⟨Nat.le_of_lt (kY (by lia)),fun p hp=>?_⟩
  obtain⟨R3,X3,hF,no⟩:=R2.newL (vs:=vs) hp
  exact q _ _ _ ((X1.frz s2 f2).trans X3) R3 ⟨p,vs,rfl,X1.dom p hp,hF,aE,d2,no⟩
def dg(K:PySem.W.Frag)(r:List V→Hp→VK→Prop)(g:En→List Rv→Option Rv):Prop:=
  ∀(σ:L2.St) (H0 F H:Hp) (e:En) (xs:List Rv) (z:Rv) (vs:List V) (Q:VK),aQ K F H σ e→cH K σ H0 F H e xs vs→g e xs=some z→
    (∀F' H' w,dc σ F H e F' H' e→aQ K F' H' σ e→bR K σ H F' H' e z w→Q w H')→r vs H Q
def be(g:En→List Rv→Option Rv)(fs:FA):FE:=fun e=>(fs e).bind fun p=>(g p.2 p.1).map fun z=>(z,p.2)
theorem mT{r:List V→Hp→VK→Prop}{g:En→List Rv→Option Rv}(ho:dg K r g){σ:L2.St}{H:Hp}{Q:VK}(h:fE K (be g fs) σ H Q):AC r (fA K fs) σ H Q:=by
  obtain⟨F,e,z,e2,R,hf,q⟩:=h
  unfold be at hf
  obtain⟨⟨x,e1⟩,h1,hf⟩:=Option.bind_eq_some_iff.mp hf
  obtain⟨z',h3,hf⟩:=Option.map_eq_some_iff.mp hf
  cases hf
  refine⟨F,e,x,_,R,h1,fun F1 H1 vs X1 R1 A1=>?_⟩
  refine ho σ H F1 H1 _ x _ vs Q R1 A1 h3 fun F3 H3 w X3 R3 A3=>?_
  exact q F3 H3 w (X1.trans X3) R3 (A3.weak X1.dom)
theorem rM{x:Str}{p pos:Pos}{id:String}{r:List V→Hp→VK→Prop}{g:En→List Rv→Option Rv}(hc:dh X (.builtin id) r)(ho:dg K r g)(hg:Gl X x)(hm:X.mg x=none)(hv:bootBuiltins x=some (.builtin id))(ha:PA X (a::es) (fA K fs))(hn:x≠"__name__")(hdb:(x==("__debug__":Str))=false)
    (he:starEach (a::es) X.env=(false,eval a X.env)::starEach es X.env)(hpl:(backTo pos (starEach es X.env)).any (·.1)=false):PE X (.Call (.Name x p) (a::es) [] pos) (fE K (be g fs)):=(jT hc hg hm hv ha hn hdb he hpl).mono fun _ _ _ h=>mT ho h
theorem pI{x:Str}{p pos:Pos}{T:String}{r:List V→Hp→VK→Prop}{g:En→List Rv→Option Rv}(hc:dh X (.type T) r)(ho:dg K r g)(hg:Gl X x)(hm:X.mg x=none)(hv:bootBuiltins x=some (.type T))(ha:PA X (a::es) (fA K fs))(hn:x≠"__name__")(hdb:(x==("__debug__":Str))=false)
    (he:starEach (a::es) X.env=(false,eval a X.env)::starEach es X.env)(hpl:(backTo pos (starEach es X.env)).any (·.1)=false):PE X (.Call (.Name x p) (a::es) [] pos) (fE K (be g fs)):=(pE hc hg hm hv ha hn hdb he hpl).mono fun _ _ _ h=>mT ho h
end
end L2
namespace L2
open PySem PySem.Spec PyProof.Rows
mutual
theorem DA.reads{X:Cx}{pins:List (Addr × Obj)}{σ:L2.St}{H:Hp}{s:Shared}(I:ax X pins σ H s):∀{d:PyData} {v:V} {u:Value},d.canLay0=true→DA X.K H d v→aZ v u→∃as,Reads s.heap u d as
  | .none,_,_,_,q,r=>by
    simp only [DA] at q;subst q;cases r;exact⟨_,.none⟩
  | .bool b,_,_,_,q,r=>by
    simp only [DA] at q;subst q;cases r;exact⟨_,.bool b⟩
  | .int i,_,_,_,q,r=>by
    simp only [DA] at q;subst q;obtain⟨t,rfl⟩:=r;exact⟨_,.int i t⟩
  | .str x,_,_,_,q,r=>by
    simp only [DA] at q;subst q;obtain⟨t,rfl⟩:=r;exact⟨_,.str x t⟩
  | .tuple ds,_,_,c,q,r=>by
    simp only [DA] at q
    obtain⟨a,xs,e,hs,rr⟩:=q
    subst e;cases r
    obtain⟨its,rv,⟨o,ho,hc,n,hd⟩,hz⟩:=I.tuple hs
    obtain⟨as,q⟩:=aH.reads I (by simpa [PyData.canLay0] using c) rr rv
    exact⟨_,.tuple ho hc hd q⟩
  | .list ds,_,_,c,q,r=>by
    simp only [DA] at q
    obtain⟨a,xs,e,hs,rr⟩:=q
    subst e;cases r
    obtain⟨its,rv,ht,hz⟩:=I.list hs
    obtain⟨o,ho,hc,n,hd⟩:=ht.isList
    obtain⟨as,q⟩:=aH.reads I (by simpa [PyData.canLay0] using c) rr rv
    exact⟨_,.list ho hc hd q⟩
  | .dict _,_,_,c,_,_=>by simp [PyData.canLay0] at c
theorem aH.reads{X:Cx}{pins:List (Addr × Obj)}{σ:L2.St}{H:Hp}{s:Shared}(I:ax X pins σ H s):∀{ds:List PyData} {xs:List V} {us:List Value},PyData.canLayAll0 ds=true→aH X.K H ds xs→aM xs us→∃as,ReadsAll s.heap us ds as
  | [],_,_,_,q,r=>by
    simp only [aH] at q;subst q;cases r;exact⟨_,.nil⟩
  | d::ds,_,_,c,q,r=>by
    simp only [aH] at q
    simp only [PyData.canLayAll0,Bool.and_eq_true] at c
    obtain⟨x,rr,e,a,b⟩:=q
    subst e
    cases r with
    | cons p p'=>
      obtain⟨as,q1⟩:=DA.reads I c.1 a p
      obtain⟨bs,q2⟩:=aH.reads I c.2 b p'
      exact⟨_,.cons q1 q2⟩
end
def eP(e:En):Rv→Option PyData
  | .d x=>some x
  | .l xs=>some (.list xs)
  | .s i=>match e[i]? with
    | some (some (.l xs))=>some (.list xs)
    | _=>none
theorem js{K:PySem.W.Frag}{σ:L2.St}{H0 F H:Hp}{e:En}{r:Rv}{v:V}{d:PyData}(R:aQ K F H σ e)(h:bR K σ H0 F H e r v)(q:eP e r=some d):DA K H d v:=by
  cases r with
  | d x=>cases q;exact DA.mono R.sm h
  | l xs=>
    cases q
    obtain⟨l,vs,rfl,h1,h2,h3,h4,_⟩:=h
    exact cx.mpr ⟨l,vs,rfl,.inl (.inl h3),aH.mono R.sm h4⟩
  | s i=>
    obtain⟨h1,ys,h2⟩:=h
    simp only [eP,h2] at q
    cases q
    obtain⟨l,vs,e1,e2,e3,e4⟩:=R.own i _ h2
    rw [h1] at e1;cases e1
    exact cx.mpr ⟨l,vs,rfl,.inl (.inl e3),aH.mono R.sm e4⟩
section
variable{X:Cx}{K:PySem.W.Frag}
def cB:Rv→Option Int
  | .d (.int i)=>some i
  | _=>none
theorem bY{σ:L2.St}{H0 F H:Hp}{e:En}{r:Rv}{v:V}{i:Int}(h:bR K σ H0 F H e r v)(q:cB r=some i):v=.int i:=by
  unfold cB at q
  split at q
  · cases q;exact bg.mp (show DA K F (.int _) v from h)
  · cases q
theorem jZ{σ:L2.St}{H0 F H:Hp}{e:En}{i:Int}:bR K σ H0 F H e (.d (.int i)) (.int i):=(bg (K:=K) (F:=F)).mpr rfl
def gI(C:Int→Int→Bool)(f:Int→Int→PyData):En→Rv→Rv→Option Rv:=fun _ x y=>(cB x).bind fun i=>(cB y).bind fun j=>if C i j=true then some (.d (f i j)) else none
theorem mw{C:Int→Int→Prop}{c:Int→Int→Bool}{g:Int→Int→V}{f:Int→Int→PyData}(hc:∀i j,c i j=true→C i j)(hf:∀F i j,DA K F (f i j) (g i j)):dI K (rI C g) (gI c f):=by
  intro σ H0 F H e x y z v u Q R A B hg q
  unfold gI at hg
  obtain⟨i,h1,hg⟩:=Option.bind_eq_some_iff.mp hg
  obtain⟨j,h2,hg⟩:=Option.bind_eq_some_iff.mp hg
  split at hg
  case isFalse=>cases hg
  case isTrue hh=>
  cases hg
  exact⟨i,j,bY A h1,bY B h2,hc i j hh,q F H _ (dc.refl _ _ _ _) R (hf F i j)⟩
theorem eX{g:Int→Int→V}{f:Int→Int→PyData}(hf:∀F i j,DA K F (f i j) (g i j)):dI K (nQ g) (gI (fun _ _=>true) f):=by
  intro σ H0 F H e x y z v u Q R A B hg q
  obtain⟨i,j,h1,h2,h3,h4⟩:=mw (K:=K) (C:=fun _ _=>True) (c:=fun _ _=>true) (g:=g) (f:=f) (fun _ _ _=>trivial) hf σ H0 F H e x y z v u Q R A B hg q
  exact⟨i,j,h1,h2,h4⟩
def tJ(g g':En→Rv→Rv→Option Rv):En→Rv→Rv→Option Rv:=fun e x y=>(g e x y).or (g' e x y)
theorem dI.or{r r':R2}{g g':En→Rv→Rv→Option Rv}(h:dI K r g)(h':dI K r' g'):dI K (fun x y H Q=>r x y H Q∨r' x y H Q) (tJ g g'):=by
  intro σ H0 F H e x y z v u Q R A B hg q
  unfold tJ at hg
  cases e1:g e x y with
  | some w=>
    rw [e1] at hg
    cases hg
    exact .inl (h σ H0 F H e x y _ v u Q R A B e1 q)
  | none=>
    rw [e1] at hg
    exact .inr (h' σ H0 F H e x y _ v u Q R A B hg q)
def vq:=gI (fun _ _=>true) fun i j=>.int (i+j)
def cz:=gI (fun _ _=>true) fun i j=>.int (i - j)
def eF(i:Int):Bool:=decide (-(2 ^ 64) < i)&&decide (i < 2 ^ 64)
def yr(n:Nat)(i:Int):Bool:=decide (i.natAbs < 2 ^ n)
theorem gP{n:Nat}{i:Int}:yr n i=true↔ Bt n i:=by unfold yr Bt;exact decide_eq_true_iff
def iH(i j:Int):Bool:=eF i || eF j || (yr 4000 i&&yr 4000 j)
def qC:=gI iH fun i j=>.int (i*j)
def bX:=gI (fun _ j=>j != 0&&yr 8000 j) fun i j=>.int (i.fdiv j)
def aU:=gI (fun _ j=>j != 0) fun i j=>.int (i.fmod j)
def rE(i j:Int):Bool:=decide (0≤j)&&decide (j≤1000000)&&eF i
def nA:=gI rE fun i j=>.int (i ^ j.toNat)
theorem gH{i:Int}(h:eF i=true): -(2 ^ 64) < i∧i < 2 ^ 64:=by
  unfold eF at h
  rw [Bool.and_eq_true,decide_eq_true_iff,decide_eq_true_iff] at h
  exact h
theorem ux{i j:Int}(h:rE i j=true):vO i j:=by
  unfold rE at h
  rw [Bool.and_eq_true,Bool.and_eq_true,decide_eq_true_iff,decide_eq_true_iff] at h
  have:=gH h.2
  exact⟨h.1.1,h.1.2,by lia⟩
def nY(i j:Int):Prop:=sT i j∨va i j
theorem uh:dJ X (binaryOp .Mult) (rI nY fun i j=>.int (i*j)):=by
  intro pins s σ H x y v u Q I rx ry h
  obtain⟨i,j,e1,e2,h1,q⟩:=h
  rcases h1 with h1 | h1
  · exact wV pins s σ H x y v u Q I rx ry ⟨i,j,e1,e2,h1,q⟩
  · exact ui pins s σ H x y v u Q I rx ry ⟨i,j,e1,e2,h1,q⟩
theorem tW{i j:Int}(h:iH i j=true):nY i j:=by
  unfold iH at h
  rw [Bool.or_eq_true,Bool.or_eq_true,Bool.and_eq_true] at h
  rcases h with (h | h) | h
  · exact .inl (.inl (gH h))
  · exact .inl (.inr (gH h))
  · exact .inr ⟨gP.mp h.1,gP.mp h.2⟩
theorem wC:dI K (rI nY fun i j=>.int (i*j)) qC:=mw (fun _ _ h=>tW h) fun _ _ _=>bg.mpr rfl
theorem zm:dI K (nQ fun i j=>.int (i - j)) cz:=eX fun _ _ _=>bg.mpr rfl
theorem wd:dI K (rI u_ fun i j=>.int (i.fdiv j)) bX:=mw (fun i j h=>by
  rw [Bool.and_eq_true] at h
  exact⟨by simpa using h.1,gP.mp h.2⟩) fun _ _ _=>bg.mpr rfl
theorem yN:dI K (rI (fun _ j=>j≠0) fun i j=>.int (i.fmod j)) aU:=mw (fun i j h=>by simpa using h) fun _ _ _=>bg.mpr rfl
theorem yZ:dI K (rI vO fun i j=>.int (i ^ j.toNat)) nA:=mw (fun _ _ h=>ux h) fun _ _ _=>bg.mpr rfl
def om:En→Rv→Rv→Option Rv:=fun e x y=>match er e x,er e y with
  | some (false,xs),some (false,ys)=>if xs.length+ys.length≤1000000 then some (.d (.tuple (xs++ys))) else none
  | _,_=>none
theorem vZ:dI K (rR K) om:=by
  intro σ H0 F H e x y z v u Q R A B hg q
  unfold om at hg
  match h1:er e x,h2:er e y,hg with
  | some (false,xs),some (false,ys),hg=>
    obtain⟨p,vs,rfl,d1,s1⟩:=dU R A h1
    obtain⟨p',us,rfl,d2,s2⟩:=dU R B h2
    dsimp only at hg
    split at hg
    case isFalse=>cases hg
    case isTrue hl=>
    cases hg
    have l1:=d1.len
    have l2:=d2.len
    have sl:sizeLine=16777216:=sizeLine_eq
    refine⟨p,p',vs,us,rfl,rfl,s1,s2,by lia,fun t H' sm hT=>?_⟩
    obtain⟨F',R',X',hF⟩:=R.growT sm hT
    exact q F' H' _ X' R' (cJ.mpr ⟨t,_,rfl,hF,(d1.append d2).mono X'.sf⟩)
def qU(e:En):Rv→Option (List PyData)
  | .l xs=>some xs
  | .s i=>match e[i]? with
    | some (some (.l xs))=>some xs
    | _=>none
  | _=>none
theorem lO{σ:L2.St}{H0 F H:Hp}{e:En}{r:Rv}{v:V}(R:aQ K F H σ e)(h:bR K σ H0 F H e r v){xs:List PyData}(q:qU e r=some xs):∃p vs,v=.ref p∧F p=none∧H p=some (.lst vs)∧aH K F xs vs:=by
  cases r with
  | d x=>cases q
  | l ys=>
    cases q
    obtain⟨l,vs,e1,h1,h2,h3,h4,_⟩:=h
    exact⟨l,vs,e1,h2,h3,h4⟩
  | s i=>
    obtain⟨h1,ys,h2⟩:=h
    simp only [qU,h2] at q
    cases q
    obtain⟨l,vs,e1,e2,e3,e4⟩:=R.own i _ h2
    rw [h1] at e1;cases e1
    exact⟨l,vs,rfl,e2,e3,e4⟩
def qt:En→Rv→Rv→Option Rv:=fun e x y=>(qU e x).bind fun xs=>(qU e y).bind fun ys=>if xs.length+ys.length≤1000000 then some (.l (xs++ys)) else none
theorem vY:dI K uG qt:=by
  intro σ H0 F H e x y z v u Q R A B hg q
  unfold qt at hg
  obtain⟨xs,h1,hg⟩:=Option.bind_eq_some_iff.mp hg
  obtain⟨ys,h2,hg⟩:=Option.bind_eq_some_iff.mp hg
  split at hg
  case isFalse=>cases hg
  case isTrue hl=>
  cases hg
  obtain⟨p,vs,rfl,f1,s1,d1⟩:=lO R A h1
  obtain⟨p',us,rfl,f2,s2,d2⟩:=lO R B h2
  have l1:=d1.len
  have l2:=d2.len
  have sl:sizeLine=16777216:=sizeLine_eq
  refine⟨p,p',vs,us,rfl,rfl,s1,s2,by lia,fun t ht=>?_⟩
  obtain⟨R3,X3,hF,no⟩:=R.newL (vs:=vs++us) ht
  exact q _ _ _ X3 R3 ⟨t,_,rfl,ht,hF,aE,d1.append d2,no⟩
def bH:En→Rv→Rv→Option Rv:=tJ vq (tJ om qt)
def vI(K:PySem.W.Frag):R2:=fun x y H Q=>nQ (fun i j=>.int (i+j)) x y H Q∨(rR K x y H Q∨uG x y H Q)
theorem uc:dJ X (binaryOp .Add) (vI X.K):=wN.or (ud.or rk)
theorem yo:dI K (vI K) bH:=dI.or (eX fun _ _ _=>bg.mpr rfl) (dI.or vZ vY)
def qG:En→Rv→Rv→Option Rv:=fun e x y=>match er e x,cB y with
  | some (false,[d]),some k=>if 0≤k∧k≤100000 then some (.d (.tuple (List.replicate k.toNat d))) else none
  | _,_=>none
theorem aH.rep{F:Hp}{d:PyData}{v:V}(h:DA K F d v):∀n,aH K F (List.replicate n d) (List.replicate n v)
  | 0=>aH.nil
  | n+1=>aH.cons h (aH.rep h n)
theorem xC:dI K (rT K) qG:=by
  intro σ H0 F H e x y z v u Q R A B hg q
  unfold qG at hg
  match h1:er e x,h2:cB y,hg with
  | some (false,[d]),some k,hg=>
    obtain⟨p,vs,rfl,d1,s1⟩:=dU R A h1
    dsimp only at hg
    split at hg
    case isFalse=>cases hg
    case isTrue hl=>
    cases hg
    have hd:=d1
    simp only [aH] at hd
    obtain⟨w,r,e1,hw,e2⟩:=hd
    subst e2 e1
    refine⟨p,k,w,rfl,bY B h2,s1,hl.1,hl.2,fun t H' sm hT=>?_⟩
    obtain⟨F',R',X',hF⟩:=R.growT sm hT
    exact q F' H' _ X' R' (cJ.mpr ⟨t,_,rfl,hF,(aH.rep hw _).mono X'.sf⟩)
def qF:En→Rv→Rv→Option Rv:=fun e x y=>(qU e x).bind fun xs=>(cB y).bind fun k=>if -100000≤k∧k≤100000∧xs.length*k.toNat≤1000000 then some (.l (List.replicate k.toNat xs).flatten) else none
theorem aH.reps{F:Hp}{ds:List PyData}{vs:List V}(h:aH K F ds vs):∀n,aH K F (List.replicate n ds).flatten (List.replicate n vs).flatten
  | 0=>aH.nil
  | n+1=>by simpa [List.replicate_succ] using aH.append h (aH.reps h n)
theorem xB:dI K xA qF:=by
  intro σ H0 F H e x y z v u Q R A B hg q
  unfold qF at hg
  obtain⟨xs,h1,hg⟩:=Option.bind_eq_some_iff.mp hg
  obtain⟨k,h2,hg⟩:=Option.bind_eq_some_iff.mp hg
  split at hg
  case isFalse=>cases hg
  case isTrue hl=>
  cases hg
  obtain⟨p,vs,rfl,f1,s1,d1⟩:=lO R A h1
  have l1:=d1.len
  have sl:sizeLine=16777216:=sizeLine_eq
  refine⟨p,k,vs,rfl,bY B h2,s1,by lia,by lia,by rw [←l1];lia,fun t ht=>?_⟩
  obtain⟨R3,X3,hF,no⟩:=R.newL (vs:=(List.replicate k.toNat vs).flatten) ht
  exact q _ _ _ X3 R3 ⟨t,_,rfl,ht,hF,aE,aH.reps d1 _,no⟩
def dz:En→Rv→Rv→Option Rv:=tJ qC (tJ qG qF)
def vJ(K:PySem.W.Frag):R2:=fun x y H Q=>rI nY (fun i j=>.int (i*j)) x y H Q∨(rT K x y H Q∨xA x y H Q)
theorem ug:dJ X (binaryOp .Mult) (vJ X.K):=uh.or (uj.or wY)
theorem yO:dI K (vJ K) dz:=dI.or wC (dI.or xC xB)
def sO:=gI (fun _ _=>true) fun i j=>.bool (decide (i < j))
def vt:=gI (fun _ _=>true) fun i j=>.bool (decide (i≤j))
def yy:=gI (fun _ _=>true) fun i j=>.bool (decide (j < i))
def yx:=gI (fun _ _=>true) fun i j=>.bool (decide (j≤i))
theorem Aq:dI K (nQ fun i j=>.bl (decide (i < j))) sO:=eX fun _ _ _=>bQ.mpr rfl
theorem Ap:dI K (nQ fun i j=>.bl (decide (i≤j))) vt:=eX fun _ _ _=>bQ.mpr rfl
theorem Ai:dI K (nQ fun i j=>.bl (decide (j < i))) yy:=eX fun _ _ _=>bQ.mpr rfl
theorem Ah:dI K (nQ fun i j=>.bl (decide (j≤i))) yx:=eX fun _ _ _=>bQ.mpr rfl
def uH(K:PySem.W.Frag)(neg:Bool):R2:=fun x y H Q=>∃a b,DA K H a x∧DA K H b y∧SeqAt.shaped a=true∧SeqAt.shaped b=true∧Q (.bl (if neg then !PyData.eqv a b else PyData.eqv a b)) H
theorem rl{k:Nat}(hr:cf k X.A):dJ X (compareOp .Eq) (uH X.K false):=by
  intro pins s σ H x y v u Q I rx ry h
  obtain⟨a,b,ha,hb,s1,s2,q⟩:=h
  obtain⟨as,ra⟩:=DA.reads I (SeqAt.canLay_of_shaped s1) ha rx
  obtain⟨bs,rb⟩:=DA.reads I (SeqAt.canLay_of_shaped s2) hb ry
  exact SeqAt.compareEq_shaped ra rb s1 s2 hr.units ⟨.bl _,H,I,rfl,q⟩
theorem wW{k:Nat}(hr:cf k X.A):dJ X (compareOp .NotEq) (uH X.K true):=by
  intro pins s σ H x y v u Q I rx ry h
  obtain⟨a,b,ha,hb,s1,s2,q⟩:=h
  obtain⟨as,ra⟩:=DA.reads I (SeqAt.canLay_of_shaped s1) ha rx
  obtain⟨bs,rb⟩:=DA.reads I (SeqAt.canLay_of_shaped s2) hb ry
  exact SeqAt.compareNe_shaped ra rb s1 s2 hr.units ⟨.bl _,H,I,rfl,q⟩
def de(neg:Bool):En→Rv→Rv→Option Rv:=fun e x y=>(eP e x).bind fun a=>(eP e y).bind fun b=>if (SeqAt.shaped a&&SeqAt.shaped b)=true then some (.d (.bool (if neg then !PyData.eqv a b else PyData.eqv a b))) else none
theorem vo{neg:Bool}:dI K (uH K neg) (de neg):=by
  intro σ H0 F H e x y z v u Q R A B hg q
  unfold de at hg
  obtain⟨a,h1,hg⟩:=Option.bind_eq_some_iff.mp hg
  obtain⟨b,h2,hg⟩:=Option.bind_eq_some_iff.mp hg
  split at hg
  case isFalse=>cases hg
  case isTrue hl=>
  cases hg
  rw [Bool.and_eq_true] at hl
  exact⟨a,b,js R A h1,js R B h2,hl.1,hl.2,q F H _ (dc.refl _ _ _ _) R cE⟩
def Af(neg:Bool):En→Rv→Rv→Option Rv:=fun e x y=>(eP e x).bind fun a=>(er e y).bind fun p=>if (a.canLay0&&decide (a.depth≤60)&&PyData.canLayAll0 p.2)=true then some (.d (.bool (if neg then !(p.2.any fun y=>PyData.eqv y a) else p.2.any fun y=>PyData.eqv y a))) else none
def lM:PyData→Bool
  | .none=>true
  | _=>false
theorem oX{F:Hp}{d:PyData}{v:V}(h:DA K F d v):decide (v=.non)=lM d:=by
  cases d with
  | none=>rw [gT.mp h];rfl
  | bool b=>rw [bQ.mp h];rfl
  | int b=>rw [bg.mp h];rfl
  | str b=>rw [nh.mp h];rfl
  | tuple b=>obtain⟨a,_,e,_⟩:=cJ.mp h;rw [e];rfl
  | list b=>obtain⟨a,_,e,_⟩:=cx.mp h;rw [e];rfl
  | dict b=>simp only [DA] at h;obtain⟨a,m,rfl,_⟩:=h;rfl
def wg(neg:Bool):En→Rv→Rv→Option Rv:=fun e x y=>(eP e x).bind fun a=>match y with
  | .d .none=>some (.d (.bool (if neg then !lM a else lM a)))
  | _=>none
def wf(neg:Bool):En→Rv→Rv→Option Rv:=fun e x y=>(cw x).bind fun a=>(cw y).bind fun b=>some (.d (.bool (if neg then !(a==b) else a==b)))
theorem yF:dI K (fun x y H Q=>y=.non∧Q (.bl (decide (x=.non))) H) (wg false):=by
  intro σ H0 F H e x y z v u Q R A B hg q
  unfold wg at hg
  obtain⟨a,h1,hg⟩:=Option.bind_eq_some_iff.mp hg
  split at hg
  · cases hg
    refine⟨gT.mp (show DA K F .none u from B),?_⟩
    rw [oX (js R A h1)]
    exact q F H _ (dc.refl _ _ _ _) R cE
  · cases hg
theorem yE:dI K (fun x y H Q=>∃b c,x=.bl b∧y=.bl c∧Q (.bl (b==c)) H) (wf false):=by
  intro σ H0 F H e x y z v u Q R A B hg q
  unfold wf at hg
  obtain⟨a,h1,hg⟩:=Option.bind_eq_some_iff.mp hg
  obtain⟨b,h2,hg⟩:=Option.bind_eq_some_iff.mp hg
  cases hg
  exact⟨a,b,cm A h1,cm B h2,q F H _ (dc.refl _ _ _ _) R cE⟩
def zN:En→Rv→Rv→Option Rv:=tJ (wg false) (wf false)
def y6:R2:=fun x y H Q=>(y=.non∧Q (.bl (decide (x=.non))) H)∨∃b c,x=.bl b∧y=.bl c∧Q (.bl (b==c)) H
theorem wO:dJ X (compareOp .Is) y6:=wU.or wQ
theorem Al:dI K y6 zN:=dI.or yF yE
def dQ:En→Rv→Rv→Option Rv:=fun e x y=>(er e x).bind fun p=>(cB y).bind fun i=>(atI p.2 i).map .d
def y8(K:PySem.W.Frag):R2:=fun x y H Q=>y9 K x y H Q∨y_ K x y H Q
theorem Am:sW X (y8 X.K):=tO.or wm
theorem aH.atI{F:Hp}{ds:List PyData}{vs:List V}(h:aH K F ds vs){i:Int}{d:PyData}(q:atI ds i=some d):∃v,L2.atI vs i=some v∧DA K F d v:=by
  unfold L2.atI at q ⊢
  obtain⟨j,h1,h2⟩:=Option.bind_eq_some_iff.mp q
  obtain⟨v,h3,h4⟩:=h.get h2
  exact⟨v,by rw [←h.len,h1];exact h3,h4⟩
theorem An:dI K (y8 K) dQ:=by
  intro σ H0 F H e x y z v u Q R A B hg q
  unfold dQ at hg
  obtain⟨⟨b,xs⟩,h1,hg⟩:=Option.bind_eq_some_iff.mp hg
  obtain⟨i,h2,hg⟩:=Option.bind_eq_some_iff.mp hg
  obtain⟨d,h3,hg⟩:=Option.map_eq_some_iff.mp hg
  cases hg
  obtain⟨p,vs,rfl,d1,s1⟩:=dU R A h1
  obtain⟨w,h4,h5⟩:=d1.atI h3
  have fin:=q F H w (dc.refl _ _ _ _) R h5
  cases b with
  | true=>exact .inl ⟨p,vs,i,w,rfl,bY B h2,s1,h4,fin⟩
  | false=>exact .inr ⟨p,vs,i,w,rfl,bY B h2,s1,h4,fin⟩
end
end L2
namespace HT
open PySem PySem.Spec PyProof.Rows
section
variable{prog:Program}{w:World}{A:Around}{E:Value→Shared→Prop}{s:Shared}
theorem getItem_tuple_all{t sl:Addr}{items:Array Value}{vl vu:Value}{lo hi:Option Int}{Q:Value→Shared→Prop}(ht:IsTup s.heap t items)(hs:s.heap.IsSliceOf sl vl vu .none)(pl:IsPart vl lo)(pu:IsPart vu hi)
    (hw:sIx items.size 0 lo=0∧sIx items.size items.size hi=items.size)
    (h:Q (.ref t) s):wpAny (model prog w) A (getItem (.ref t) (.ref sl)) Q E s:=by
  obtain⟨os,hos,hcs,hds⟩:=id hs
  have hTs:s.TypeIs (.ref sl) "slice":=⟨os,hos,hcs⟩
  unfold getItem
  try with_reducible refine wpAny_holding ?_
  first | refine wpAny_bind (wpAny_pure ?_) | skip
  refine wpAny_bind (wpAny_sequenceKey ht.typeIs (by decide) ?_)
  refine wpAny_bind (wpAny_callSpecial?_slot (name:=Str.ofString "__getitem__") ht.typeIs PyProof.Rows.slot_tuple_getitem
    (wpAny_call_entry PyProof.Rows.slot_tuple_getitem ht.typeIs entry_tuple_getitem ?_ (args_tuple_getitem _ _)))
  show wpAny _ _ (Builtin.Tuple.tupleItemsOf (.ref t) >>= _) _ _ s
  refine wpAny_bind (tupleItemsOf_ ht ?_)
  refine wpAny_bind (wpAny_typeOf hTs ?_)
  rw [if_pos (by decide)]
  refine wpAny_bind (et hs pl pu ?_)
  have hno:(((sIx items.size 0 lo:Nat):Int)==0&&(1:Int)==1&&(sIx items.size items.size hi - sIx items.size 0 lo)==items.size)=true:=by
    rw [hw.1,hw.2];simp
  show wpAny _ _ (if (((sIx items.size 0 lo:Nat):Int)==0&&(1:Int)==1&&(sIx items.size items.size hi - sIx items.size 0 lo)==items.size)=true then _ else _) _ _ s
  rw [if_pos hno]
  unfold Builtin.Tuple.tupleIsExact
  refine wpAny_bind (wpAny_bind (wpAny_typeOf ht.typeIs (wpAny_pure ?_)))
  rw [if_pos (by decide)]
  exact wpAny_bind (wpAny_rule (wpAny_pure ⟨_,rfl,wpAny_pure h⟩))
end
end HT
namespace L2
open PySem PySem.Spec PyProof.Rows
section
variable{X:Cx}{K:PySem.W.Frag}{a:Expr}{fa:FE}{lo hi:Option Expr}{pos p2:Pos}
def cutD(xs:List PyData)(lo hi:Option Int):List PyData:=(xs.drop (HT.sIx xs.length 0 lo)).take (HT.sIx xs.length xs.length hi - HT.sIx xs.length 0 lo)
def zb(K:PySem.W.Frag):V→Option Int→Option Int→Hp→VK→Prop:=fun x lo hi H Q=>∃a xs,x=.ref a∧dm K H a xs∧
  (HT.sIx xs.length 0 lo=0∧HT.sIx xs.length xs.length hi=xs.length)∧Q (.ref a) H
theorem uO:sX X (zb X.K):=by
  intro pins s σ H x v vl vu lo hi sl Q I rx hs pl pu h
  obtain⟨a,xs,rfl,hx,hw,q⟩:=h
  cases rx
  obtain⟨its,r,ht,hz⟩:=I.tuple hx
  have hlen:its.toArray.size=xs.length:=by rw [List.size_toArray];exact r.length.symm
  refine⟨"tuple",_,PyProof.Rows.slot_tuple_getitem.lookup,ht.typeIs,?_⟩
  exact HT.getItem_tuple_all ht hs pl pu (by rw [hlen];exact hw) ⟨.ref a,H,I,rfl,q⟩
def Ax(K:PySem.W.Frag):V→Option Int→Option Int→Hp→VK→Prop:=fun x lo hi H Q=>za K x lo hi H Q∨(zb K x lo hi H Q∨y' K x lo hi H Q)
theorem Az:sX X (Ax X.K):=xI.or (uO.or uM)
abbrev FO:=En→Option (Option Int × En)
def fO(K:PySem.W.Frag)(f:FO):TO:=fun σ H Q=>∃F e o e',aQ K F H σ e∧f e=some (o,e')∧∀F' H',dc σ F H e F' H' e'→aQ K F' H' σ e'→Q o H'
theorem PO.mono{e:Option Expr}{t t':TO}(h:PO X e t)(m:∀σ H Q,t' σ H Q→t σ H Q):PO X e t':=fun pins s σ H Q I q=>h pins s σ H Q I (m σ H Q q)
def i4:FO:=fun e=>some (none,e)
def hJ(f:FE):FO:=fun e=>(f e).bind fun p=>(cB p.1).map fun i=>(some i,p.2)
theorem ji:PO X none (fO K i4):=ut.mono fun σ H Q h=>by
  obtain⟨F,e,o,e',R,hf,q⟩:=h
  cases hf
  exact q F H (dc.refl _ _ _ _) R
theorem jj(h:PE X a (fE K fa)):PO X (some a) (fO K (hJ fa)):=(uv h).mono fun σ H Q h=>by
  obtain⟨F,e,o,e',R,hf,q⟩:=h
  unfold hJ at hf
  obtain⟨⟨x,e1⟩,h1,hf⟩:=Option.bind_eq_some_iff.mp hf
  obtain⟨i,h2,hf⟩:=Option.map_eq_some_iff.mp hf
  cases hf
  exact⟨F,e,x,_,R,h1,fun F1 H1 v X1 R1 A1=>⟨i,bY A1 h2,q F1 H1 X1 R1⟩⟩
def yz(e:En)(x:Rv)(lo hi:Option Int):Option Rv:=(er e x).map fun p=>if p.1=true then .l (cutD p.2 lo hi) else .d (.tuple (cutD p.2 lo hi))
def sS(fa:FE)(fl fh:FO):FE:=fun e=>(fa e).bind fun p=>(fl p.2).bind fun l=>(fh l.2).bind fun h=>(yz h.2 p.1 l.1 h.1).map fun z=>(z,h.2)
theorem qh{F:Hp}{ds:List PyData}{vs:List V}(h:aH K F ds vs)(lo hi:Option Int):aH K F (cutD ds lo hi) (kh vs lo hi):=by
  unfold cutD kh
  rw [h.len]
  exact(h.drop _).take _
theorem s_{α:Type}{xs:List α}{lo hi:Option Int}(h:HT.sIx xs.length 0 lo=0∧HT.sIx xs.length xs.length hi=xs.length):(xs.drop (HT.sIx xs.length 0 lo)).take (HT.sIx xs.length xs.length hi - HT.sIx xs.length 0 lo)=xs:=by
  rw [h.1,h.2];simp
theorem rO{fl fh:FO}(he:PE X a (fE X.K fa))(hl:PO X lo (fO X.K fl))(hh:PO X hi (fO X.K fh)):PE X (.Subscript a (.Slice lo hi none p2) pos) (fE X.K (sS fa fl fh)):=(rq Az he hl hh).mono fun σ H Q h=>by
  obtain⟨F,e,z,e',R,hf,q⟩:=h
  unfold sS at hf
  obtain⟨⟨x,e1⟩,h1,hf⟩:=Option.bind_eq_some_iff.mp hf
  obtain⟨⟨l,e2⟩,h2,hf⟩:=Option.bind_eq_some_iff.mp hf
  obtain⟨⟨u,e3⟩,h3,hf⟩:=Option.bind_eq_some_iff.mp hf
  obtain⟨z',h4,hf⟩:=Option.map_eq_some_iff.mp hf
  cases hf
  refine⟨F,e,x,e1,R,h1,fun F1 H1 v X1 R1 A1=>⟨F1,e1,l,e2,R1,h2,fun F2 H2 X2 R2=>⟨F2,e2,u,_,R2,h3,fun F3 H3 X3 R3=>?_⟩⟩⟩
  have X12:=X1.trans X2
  have X13:=X12.trans X3
  have A3:=(A1.ext X2).ext X3
  unfold yz at h4
  obtain⟨⟨b,xs⟩,h5,h4⟩:=Option.map_eq_some_iff.mp h4
  obtain⟨p,vs,rfl,d1,s1⟩:=dU R3 A3 h5
  cases b with
  | true=>
    rw [if_pos rfl] at h4;cases h4
    refine .inr (.inr ⟨p,vs,rfl,s1,fun t ht=>?_⟩)
    obtain⟨R4,X4,hF,no⟩:=R3.newL (vs:=kh vs l u) ht
    exact q _ _ _ (X13.trans X4) R4 ⟨t,_,rfl,X13.dom _ ht,hF,aE,qh d1 l u,no⟩
  | false=>
    rw [if_neg (by simp)] at h4;cases h4
    by_cases hw:HT.sIx vs.length 0 l=0∧HT.sIx vs.length vs.length u=vs.length
    · refine .inr (.inl ⟨p,vs,rfl,s1,hw,?_⟩)
      have e5:cutD xs l u=xs:=by unfold cutD;exact s_ (by rw [d1.len];exact hw)
      rw [e5] at q
      obtain⟨F4,R4,X4,hF⟩:=R3.growT (au.refl _) s1
      exact q _ _ _ (X13.trans X4) R4 (cJ.mpr ⟨p,vs,rfl,hF,d1.mono X4.sf⟩)
    · refine .inl ⟨p,vs,rfl,s1,hw,fun t ht=>?_⟩
      obtain⟨R4,X4⟩:=R3.newT (vs:=kh vs l u) ht
      exact q _ _ _ (X13.trans X4) R4 (cJ.mpr ⟨t,_,rfl,.inl (.inl aE),(qh d1 l u).mono X4.sf⟩)
end
section
variable{X:Cx}{K:PySem.W.Frag}
theorem lZ{σ:L2.St}{H0 F H:Hp}{e:En}{x:Rv}{vs:List V}(h:cH K σ H0 F H e [x] vs):∃v,vs=[v]∧bR K σ H0 F H e x v:=by
  obtain⟨v,ws,rfl,h1,h2⟩:=h
  have h2':ws=[]:=h2
  subst h2'
  exact⟨v,rfl,h1⟩
theorem oD{σ:L2.St}{H0 F H:Hp}{e:En}{x y:Rv}{vs:List V}(h:cH K σ H0 F H e [x,y] vs):∃v u,vs=[v,u]∧bR K σ H0 F H e x v∧bR K σ H0 F H e y u:=by
  obtain⟨v,ws,rfl,h1,h2⟩:=h
  obtain⟨u,rfl,h3⟩:=lZ h2
  exact⟨v,u,rfl,h1,h3⟩
def g1(g:En→Rv→Option Rv):En→List Rv→Option Rv:=fun e xs=>match xs with
  | [x]=>g e x
  | _=>none
def g2(g:En→Rv→Rv→Option Rv):En→List Rv→Option Rv:=fun e xs=>match xs with
  | [x,y]=>g e x y
  | _=>none
theorem fF{r:List V→Hp→VK→Prop}{g:En→Rv→Option Rv}(h:yl K (fun v H Q=>r [v] H Q) g):dg K r (g1 g):=by
  intro σ H0 F H e xs z vs Q R A hg q
  unfold g1 at hg
  match xs,hg with
  | [x],hg=>
    obtain⟨v,rfl,h1⟩:=lZ A
    exact h σ H0 F H e x z v Q R h1 hg q
theorem oj{r:List V→Hp→VK→Prop}{g:En→Rv→Rv→Option Rv}(h:dI K (fun v u H Q=>r [v,u] H Q) g):dg K r (g2 g):=by
  intro σ H0 F H e xs z vs Q R A hg q
  unfold g2 at hg
  match xs,hg with
  | [x,y],hg=>
    obtain⟨v,u,rfl,h1,h2⟩:=oD A
    exact h σ H0 F H e x y z v u Q R h1 h2 hg q
def iC:En→Rv→Option Rv:=fun e x=>(er e x).map fun p=>.d (.int p.2.length)
theorem yJ:dg K (fun xs H Q=>∃p ys,xs=[.ref p]∧(eM K H p ys∨dm K H p ys)∧Q (.int ys.length) H) (g1 iC):=fF fun σ H0 F H e x z v Q R A hg q=>by
  obtain⟨⟨b,xs⟩,h5,h4⟩:=Option.map_eq_some_iff.mp hg
  obtain⟨p,vs,rfl,d1,s1⟩:=dU R A h5
  cases h4
  refine⟨p,vs,rfl,?_,?_⟩
  · cases b with
    | true=>exact .inl s1
    | false=>exact .inr s1
  · rw [←d1.len]
    exact q F H _ (dc.refl _ _ _ _) R jZ
def ni:En→Rv→Option Rv:=fun _ x=>(cB x).map fun i=>.d (.int (if i < 0 then -i else i))
theorem ym:dg K (fun xs H Q=>∃i,xs=[.int i]∧Q (.int (if i < 0 then -i else i)) H) (g1 ni):=fF fun σ H0 F H e x z v Q R A hg q=>by
  obtain⟨i,h5,h4⟩:=Option.map_eq_some_iff.mp hg
  cases h4
  exact⟨i,by rw [bY A h5],q F H _ (dc.refl _ _ _ _) R jZ⟩
def pe:En→Rv→Option Rv:=fun _ x=>match x with
  | .d (.int i)=>some (.d (.int i))
  | .d (.bool k)=>some (.d (.int (if k then 1 else 0)))
  | _=>none
theorem yD:dg K (fun xs H Q=>(∃i,xs=[.int i]∧Q (.int i) H)∨∃k,xs=[.bl k]∧Q (.int (if k then 1 else 0)) H) (g1 pe):=fF fun σ H0 F H e x z v Q R A hg q=>by
  unfold pe at hg
  split at hg
  · cases hg
    exact .inl ⟨_,by rw [bg.mp (show DA K F (.int _) v from A)],q F H _ (dc.refl _ _ _ _) R jZ⟩
  · cases hg
    exact .inr ⟨_,by rw [bQ.mp (show DA K F (.bool _) v from A)],q F H _ (dc.refl _ _ _ _) R jZ⟩
  · cases hg
def qA:=gI (fun _ _=>true) fun i j=>.int (if j < i then j else i)
def ph:=gI (fun _ _=>true) fun i j=>.int (if j > i then j else i)
theorem yM:dg K (fun xs H Q=>∃i j,xs=[.int i,.int j]∧Q (.int (if j < i then j else i)) H) (g2 qA):=oj fun σ H0 F H e x y z v u Q R A B hg q=>by
  obtain⟨i,j,h1,h2,h3⟩:=eX (K:=K) (g:=fun i j=>.int (if j < i then j else i)) (fun _ _ _=>bg.mpr rfl) σ H0 F H e x y z v u Q R A B hg q
  exact⟨i,j,by rw [h1,h2],h3⟩
theorem yL:dg K (fun xs H Q=>∃i j,xs=[.int i,.int j]∧Q (.int (if j > i then j else i)) H) (g2 ph):=oj fun σ H0 F H e x y z v u Q R A B hg q=>by
  obtain⟨i,j,h1,h2,h3⟩:=eX (K:=K) (g:=fun i j=>.int (if j > i then j else i)) (fun _ _ _=>bg.mpr rfl) σ H0 F H e x y z v u Q R A B hg q
  exact⟨i,j,by rw [h1,h2],h3⟩
def dA:En→Rv→Option Rv:=fun e x=>(er e x).map fun p=>.d (.tuple p.2)
theorem uU:dg K (fun xs H Q=>∃p ys,xs=[.ref p]∧((eM K H p ys∧∀l,H l=none→Q (.ref l) (bP H l (.tup ys)))∨(dm K H p ys∧Q (.ref p) H))) (g1 dA):=fF fun σ H0 F H e x z v Q R A hg q=>by
  obtain⟨⟨b,xs⟩,h5,h4⟩:=Option.map_eq_some_iff.mp hg
  obtain⟨p,vs,rfl,d1,s1⟩:=dU R A h5
  cases h4
  refine⟨p,vs,rfl,?_⟩
  cases b with
  | true=>
    refine .inl ⟨s1,fun t ht=>?_⟩
    obtain⟨R4,X4⟩:=R.newT (vs:=vs) ht
    exact q _ _ _ X4 R4 (cJ.mpr ⟨t,_,rfl,.inl (.inl aE),d1.mono X4.sf⟩)
  | false=>
    obtain⟨F4,R4,X4,hF⟩:=R.growT (au.refl _) s1
    exact .inr ⟨s1,q _ _ _ X4 R4 (cJ.mpr ⟨p,vs,rfl,hF,d1.mono X4.sf⟩)⟩
def jq:List PyData→Option (List Bool)
  | []=>some []
  | .bool i::r=>(jq r).map (i::·)
  | _=>none
theorem kB:∀{ds:List PyData} {ns:List Bool},jq ds=some ns→ds=ns.map .bool
  | [],_,h=>by cases h;rfl
  | .bool i::r,_,h=>by
    obtain⟨ns,h1,rfl⟩:=Option.map_eq_some_iff.mp h
    rw [kB h1];rfl
def i0(g:List PyData→Option PyData):En→Rv→Option Rv:=fun e x=>match er e x with
  | some (true,xs)=>(g xs).map .d
  | _=>none
theorem xH{r:List V→Hp→VK→Prop}{g:List PyData→Option PyData}(h:∀(F H:Hp) (p:Addr) (xs:List PyData) (vs:List V) (d:PyData) (Q:VK),aH K F xs vs→eM K H p vs→g xs=some d→(∀v,(∀F,DA K F d v)→Q v H)→r [.ref p] H Q):dg K r (g1 (i0 g)):=fF fun σ H0 F H e x z v Q R A hg q=>by
  unfold i0 at hg
  split at hg
  case h_2=>cases hg
  case h_1 xs h5=>
  obtain⟨p,vs,rfl,d1,s1⟩:=dU R A h5
  obtain⟨d,h6,hg⟩:=Option.map_eq_some_iff.mp hg
  cases hg
  exact h F H p xs vs d Q d1 s1 h6 fun v hv=>q F H v (dc.refl _ _ _ _) R (hv F)
def kM:List PyData→Option PyData:=fun xs=>(jq xs).map fun ns=>.bool (ns.all id)
theorem yp:dg K (fun xs H Q=>∃(l:Addr) (bs:List Bool),xs=[.ref l]∧eM K H l (bs.map V.bl)∧Q (.bl (bs.all id)) H) (g1 (i0 kM)):=xH fun F H p xs vs d Q d1 s1 hg q=>by
  obtain⟨ns,h1,h2⟩:=Option.map_eq_some_iff.mp hg
  cases h2
  rw [kB h1] at d1
  rw [aH.bools.mp d1] at s1
  exact⟨p,ns,rfl,s1,q _ fun _=>bQ.mpr rfl⟩
mutual
def iX:PyData→Bool
  | .tuple ds=>jf ds
  | .list _=>false
  | .dict _=>false
  | _=>true
def jf:List PyData→Bool
  | []=>true
  | d::r=>iX d&&jf r
end
mutual
def gy:PyData→Bool
  | .list _=>false
  | .tuple ds=>hG ds
  | _=>true
def hG:List PyData→Bool
  | []=>true
  | d::r=>gy d&&hG r
end
theorem jY{h:Heap}:∀{m:List (Int × pX)} {es:List DictEntry} {vs:List (iS × Value)} {P:Program} {w:World},KV (m.map fun p=>((Sum.inl p.1:iS),p.2.toV)) vs→Pairs (lQ P w) es vs→
    ReadsAll h (es.map (·.key)) (m.map fun p=>PyData.int p.1) []∧ReadsAll h (es.map (·.val)) (m.map fun p=>p.2.toD) []
  | [],es,vs,P,w,r,q=>by
    cases r
    cases q
    exact⟨.nil,.nil⟩
  | p::m,es,vs,P,w,r,q=>by
    rw [List.map_cons] at r
    cases r with
    | @cons a b as bs h1 t=>
      cases q with
      | @cons e kv es' kvs' h2 h3 h4=>
        obtain⟨z1,z2⟩:=h1
        obtain⟨c1,c2⟩:=jY t h4
        have k1:qO (Sum.inl p.1) e.key=true:=by
          have:b.1=Sum.inl p.1:=z1.symm
          rw [←this];exact h2
        rcases a9 k1 with ⟨i,t',e1,e2⟩ | ⟨x,t',e1,e2⟩
        · cases e1
          refine⟨?_,?_⟩
          · simp only [List.map_cons,e2]
            exact ReadsAll.cons (as:=[]) (bs:=[]) (.int p.1 t') c1
          · simp only [List.map_cons,h3]
            refine ReadsAll.cons (as:=[]) (bs:=[]) ?_ c2
            obtain⟨k,at_⟩:=p
            cases at_ with
            | vi n=>obtain⟨tk,z2⟩:=z2;rw [z2];exact .int n tk
            | vb x=>rw [show b.2=Value.bool x from z2];exact .bool x
            | vn=>rw [show b.2=Value.none from z2];exact .none
        · cases e1
mutual
theorem DA.readsR{X:Cx}{pins:List (Addr × Obj)}{σ:L2.St}{H:Hp}{s:Shared}(I:ax X pins σ H s):∀{d:PyData} {v:V} {u:Value},DA X.K H d v→aZ v u→∃as,Reads s.heap u d as∧(gy d=true→sysModules∉as)
  | .none,_,_,q,r=>by
    simp only [DA] at q;subst q;cases r;exact⟨_,.none,fun _=>by simp⟩
  | .bool b,_,_,q,r=>by
    simp only [DA] at q;subst q;cases r;exact⟨_,.bool b,fun _=>by simp⟩
  | .int i,_,_,q,r=>by
    simp only [DA] at q;subst q;obtain⟨t,rfl⟩:=r;exact⟨_,.int i t,fun _=>by simp⟩
  | .str x,_,_,q,r=>by
    simp only [DA] at q;subst q;obtain⟨t,rfl⟩:=r;exact⟨_,.str x t,fun _=>by simp⟩
  | .tuple ds,_,_,q,r=>by
    simp only [DA] at q
    obtain⟨a,xs,e,hs,rr⟩:=q
    subst e;cases r
    obtain⟨its,rv,⟨o,ho,hc,n,hd⟩,hz⟩:=I.tuple hs
    obtain⟨as,q,z⟩:=aH.readsR I rr rv
    exact⟨_,.tuple ho hc hd q,fun c=>z (by simpa [gy] using c)⟩
  | .list ds,_,_,q,r=>by
    simp only [DA] at q
    obtain⟨a,xs,e,hs,rr⟩:=q
    subst e;cases r
    obtain⟨its,rv,ht,hz⟩:=I.list hs
    obtain⟨o,ho,hc,n,hd⟩:=ht.isList
    obtain⟨as,q,z⟩:=aH.readsR I rr rv
    exact⟨_,.list ho hc hd q,fun c=>by simp [gy] at c⟩
  | .dict kvs,_,_,q,r=>by
    simp only [DA] at q
    obtain⟨a,m,e,hs,rfl⟩:=q
    subst e;cases r
    obtain⟨_,hS,vs,kv,o,es,ep,ho,hx,hd,_,hp,_⟩:=(show cG X.prog X.w H s.heap a (.dK (m.map fun p=>(Sum.inl p.1,p.2.toV))) from I.hok a _ hs)
    obtain⟨c1,c2⟩:=jY (h:=s.heap) kv hp
    refine⟨_,Reads.dict (as:=[]) (bs:=[]) ho hx.1 hd ?_ ?_,fun _=>?_⟩
    · rw [List.map_map];exact c1
    · rw [List.map_map];exact c2
    · have:a≠sysModules:=by simpa using hS
      simpa using this.symm
theorem aH.readsR{X:Cx}{pins:List (Addr × Obj)}{σ:L2.St}{H:Hp}{s:Shared}(I:ax X pins σ H s):∀{ds:List PyData} {xs:List V} {us:List Value},aH X.K H ds xs→aM xs us→∃as,ReadsAll s.heap us ds as∧(hG ds=true→sysModules∉as)
  | [],_,_,q,r=>by
    simp only [aH] at q;subst q;cases r;exact⟨_,.nil,fun _=>by simp⟩
  | d::ds,_,_,q,r=>by
    simp only [aH] at q
    obtain⟨x,rr,e,a,b⟩:=q
    subst e
    cases r with
    | cons p p'=>
      obtain⟨as,q1,z1⟩:=DA.readsR I a p
      obtain⟨bs,q2,z2⟩:=aH.readsR I b p'
      refine⟨_,.cons q1 q2,fun c=>?_⟩
      simp only [hG,Bool.and_eq_true] at c
      intro z
      rcases List.mem_append.mp z with z | z
      · exact z1 c.1 z
      · exact z2 c.2 z
end
def il(d:PyData):Bool:=(iX d || (!d.hasDict || gy d))&&d.showable&&decide (d.depth≤60)&&decide (d.shown.length≤sizeLine)
def iZ:En→Rv→Option Rv:=fun _ x=>match x with
  | .d d=>if il d=true then some (.d (.str d.shown)) else none
  | _=>none
def rV(K:PySem.W.Frag):List V→Hp→VK→Prop:=fun xs H Q=>∃x d,xs=[x]∧DA K H d x∧(d.hasDict=true→gy d=true)∧d.showable=true∧d.depth≤60∧d.shown.length≤sizeLine∧Q (.str d.shown) H
mutual
theorem iY:∀(d:PyData),iX d=true→d.hasDict=false
  | .none,_=>rfl
  | .bool _,_=>rfl
  | .int _,_=>rfl
  | .str _,_=>rfl
  | .tuple ds,h=>by simp only [PyData.hasDict];exact gU ds (by simpa [iX] using h)
  | .list ds,h=>by simp [iX] at h
  | .dict _,h=>by simp [iX] at h
theorem gU:∀(ds:List PyData),jf ds=true→PyData.hasDictAll ds=false
  | [],_=>rfl
  | d::r,h=>by
    simp only [jf,Bool.and_eq_true] at h
    simp only [PyData.hasDictAll,iY d h.1,gU r h.2,Bool.or_self]
end
theorem m_{X:Cx}{k:Nat}(hr:cf k X.A):dh X (.builtin "repr") (rV X.K):=by
  intro pins s σ H xs us Q I r h
  obtain⟨x,d,rfl,ha,hdl,hsh,hdp,hsz,q⟩:=h
  obtain⟨u,rfl,ru⟩:∃u,us=[u]∧aZ x u:=by
    cases r with
    | cons p p'=>cases p';exact⟨_,rfl,p⟩
  have hun:=hr.un
  obtain⟨as,rd,hm⟩:=DA.readsR I ha ru
  have fin:∀a,u=.ref a→wpAny (model X.prog X.w) X.A (call (.builtin "repr") [u]) (EP X pins σ Q) X.xe s:=fun a e=>by
    subst e
    exact repr_of_reads' rd hsh (fun z=>hm (hdl z)) hr.gd (by lia) (fun _ _ e=>e) (fun h' u tk hk=>⟨.str _,H,I.kept hk,⟨_,rfl⟩,q⟩) hsz
  cases d with
  | none=>simp only [DA] at ha;subst ha;cases ru;exact P.repr_of_none ⟨.str _,H,I.tok _,⟨_,rfl⟩,q⟩
  | bool b=>simp only [DA] at ha;subst ha;cases ru;exact P.repr_of_bool ⟨.str _,H,I.tok _,⟨_,rfl⟩,q⟩
  | int i=>
    simp only [DA] at ha;subst ha;obtain⟨t,rfl⟩:=ru
    simp only [PyData.showable,decide_eq_true_eq] at hsh
    exact P.repr_of_int hsh ⟨.str _,H,I.tok _,⟨_,rfl⟩,q⟩
  | str y=>simp only [DA] at ha;subst ha;obtain⟨t,rfl⟩:=ru;exact P.repr_of_str ⟨.str _,H,I.tok _,⟨_,rfl⟩,q⟩ hsz
  | list ds=>obtain⟨a,_,e,_⟩:=cx.mp ha;subst e;exact fin a ru
  | dict ds=>simp only [DA] at ha;obtain⟨a,_,e,_⟩:=ha;subst e;exact fin a ru
  | tuple ds=>obtain⟨a,_,e,_⟩:=cJ.mp ha;subst e;exact fin a ru
theorem xE:dg K (rV K) (g1 iZ):=fF fun σ H0 F H e x z v Q R A hg q=>by
  unfold iZ at hg
  split at hg
  case h_2=>cases hg
  case h_1 d=>
  split at hg
  case isFalse=>cases hg
  case isTrue hl=>
  cases hg
  unfold il at hl
  rw [Bool.and_eq_true,Bool.and_eq_true,Bool.and_eq_true,decide_eq_true_iff,decide_eq_true_iff] at hl
  refine⟨v,d,rfl,DA.mono R.sm A,fun z=>?_,hl.1.1.2,hl.1.2,hl.2,q F H _ (dc.refl _ _ _ _) R ((nh (K:=K) (F:=F)).mpr rfl)⟩
  have c:=hl.1.1.1
  cases hf:iX d with
  | true=>rw [iY d hf] at z;cases z
  | false=>rw [hf,z] at c;simpa using c
end
end L2
namespace L2
open PySem PySem.Spec PyProof.Rows
section
variable{K:PySem.W.Frag}{σ:L2.St}{H0 F H F' H':Hp}{e e':En}
theorem aQ.upd1(R:aQ K F H σ e){σ':L2.St}(i:Nat)(hl:σ'.length=e'.length)(hσ:∀j,j≠i→σ'[j]?=σ[j]?)(he:∀j,j≠i→e'[j]?=e[j]?)(sF:au F F')(sm:au F' H')(hf:∀j a,j≠i→Fp σ e H j a→F' a=none)
    (hh:∀j a o,j≠i→Fp σ e H j a→H a=some o→H' a=some o)(hd:∀x,e'[i]?=some (some (.d x))→∃v,σ'[i]?=some (some v)∧DA K F' x v)
    (ho:∀xs,e'[i]?=some (some (.l xs))→∃l vs,σ'[i]?=some (some (.ref l))∧F' l=none∧H' l=some (.lst vs)∧aH K F' xs vs)
    (hn:∀xss,e'[i]?=some (some (.n xss))→∃(l:Addr) (bs:List Addr),σ'[i]?=some (some (.ref l))∧F' l=none∧H' l=some (.lst (bs.map V.ref))∧bs.length=xss.length∧bs.Nodup∧l∉bs∧
      ∀(k:Nat) (b:Addr) (ys:List PyData),bs[k]?=some b→xss[k]?=some ys→F' b=none∧∃us,H' b=some (.lst us)∧aH K F' ys us)
    (hi:∀a j,j≠i→Fp σ' e' H' i a→¬Fp σ e H j a):aQ K F' H' σ' e'∧∀j a,j≠i→(Fp σ' e' H' j a↔ Fp σ e H j a):=by
  have fs:∀j a,j≠i→(Fp σ' e' H' j a↔ Fp σ e H j a):=by
    intro j a hj
    have key:∀xss l,e[j]?=some (some (.n xss))→σ[j]?=some (some (.ref l))→H' l=H l:=fun xss l h1 h2=>by
      obtain⟨l',bs,g1,g2,g3,_⟩:=R.nst j xss h1
      rw [h2] at g1;cases g1
      rw [g3]
      exact hh j l _ hj (.inr ⟨xss,l,bs,h1,h2,g3,.inl rfl⟩) g3
    unfold Fp
    rw [he j hj,hσ j hj]
    constructor
    · rintro(h1 | ⟨xss,l,bs,h1,h2,h3,h4⟩)
      · exact .inl h1
      · exact .inr ⟨xss,l,bs,h1,h2,by rw [←key xss l h1 h2];exact h3,h4⟩
    · rintro(h1 | ⟨xss,l,bs,h1,h2,h3,h4⟩)
      · exact .inl h1
      · exact .inr ⟨xss,l,bs,h1,h2,by rw [key xss l h1 h2];exact h3,h4⟩
  refine⟨⟨sm,hl,fun j x q=>?_,fun j xs q=>?_,fun j xss q=>?_,fun j k a q1 q2=>?_⟩,fs⟩
  · by_cases z:j=i
    · subst z;exact hd x q
    · rw [he j z] at q
      obtain⟨v,h1,h2⟩:=R.dat j x q
      exact⟨v,by rw [hσ j z];exact h1,DA.mono sF h2⟩
  · by_cases z:j=i
    · subst z;exact ho xs q
    · rw [he j z] at q
      obtain⟨l,vs,h1,h2,h3,h4⟩:=R.own j xs q
      have o:Fp σ e H j l:=.inl ⟨xs,q,h1⟩
      exact⟨l,vs,by rw [hσ j z];exact h1,hf j l z o,hh j l _ z o h3,h4.mono sF⟩
  · by_cases z:j=i
    · subst z;exact hn xss q
    · rw [he j z] at q
      obtain⟨l,bs,h1,h2,h3,h4,h5,h6,h7⟩:=R.nst j xss q
      have o:Fp σ e H j l:=.inr ⟨xss,l,bs,q,h1,h3,.inl rfl⟩
      refine⟨l,bs,by rw [hσ j z];exact h1,hf j l z o,hh j l _ z o h3,h4,h5,h6,fun k b ys g1 g2=>?_⟩
      obtain⟨c1,us,c2,c3⟩:=h7 k b ys g1 g2
      have ob:Fp σ e H j b:=.inr ⟨xss,l,bs,q,h1,h3,.inr (List.mem_of_getElem? g1)⟩
      exact⟨hf j b z ob,us,hh j b _ z ob c2,c3.mono sF⟩
  · by_cases zj:j=i
    · subst zj
      by_cases zk:k=j
      · exact zk.symm
      · exact absurd ((fs k a zk).mp q2) (hi a k zk q1)
    · by_cases zk:k=i
      · subst zk
        exact absurd ((fs j a zj).mp q1) (hi a j zj q2)
      · exact R.fp j k a ((fs j a zj).mp q1) ((fs k a zk).mp q2)
theorem aQ.putL(R:aQ K F H σ e){i:Nat}{xs ys:List PyData}{l:Addr}{vs:List V}(hi:e[i]?=some (some (.l xs)))(hl:σ[i]?=some (some (.ref l)))(hd:aH K F ys vs):
    aQ K F (bP H l (.lst vs)) σ (e.set i (some (.l ys)))∧dc σ F H e F (bP H l (.lst vs)) (e.set i (some (.l ys))):=by
  obtain⟨l',vs',h1,h2,h3,h4⟩:=R.own i xs hi
  rw [hl] at h1;cases h1
  have hlt:i < e.length:=(List.getElem?_eq_some_iff.mp hi).1
  have fi:Fp σ e H i l:=.inl ⟨xs,hi,hl⟩
  have gi:(e.set i (some (Sv.l ys)))[i]?=some (some (.l ys)):=List.getElem?_set_self hlt
  obtain⟨R',fs⟩:=R.upd1 (F':=F) (H':=bP H l (.lst vs)) (e':=e.set i (some (.l ys))) i (by rw [List.length_set];exact R.len) (fun _ _=>rfl) (fun j hj=>List.getElem?_set_ne (Ne.symm hj)) (au.refl F)
    (fun b o q=>by
      have z:b≠l:=fun z=>by rw [z,h2] at q;cases q
      rw [aF z];exact R.sm b o q)
    (fun j a _ q=>(R.fpAt q).1)
    (fun j a o hj q ha=>by
      have z:a≠l:=fun z=>hj (R.fp j i a q (by rw [z];exact fi))
      rw [aF z];exact ha)
    (fun x q=>by rw [gi] at q;cases q) (fun zs q=>by rw [gi] at q;cases q;exact⟨l,vs,hl,h2,aE,hd⟩) (fun xss q=>by rw [gi] at q;cases q)
    (fun a j hj q q2=>by
      rcases q with ⟨zs,_,q⟩ | ⟨xss,_,_,q,_⟩
      · rw [hl] at q;cases q
        exact hj (R.fp j i _ q2 fi)
      · rw [gi] at q;cases q)
  refine⟨R',⟨au.refl _,fun a q=>?_,fun _ _ q _ _=>q,fun a ws q=>?_,fun a o q n=>?_,fun j=>?_,fun a ⟨j,q⟩=>?_,fun _ _ q _ _=>q⟩⟩
  · by_cases z:a=l
    · rw [z,aE] at q;cases q
    · rw [aF z] at q;exact q
  · by_cases z:a=l
    · rw [z];exact⟨vs,aE⟩
    · rw [aF z];exact⟨ws,q⟩
  · have z:a≠l:=fun z=>n ⟨i,by rw [z];exact fi⟩
    rw [aF z];exact q
  · by_cases z:j=i
    · subst z;rw [gi];exact⟨fun _=>⟨xs,hi⟩,fun _=>⟨ys,rfl⟩⟩
    · rw [List.getElem?_set_ne (Ne.symm z)]
  · by_cases z:j=i
    · subst z
      rcases q with ⟨zs,_,q⟩ | ⟨xss,_,_,q,_⟩
      · rw [hl] at q;cases q;exact .inl ⟨j,fi⟩
      · rw [gi] at q;cases q
    · exact .inl ⟨j,(fs j a z).mp q⟩
theorem aQ.setD(R:aQ K F H σ e)(i:Nat){x:PyData}{v:V}(h:DA K F x v):aQ K F H (σ.set i (some v)) (e.set i (some (.d x)))∧∀a,bW (σ.set i (some v)) (e.set i (some (.d x))) H a→bW σ e H a:=by
  have gi:∀s,(e.set i (some (Sv.d x)))[i]?=some (some s)→s=.d x∧i < e.length:=fun s q=>by
    have hlt:i < e.length:=by have:=(List.getElem?_eq_some_iff.mp q).1;simpa using this
    rw [List.getElem?_set_self hlt] at q
    exact⟨(Option.some.inj (Option.some.inj q)).symm,hlt⟩
  have nofp:∀a,¬Fp (σ.set i (some v)) (e.set i (some (.d x))) H i a:=fun a q=>by
    rcases q with ⟨zs,q,_⟩ | ⟨xss,_,_,q,_⟩
    · cases (gi _ q).1
    · cases (gi _ q).1
  obtain⟨R',fs⟩:=R.upd1 (F':=F) (H':=H) (σ':=σ.set i (some v)) (e':=e.set i (some (.d x))) i (by rw [List.length_set,List.length_set];exact R.len) (fun j hj=>List.getElem?_set_ne (Ne.symm hj)) (fun j hj=>List.getElem?_set_ne (Ne.symm hj)) (au.refl F) R.sm
    (fun j a _ q=>(R.fpAt q).1) (fun j a o _ _ ha=>ha)
    (fun y q=>by
      obtain⟨z,hlt⟩:=gi _ q
      cases z
      exact⟨v,List.getElem?_set_self (by rw [R.len];exact hlt),h⟩)
    (fun zs q=>by cases (gi _ q).1) (fun xss q=>by cases (gi _ q).1) (fun a j hj q=>absurd q (nofp a))
  refine⟨R',fun a ⟨j,q⟩=>?_⟩
  by_cases z:j=i
  · subst z;exact absurd q (nofp a)
  · exact⟨j,(fs j a z).mp q⟩
theorem aQ.setL(R:aQ K F H σ e)(i:Nat){xs:List PyData}{l:Addr}{vs:List V}(h1:F l=none)(h2:H l=some (.lst vs))(h3:aH K F xs vs)(h4:¬bW σ e H l):aQ K F H (σ.set i (some (.ref l))) (e.set i (some (.l xs)))∧∀a,bW (σ.set i (some (.ref l))) (e.set i (some (.l xs))) H a→bW σ e H a∨a=l:=by
  have gi:∀s,(e.set i (some (Sv.l xs)))[i]?=some (some s)→s=.l xs∧i < e.length:=fun s q=>by
    have hlt:i < e.length:=by have:=(List.getElem?_eq_some_iff.mp q).1;simpa using this
    rw [List.getElem?_set_self hlt] at q
    exact⟨(Option.some.inj (Option.some.inj q)).symm,hlt⟩
  have onefp:∀a,Fp (σ.set i (some (.ref l))) (e.set i (some (.l xs))) H i a→a=l:=fun a q=>by
    rcases q with ⟨zs,q,q2⟩ | ⟨xss,_,_,q,_⟩
    · obtain⟨_,hlt⟩:=gi _ q
      rw [List.getElem?_set_self (by rw [R.len];exact hlt)] at q2
      cases q2;rfl
    · cases (gi _ q).1
  obtain⟨R',fs⟩:=R.upd1 (F':=F) (H':=H) (σ':=σ.set i (some (.ref l))) (e':=e.set i (some (.l xs))) i (by rw [List.length_set,List.length_set];exact R.len) (fun j hj=>List.getElem?_set_ne (Ne.symm hj)) (fun j hj=>List.getElem?_set_ne (Ne.symm hj)) (au.refl F) R.sm
    (fun j a _ q=>(R.fpAt q).1) (fun j a o _ _ ha=>ha) (fun y q=>by cases (gi _ q).1)
    (fun zs q=>by
      obtain⟨z,hlt⟩:=gi _ q
      cases z
      exact⟨l,vs,List.getElem?_set_self (by rw [R.len];exact hlt),h1,h2,h3⟩)
    (fun xss q=>by cases (gi _ q).1) (fun a j hj q q2=>h4 ⟨j,by rw [onefp a q] at q2;exact q2⟩)
  refine⟨R',fun a ⟨j,q⟩=>?_⟩
  by_cases z:j=i
  · subst z;exact .inr (onefp a q)
  · exact .inl ⟨j,(fs j a z).mp q⟩
end
section
variable{X:Cx}{K:PySem.W.Frag}{o a:Expr}{es:List Expr}{fo:FE}{fs:FA}{name:Str}{apos cpos:Pos}{id:String}
def nZ(K:PySem.W.Frag)(r:V→List V→Hp→VK→Prop)(g:List PyData→List PyData→Option (PyData × List PyData)):Prop:=
  ∀(F H:Hp) (l:Addr) (xs ys ds:List PyData) (z:PyData) (vs us:List V) (Q:VK),F l=none→au F H→H l=some (.lst vs)→aH K F xs vs→aH K F ds us→g xs ds=some (z,ys)→
    (∀w ws,DA K F z w→aH K F ys ws→Q w (bP H l (.lst ws)))→r (.ref l) us H Q
def dW(g:List PyData→List PyData→Option (PyData × List PyData))(fo:FE)(fs:FA):FE:=fun e=>(fo e).bind fun p=>match p.1 with
  | .s i=>(fs p.2).bind fun q=>(f9 q.1).bind fun ds=>match q.2[i]? with
    | some (some (.l xs))=>(g xs ds).map fun z=>(.d z.1,q.2.set i (some (.l z.2)))
    | _=>none
  | _=>none
theorem sG{r:V→List V→Hp→VK→Prop}{g:List PyData→List PyData→Option (PyData × List PyData)}(hm:nZ K r g){σ:L2.St}{H:Hp}{Q:VK}(h:fE K (dW g fo fs) σ H Q):A0 K "list" r (fE K fo) (fA K fs) σ H Q:=by
  obtain⟨F,e,z,e',R,hf,q⟩:=h
  unfold dW at hf
  obtain⟨⟨x,e1⟩,h1,hf⟩:=Option.bind_eq_some_iff.mp hf
  match x,h1,hf with
  | .s i,h1,hf=>
  dsimp only at hf
  obtain⟨⟨rs,e2⟩,h2,hf⟩:=Option.bind_eq_some_iff.mp hf
  obtain⟨ds,h3,hf⟩:=Option.bind_eq_some_iff.mp hf
  refine⟨F,e,_,e1,R,h1,fun F1 H1 v X1 R1 A1=>?_⟩
  obtain⟨g1,zs,g2⟩:=A1
  obtain⟨l,vs,c1,c2,c3,c4⟩:=R1.own i zs g2
  rw [g1] at c1;cases c1
  refine⟨.inl ⟨rfl,vs,.inl (.inl c3)⟩,F1,e1,rs,e2,R1,h2,fun F2 H2 us X2 R2 A2=>?_⟩
  match h4:e2[i]?,hf with
  | some (some (.l xs)),hf=>
  dsimp only at hf
  obtain⟨⟨zd,ys⟩,h5,hf⟩:=Option.map_eq_some_iff.mp hf
  cases hf
  obtain⟨F3,R3,s3,d3,f3⟩:=cH.frozen R2 A2 h3
  obtain⟨l',vs',k1,k2,k3,k4⟩:=R3.own i xs h4
  rw [g1] at k1;cases k1
  refine hm F3 H2 l xs ys ds zd vs' us Q k2 R3.sm k3 k4 d3 h5 fun w ws hw hws=>?_
  obtain⟨R4,X4⟩:=R3.putL h4 g1 hws
  exact q _ _ _ ((X1.trans (X2.frz s3 f3)).trans X4) R4 hw
theorem vH{r:V→List V→Hp→VK→Prop}{g:List PyData→List PyData→Option (PyData × List PyData)}(slot:Slot "list" name id)(hty:typeOf (.builtin id)=pure (.type "method_descriptor"))(hm:AN X id r)(hf:nZ X.K r g)(ho:PE X o (fE X.K fo))(ha:PA X (a::es) (fA X.K fs))
    (hbase:attributeBase o name X.env (eval o X.env)=eval o X.env)
    (hfew:((backTo cpos (starEach (a::es) X.env)).all (fun x=> !x.1)&&(backToKw cpos (keywordEach [] X.env)).all (fun x=>x.1.isSome)
      &&decide ((a::es).length+([]:List Keyword).length+(if ([]:List Keyword).isEmpty then 0 else 1) < 30))=true)
    (hline:(apos.endLine==cpos.line)=true)(hs:starEach (a::es) X.env=(false,eval a X.env)::starEach es X.env)(hplain:(backTo cpos (starEach es X.env)).any (·.1)=false):
    PE X (.Call (.Attribute o name apos) (a::es) [] cpos) (fE X.K (dW g fo fs)):=(yW PySem.F.plainAttrs_list slot hty hm ho ha hbase hfew hline hs hplain).mono fun _ _ _ h=>sG hf h
def cC:List PyData→List PyData→Option (PyData × List PyData):=fun xs ds=>match ds with
  | [d]=>if xs.length < 1000000 then some (.none,xs++[d]) else none
  | _=>none
theorem p4:nZ K oB cC:=by
  intro F H l xs ys ds z vs us Q hF sm hl d1 d2 hg q
  unfold cC at hg
  match ds,hg,d2 with
  | [d],hg,d2=>
    simp only [aH] at d2
    obtain⟨w,r,rfl,hw,rfl⟩:=d2
    dsimp only at hg
    split at hg
    case isFalse=>cases hg
    case isTrue hlt=>
    cases hg
    have:=d1.len
    have sl:sizeLine=16777216:=sizeLine_eq
    exact⟨l,vs,w,rfl,rfl,hl,by lia,q _ _ (gT.mpr rfl) (d1.append (aH.one hw))⟩
def wB:List PyData→List PyData→Option (PyData × List PyData):=fun xs ds=>match ds with
  | []=>(xs[xs.length - 1]?).map fun d=>(d,xs.dropLast)
  | _=>none
def gu:List PyData→List PyData→Option (PyData × List PyData):=fun xs ds=>match ds with
  | [.int i]=>if 0≤i∧i < 1000000000 then(xs[i.toNat]?).map fun d=>(d,xs.eraseIdx i.toNat) else none
  | _=>none
theorem uw:nZ K rS gu:=by
  intro F H l xs ys ds z vs us Q hF sm hl d1 d2 hg q
  unfold gu at hg
  match ds,hg,d2 with
  | [.int i],hg,d2=>
    simp only [aH,DA] at d2
    obtain⟨w,r,rfl,rfl,rfl⟩:=d2
    dsimp only at hg
    split at hg
    case isFalse=>cases hg
    case isTrue hlt=>
    obtain⟨d,h1,h2⟩:=Option.map_eq_some_iff.mp hg
    cases h2
    obtain⟨v,g1,g2⟩:=d1.get h1
    have hlt2:i.toNat < vs.length:=(List.getElem?_eq_some_iff.mp g1).1
    exact⟨l,vs,i,i.toNat,v,rfl,rfl,hl,by lia,by lia,seqIndex_of hlt.1 (by lia),g1,q _ _ g2 (d1.erase _)⟩
end
end L2
namespace L2
open PySem PySem.Spec PyProof.Rows
inductive Fl where
  | nx (e:En)
  | bk (e:En)
  | ct (e:En)
  | rt (r:Rv) (e:En)
abbrev FS:=En→Option Fl
structure cv (W:List Nat) (σ:L2.St) (F H:Hp) (e:En) (σ':L2.St) (F' H':Hp) (e':En):Prop where
  sf:au F F'
  dom:∀a,H' a=none→H a=none
  fr:∀a vs,F a=none→H a=some (.lst vs)→¬bW σ e H a→F' a=none
  lst:∀a vs,H a=some (.lst vs)→∃vs',H' a=some (.lst vs')
  tmp:∀a o,H a=some o→¬bW σ e H a→H' a=some o
  own:∀a,bW σ' e' H' a→bW σ e H a∨H a=none
  wr:∀j,j∉W→σ'[j]?=σ[j]?
  fd:∀a m,F a=none→H a=some (.dK m)→¬bW σ e H a→F' a=none
section
variable{K:PySem.W.Frag}{W W1 W2:List Nat}{σ σ1 σ2 σ':L2.St}{H0 F H F1 H1 F2 H2 F' H':Hp}{e e1 e2 e':En}
theorem cv.refl:cv W σ F H e σ F H e:=⟨au.refl _,fun _ h=>h,fun _ _ h _ _=>h,fun _ vs h=>⟨vs,h⟩,fun _ _ h _=>h,fun _ h=>.inl h,fun _ _=>rfl,fun _ _ h _ _=>h⟩
theorem dc.s(x:dc σ F H e F' H' e'):cv W σ F H e σ F' H' e':=⟨x.sf,x.dom,x.fr,x.lst,x.tmp,x.ow,fun _ _=>rfl,x.fd⟩
theorem cv.trans(x:cv W σ F H e σ1 F1 H1 e1)(y:cv W σ1 F1 H1 e1 σ2 F2 H2 e2):cv W σ F H e σ2 F2 H2 e2:=
  ⟨x.sf.trans y.sf,fun a h=>x.dom a (y.dom a h),fun a vs h n no=>let ⟨vs',q⟩:=x.lst a vs n;y.fr a vs' (x.fr a vs h n no) q (fun z=>(x.own a z).elim no fun z=>by rw [n] at z;cases z),fun a vs h=>let ⟨vs',q⟩:=x.lst a vs h;y.lst a vs' q,
    fun a o h n=>y.tmp a o (x.tmp a o h n) (fun z=>(x.own a z).elim n fun z=>by rw [h] at z;cases z),
    fun a h=>(y.own a h).elim (x.own a) (fun z=>.inr (x.dom a z)),
    fun j h=>(y.wr j h).trans (x.wr j h),
    fun a m h n no=>y.fd a m (x.fd a m h n no) (x.tmp a _ n no) (fun z=>(x.own a z).elim no fun z=>by rw [n] at z;cases z)⟩
theorem cv.mono(x:cv W1 σ F H e σ' F' H' e')(h:∀j,j∈W1→j∈W):cv W σ F H e σ' F' H' e':=⟨x.sf,x.dom,x.fr,x.lst,x.tmp,x.own,fun j n=>x.wr j fun z=>n (h j z),x.fd⟩
end
def jv(K:PySem.W.Frag)(W:List Nat)(σ:L2.St)(F H:Hp)(e:En)(D:lb):Fl→Prop
  | .nx e'=>∀F' H' σ',cv W σ F H e σ' F' H' e'→aQ K F' H' σ' e'→D.nx σ' H'
  | .bk e'=>∀F' H' σ',cv W σ F H e σ' F' H' e'→aQ K F' H' σ' e'→D.bk σ' H'
  | .ct e'=>∀F' H' σ',cv W σ F H e σ' F' H' e'→aQ K F' H' σ' e'→D.ct σ' H'
  | .rt r e'=>∀F' H' σ' v,cv W σ F H e σ' F' H' e'→aQ K F' H' σ' e'→bR K σ' H F' H' e' r v→D.rt v H'
def fS(K:PySem.W.Frag)(f:FS)(W:List Nat):TS:=fun D σ H=>∃F e fl,aQ K F H σ e∧f e=some fl∧jv K W σ F H e D fl
theorem PS.mono{X:Cx}{st:Stmt}{t t':TS}(h:PS X st t)(m:∀D σ H,t' D σ H→t D σ H):PS X st t':=fun pins s σ H D I q=>h pins s σ H D I (m D σ H q)
theorem gL.mono{X:Cx}{st:List Stmt}{t t':TS}(h:gL X st t)(m:∀D σ H,t' D σ H→t D σ H):gL X st t':=fun pins s σ H D I q=>h pins s σ H D I (m D σ H q)
theorem jv.later{K:PySem.W.Frag}{W W1 W2:List Nat}{σ σ1:L2.St}{F H F1 H1:Hp}{e e1:En}{D:lb}{fl:Fl}(h:jv K W σ F H e D fl)(x:cv W1 σ F H e σ1 F1 H1 e1)(h1:∀j,j∈W1→j∈W)(h2:∀j,j∈W2→j∈W):jv K W2 σ1 F1 H1 e1 D fl:=by
  cases fl with
  | nx e'=>exact fun F' H' σ' y R=>h F' H' σ' ((x.mono h1).trans (y.mono h2)) R
  | bk e'=>exact fun F' H' σ' y R=>h F' H' σ' ((x.mono h1).trans (y.mono h2)) R
  | ct e'=>exact fun F' H' σ' y R=>h F' H' σ' ((x.mono h1).trans (y.mono h2)) R
  | rt r e'=>exact fun F' H' σ' v y R A=>h F' H' σ' v ((x.mono h1).trans (y.mono h2)) R (A.weak x.dom)
section
variable{X:Cx}{K:PySem.W.Frag}{W W1 W2:List Nat}{st:Stmt}{cO:List Stmt}{f g:FS}{a b:Expr}{fa:FE}{ft:FT}{pos:Pos}
def cP:FS:=fun e=>some (.nx e)
def aI(f g:FS):FS:=fun e=>(f e).bind fun fl=>match fl with
  | .nx e1=>g e1
  | fl=>some fl
theorem aT:gL X [] (fS K cP []):=ox.mono fun D σ H h=>by
  obtain⟨F,e,fl,R,hf,q⟩:=h
  cases hf
  exact q F H σ cv.refl R
theorem ag(h1:PS X st (fS K f W1))(h2:gL X cO (fS K g W2)):gL X (st::cO) (fS K (aI f g) (W1++W2)):=(eY h1 h2).mono fun D σ H h=>by
  obtain⟨F,e,fl,R,hf,q⟩:=h
  unfold aI at hf
  obtain⟨fl1,h1,hf⟩:=Option.bind_eq_some_iff.mp hf
  have s1:∀j,j∈W1→j∈W1++W2:=fun j h=>List.mem_append.mpr (.inl h)
  have s2:∀j,j∈W2→j∈W1++W2:=fun j h=>List.mem_append.mpr (.inr h)
  refine⟨F,e,fl1,R,h1,?_⟩
  cases fl1 with
  | nx e1=>exact fun F' H' σ' x R'=>⟨F',e1,fl,R',hf,q.later x s1 s2⟩
  | bk e1=>cases hf;exact fun F' H' σ' x R'=>q F' H' σ' (x.mono s1) R'
  | ct e1=>cases hf;exact fun F' H' σ' x R'=>q F' H' σ' (x.mono s1) R'
  | rt r e1=>cases hf;exact fun F' H' σ' v x R' A=>q F' H' σ' v (x.mono s1) R' A
theorem ai(h1:PS X st (fS K f W)):gL X [st] (fS K f W):=hV h1
def hZ(fa:FE):FS:=fun e=>(fa e).map fun p=>.nx p.2
theorem hX(he:PE X a (fE K fa))(hs:swapsWith a none pos.line X.env=pure false):PS X (.Expr a pos) (fS K (hZ fa) []):=(uy he hs).mono fun D σ H h=>by
  obtain⟨F,e,fl,R,hf,q⟩:=h
  obtain⟨⟨x,e1⟩,h1,hf⟩:=Option.map_eq_some_iff.mp hf
  cases hf
  exact⟨F,e,x,e1,R,h1,fun F1 H1 v X1 R1 A1=>q F1 H1 σ X1.s R1⟩
def a8(fa:FE):FS:=fun e=>(fa e).map fun p=>.rt p.1 p.2
theorem aw(he:PE X a (fE K fa)):PS X (.Return (some a) pos) (fS K (a8 fa) []):=(nO he).mono fun D σ H h=>by
  obtain⟨F,e,fl,R,hf,q⟩:=h
  obtain⟨⟨x,e1⟩,h1,hf⟩:=Option.map_eq_some_iff.mp hf
  cases hf
  exact⟨F,e,x,e1,R,h1,fun F1 H1 v X1 R1 A1=>q F1 H1 σ v X1.s R1 A1⟩
def gc(ft:FT)(f g:FS):FS:=fun e=>(ft e).bind fun p=>if p.1=true then f p.2 else g p.2
theorem bT{c:Expr}{bs cs:List Stmt}(hc:PT X c (fT K ft))(ha:gL X bs (fS K f W1))(hb:gL X cs (fS K g W2)):PS X (.If c bs cs pos) (fS K (gc ft f g) (W1++W2)):=(vF hc ha hb).mono fun D σ H h=>by
  obtain⟨F,e,fl,R,hf,q⟩:=h
  unfold gc at hf
  obtain⟨⟨x,e1⟩,h1,hf⟩:=Option.bind_eq_some_iff.mp hf
  refine⟨F,e,x,e1,R,h1,fun F1 H1 X1 R1=>?_⟩
  cases x with
  | true=>exact⟨F1,e1,fl,R1,hf,q.later (W1:=[]) X1.s (fun j h=>by cases h) fun j h=>List.mem_append.mpr (.inl h)⟩
  | false=>exact⟨F1,e1,fl,R1,hf,q.later (W1:=[]) X1.s (fun j h=>by cases h) fun j h=>List.mem_append.mpr (.inr h)⟩
def rJ(i:Nat)(r:Rv)(e:En):Option En:=match r with
  | .d x=>some (e.set i (some (.d x)))
  | .l xs=>some (e.set i (some (.l xs)))
  | .s _=>none
theorem xq{σ:L2.St}{H F H1 F1:Hp}{e e1 e2:En}{i:Nat}{r:Rv}{v:V}(R:aQ K F H σ e)(X1:dc σ F H e F1 H1 e1)(R1:aQ K F1 H1 σ e1)(A1:bR K σ H F1 H1 e1 r v)(h:rJ i r e1=some e2):
    cv [i] σ F H e (σ.set i (some v)) F1 H1 e2∧aQ K F1 H1 (σ.set i (some v)) e2:=by
  have wr:∀j,j∉[i]→(σ.set i (some v))[j]?=σ[j]?:=fun j n=>List.getElem?_set_ne (fun z=>n (by simp [z]))
  cases r with
  | d x=>
    cases h
    obtain⟨R2,o2⟩:=R1.setD i A1
    exact⟨⟨X1.sf,X1.dom,X1.fr,X1.lst,X1.tmp,fun a h=>X1.ow a (o2 a h),wr,X1.fd⟩,R2⟩
  | l xs=>
    cases h
    obtain⟨l,vs,rfl,h1,h2,h3,h4,h5⟩:=A1
    obtain⟨R2,o2⟩:=R1.setL i h2 h3 h4 h5
    refine⟨⟨X1.sf,X1.dom,X1.fr,X1.lst,X1.tmp,fun a h=>?_,wr,X1.fd⟩,R2⟩
    rcases o2 a h with z | z
    · exact X1.ow a z
    · exact .inr (by rw [z];exact h1)
  | s j=>cases h
def bA(i:Nat)(fa:FE):FS:=fun e=>(fa e).bind fun p=>(rJ i p.1 p.2).map .nx
theorem aL{i:Nat}{x:Str}{pos':Pos}(hN:X.N.Nodup)(hi:X.N[i]?=some x)(hx:x6 X.env.scope x)(he:PE X a (fE K fa))(hs:swapsWith a (some (.Name x pos')) pos.line X.env=pure false)(hf:X.fn x=true∨X.env.scope.names.lookup x=some .local):
    PS X (.Assign [.Name x pos'] a pos) (fS K (bA i fa) [i]):=(lX hN hi hx he hs hf).mono fun D σ H h=>by
  obtain⟨F,e,fl,R,hf,q⟩:=h
  unfold bA at hf
  obtain⟨⟨r,e1⟩,h1,hf⟩:=Option.bind_eq_some_iff.mp hf
  obtain⟨e2,h2,hf⟩:=Option.map_eq_some_iff.mp hf
  cases hf
  refine⟨F,e,r,e1,R,h1,fun F1 H1 v X1 R1 A1=>?_⟩
  obtain⟨x,R2⟩:=xq R X1 R1 A1 h2
  exact q F1 H1 _ x R2
abbrev FG:=PyData→En→Option En
def fG(K:PySem.W.Frag)(g:FG)(W:List Nat):TG:=fun v σ H Q=>∃F e x e',aQ K F H σ e∧DA K F x v∧g x e=some e'∧∀σ',cv W σ F H e σ' F H e'→aQ K F H σ' e'→Q σ' H
abbrev vc:=List PyData→En→Option En
def zM(K:PySem.W.Frag)(g:vc)(W:List Nat):sN:=fun vs σ H Q=>∃F e xs e',aQ K F H σ e∧aH K F xs vs∧g xs e=some e'∧∀σ',cv W σ F H e σ' F H e'→aQ K F H σ' e'→Q σ' H
theorem PG.mono{tg:Expr}{t t':TG}(h:PG X tg t)(m:∀v σ H Q,t' v σ H Q→t v σ H Q):PG X tg t':=fun pins s σ H v u Q I r q=>h pins s σ H v u Q I r (m v σ H Q q)
theorem pW.mono{tg:List Expr}{t t':sN}(h:pW X tg t)(m:∀v σ H Q,t' v σ H Q→t v σ H Q):pW X tg t':=fun pins s σ H v u Q I r q=>h pins s σ H v u Q I r (m v σ H Q q)
def aj(i:Nat):FG:=fun x e=>some (e.set i (some (.d x)))
def cZ:vc:=fun xs e=>match xs with
  | []=>some e
  | _=>none
def aC(g:FG)(gs:vc):vc:=fun xs e=>match xs with
  | x::r=>(g x e).bind fun e1=>gs r e1
  | _=>none
def dB(gs:vc):FG:=fun x e=>match x with
  | .tuple xs=>gs xs e
  | _=>none
theorem aq{i:Nat}{x:Str}(hN:X.N.Nodup)(hi:X.N[i]?=some x)(hx:x6 X.env.scope x)(hf:X.fn x=true∨X.env.scope.names.lookup x=some .local):PG X (.Name x pos) (fG K (aj i) [i]):=(ul hN hi hx hf).mono fun v σ H Q h=>by
  obtain⟨F,e,x,e',R,hx,hg,q⟩:=h
  cases hg
  obtain⟨R2,o2⟩:=R.setD i hx
  exact q _ ⟨au.refl _,fun _ h=>h,fun _ _ h _ _=>h,fun _ vs h=>⟨vs,h⟩,fun _ _ h _=>h,fun a h=>.inl (o2 a h),fun j n=>List.getElem?_set_ne (fun z=>n (by simp [z])),fun _ _ h _ _=>h⟩ R2
theorem cV:pW X [] (zM K cZ []):=uo.mono fun v σ H Q h=>by
  obtain⟨F,e,x,e',R,hx,hg,q⟩:=h
  unfold cZ at hg
  split at hg
  · cases hg
    simp only [aH] at hx
    exact⟨hx,q σ cv.refl R⟩
  · cases hg
theorem ar{es:List Expr}{g1:FG}{gs:vc}(h1:PG X a (fG K g1 W1))(h2:pW X es (zM K gs W2))
    (hs:(assignEach (a::es) X.env).map (·.2)=assign a X.env::(assignEach es X.env).map (·.2)):pW X (a::es) (zM K (aC g1 gs) (W1++W2)):=(rA h1 h2 hs).mono fun v σ H Q h=>by
  obtain⟨F,e,xs,e',R,hx,hg,q⟩:=h
  unfold aC at hg
  match xs,hg,hx with
  | x::r,hg,hx=>
    simp only [aH] at hx
    obtain⟨w,ws,e1,hw,hr⟩:=hx
    dsimp only at hg
    obtain⟨e1',h3,h4⟩:=Option.bind_eq_some_iff.mp hg
    refine⟨w,ws,e1,F,e,x,e1',R,hw,h3,fun σ1 x1 R1=>⟨F,e1',r,e',R1,hr,h4,fun σ2 x2 R2=>?_⟩⟩
    exact q σ2 ((x1.mono fun j h=>List.mem_append.mpr (.inl h)).trans (x2.mono fun j h=>List.mem_append.mpr (.inr h))) R2
theorem d_{es:List Expr}{k n:Nat}{gs:vc}(hK:X.K=K)(hc:X.calm=true)(h:pW X es (zM K gs W))(hl:∀xs e e',gs xs e=some e'→xs.length=n)(hn:(assignEach es X.env).length=n)(hst:(assignEach es X.env).findIdx? (·.1)=none):PG X (.Tuple es k pos) (fG K (dB gs) W):=(um hK hc h hn hst).mono fun v σ H Q h=>by
  obtain⟨F,e,x,e',R,hx,hg,q⟩:=h
  unfold dB at hg
  match x,hg,hx with
  | .tuple xs,hg,hx=>
    obtain⟨p,vs,e1,e2,e3⟩:=cJ.mp hx
    exact⟨p,vs,e1,R.sm.tup e2,by rw [←e3.len];exact hl xs e e' hg,F,e,xs,e',R,e3,hg,q⟩
theorem dY(xs:List PyData)(e e':En)(h:cZ xs e=some e'):xs.length=0:=by
  unfold cZ at h
  split at h
  · rfl
  · cases h
theorem aA{g:FG}{gs:vc}{n:Nat}(hl:∀xs e e',gs xs e=some e'→xs.length=n)(xs:List PyData)(e e':En)(h:aC g gs xs e=some e'):xs.length=n+1:=by
  unfold aC at h
  match xs,h with
  | x::r,h=>
    obtain⟨e1,h3,h4⟩:=Option.bind_eq_some_iff.mp h
    simp [hl r e1 e' h4]
def gE(fa:FE)(g:FG):FS:=fun e=>(fa e).bind fun p=>match p.1 with
  | .d x=>(g x p.2).map .nx
  | _=>none
theorem ec{tg:Expr}{g:FG}(he:PE X a (fE K fa))(hg:PG X tg (fG K g W))(hs:swapsWithSole [tg] a pos.line X.env=pure false)(hw:swappedStores [tg] a X.env=pure none)
    (h1:(assignEach [tg] X.env).map (·.2)=[assign tg X.env]):PS X (.Assign [tg] a pos) (fS K (gE fa g) W):=(xk he hg hs hw h1).mono fun D σ H h=>by
  obtain⟨F,e,fl,R,hf,q⟩:=h
  unfold gE at hf
  obtain⟨⟨r,e1⟩,h1,hf⟩:=Option.bind_eq_some_iff.mp hf
  match r,h1,hf with
  | .d x,h1,hf=>
    obtain⟨e2,h2,hf⟩:=Option.map_eq_some_iff.mp hf
    cases hf
    exact⟨F,e,_,e1,R,h1,fun F1 H1 v X1 R1 A1=>⟨F1,e1,x,e2,R1,A1,h2,fun σ' x2 R2=>q F1 H1 σ' (X1.s.trans x2) R2⟩⟩
def nR(i j:Nat)(fs:FA):FS:=fun e=>(fs e).bind fun p=>match p.1 with
  | [.d x,.d y]=>some (.nx ((p.2.set i (some (.d x))).set j (some (.d y))))
  | _=>none
theorem rP{i j:Nat}{x y:Str}{fs:FA}{px py pt:Pos}{kt k2 pt2}(hc:X.calm=true)(hN:X.N.Nodup)(hi:X.N[i]?=some x)(hj:X.N[j]?=some y)(hij:i≠j)
    (hx:X.env.scope.names.lookup x=some .local)(hy:X.env.scope.names.lookup y=some .local)(ha:PA X [a,b] (fA K fs))
    (hw:swappedStores [.Tuple [.Name x px,.Name y py] kt pt] (.Tuple [a,b] k2 pt2) X.env=pure (some [x,y]))
    (hs:swapsWithSole [.Tuple [.Name x px,.Name y py] kt pt] (.Tuple [a,b] k2 pt2) pos.line X.env=pure false):
    PS X (.Assign [.Tuple [.Name x px,.Name y py] kt pt] (.Tuple [a,b] k2 pt2) pos) (fS K (nR i j fs) [i,j]):=(xm hc hN hi hj hij hx hy ha hw hs).mono fun D σ H h=>by
  obtain⟨F,e,fl,R,hf,q⟩:=h
  unfold nR at hf
  obtain⟨⟨rs,e1⟩,h1,hf⟩:=Option.bind_eq_some_iff.mp hf
  refine⟨F,e,rs,e1,R,h1,fun F1 H1 vs X1 R1 A1=>?_⟩
  match rs,hf,A1 with
  | [.d x,.d y],hf,A1=>
    cases hf
    obtain⟨v,u,rfl,a1,a2⟩:=oD A1
    obtain⟨R2,o2⟩:=R1.setD i a1
    obtain⟨R3,o3⟩:=R2.setD j a2
    refine⟨v,u,rfl,q F1 H1 _ ⟨X1.sf,X1.dom,X1.fr,X1.lst,X1.tmp,fun a h=>X1.ow a (o2 a (o3 a h)),fun m n=>?_,X1.fd⟩ R3⟩
    rw [List.getElem?_set_ne (fun z=>n (by simp [z])),List.getElem?_set_ne (fun z=>n (by simp [z]))]
def oY:Rv→Option PyData
  | .d x=>some x
  | .l xs=>some (.list xs)
  | .s _=>none
theorem oZ{r:Rv}{d:PyData}(h:oY r=some d):f9 [r]=some [d]:=by
  cases r with
  | d x=>cases h;rfl
  | l xs=>cases h;rfl
  | s i=>cases h
def eH(ft:FT)(f:FS):Nat→FS
  | 0,_=>none
  | n+1,e=>(ft e).bind fun p=>if p.1=true then(f p.2).bind fun fl=>match fl with
      | .nx e1=>eH ft f n e1
      | .ct e1=>eH ft f n e1
      | .bk e1=>some (.nx e1)
      | .rt r e1=>some (.rt r e1)
    else some (.nx p.2)
def gG(n:Nat)(ft:FT)(f:FS):FS:=eH ft f n
theorem jX{n:Nat}{c:Expr}{body:List Stmt}(hp:PassesOwn (model X.prog X.w) X.A X.env X.xe)(hc:PT X c (fT K ft))(hb:gL X body (fS K f W)):PS X (.While c body [] pos) (fS K (gG n ft f) W):=(rH hp hc hb).mono fun D σ H h=>by
  refine⟨fun m σ H=>∃F e fl,aQ K F H σ e∧eH ft f m e=some fl∧jv K W σ F H e D fl,⟨n,h⟩,?_⟩
  rintro m σ H ⟨F,e,fl,R,hf,q⟩
  cases m with
  | zero=>cases hf
  | succ m=>
    unfold eH at hf
    obtain⟨⟨x,e1⟩,h1,hf⟩:=Option.bind_eq_some_iff.mp hf
    refine⟨F,e,x,e1,R,h1,fun F1 H1 X1 R1=>?_⟩
    have sub:∀j,j∈([]:List Nat)→j∈W:=fun j h=>by cases h
    cases x with
    | false=>
      rw [if_neg (by simp)] at hf
      cases hf
      exact yH (q F1 H1 σ X1.s R1)
    | true=>
      rw [if_pos rfl] at hf
      refine wl ?_
      obtain⟨fl1,h2,hf⟩:=Option.bind_eq_some_iff.mp hf
      have q1:jv K W σ F1 H1 e1 D fl:=q.later (W1:=[]) X1.s sub fun j h=>h
      refine⟨fun σ' H'=>∃F' e',aQ K F' H' σ' e'∧eH ft f m e'=some fl∧jv K W σ' F' H' e' D fl,fun σ' H' ⟨F',e',r1,r2,r3⟩=>⟨m,Nat.lt_succ_self m,F',e',fl,r1,r2,r3⟩,F1,e1,fl1,R1,h2,?_⟩
      cases fl1 with
      | nx e2=>exact fun F2 H2 σ2 x R2=>⟨F2,e2,R2,hf,q1.later x (fun j h=>h) fun j h=>h⟩
      | ct e2=>exact fun F2 H2 σ2 x R2=>⟨F2,e2,R2,hf,q1.later x (fun j h=>h) fun j h=>h⟩
      | bk e2=>cases hf;exact fun F2 H2 σ2 x R2=>q1 F2 H2 σ2 x R2
      | rt r e2=>cases hf;exact fun F2 H2 σ2 v x R2 A=>q1 F2 H2 σ2 v x R2 A
end
end L2
namespace L2
open PySem PySem.Spec PyProof.Rows
theorem PI.mono{X:Cx}{tg iter:Expr}{t t':TI}(h:PI X tg iter t)(m:∀σ H R,t' σ H R→t σ H R):PI X tg iter t':=fun pins s σ H R I q=>h pins s σ H R I (m σ H R q)
theorem PI.or{X:Cx}{tg iter:Expr}{t t':TI}(h:PI X tg iter t)(h':PI X tg iter t'):PI X tg iter (fun σ H R=>t σ H R∨t' σ H R):=fun pins s σ H R I q=>by
  rcases q with q | q
  · exact h pins s σ H R I q
  · exact h' pins s σ H R I q
abbrev gj:=List (Nat × List PyData)
def pY(K:PySem.W.Frag)(σ:L2.St)(F H:Hp)(own:gj):Prop:=∀p∈own,∃l vs,σ[p.1]?=some (some (.ref l))∧H l=some (.lst vs)∧aH K F p.2 vs
def sV(K:PySem.W.Frag)(σ:L2.St)(J:It)(items:List PyData)(own:gj)(F0:Hp):Prop:=∀F H,au F0 F→au F H→pY K σ F H own→
  (∀i,i < items.length→J.go i H)∧(∀i,items.length≤i→J.stop i H)∧∀i d x H',items[i]?=some d→J.yld i H x H'→∃F',au H H'∧au F F'∧au F' H'∧(∀a,F a=none→H a≠none→F' a=none)∧DA K F' d x
abbrev FI:=En→Option (List PyData × gj × En)
def keeps(own:gj)(e:En):Prop:=∀p∈own,e[p.1]?=some (some (.l p.2))
def fI(K:PySem.W.Frag)(f:FI):TI:=fun σ H R=>∃F e items own e',aQ K F H σ e∧f e=some (items,own,e')∧∀J F' H',dc σ F H e F' H' e'→aQ K F' H' σ e'→keeps own e'→sV K σ J items own F'→R J H'
section
variable{K:PySem.W.Frag}{σ:L2.St}{H0 F H F' H':Hp}{e e':En}
theorem aQ.held(R:aQ K F H σ e){own:gj}(h:keeps own e):pY K σ F H own:=fun p hp=>by
  obtain⟨l,vs,h1,h2,h3,h4⟩:=R.own p.1 p.2 (h p hp)
  exact⟨l,vs,h1,h3,h4⟩
theorem aQ.step(R:aQ K F H σ e)(s:au H H')(sF:au F F')(sm:au F' H')(fz:∀a,F a=none→H a≠none→F' a=none):aQ K F' H' σ e∧dc σ F H e F' H' e:=by
  obtain⟨R',o'⟩:=R.keep sF sm (fun a ⟨i,h⟩=>by
    obtain⟨h1,vs,h2⟩:=R.fpAt h
    exact fz a h1 (by rw [h2];simp)) fun a o _ h=>s a o h
  exact⟨R',⟨sF,fun a h=>s.free h,fun a vs h1 h2 _=>fz a h1 (by rw [h2];simp),fun a vs h=>⟨vs,s _ _ h⟩,fun a o h _=>s a o h,fun _=>Iff.rfl,fun a h=>.inl ((o' a).mp h),fun a m h1 h2 _=>fz a h1 (by rw [h2];simp)⟩⟩
inductive ve (K:PySem.W.Frag) (σ:L2.St) (F:Hp) (p:Addr):Bool→List PyData→gj→Prop
  | tup {xs vs}:dm K F p vs→aH K F xs vs→ve K σ F p false xs []
  | lst {xs vs}:eM K F p vs→aH K F xs vs→ve K σ F p true xs []
  | own {i xs}:σ[i]?=some (some (.ref p))→ve K σ F p true xs [(i,xs)]
theorem ve.at{p:Addr}{b:Bool}{xs:List PyData}{own:gj}{F0:Hp}(h:ve K σ F0 p b xs own)(s0:au F0 F)(s1:au F H){own':gj}(hh:pY K σ F H own')(hs:∀q∈own,q∈own'):∃vs,aH K F xs vs∧(if b=true then eM K H p vs else dm K H p vs):=by
  cases h with
  | tup h1 h2=>exact⟨_,h2.mono s0,(s0.trans s1).tup h1⟩
  | lst h1 h2=>exact⟨_,h2.mono s0,(s0.trans s1).seq h1⟩
  | @own i xs h1=>
    obtain⟨l,vs,g1,g2,g3⟩:=hh (i,xs) (hs (i,xs) (by simp))
    dsimp only at g1 g3
    rw [h1] at g1;cases g1
    exact⟨vs,g3,.inl (.inl g2)⟩
def xJ(e:En):Rv→Option (Bool × List PyData × gj)
  | .d (.tuple xs)=>some (false,xs,[])
  | .d (.list xs)=>some (true,xs,[])
  | .l xs=>some (true,xs,[])
  | .s i=>match e[i]? with
    | some (some (.l xs))=>some (true,xs,[(i,xs)])
    | _=>none
  | _=>none
theorem oJ{r:Rv}{v:V}{b:Bool}{xs:List PyData}{own:gj}(R:aQ K F H σ e)(A:bR K σ H0 F H e r v)(h:xJ e r=some (b,xs,own)):
    ∃F' p,aQ K F' H σ e∧au F F'∧(∀a,F a=none→H0 a≠none→F' a=none)∧v=.ref p∧ve K σ F' p b xs own∧keeps own e:=by
  cases r with
  | d x=>
    cases x with
    | tuple ds=>
      cases h
      obtain⟨a,ys,e1,e2,e3⟩:=cJ.mp A
      exact⟨F,a,R,au.refl _,fun _ h _=>h,e1,.tup e2 e3,fun p hp=>by cases hp⟩
    | list ds=>
      cases h
      obtain⟨a,ys,e1,e2,e3⟩:=cx.mp A
      exact⟨F,a,R,au.refl _,fun _ h _=>h,e1,.lst e2 e3,fun p hp=>by cases hp⟩
    | _=>cases h
  | l ys=>
    cases h
    obtain⟨F',R',s',d',f'⟩:=A.frozen R
    obtain⟨a,ys,e1,e2,e3⟩:=cx.mp d'
    exact⟨F',a,R',s',f',e1,.lst e2 e3,fun p hp=>by cases hp⟩
  | s i=>
    obtain⟨h1,ys,h2⟩:=A
    simp only [xJ,h2] at h
    cases h
    obtain⟨l,vs,e1,e2,e3,e4⟩:=R.own i _ h2
    rw [h1] at e1;cases e1
    exact⟨F,l,R,au.refl _,fun _ h _=>h,rfl,.own h1,fun p hp=>by simp only [List.mem_singleton] at hp;subst hp;exact h2⟩
theorem pq{p:Addr}{xs:List PyData}{own:gj}{F0:Hp}(h:ve K σ F0 p true xs own):sV K σ (zW K p) xs own F0:=by
  intro F H s0 s1 hh
  obtain⟨vs,d,q⟩:=h.at s0 s1 hh fun _ h=>h
  have q:eM K H p vs:=q
  refine⟨fun i hi=>⟨vs,vs[i]'(by rw [←d.len];exact hi),q,List.getElem?_eq_getElem _⟩,fun i hi=>⟨vs,q,by rw [←d.len];exact hi⟩,fun i x v H' hx hy=>?_⟩
  obtain⟨rfl,hy⟩:=hy
  obtain⟨w,g1,g2⟩:=d.get hx
  have e:=hy vs q
  rw [g1] at e;cases e
  exact⟨F,au.refl _,au.refl _,s1,fun _ h _=>h,g2⟩
theorem qN{p:Addr}{xs:List PyData}{own:gj}{F0:Hp}(h:ve K σ F0 p false xs own):sV K σ (zX K p) xs own F0:=by
  intro F H s0 s1 hh
  obtain⟨vs,d,q⟩:=h.at s0 s1 hh fun _ h=>h
  have q:dm K H p vs:=q
  refine⟨fun i hi=>⟨vs,vs[i]'(by rw [←d.len];exact hi),q,List.getElem?_eq_getElem _⟩,fun i hi=>⟨vs,q,by rw [←d.len];exact hi⟩,fun i x v H' hx hy=>?_⟩
  obtain⟨rfl,hy⟩:=hy
  obtain⟨w,g1,g2⟩:=d.get hx
  have e:=hy vs q
  rw [g1] at e;cases e
  exact⟨F,au.refl _,au.refl _,s1,fun _ h _=>h,g2⟩
def bv(lo:Int)(n:Nat):List PyData:=(List.range n).map fun(i:Nat)=>.int (lo+(i:Int))
theorem nE{lo:Int}{n:Nat}{F0:Hp}:sV K σ (zF lo n) (bv lo n) [] F0:=by
  intro F H s0 s1 hh
  unfold bv
  rw [List.length_map,List.length_range]
  refine⟨fun i hi=>hi,fun i hi=>hi,fun i x v H' hx hy=>?_⟩
  obtain⟨rfl,rfl⟩:=hy
  rw [List.getElem?_map] at hx
  obtain⟨k,h1,rfl⟩:=Option.map_eq_some_iff.mp hx
  have h2:=(List.getElem?_eq_some_iff.mp h1).2
  simp at h2
  subst h2
  exact⟨F,au.refl _,au.refl _,s1,fun _ h _=>h,bg.mpr rfl⟩
end
inductive zU (K:PySem.W.Frag) (own:gj) (σ0:L2.St) (F1:Hp) (P:En→Prop) (G:L2.St→Hp→Hp→En→Prop) (σ:L2.St) (H:Hp):Prop
  | mk {F:Hp} {e:En} (R:aQ K F H σ e) (kp:keeps own e) (hσ:∀p∈own,σ[p.1]?=σ0[p.1]?) (sF:au F1 F) (hf:P e) (q:G σ F H e):zU K own σ0 F1 P G σ H
section
variable{X:Cx}{K:PySem.W.Frag}{tg a b:Expr}{es:List Expr}{fa:FE}{fs:FA}{pos p tp:Pos}{k0:Nat}
def lL(fa:FE):FI:=fun e=>(fa e).bind fun p=>(xJ p.2 p.1).map fun s=>(s.2.1,s.2.2,p.2)
theorem nP(hK:X.K=K)(h:PE X a (fE K fa)):PI X tg a (fI K (lL fa)):=((rB (tg:=tg) hK h).or (ur (tg:=tg) hK h)).mono fun σ H R hh=>by
  obtain⟨F,e,items,own,e',R0,hf,q⟩:=hh
  unfold lL at hf
  obtain⟨⟨r,e1⟩,h1,hf⟩:=Option.bind_eq_some_iff.mp hf
  obtain⟨⟨b,xs,ow⟩,h2,hf⟩:=Option.map_eq_some_iff.mp hf
  cases hf
  cases b with
  | true=>
    refine .inl ⟨F,e,r,e1,R0,h1,fun F1 H1 v X1 R1 A1=>?_⟩
    obtain⟨F2,p,R2,s2,f2,rfl,sc,kp⟩:=oJ R1 A1 h2
    obtain⟨vs,_,c⟩:=sc.at (au.refl _) R2.sm (R2.held kp) fun _ h=>h
    exact⟨p,rfl,⟨vs,c⟩,q _ F2 H1 (X1.frz s2 f2) R2 kp (pq sc)⟩
  | false=>
    refine .inr ⟨F,e,r,e1,R0,h1,fun F1 H1 v X1 R1 A1=>?_⟩
    obtain⟨F2,p,R2,s2,f2,rfl,sc,kp⟩:=oJ R1 A1 h2
    obtain⟨vs,_,c⟩:=sc.at (au.refl _) R2.sm (R2.held kp) fun _ h=>h
    exact⟨p,rfl,⟨vs,c⟩,q _ F2 H1 (X1.frz s2 f2) R2 kp (qN sc)⟩
def rZ(j:Int):Bool:=decide (-1000000≤j)&&decide (j≤1000000)
theorem r8{j:Int}(h:rZ j=true): -1000000≤j∧j≤1000000:=by
  unfold rZ at h
  rw [Bool.and_eq_true,decide_eq_true_iff,decide_eq_true_iff] at h
  exact h
def cU(fs:FA):FI:=fun e=>(fs e).bind fun p=>match p.1 with
  | [r]=>(cB r).bind fun j=>if rZ j=true then some (bv 0 j.toNat,[],p.2) else none
  | _=>none
theorem dt(hg:Gl X "range")(hm:X.mg "range"=none)(ha:PA X [a] (fA K fs))(hs:starEach [a] X.env=[(false,eval a X.env)]):PI X tg (.Call (.Name "range" p) [a] [] pos) (fI K (cU fs)):=(pG hg hm ha hs).mono fun σ H R hh=>by
  obtain⟨F,e,items,own,e',R0,hf,q⟩:=hh
  unfold cU at hf
  obtain⟨⟨rs,e1⟩,h1,hf⟩:=Option.bind_eq_some_iff.mp hf
  match rs,h1,hf with
  | [r],h1,hf=>
  obtain⟨j,h2,hf⟩:=Option.bind_eq_some_iff.mp hf
  split at hf
  case isFalse=>cases hf
  case isTrue hj=>
  cases hf
  refine⟨F,e,_,e1,R0,h1,fun F1 H1 vs X1 R1 A1=>?_⟩
  obtain⟨v,rfl,A2⟩:=lZ A1
  have:=r8 hj
  exact⟨j,by rw [bY A2 h2],by lia,by lia,q _ F1 H1 X1 R1 (fun _ h=>by cases h) nE⟩
open Classical in
noncomputable def lz(own:gj)(g:FG)(f:FS):List PyData→FS
  | [],e=>some (.nx e)
  | x::r,e=>(g x e).bind fun e1=>(f e1).bind fun fl=>match fl with
    | .nx e2=>if keeps own e2 then lz own g f r e2 else none
    | .ct e2=>if keeps own e2 then lz own g f r e2 else none
    | .bk e2=>some (.nx e2)
    | .rt v e2=>some (.rt v e2)
noncomputable def fY(W:List Nat)(fi:FI)(g:FG)(f:FS):FS:=fun e=>(fi e).bind fun p=>if (p.2.1.all fun q=> !W.contains q.1)=true then lz p.2.1 g f p.1 p.2.2 else none
theorem gC{W1 W2:List Nat}{iter:Expr}{body:List Stmt}{fi:FI}{g:FG}{f:FS}(hp:PassesOwn (model X.prog X.w) X.A X.env X.xe)(hc:X.calm=true)(hi:PI X tg iter (fI K fi))(hg:PG X tg (fG K g W1))(hb:gL X body (fS K f W2))(hs:∀x,foldedSetIterable iter X.env x=pure x):
    PS X (.For tg iter body [] pos) (fS K (fY (W1++W2) fi g f) (W1++W2)):=(xl hp hc hi hg hb hs).mono fun D σ0 H0 hh=>by
  obtain⟨F0,e0,fl,R0,hf,q0⟩:=hh
  unfold fY at hf
  obtain⟨⟨items,own,e1⟩,h1,hf⟩:=Option.bind_eq_some_iff.mp hf
  dsimp only at hf
  split at hf
  case isFalse=>cases hf
  case isTrue hW=>
  have hW':∀p∈own,p.1∉W1++W2:=fun p hp=>by
    have:=List.all_eq_true.mp hW p hp
    simpa using this
  refine⟨F0,e0,items,own,e1,R0,h1,fun J F1 H1 X1 R1 kp ok=>?_⟩
  have s1:∀j,j∈W1→j∈W1++W2:=fun j h=>List.mem_append.mpr (.inl h)
  have s2:∀j,j∈W2→j∈W1++W2:=fun j h=>List.mem_append.mpr (.inr h)
  have q1:jv K (W1++W2) σ0 F1 H1 e1 D fl:=q0.later (W1:=[]) X1.s (fun j h=>by cases h) fun j h=>h
  refine⟨fun i m σ H=>m=items.length - i∧i≤items.length∧zU K own σ0 F1 (fun e=>lz own g f (items.drop i) e=some fl) (fun σ F H e=>jv K (W1++W2) σ F H e D fl) σ H,
    ⟨items.length,by simp,Nat.zero_le _,.mk R1 kp (fun _ _=>rfl) (au.refl _) hf q1⟩,?_⟩
  rintro i m σ H ⟨rfl,hi,⟨R,kp,hσ,sF,hf,q⟩⟩
  rename_i F e
  have held:pY K σ0 F H own:=fun p hp=>by
    obtain⟨l,vs,g1,g2⟩:=R.held kp p hp
    exact⟨l,vs,by rw [←hσ p hp];exact g1,g2⟩
  obtain⟨go,stop,yld⟩:=ok F H sF R.sm held
  by_cases hlt:i < items.length
  · have hd:items.drop i=items[i]::items.drop (i+1):=List.drop_eq_getElem_cons hlt
    rw [hd] at hf
    unfold lz at hf
    obtain⟨e2,h2,hf⟩:=Option.bind_eq_some_iff.mp hf
    obtain⟨fl2,h3,hf⟩:=Option.bind_eq_some_iff.mp hf
    refine .inr ⟨go i hlt,zU K own σ0 F1 (fun e=>lz own g f (items.drop (i+1)) e=some fl) (fun σ F H e=>jv K (W1++W2) σ F H e D fl),
      fun σ' H' r=>⟨items.length - (i+1),by lia,rfl,hlt,r⟩,fun x H' hy=>?_⟩
    obtain⟨F',sH,sF',sm',fz,hx⟩:=yld i items[i] x H' (List.getElem?_eq_getElem hlt) hy
    obtain⟨R',X'⟩:=R.step sH sF' sm' fz
    refine⟨F',e,items[i],e2,R',hx,h2,fun σ2 x2 R2=>⟨F',e2,fl2,R2,h3,?_⟩⟩
    have q2:jv K (W1++W2) σ2 F' H' e2 D fl:=(q.later (W1:=[]) (W2:=W1++W2) X'.s (fun j h=>by cases h) fun j h=>h).later x2 s1 fun j h=>h
    have w2:∀p∈own,σ2[p.1]?=σ0[p.1]?:=fun p hp=>(x2.wr p.1 fun z=>hW' p hp (s1 _ z)).trans (hσ p hp)
    cases fl2 with
    | nx e3=>
      intro F3 H3 σ3 x3 R3
      dsimp only at hf
      split at hf
      case isFalse=>cases hf
      case isTrue kp3=>
      exact .mk R3 kp3 (fun p hp=>(x3.wr p.1 fun z=>hW' p hp (s2 _ z)).trans (w2 p hp)) (sF.trans (sF'.trans x3.sf)) hf (q2.later x3 s2 fun j h=>h)
    | ct e3=>
      intro F3 H3 σ3 x3 R3
      dsimp only at hf
      split at hf
      case isFalse=>cases hf
      case isTrue kp3=>
      exact .mk R3 kp3 (fun p hp=>(x3.wr p.1 fun z=>hW' p hp (s2 _ z)).trans (w2 p hp)) (sF.trans (sF'.trans x3.sf)) hf (q2.later x3 s2 fun j h=>h)
    | bk e3=>
      cases hf
      exact fun F3 H3 σ3 x3 R3=>q2 F3 H3 σ3 (x3.mono s2) R3
    | rt r e3=>
      cases hf
      exact fun F3 H3 σ3 v x3 R3 A3=>q2 F3 H3 σ3 v (x3.mono s2) R3 A3
  · have hd:items.drop i=[]:=List.drop_eq_nil_of_le (by lia)
    rw [hd] at hf
    cases hf
    exact .inl ⟨stop i (by lia),q F H σ cv.refl R⟩
end
end L2
namespace L2
open PySem PySem.Spec PyProof.Rows
def sP:Option (Option Sv)→Bool
  | some (some (.l _))=>true
  | _=>false
theorem tM{s:Option (Option Sv)}:sP s=true↔ ∃xs,s=some (some (.l xs)):=by
  unfold sP
  split
  · simp
  · rename_i h
    constructor
    · intro z;cases z
    · rintro⟨xs,rfl⟩;exact absurd rfl (h xs)
def kd(pos:Nat→Option Nat)(ei e:En):En:=e.mapIdx fun i s=>match s with
  | some (.l xs)=>match pos i with
    | some k=>(ei[k]?).join
    | none=>some (.l xs)
  | s=>s
theorem bJ{pos:Nat→Option Nat}{ei e:En}{i:Nat}:(kd pos ei e)[i]?=(e[i]?).map fun s=>match s with
  | some (.l xs)=>match pos i with
    | some k=>(ei[k]?).join
    | none=>some (.l xs)
  | s=>s:=by unfold kd;rw [List.getElem?_mapIdx]
structure l9 (σ:L2.St) (e:En) (σi:L2.St) (ei:En) (pos:Nat→Option Nat):Prop where
  a:∀(i k:Nat) (xs:List PyData),e[i]?=some (some (.l xs))→pos i=some k→σi[k]?=σ[i]?
  b:∀(k:Nat) (ys:List PyData),ei[k]?=some (some (.l ys))→∃(i:Nat) (xs:List PyData),e[i]?=some (some (.l xs))∧pos i=some k∧σi[k]?=σ[i]?
section
variable{K:PySem.W.Frag}{σ σi σi':L2.St}{F H F' H':Hp}{e ei ei':En}{pos:Nat→Option Nat}
def yc(e:En):Prop:=∀(i:Nat) (xss:List (List PyData)),e[i]?≠some (some (.n xss))
theorem l9.own(s:l9 σ e σi ei pos)(hn:yc ei){a:Addr}{H H':Hp}(h:bW σi ei H a):∃(i k:Nat) (xs:List PyData),e[i]?=some (some (.l xs))∧pos i=some k∧σ[i]?=some (some (.ref a)):=by
  obtain⟨k,⟨ys,h1,h2⟩ | ⟨xss,_,_,h1,_⟩⟩:=h
  · obtain⟨i,xs,g1,g2,g3⟩:=s.b k ys h1
    exact⟨i,k,xs,g1,g2,by rw [←g3];exact h2⟩
  · exact absurd h1 (hn k xss)
theorem mM(R:aQ K F H σ e)(s:l9 σ e σi ei pos)(hnn:yc ei)(sf:au F F')(dom:∀a,H' a=none→H a=none)(fr:∀a vs,F a=none→H a=some (.lst vs)→¬bW σi ei H a→F' a=none)(lst:∀a vs,H a=some (.lst vs)→∃vs',H' a=some (.lst vs'))
    (tmp:∀a o,H a=some o→¬bW σi ei H a→H' a=some o)(fd:∀a m,F a=none→H a=some (.dK m)→¬bW σi ei H a→F' a=none)(R':aQ K F' H' σi' ei')(hσ:∀(i k:Nat) (xs:List PyData),e[i]?=some (some (.l xs))→pos i=some k→σi'[k]?=σi[k]?)(hsh:∀(i k:Nat) (xs:List PyData),e[i]?=some (some (.l xs))→pos i=some k→∃ys,ei'[k]?=some (some (.l ys))):
    aQ K F' H' σ (kd pos ei' e)∧dc σ F H e F' H' (kd pos ei' e)∧∀a,bW σ (kd pos ei' e) H' a→bW σ e H a:=by
  have shp:∀i:Nat,(∃xs,(kd pos ei' e)[i]?=some (some (.l xs)))↔ (∃xs,e[i]?=some (some (.l xs))):=by
    intro i
    rw [bJ]
    match h:e[i]? with
    | none=>simp
    | some none=>simp
    | some (some (.d x))=>simp
    | some (some (.n x))=>simp
    | some (some (.l xs))=>
      simp only [Option.map_some]
      constructor
      · intro _;exact⟨xs,rfl⟩
      · intro _
        match hp:pos i with
        | none=>exact⟨xs,rfl⟩
        | some k=>
          obtain⟨ys,g⟩:=hsh i k xs h hp
          exact⟨ys,by show some ((ei'[k]?).join)=_;rw [g];rfl⟩
  have oth:∀(i:Nat) (s:Sv),(∀xs,s≠.l xs)→((kd pos ei' e)[i]?=some (some s)↔ e[i]?=some (some s)):=by
    intro i s hs
    constructor
    · intro h
      rw [bJ] at h
      match h1:e[i]?,h with
      | some (some (.d y)),h=>exact h
      | some (some (.n y)),h=>exact h
      | some (some (.l ys)),h=>
        simp only [Option.map_some,Option.some.injEq] at h
        match hp:pos i,h with
        | none,h=>cases h;exact absurd rfl (hs _)
        | some k,h=>
          obtain⟨zs,g⟩:=hsh i k ys h1 hp
          change (ei'[k]?).join=_ at h
          rw [g] at h;cases h;exact absurd rfl (hs _)
      | some none,h=>simp at h
      | none,h=>simp at h
    · intro h
      rw [bJ,h]
      cases s with
      | d y=>rfl
      | n y=>rfl
      | l y=>exact absurd rfl (hs y)
  have out:∀i a,Fp σ e H i a→(∀k xs,e[i]?=some (some (.l xs))→pos i≠some k)→¬bW σi ei H a:=by
    intro i a hi hp z
    obtain⟨j,k,ws,d1,d2,d3⟩:=s.own hnn (H':=H') z
    have:i=j:=R.fp i j a hi (.inl ⟨ws,d1,d3⟩)
    subst this
    exact hp k ws d1 d2
  have keep:∀i a o,Fp σ e H i a→(∀k xs,e[i]?=some (some (.l xs))→pos i≠some k)→H a=some o→H' a=some o:=fun i a o hi hp ha=>tmp a o ha (out i a hi hp)
  have sown:∀a,bW σi ei H a→bW σ e H a:=fun a z=>by
    obtain⟨j,k,ws,d1,d2,d3⟩:=s.own hnn (H':=H') z
    exact⟨j,.inl ⟨ws,d1,d3⟩⟩
  have fs:∀i a,Fp σ (kd pos ei' e) H' i a↔ Fp σ e H i a:=by
    intro i a
    have key:∀xss l,e[i]?=some (some (.n xss))→σ[i]?=some (some (.ref l))→H' l=H l:=fun xss l h1 h2=>by
      obtain⟨l',bs,g1,g2,g3,_⟩:=R.nst i xss h1
      rw [h2] at g1;cases g1
      rw [g3]
      exact keep i l _ (.inr ⟨xss,l,bs,h1,h2,g3,.inl rfl⟩) (fun k xs z=>by rw [h1] at z;cases z) g3
    constructor
    · rintro(⟨xs,h1,h2⟩ | ⟨xss,l,bs,h1,h2,h3,h4⟩)
      · obtain⟨ys,h⟩:=(shp i).mp ⟨xs,h1⟩
        exact .inl ⟨ys,h,h2⟩
      · have h1':=(oth i (.n xss) (fun _ z=>nomatch z)).mp h1
        exact .inr ⟨xss,l,bs,h1',h2,by rw [←key xss l h1' h2];exact h3,h4⟩
    · rintro(⟨xs,h1,h2⟩ | ⟨xss,l,bs,h1,h2,h3,h4⟩)
      · obtain⟨ys,h⟩:=(shp i).mpr ⟨xs,h1⟩
        exact .inl ⟨ys,h,h2⟩
      · exact .inr ⟨xss,l,bs,(oth i (.n xss) (fun _ z=>nomatch z)).mpr h1,h2,by rw [key xss l h1 h2];exact h3,h4⟩
  refine⟨⟨R'.sm,?_,fun i x h=>?_,fun i xs h=>?_,fun i xss h=>?_,fun i j a h1 h2=>R.fp i j a ((fs i a).mp h1) ((fs j a).mp h2)⟩,⟨sf,dom,fun a vs h1 h2 n=>fr a vs h1 h2 fun z=>n (sown a z),lst,fun a o h n=>tmp a o h fun z=>n (sown a z),shp,fun a ⟨i,h⟩=>.inl ⟨i,(fs i a).mp h⟩,fun a m h1 h2 n=>fd a m h1 h2 fun z=>n (sown a z)⟩,fun a ⟨i,h⟩=>⟨i,(fs i a).mp h⟩⟩
  · unfold kd;rw [List.length_mapIdx];exact R.len
  · obtain⟨v,g1,g2⟩:=R.dat i x ((oth i (.d x) (fun _ z=>nomatch z)).mp h)
    exact⟨v,g1,DA.mono sf g2⟩
  · obtain⟨ys,h1⟩:=(shp i).mp ⟨xs,h⟩
    obtain⟨l,vs,g1,g2,g3,g4⟩:=R.own i ys h1
    rw [bJ,h1] at h
    simp only [Option.map_some,Option.some.injEq] at h
    match hp:pos i,h with
    | none,h=>
      cases h
      have np:∀k xs,e[i]?=some (some (Sv.l xs))→pos i≠some k:=fun k xs _ z=>by rw [hp] at z;cases z
      have fi:Fp σ e H i l:=.inl ⟨_,h1,g1⟩
      exact⟨l,vs,g1,fr l vs g2 g3 (out i l fi np),keep i l _ fi np g3,g4.mono sf⟩
    | some k,h=>
      obtain⟨zs,c1⟩:=hsh i k ys h1 hp
      change (ei'[k]?).join=_ at h
      rw [c1] at h;cases h
      obtain⟨l',vs',d1,d2,d3,d4⟩:=R'.own k _ c1
      rw [hσ i k ys h1 hp,s.a i k ys h1 hp] at d1
      exact⟨l',vs',d1,d2,d3,d4⟩
  · have h1:=(oth i (.n xss) (fun _ z=>nomatch z)).mp h
    obtain⟨l,bs,g1,g2,g3,g4,g5,g6,g7⟩:=R.nst i xss h1
    have np:∀k xs,e[i]?=some (some (Sv.l xs))→pos i≠some k:=fun k xs z=>by rw [h1] at z;cases z
    have fi:Fp σ e H i l:=.inr ⟨xss,l,bs,h1,g1,g3,.inl rfl⟩
    refine⟨l,bs,g1,fr l _ g2 g3 (out i l fi np),keep i l _ fi np g3,g4,g5,g6,fun k b ys q1 q2=>?_⟩
    obtain⟨c1,us,c2,c3⟩:=g7 k b ys q1 q2
    have fb:Fp σ e H i b:=.inr ⟨xss,l,bs,h1,g1,g3,.inr (List.mem_of_getElem? q1)⟩
    exact⟨fr b _ c1 c2 (out i b fb np),us,keep i b _ fb np c2,c3.mono sf⟩
end
def cg(e:En):List Rv→Option (List Sv)
  | []=>some []
  | .d x::r=>(cg e r).map (.d x::·)
  | .l xs::r=>(cg e r).map (.d (.list xs)::·)
  | .s i::r=>match e[i]? with
    | some (some (.l xs))=>(cg e r).map (.l xs::·)
    | _=>none
def aG:List Rv→List Nat
  | []=>[]
  | .s i::r=>i::aG r
  | .d _::r=>aG r
  | .l _::r=>aG r
def gB(rs:List Rv)(i:Nat):Option Nat:=rs.findIdx? fun r=>match r with
  | .s j=>j==i
  | _=>false
def noS:Rv→Prop
  | .s _=>False
  | _=>True
abbrev FM:=List Sv→Option (Rv × List Sv)
def bI(K:PySem.W.Frag)(n:Nat)(m:FM):Sp:=fun vs H Q _=>vs.length=n∧∃F as r as',aQ K F H (vs.map some) (as.map some)∧yc (as.map some)∧m as=some (r,as')∧noS r∧
  ∀F' H' v,dc (vs.map some) F H (as.map some) F' H' (as'.map some)→aQ K F' H' (vs.map some) (as'.map some)→bR K (vs.map some) H F' H' (as'.map some) r v→Q v H'
def aY:List Rv→List Sv→Bool
  | [],[]=>true
  | .s _::r,.l _::s=>aY r s
  | .d _::r,_::s=>aY r s
  | .l _::r,_::s=>aY r s
  | _,_=>false
def tU:Rv→Bool
  | .s _=>false
  | _=>true
def dy:List Rv→List Sv→En→En
  | .s i::r,.l ys::s,e=>dy r s (e.set i (some (.l ys)))
  | .d _::r,_::s,e=>dy r s e
  | .l _::r,_::s,e=>dy r s e
  | _,_,e=>e
def ck(n:Nat)(m:FM)(fs:FA):FE:=fun e=>(fs e).bind fun p=>(cg p.2 p.1).bind fun as=>(m as).bind fun z=>if p.1.length=n∧(aG p.1).Nodup∧aY p.1 z.2=true∧tU z.1=true then some (z.1,dy p.1 z.2 p.2) else none
theorem eA:∀{rs:List Rv} {as:List Sv},aY rs as=true→∀(k i:Nat),rs[k]?=some (.s i)→∃ys,as[k]?=some (.l ys)
  | [],[],_,k,i,h=>by simp at h
  | .s j::r,.l ys::s,h,k,i,hk=>by
    cases k with
    | zero=>exact⟨ys,rfl⟩
    | succ k=>simpa using eA (rs:=r) (as:=s) (by simpa [aY] using h) k i (by simpa using hk)
  | .d x::r,y::s,h,k,i,hk=>by
    cases k with
    | zero=>simp at hk
    | succ k=>simpa using eA (rs:=r) (as:=s) (by simpa [aY] using h) k i (by simpa using hk)
  | .l x::r,y::s,h,k,i,hk=>by
    cases k with
    | zero=>simp at hk
    | succ k=>simpa using eA (rs:=r) (as:=s) (by simpa [aY] using h) k i (by simpa using hk)
  | .s _::_,.d _::_,h,_,_,_=>by simp [aY] at h
  | .s _::_,[],h,_,_,_=>by simp [aY] at h
  | .d _::_,[],h,_,_,_=>by simp [aY] at h
  | .l _::_,[],h,_,_,_=>by simp [aY] at h
theorem iK{r0:Rv}{rs:List Rv}{i:Nat}:gB (r0::rs) i=if (match r0 with | .s j=>j==i | _=>false)=true then some 0 else(gB rs i).map (· +1):=by
  unfold gB;rw [List.findIdx?_cons]
theorem iL{rs:List Rv}{i k:Nat}(h:gB rs i=some k):rs[k]?=some (.s i):=by
  unfold gB at h
  rw [List.findIdx?_eq_some_iff_getElem] at h
  obtain⟨hk,h1,_⟩:=h
  rw [List.getElem?_eq_getElem hk]
  split at h1
  · rename_i heq
    rw [heq]
    have:=eq_of_beq h1
    rw [this]
  · cases h1
theorem dr:∀{rs:List Rv} {i:Nat},i∈aG rs↔ Rv.s i∈rs
  | [],i=>by simp [aG]
  | .s j::r,i=>by simp [aG,dr (rs:=r)]
  | .d x::r,i=>by simp [aG,dr (rs:=r)]
  | .l x::r,i=>by simp [aG,dr (rs:=r)]
theorem dG:∀{rs:List Rv} {i k j:Nat},(aG rs).Nodup→rs[k]?=some (.s i)→rs[j]?=some (.s i)→k=j
  | [],i,k,j,_,h,_=>by simp at h
  | .s m::r,i,k,j,hn,h1,h2=>by
    simp only [aG,List.nodup_cons] at hn
    cases k with
    | zero=>
      simp at h1;subst h1
      cases j with
      | zero=>rfl
      | succ j=>exact absurd (dr.mpr (List.mem_of_getElem? (by simpa using h2))) hn.1
    | succ k=>
      cases j with
      | zero=>
        simp at h2;subst h2
        exact absurd (dr.mpr (List.mem_of_getElem? (by simpa using h1))) hn.1
      | succ j=>
        have:=dG (rs:=r) (i:=i) (k:=k) (j:=j) hn.2 (by simpa using h1) (by simpa using h2)
        lia
  | .d x::r,i,k,j,hn,h1,h2=>by
    cases k with
    | zero=>simp at h1
    | succ k=>
      cases j with
      | zero=>simp at h2
      | succ j=>
        have:=dG (rs:=r) (i:=i) (k:=k) (j:=j) (by simpa [aG] using hn) (by simpa using h1) (by simpa using h2)
        lia
  | .l x::r,i,k,j,hn,h1,h2=>by
    cases k with
    | zero=>simp at h1
    | succ k=>
      cases j with
      | zero=>simp at h2
      | succ j=>
        have:=dG (rs:=r) (i:=i) (k:=k) (j:=j) (by simpa [aG] using hn) (by simpa using h1) (by simpa using h2)
        lia
theorem rD{rs:List Rv}{i:Nat}(h:i∉aG rs):gB rs i=none:=by
  unfold gB
  rw [List.findIdx?_eq_none_iff]
  intro r hr
  cases r with
  | d x=>rfl
  | l x=>rfl
  | s j=>
    have:j≠i:=fun z=>h (by rw [←z];exact dr.mpr hr)
    simpa using this
theorem je:∀{rs:List Rv} {as:List Sv} {e:En},(aG rs).Nodup→aY rs as=true→(∀j∈aG rs,∃xs,e[j]?=some (some (.l xs)))→dy rs as e=kd (gB rs) (as.map some) e
  | [],[],e,_,_,_=>by
    refine List.ext_getElem? fun i=>?_
    rw [bJ]
    have:gB [] i=none:=rfl
    rw [this]
    simp only [dy]
    match e[i]? with
    | none=>rfl
    | some none=>rfl
    | some (some (.d x))=>rfl
    | some (some (.l x))=>rfl
    | some (some (.n x))=>rfl
  | .d x::r,y::s,e,hn,hl,hs=>by
    rw [show dy (.d x::r) (y::s) e=dy r s e from rfl,je (by simpa [aG] using hn) (by simpa [aY] using hl) (fun j hj=>hs j (by simpa [aG] using hj))]
    refine List.ext_getElem? fun i=>?_
    rw [bJ,bJ,iK]
    cases gB r i<;>simp
  | .l x::r,y::s,e,hn,hl,hs=>by
    rw [show dy (.l x::r) (y::s) e=dy r s e from rfl,je (by simpa [aG] using hn) (by simpa [aY] using hl) (fun j hj=>hs j (by simpa [aG] using hj))]
    refine List.ext_getElem? fun i=>?_
    rw [bJ,bJ,iK]
    cases gB r i<;>simp
  | .s k::r,.l ys::s,e,hn,hl,hs=>by
    simp only [aG,List.nodup_cons] at hn
    obtain⟨xs,hk⟩:=hs k (by simp [aG])
    have hlt:k < e.length:=(List.getElem?_eq_some_iff.mp hk).1
    rw [show dy (.s k::r) (.l ys::s) e=dy r s (e.set k (some (.l ys))) from rfl,je hn.2 (by simpa [aY] using hl) (fun j hj=>by
      have z:k≠j:=fun z=>hn.1 (by rw [z];exact hj)
      rw [List.getElem?_set_ne z]
      exact hs j (by simp [aG,hj]))]
    refine List.ext_getElem? fun i=>?_
    rw [bJ,bJ,iK]
    by_cases z:k=i
    · subst z
      rw [List.getElem?_set_self hlt,hk,rD hn.1]
      simp
    · rw [List.getElem?_set_ne z]
      have:((match (Rv.s k) with | .s j=>j==i | _=>false)=true)=False:=by simp [z]
      simp only [this,if_false]
      cases gB r i<;>simp
  | .s _::_,.d _::_,_,_,h,_=>by simp [aY] at h
  | .s _::_,.n _::_,_,_,h,_=>by simp [aY] at h
  | .s _::_,[],_,_,h,_=>by simp [aY] at h
  | .d _::_,[],_,_,h,_=>by simp [aY] at h
  | .l _::_,[],_,_,h,_=>by simp [aY] at h
  | [],_::_,_,_,h,_=>by simp [aY] at h
theorem dj{e:En}:∀{rs:List Rv} {as:List Sv},cg e rs=some as→∀j∈aG rs,∃xs,e[j]?=some (some (.l xs))
  | [],_,_,j,h=>by simp [aG] at h
  | .d x::rs,as,q,j,h=>by
    obtain⟨as',q1,rfl⟩:=Option.map_eq_some_iff.mp q
    exact dj q1 j (by simpa [aG] using h)
  | .l x::rs,as,q,j,h=>by
    obtain⟨as',q1,rfl⟩:=Option.map_eq_some_iff.mp q
    exact dj q1 j (by simpa [aG] using h)
  | .s k::rs,as,q,j,h=>by
    unfold cg at q
    match he:e[k]?,q with
    | some (some (.l xs)),q=>
      obtain⟨as',q1,rfl⟩:=Option.map_eq_some_iff.mp q
      simp only [aG,List.mem_cons] at h
      rcases h with rfl | h
      · exact⟨xs,he⟩
      · exact dj q1 j h
theorem gO{e:En}:∀{rs:List Rv} {as:List Sv} {k i:Nat},cg e rs=some as→rs[k]?=some (.s i)→∃xs,as[k]?=some (.l xs)
  | [],_,k,i,_,h=>by simp at h
  | .d x::rs,as,k,i,q,h=>by
    obtain⟨as',q1,rfl⟩:=Option.map_eq_some_iff.mp q
    cases k with
    | zero=>simp at h
    | succ k=>simpa using gO (k:=k) (i:=i) q1 (by simpa using h)
  | .l x::rs,as,k,i,q,h=>by
    obtain⟨as',q1,rfl⟩:=Option.map_eq_some_iff.mp q
    cases k with
    | zero=>simp at h
    | succ k=>simpa using gO (k:=k) (i:=i) q1 (by simpa using h)
  | .s j::rs,as,k,i,q,h=>by
    unfold cg at q
    match he:e[j]?,q with
    | some (some (.l xs)),q=>
      obtain⟨as',q1,rfl⟩:=Option.map_eq_some_iff.mp q
      cases k with
      | zero=>exact⟨xs,rfl⟩
      | succ k=>simpa using gO (k:=k) (i:=i) q1 (by simpa using h)
section
variable{X:Cx}{K:PySem.W.Frag}{σ:L2.St}{H0 H:Hp}{e:En}
theorem ja:∀{rs:List Rv} {vs:List V} {as:List Sv} {F:Hp},aQ K F H σ e→cH K σ H0 F H e rs vs→cg e rs=some as→
    ∃F',aQ K F' H σ e∧au F F'∧(∀a,F a=none→H0 a≠none→F' a=none)∧vs.length=as.length∧rs.length=as.length∧
      (∀(k:Nat) (x:PyData),as[k]?=some (.d x)→∃v,vs[k]?=some v∧DA K F' x v)∧∀(k:Nat) (xs:List PyData),as[k]?=some (.l xs)→∃i,rs[k]?=some (.s i)∧e[i]?=some (some (.l xs))∧∃v,vs[k]?=some v∧σ[i]?=some (some v)
  | [],vs,as,F,R,h,q=>by
    cases q
    have h':vs=[]:=h
    subst h'
    exact⟨F,R,au.refl _,fun _ h _=>h,rfl,rfl,fun k x h=>by simp at h,fun k x h=>by simp at h⟩
  | .d x::rs,_,as,F,R,h,q=>by
    obtain⟨v,ws,rfl,h1,h2⟩:=h
    obtain⟨as',q1,rfl⟩:=Option.map_eq_some_iff.mp q
    obtain⟨F',R',s',f',l1,l2,d',o'⟩:=ja R h2 q1
    refine⟨F',R',s',f',by simp [l1],by simp [l2],fun k y hk=>?_,fun k ys hk=>?_⟩
    · cases k with
      | zero=>simp at hk;subst hk;exact⟨v,rfl,DA.mono s' h1⟩
      | succ k=>simpa using d' k y (by simpa using hk)
    · cases k with
      | zero=>simp at hk
      | succ k=>simpa using o' k ys (by simpa using hk)
  | .l xs::rs,_,as,F,R,h,q=>by
    obtain⟨v,ws,rfl,h1,h2⟩:=h
    obtain⟨as',q1,rfl⟩:=Option.map_eq_some_iff.mp q
    obtain⟨F',R',s',f',l1,l2,d',o'⟩:=ja R h2 q1
    have key:∃F2,aQ K F2 H σ e∧au F' F2∧(∀a,F' a=none→H0 a≠none→F2 a=none)∧DA K F2 (.list xs) v:=by
      obtain⟨l,us,rfl,g1,g2,g3,g4,g5⟩:=h1
      cases hl:F' l with
      | none=>
        have h1':bR K σ H0 F' H e (.l xs) (.ref l):=⟨l,us,rfl,g1,hl,g3,aH.mono s' g4,g5⟩
        obtain⟨F2,R2,s2,d2,f2⟩:=h1'.frozen R'
        exact⟨F2,R2,s2,f2,d2⟩
      | some o=>
        have:=R'.sm _ _ hl
        rw [g3] at this;cases this
        exact⟨F',R',au.refl _,fun _ h _=>h,cx.mpr ⟨l,us,rfl,.inl (.inl hl),aH.mono s' g4⟩⟩
    obtain⟨F2,R2,s2,f2,d2⟩:=key
    refine⟨F2,R2,s'.trans s2,fun a ha hn=>f2 a (f' a ha hn) hn,by simp [l1],by simp [l2],fun k y hk=>?_,fun k ys hk=>?_⟩
    · cases k with
      | zero=>simp at hk;subst hk;exact⟨v,rfl,d2⟩
      | succ k=>
        obtain⟨u,c1,c2⟩:=d' k y (by simpa using hk)
        exact⟨u,by simpa using c1,DA.mono s2 c2⟩
    · cases k with
      | zero=>simp at hk
      | succ k=>simpa using o' k ys (by simpa using hk)
  | .s i::rs,_,as,F,R,h,q=>by
    obtain⟨v,ws,rfl,h1,h2⟩:=h
    unfold cg at q
    match he:e[i]?,q with
    | some (some (.l xs)),q=>
      obtain⟨as',q1,rfl⟩:=Option.map_eq_some_iff.mp q
      obtain⟨F',R',s',f',l1,l2,d',o'⟩:=ja R h2 q1
      refine⟨F',R',s',f',by simp [l1],by simp [l2],fun k y hk=>?_,fun k ys hk=>?_⟩
      · cases k with
        | zero=>simp at hk
        | succ k=>simpa using d' k y (by simpa using hk)
      · cases k with
        | zero=>simp at hk;subst hk;exact⟨i,rfl,he,v,rfl,h1.1⟩
        | succ k=>simpa using o' k ys (by simpa using hk)
theorem dk{α:Type}{l:List α}{k:Nat}{x:α}:(l.map some)[k]?=some (some x)↔ l[k]?=some x:=by
  rw [List.getElem?_map]
  cases l[k]?<;>simp
theorem bR.noS{σ':L2.St}{e':En}{F H:Hp}{r:Rv}{v:V}(h:bR K σ' H0 F H e' r v)(n:L2.noS r)(ho:∀a,bW σ e H a→H0 a≠none):bR K σ H0 F H e r v:=by
  cases r with
  | d x=>exact h
  | l xs=>
    obtain⟨l,vs,e1,h1,h2,h3,h4,_⟩:=h
    exact⟨l,vs,e1,h1,h2,h3,h4,fun z=>ho l z h1⟩
  | s i=>exact absurd n (by simp [L2.noS])
theorem eu:∀{rs:List Rv} {as:List Sv},cg e rs=some as→yc (as.map some)
  | [],_,q=>by cases q;intro i xss h;simp at h
  | .d x::rs,as,q=>by
    obtain⟨as',q1,rfl⟩:=Option.map_eq_some_iff.mp q
    have ih:=eu q1
    intro i xss h
    cases i with
    | zero=>simp at h
    | succ i=>exact ih i xss (by simpa using h)
  | .l x::rs,as,q=>by
    obtain⟨as',q1,rfl⟩:=Option.map_eq_some_iff.mp q
    have ih:=eu q1
    intro i xss h
    cases i with
    | zero=>simp at h
    | succ i=>exact ih i xss (by simpa using h)
  | .s j::rs,as,q=>by
    unfold cg at q
    match he:e[j]?,q with
    | some (some (.l xs)),q=>
      obtain⟨as',q1,rfl⟩:=Option.map_eq_some_iff.mp q
      have ih:=eu q1
      intro i xss h
      cases i with
      | zero=>simp at h
      | succ i=>exact ih i xss (by simpa using h)
theorem xX{n:Nat}{m:FM}{fs:FA}{Q:VK}{E:XK}(h:fE K (ck n m fs) σ H Q):oK (bI K n m) [] E (fA K fs) σ H Q:=by
  obtain⟨F,e,z,e',R,hf,q⟩:=h
  unfold ck at hf
  obtain⟨⟨rs,e1⟩,h1,hf⟩:=Option.bind_eq_some_iff.mp hf
  obtain⟨as,h2,hf⟩:=Option.bind_eq_some_iff.mp hf
  obtain⟨⟨r,as'⟩,h3,hf⟩:=Option.bind_eq_some_iff.mp hf
  split at hf
  case isFalse=>cases hf
  case isTrue hc=>
  obtain⟨c1,c2,c3,c4⟩:=hc
  cases hf
  refine⟨F,e,rs,e1,R,h1,fun F1 H1 vs X1 R1 A1=>?_⟩
  obtain⟨F2,R2,s2,f2,l1,l2,d2,o2⟩:=ja R1 A1 h2
  have X2:=X1.frz s2 f2
  rw [List.append_nil]
  have hn:L2.noS r:=by
    cases r with
    | d x=>trivial
    | l x=>trivial
    | s i=>cases c4
  have nN:=eu h2
  have RA:aQ K F2 H1 (vs.map some) (as.map some):=by
    refine⟨R2.sm,by simp [l1],fun k x hk=>?_,fun k xs hk=>?_,fun k xss hk=>absurd hk (nN k xss),fun k j l f1 f2=>?_⟩
    · obtain⟨v,g1,g2⟩:=d2 k x (dk.mp hk)
      exact⟨v,dk.mpr g1,g2⟩
    · obtain⟨i,g1,g2,v,g3,g4⟩:=o2 k xs (dk.mp hk)
      obtain⟨l,us,k1,k2,k3,k4⟩:=R2.own i xs g2
      rw [g4] at k1;cases k1
      exact⟨l,us,dk.mpr g3,k2,k3,k4⟩
    · obtain⟨xs,g1,g3⟩:=f1.resolve_right fun⟨xss,_,_,z,_⟩=>nN k xss z
      obtain⟨ys,g2,g4⟩:=f2.resolve_right fun⟨xss,_,_,z,_⟩=>nN j xss z
      obtain⟨i1,a1,a2,v1,a3,a4⟩:=o2 k xs (dk.mp g1)
      obtain⟨i2,b1,b2,v2,b3,b4⟩:=o2 j ys (dk.mp g2)
      have e1:=dk.mp g3
      have e2:=dk.mp g4
      rw [a3] at e1;cases e1
      rw [b3] at e2;cases e2
      have:i1=i2:=R2.inj i1 i2 xs ys l a2 b2 a4 b4
      subst this
      exact dG c2 a1 b1
  have sub:l9 σ e1 (vs.map some) (as.map some) (gB rs):=by
    refine⟨fun i k xs g1 g2=>?_,fun k ys g1=>?_⟩
    · have g3:=iL g2
      obtain⟨zs,hs⟩:=gO h2 g3
      obtain⟨i',a1,a2,v,a3,a4⟩:=o2 k zs hs
      rw [g3] at a1;cases a1
      rw [dk.mpr a3,a4]
    · obtain⟨i,a1,a2,v,a3,a4⟩:=o2 k ys (dk.mp g1)
      refine⟨i,ys,a2,?_,by rw [dk.mpr a3,a4]⟩
      cases hp:gB rs i with
      | none=>
        unfold gB at hp
        rw [List.findIdx?_eq_none_iff] at hp
        have:=hp _ (List.mem_of_getElem? a1)
        simp at this
      | some j=>rw [dG c2 (iL hp) a1]
  refine⟨by rw [l1,←l2];exact c1,F2,as,r,as',RA,nN,h3,hn,fun F' H' v X3 R3 A3=>?_⟩
  obtain⟨R4,X4,o4⟩:=mM R2 sub nN X3.sf X3.dom X3.fr X3.lst X3.tmp X3.fd R3 (fun _ _ _ _ _=>rfl) fun i k xs g1 g2=>by
    obtain⟨ys,g3⟩:=eA c3 k i (iL g2)
    exact⟨ys,dk.mpr g3⟩
  have hb:=je (e:=e1) c2 c3 (dj h2)
  rw [←hb] at R4 X4 o4
  exact q F' H' v (X2.trans X4) R4 ((A3.noS hn fun a z=>R2.ownH a (o4 a z)).weak X2.dom)
theorem aR{x:Str}{st:Stmt}{f:Addr}{fd:FuncData}{ps:List Str}{k n:Nat}{m:FM}{a:Expr}{es:List Expr}{fs:FA}{p pos:Pos}(h:aV X.K X.mg x st f fd ps)(G:az X.prog X.w X.K X.mg X.base bz k f fd ps (bI K n m))(hr:cf k X.A)(ha:PA X (a::es) (fA K fs))
    (hg:Gl X x)(hdb:(x==("__debug__":Str))=false)(he:starEach (a::es) X.env=(false,eval a X.env)::starEach es X.env)(hpl:(backTo pos (starEach es X.env)).any (·.1)=false):
    PE X (.Call (.Name x p) (a::es) [] pos) (fE K (ck n m fs)):=(Au h G hr ha hg hdb he hpl).mono fun _ _ _ h=>xX h
def oQ:List Sv→En→Option (List Sv)
  | [],_=>some []
  | .d x::r,e=>(oQ r e.tail).map (.d x::·)
  | .l _::r,e=>match e.head? with
    | some (some (.l ys))=>(oQ r e.tail).map (.l ys::·)
    | _=>none
  | .n _::_,_=>none
def qi(n:Nat)(e:En):Rv→Option Rv
  | .s i=>if n≤i then match e[i]? with
      | some (some (.l xs))=>some (.l xs)
      | _=>none
    else none
  | r=>some r
def kQ(W:List Nat)(as:List Sv):Bool:=W.all fun j=>match as[j]? with
  | some (.l _)=>false
  | _=>true
def fW(n k:Nat)(W:List Nat)(f:FS):FM:=fun as=>if as.length=n∧kQ W as=true then(f (as.map some++List.replicate k none)).bind fun fl=>match fl with
    | .rt r e=>(qi n e r).bind fun r'=>(oQ as e).map fun as'=>(r',as')
    | .nx e=>(oQ as e).map fun as'=>(.d .none,as')
    | _=>none
  else none
theorem jl:∀{as as':List Sv} {e:En},oQ as e=some as'→as'.length=as.length∧(∀(j:Nat) (x:PyData),as'[j]?=some (.d x)↔ as[j]?=some (.d x))∧(∀(j:Nat) (ys:List PyData),as'[j]?=some (.l ys)→(∃xs,as[j]?=some (.l xs))∧e[j]?=some (some (.l ys)))∧∀(j:Nat) (xs:List PyData),as[j]?=some (.l xs)→∃ys,as'[j]?=some (.l ys)
  | [],_,e,h=>by cases h;simp
  | .d x::r,_,e,h=>by
    obtain⟨s,h1,rfl⟩:=Option.map_eq_some_iff.mp h
    obtain⟨g1,g2,g3,g4⟩:=jl h1
    refine⟨by simp [g1],fun j y=>?_,fun j ys hj=>?_,fun j xs hj=>?_⟩
    · cases j with
      | zero=>simp
      | succ j=>simpa using g2 j y
    · cases j with
      | zero=>simp at hj
      | succ j=>
        obtain⟨c1,c2⟩:=g3 j ys (by simpa using hj)
        refine⟨by simpa using c1,?_⟩
        rw [List.getElem?_tail] at c2
        exact c2
    · cases j with
      | zero=>simp at hj
      | succ j=>simpa using g4 j xs (by simpa using hj)
  | .l xs::r,_,e,h=>by
    unfold oQ at h
    match he:e.head?,h with
    | some (some (.l ys)),h=>
      obtain⟨s,h1,rfl⟩:=Option.map_eq_some_iff.mp h
      obtain⟨g1,g2,g3,g4⟩:=jl h1
      refine⟨by simp [g1],fun j y=>?_,fun j zs hj=>?_,fun j zs hj=>?_⟩
      · cases j with
        | zero=>simp
        | succ j=>simpa using g2 j y
      · cases j with
        | zero=>
          simp at hj;subst hj
          exact⟨⟨xs,rfl⟩,by rw [List.head?_eq_getElem?] at he;exact he⟩
        | succ j=>
          obtain⟨c1,c2⟩:=g3 j zs (by simpa using hj)
          refine⟨by simpa using c1,?_⟩
          rw [List.getElem?_tail] at c2
          exact c2
      · cases j with
        | zero=>exact⟨ys,rfl⟩
        | succ j=>simpa using g4 j zs (by simpa using hj)
  | .n x::r,_,e,h=>by simp [oQ] at h
end
end L2
namespace L2
open PySem PySem.Spec PyProof.Rows
theorem cT{α:Type}{l:List (Option α)}{k i:Nat}{x:α}(h:(l++List.replicate k none)[i]?=some (some x)):l[i]?=some (some x):=by
  rw [List.getElem?_append] at h
  split at h
  · exact h
  · rw [List.getElem?_replicate] at h
    split at h<;>simp at h
theorem cY{α:Type}{l:List (Option α)}{k i:Nat}{x:α}(h:l[i]?=some (some x)):(l++List.replicate k none)[i]?=some (some x):=by
  have hi:i < l.length:=(List.getElem?_eq_some_iff.mp h).1
  rw [List.getElem?_append_left hi];exact h
section
variable{K:PySem.W.Frag}{F H:Hp}{σ:L2.St}{e:En}{k:Nat}
theorem lA{i:Nat}{a:Addr}:Fp (σ++List.replicate k none) (e++List.replicate k none) H i a↔ Fp σ e H i a:=by
  constructor
  · rintro(⟨xs,h1,h2⟩ | ⟨xss,l,bs,h1,h2,h3⟩)
    · exact .inl ⟨xs,cT h1,cT h2⟩
    · exact .inr ⟨xss,l,bs,cT h1,cT h2,h3⟩
  · rintro(⟨xs,h1,h2⟩ | ⟨xss,l,bs,h1,h2,h3⟩)
    · exact .inl ⟨xs,cY h1,cY h2⟩
    · exact .inr ⟨xss,l,bs,cY h1,cY h2,h3⟩
theorem jg{a:Addr}:bW (σ++List.replicate k none) (e++List.replicate k none) H a↔ bW σ e H a:=⟨fun⟨i,h⟩=>⟨i,lA.mp h⟩,fun⟨i,h⟩=>⟨i,lA.mpr h⟩⟩
theorem aQ.pad(R:aQ K F H σ e):aQ K F H (σ++List.replicate k none) (e++List.replicate k none):=by
  refine⟨R.sm,by simp [R.len],fun i x h=>?_,fun i xs h=>?_,fun i xss h=>?_,fun i j a h1 h2=>R.fp i j a (lA.mp h1) (lA.mp h2)⟩
  · obtain⟨v,g1,g2⟩:=R.dat i x (cT h)
    exact⟨v,cY g1,g2⟩
  · obtain⟨l,vs,g1,g2⟩:=R.own i xs (cT h)
    exact⟨l,vs,cY g1,g2⟩
  · obtain⟨l,bs,g1,g2⟩:=R.nst i xss (cT h)
    exact⟨l,bs,cY g1,g2⟩
end
theorem l5:∀{as as':List Sv} {e:En},oQ as e=some as'→yc (as'.map some)
  | [],_,e,h=>by cases h;intro i xss z;simp at z
  | .d x::r,_,e,h=>by
    obtain⟨s,h1,rfl⟩:=Option.map_eq_some_iff.mp h
    have ih:=l5 h1
    intro i xss z
    cases i with
    | zero=>simp at z
    | succ i=>exact ih i xss (by simpa using z)
  | .l xs::r,_,e,h=>by
    unfold oQ at h
    match he:e.head?,h with
    | some (some (.l ys)),h=>
      obtain⟨s,h1,rfl⟩:=Option.map_eq_some_iff.mp h
      have ih:=l5 h1
      intro i xss z
      cases i with
      | zero=>simp at z
      | succ i=>exact ih i xss (by simpa using z)
  | .n x::r,_,e,h=>by simp [oQ] at h
theorem mv{W:List Nat}{as:List Sv}(h:kQ W as=true){j:Nat}{xs:List PyData}(hj:as[j]?=some (.l xs)):j∉W:=fun z=>by
  unfold kQ at h
  have:=List.all_eq_true.mp h j z
  rw [hj] at this
  cases this
section
variable{P:Program}{w:World}{K:PySem.W.Frag}{mg:Str→Option Value}{base:Heap}
theorem aV.fn{x:Str}{st:Stmt}{f:Addr}{fd:FuncData}{N ps:List Str}{k n k0:Nat}{W:List Nat}{fb:FS}(h:aV K mg x st f fd ps)(S:av N ps (ah st))(hn:ps.length=n)(hN:N.length=n+k0)
    (hb:∀(cdv:Value) (A:Around) (outer:List Env) (s:Shared) (H:Hp) (E:XK),cf k (A.deeper (envOfC x (ah st) s.heap.objs.size f cdv))→gL (i7 bz P w K mg base N x (ah st) f cdv A outer s H E).nox (bG st) (fS K fb W)):
    az P w K mg base bz (k+1) f fd ps (bI K n (fW n k0 W fb)):=by
  refine h.F.ok S (fun vs H Q E q=>?_) fun cdv A outer s H vs Q E hr hsp=>⟨_,hb cdv A outer s H E hr,?_⟩
  · rw [hn];exact q.1
  · obtain⟨hl,F,as,r,as',R,nN,hm,nr,q⟩:=hsp
    unfold fW at hm
    split at hm
    case isFalse=>cases hm
    case isTrue hc=>
    obtain⟨la,nl⟩:=hc
    obtain⟨fl,h1,hm⟩:=Option.bind_eq_some_iff.mp hm
    have hst:dH N vs=vs.map some++List.replicate k0 none:=by unfold dH;rw [hN,hl];congr 2;lia
    rw [hst]
    have key:∀{as':List Sv} {e':En},oQ as e'=some as'→∀F' H' σ',cv W (vs.map some++List.replicate k0 none) F H (as.map some++List.replicate k0 none) σ' F' H' e'→aQ K F' H' σ' e'→
        dc (vs.map some) F H (as.map some) F' H' (as'.map some)∧aQ K F' H' (vs.map some) (as'.map some)∧∀a,bW (vs.map some) (as'.map some) H' a→bW (vs.map some) (as.map some) H a:=by
      intro as' e' hu F' H' σ' X' R'
      obtain⟨u1,u2,u3,u4⟩:=jl hu
      have uN:=l5 hu
      have ow:∀a,bW (vs.map some) (as'.map some) H' a→bW (vs.map some) (as.map some) H a:=by
        rintro a ⟨j,⟨ys,c1,c2⟩ | ⟨xss,_,_,z,_⟩⟩
        · obtain⟨⟨xs,c3⟩,_⟩:=u3 j ys (dk.mp c1)
          exact⟨j,.inl ⟨xs,dk.mpr c3,c2⟩⟩
        · exact absurd z (uN j xss)
      have sg:∀(j:Nat) (xs:List PyData),as[j]?=some (.l xs)→σ'[j]?=(vs.map some)[j]?:=fun j xs hj=>by
        rw [X'.wr j (mv nl hj)]
        have hj2:j < (vs.map some).length:=by rw [List.length_map,hl,←la];exact(List.getElem?_eq_some_iff.mp hj).1
        rw [List.getElem?_append_left hj2]
      refine⟨⟨X'.sf,X'.dom,fun a vs h1 h2 hn=>X'.fr a vs h1 h2 fun z=>hn (jg.mp z),X'.lst,fun a o ha hn=>X'.tmp a o ha fun z=>hn (jg.mp z),fun j=>?_,fun a z=>.inl (ow a z),fun a m h1 h2 hn=>X'.fd a m h1 h2 fun z=>hn (jg.mp z)⟩,⟨R'.sm,?_,fun j y hj=>?_,fun j ys hj=>?_,fun j xss hj=>absurd hj (uN j xss),fun j i l f1 f2=>?_⟩,ow⟩
      · constructor
        · rintro⟨ys,hj⟩
          obtain⟨⟨xs,c⟩,_⟩:=u3 j ys (dk.mp hj)
          exact⟨xs,dk.mpr c⟩
        · rintro⟨xs,hj⟩
          obtain⟨ys,c⟩:=u4 j xs (dk.mp hj)
          exact⟨ys,dk.mpr c⟩
      · simp [u1,hl,la]
      · obtain⟨v,c1,c2⟩:=R.dat j y (dk.mpr ((u2 j y).mp (dk.mp hj)))
        exact⟨v,c1,DA.mono X'.sf c2⟩
      · obtain⟨⟨xs,c1⟩,c2⟩:=u3 j ys (dk.mp hj)
        obtain⟨l,us,d1,d2⟩:=R'.own j ys c2
        exact⟨l,us,by rw [←sg j xs c1];exact d1,d2⟩
      · obtain⟨xs,g1,g3⟩:=f1.resolve_right fun⟨xss,_,_,z,_⟩=>uN j xss z
        obtain⟨ys,g2,g4⟩:=f2.resolve_right fun⟨xss,_,_,z,_⟩=>uN i xss z
        obtain⟨⟨zs,c1⟩,c2⟩:=u3 j xs (dk.mp g1)
        obtain⟨⟨ws,c3⟩,c4⟩:=u3 i ys (dk.mp g2)
        exact R'.inj j i xs ys l c2 c4 (by rw [sg j zs c1];exact g3) (by rw [sg i ws c3];exact g4)
    refine⟨F,as.map some++List.replicate k0 none,fl,R.pad,h1,?_⟩
    cases fl with
    | bk e'=>cases hm
    | ct e'=>cases hm
    | nx e'=>
      obtain⟨as2,h2,hm⟩:=Option.map_eq_some_iff.mp hm
      cases hm
      intro F' H' σ' X' R'
      obtain⟨X2,R2,_⟩:=key h2 F' H' σ' X' R'
      exact q F' H' .non X2 R2 ((gT (K:=K) (F:=F')).mpr rfl)
    | rt r0 e'=>
      obtain⟨r1,h2,hm⟩:=Option.bind_eq_some_iff.mp hm
      obtain⟨as2,h3,hm⟩:=Option.map_eq_some_iff.mp hm
      cases hm
      intro F' H' σ' v X' R' A'
      obtain⟨X2,R2,ow2⟩:=key h3 F' H' σ' X' R'
      have noo:∀l,H l=none→¬bW (vs.map some) (as'.map some) H' l:=fun l hl z=>R.ownH l (ow2 l z) hl
      refine q F' H' v X2 R2 ?_
      cases r0 with
      | d y=>cases h2;exact A'
      | l ys=>
        cases h2
        obtain⟨l,us,d0,d1,d2,d3,d4,_⟩:=A'
        exact⟨l,us,d0,d1,d2,d3,d4,noo l d1⟩
      | s i=>
        simp only [qi] at h2
        split at h2
        case isFalse=>cases h2
        case isTrue hi=>
        obtain⟨a1,xs,a2⟩:=A'
        rw [a2] at h2
        cases h2
        obtain⟨l,us,d1,d2,d3,d4⟩:=R'.own i _ a2
        rw [a1] at d1;cases d1
        suffices hl0:H l=none from⟨l,us,rfl,hl0,d2,d3,d4,noo l hl0⟩
        rcases X'.own l ⟨i,.inl ⟨_,a2,a1⟩⟩ with z | z
        · obtain⟨j,zf⟩:=jg.mp z
          obtain⟨ys,z1,z2⟩:=zf.resolve_right fun⟨xss,_,_,z,_⟩=>nN j xss z
          have z1':=dk.mp z1
          obtain⟨u1,u2,u3,u4⟩:=jl h3
          obtain⟨ws,w1⟩:=u4 j ys z1'
          obtain⟨_,w2⟩:=u3 j ws w1
          have hj2:j < vs.length:=by rw [hl,←la];exact(List.getElem?_eq_some_iff.mp z1').1
          have e3:σ'[j]?=some (some (.ref l)):=by
            rw [X'.wr j (mv nl z1'),List.getElem?_append_left (by simpa using hj2)]
            exact z2
          have:=R'.inj i j _ ws l a2 w2 a1 e3
          lia
        · exact z
end
def yK:Option Sv→Option Sv
  | some (.n _)=>none
  | s=>s
def nB(cp:List (Nat × Str))(nT:Nat)(e:En):En:=cp.map (fun p=>yK (e[p.1]?).join)++List.replicate nT none
def jV(cp:List (Nat × Str))(i:Nat):Option Nat:=cp.findIdx? fun p=>p.1==i
def gS(g:FG)(ft:FT)(fe:FE):List PyData→En→List PyData→Option (List PyData × En)
  | [],e,acc=>some (acc,e)
  | x::r,e,acc=>(g x e).bind fun e1=>(ft e1).bind fun b=>if b.1=true then(fe b.2).bind fun v=>(oY v.1).bind fun d=>if acc.length < 1000000 then gS g ft fe r v.2 (acc++[d]) else none else gS g ft fe r b.2 acc
def lr(cp:List (Nat × Str))(ei e:En):Bool:=cp.all fun p=> !sP e[p.1]? || sP ei[(jV cp p.1).getD 0]?
def ke(cp:List (Nat × Str))(nT:Nat)(fi:FI)(g:FG)(ft:FT)(fe:FE):FE:=fun e=>(fi e).bind fun p=>if (p.2.1.all fun q=> !(cp.any fun c=>c.1==q.1))=true then(gS g ft fe p.1 (nB cp nT p.2.2) []).bind fun z=>if lr cp z.2 p.2.2=true then some (.l z.1,kd (jV cp) z.2 p.2.2) else none else none
section
variable{K:PySem.W.Frag}{F H:Hp}{σ:L2.St}{e:En}{cp:List (Nat × Str)}{nT:Nat}
theorem el{i k:Nat}(h:jV cp i=some k):∃s,cp[k]?=some (i,s):=by
  unfold jV at h
  rw [List.findIdx?_eq_some_iff_getElem] at h
  obtain⟨hk,h1,_⟩:=h
  refine⟨cp[k].2,?_⟩
  rw [List.getElem?_eq_getElem hk]
  have:=eq_of_beq h1
  rw [←this]
theorem fK{k:Nat}{x:Sv}(h:(nB cp nT e)[k]?=some (some x)):∃i s,cp[k]?=some (i,s)∧e[i]?=some (some x):=by
  unfold nB at h
  have h:=cT h
  rw [List.getElem?_map] at h
  obtain⟨p,h1,h2⟩:=Option.map_eq_some_iff.mp h
  refine⟨p.1,p.2,h1,?_⟩
  cases q:e[p.1]? with
  | none=>rw [q] at h2;cases h2
  | some y=>
    rw [q] at h2
    match y,h2 with
    | some (.d z),h2=>exact congrArg some h2
    | some (.l z),h2=>exact congrArg some h2
    | some (.n z),h2=>cases h2
    | none,h2=>cases h2
theorem gY:yc (nB cp nT e):=by
  intro k xss h
  unfold nB at h
  have h:=cT h
  rw [List.getElem?_map] at h
  obtain⟨p,h1,h2⟩:=Option.map_eq_some_iff.mp h
  match (e[p.1]?).join,h2 with
  | some (.d z),h2=>cases h2
  | some (.l z),h2=>cases h2
  | some (.n z),h2=>cases h2
  | none,h2=>cases h2
theorem jk{k i:Nat}{s:Str}{v:V}(h:cp[k]?=some (i,s))(hv:σ[i]?=some (some v)):(fw cp nT σ)[k]?=some (some v):=by
  unfold fw
  refine cY ?_
  rw [List.getElem?_map,h]
  simp [hv]
theorem j7{k i:Nat}{s:Str}{v:V}(h:cp[k]?=some (i,s))(hv:(fw cp nT σ)[k]?=some (some v)):σ[i]?=some (some v):=by
  unfold fw at hv
  have hv:=cT hv
  rw [List.getElem?_map,h] at hv
  simp only [Option.map_some,Option.some.injEq] at hv
  cases q:σ[i]? with
  | none=>rw [q] at hv;cases hv
  | some y=>rw [q] at hv;exact congrArg some hv
theorem lx:∀{cp:List (Nat × Str)} {k j i:Nat} {s t:Str},(cp.map (·.1)).Nodup→cp[k]?=some (i,s)→cp[j]?=some (i,t)→k=j
  | [],k,j,i,s,t,_,h,_=>by simp at h
  | p::r,k,j,i,s,t,hn,h1,h2=>by
    simp only [List.map_cons,List.nodup_cons] at hn
    cases k with
    | zero=>
      simp at h1;subst h1
      cases j with
      | zero=>rfl
      | succ j=>
        have hm:(i,t)∈r:=List.mem_of_getElem? (i:=j) (by simpa using h2)
        exact absurd (List.mem_map.mpr ⟨(i,t),hm,rfl⟩) hn.1
    | succ k=>
      cases j with
      | zero=>
        simp at h2;subst h2
        have hm:(i,s)∈r:=List.mem_of_getElem? (i:=k) (by simpa using h1)
        exact absurd (List.mem_map.mpr ⟨(i,s),hm,rfl⟩) hn.1
      | succ j=>
        have:=lx (cp:=r) (k:=k) (j:=j) hn.2 (by simpa using h1) (by simpa using h2)
        lia
theorem aQ.inn(R:aQ K F H σ e)(hn:(cp.map (·.1)).Nodup):aQ K F H (fw cp nT σ) (nB cp nT e)∧l9 σ e (fw cp nT σ) (nB cp nT e) (jV cp):=by
  refine⟨⟨R.sm,by simp [fw,nB],fun k x h=>?_,fun k xs h=>?_,fun k xss h=>absurd h (gY k xss),fun k j l f1 f2=>?_⟩,⟨fun i k xs h1 h2=>?_,fun k ys h=>?_⟩⟩
  · obtain⟨i,s,h1,h2⟩:=fK h
    obtain⟨v,g1,g2⟩:=R.dat i x h2
    exact⟨v,jk h1 g1,g2⟩
  · obtain⟨i,s,h1,h2⟩:=fK h
    obtain⟨l,vs,g1,g2⟩:=R.own i xs h2
    exact⟨l,vs,jk h1 g1,g2⟩
  · obtain⟨xs,h1,h3⟩:=f1.resolve_right fun⟨xss,_,_,z,_⟩=>gY k xss z
    obtain⟨ys,h2,h4⟩:=f2.resolve_right fun⟨xss,_,_,z,_⟩=>gY j xss z
    obtain⟨i,s,a1,a2⟩:=fK h1
    obtain⟨i',s',b1,b2⟩:=fK h2
    have:i=i':=R.inj i i' xs ys l a2 b2 (j7 a1 h3) (j7 b1 h4)
    subst this
    exact lx hn a1 b1
  · obtain⟨s,g⟩:=el h2
    obtain⟨l,vs,g1,_⟩:=R.own i xs h1
    rw [g1];exact jk g g1
  · obtain⟨i,s,h1,h2⟩:=fK h
    obtain⟨l,vs,g1,_⟩:=R.own i ys h2
    refine⟨i,ys,h2,?_,by rw [g1];exact jk h1 g1⟩
    cases hp:jV cp i with
    | none=>
      unfold jV at hp
      rw [List.findIdx?_eq_none_iff] at hp
      have:=hp _ (List.mem_of_getElem? h1)
      simp at this
    | some j=>
      obtain⟨t,g⟩:=el hp
      rw [lx hn g h1]
theorem aQ.putT(R:aQ K F H σ e){l:Addr}{ws:List V}(h1:F l=none)(h2:¬bW σ e H l):aQ K F (bP H l (.lst ws)) σ e∧∀a,bW σ e (bP H l (.lst ws)) a↔ bW σ e H a:=
  R.keep (au.refl F) (fun b o q=>by
    have z:b≠l:=fun z=>by rw [z,h1] at q;cases q
    rw [aF z];exact R.sm b o q) (fun a ⟨i,h⟩=>(R.fpAt h).1) fun a o ha q=>by
      have z:a≠l:=fun z=>h2 (by rw [←z];exact ha)
      rw [aF z];exact q
theorem cv.putT{W:List Nat}{σ':L2.St}{F' H':Hp}{e':En}(x:cv W σ F H e σ' F' H' e'){l:Addr}{o:HO}(h:H l=none)(ho:∀a,bW σ' e' (bP H' l o) a↔ bW σ' e' H' a):cv W σ F H e σ' F' (bP H' l o) e':=by
  refine⟨x.sf,fun a q=>?_,x.fr,fun a vs q=>?_,fun a u q n=>?_,fun a q=>x.own a ((ho a).mp q),x.wr,x.fd⟩
  · by_cases z:a=l
    · rw [z];exact h
    · rw [aF z] at q;exact x.dom a q
  · have z:a≠l:=fun z=>by rw [z,h] at q;cases q
    rw [aF z];exact x.lst a vs q
  · have z:a≠l:=fun z=>by rw [z,h] at q;cases q
    rw [aF z];exact x.tmp a u q n
inductive CI (K:PySem.W.Frag) (W:List Nat) (σ0:L2.St) (F1 H1:Hp) (e0:En) (l:Addr) (P:Hp→En→List PyData→Prop) (σ':L2.St) (H':Hp):Prop
  | mk {F':Hp} {ei:En} {acc:List PyData} {vs:List V} (R:aQ K F' H' σ' ei) (X:cv W σ0 F1 H1 e0 σ' F' H' ei) (fl:F' l=none) (no:¬bW σ' ei H' l) (hl:H' l=some (.lst vs)) (da:aH K F' acc vs) (hc:P F' ei acc):CI K W σ0 F1 H1 e0 l P σ' H'
theorem sD{Q:VK}{fi:FI}{g:FG}{W:List Nat}{ft:FT}{fe:FE}(hn:(cp.map (·.1)).Nodup)(hW:∀j∈W,cp.length≤j)(h:fE K (ke cp nT fi g ft fe) σ H Q):vM cp nT (fI K fi) (fG K g W) (fT K ft) (fE K fe) σ H Q:=by
  obtain⟨F0,e0,z,e',R0,hf,q⟩:=h
  unfold ke at hf
  obtain⟨⟨items,own,e1⟩,h1,hf⟩:=Option.bind_eq_some_iff.mp hf
  dsimp only at hf
  split at hf
  case isFalse=>cases hf
  case isTrue hO=>
  obtain⟨⟨out,eo⟩,h2,hf⟩:=Option.bind_eq_some_iff.mp hf
  dsimp only at hf
  split at hf
  case isFalse=>cases hf
  case isTrue hB=>
  cases hf
  refine⟨⟨F0,e0,items,own,e1,R0,h1,fun J F1 H1 X1 R1 kp ok=>?_⟩⟩
  intro l hl
  obtain⟨Ri,sub⟩:=R1.inn (nT:=nT) hn
  have hFl:F1 l=none:=R1.freeF hl
  let Iv:Nat→L2.St→Hp→Prop:=fun i=>CI K W (fw cp nT σ) F1 H1 (nB cp nT e1) l fun _ ei acc=>gS g ft fe (items.drop i) ei acc=some (out,eo)
  have notown:∀p∈own,∀a,σ[p.1]?=some (some (.ref a))→¬bW (fw cp nT σ) (nB cp nT e1) H1 a:=by
    rintro p hp a ha ⟨k,zf⟩
    obtain⟨xs,c1,c2⟩:=zf.resolve_right fun⟨xss,_,_,z,_⟩=>gY k xss z
    obtain⟨i,s,d1,d2⟩:=fK c1
    have e2:=j7 d1 c2
    have:p.1=i:=R1.inj p.1 i p.2 xs a (kp p hp) d2 ha e2
    have hh:=List.all_eq_true.mp hO p hp
    simp only [Bool.not_eq_true',List.any_eq_false,beq_iff_eq] at hh
    exact hh (i,s) (List.mem_of_getElem? d1) this.symm
  refine⟨fun i m σ' H'=>m=items.length - i∧i≤items.length∧Iv i σ' H',⟨items.length,by simp,Nat.zero_le _,.mk (Ri.putT hFl (fun z=>(Ri.ownH l z) hl)).1 (cv.refl.putT hl (Ri.putT hFl (fun z=>(Ri.ownH l z) hl)).2) hFl (fun z=>(Ri.ownH l (((Ri.putT hFl (fun z=>(Ri.ownH l z) hl)).2 l).mp z)) hl) aE aH.nil h2⟩,?_⟩
  rintro i m σ' H' ⟨rfl,hi,⟨R',X',fl,no,hl',da,hc⟩⟩
  rename_i F' ei acc vs
  have held:pY K σ F' H' own:=fun p hp=>by
    obtain⟨a,us,c1,c2,c3,c4⟩:=R1.own p.1 p.2 (kp p hp)
    exact⟨a,us,c1,X'.tmp a _ c3 (notown p hp a c1),c4.mono X'.sf⟩
  obtain⟨go,stop,yld⟩:=ok F' H' X'.sf R'.sm held
  by_cases hlt:i < items.length
  · have hd:items.drop i=items[i]::items.drop (i+1):=List.drop_eq_getElem_cons hlt
    rw [hd] at hc
    unfold gS at hc
    obtain⟨e2,c2,hc⟩:=Option.bind_eq_some_iff.mp hc
    obtain⟨⟨b,e3⟩,c3,hc⟩:=Option.bind_eq_some_iff.mp hc
    refine .inr ⟨go i hlt,Iv (i+1),fun σ2 H2 r=>⟨items.length - (i+1),by lia,rfl,hlt,r⟩,fun x H2 hy=>?_⟩
    obtain⟨F2,sH,sF2,sm2,fz,hx⟩:=yld i items[i] x H2 (List.getElem?_eq_getElem hlt) hy
    obtain⟨R2,X2⟩:=R'.step sH sF2 sm2 fz
    refine⟨F2,ei,items[i],e2,R2,hx,c2,fun σ3 X3 R3=>⟨F2,e2,b,e3,R3,c3,fun F4 H4 X4 R4=>?_⟩⟩
    have hlH2:H2 l=some (.lst vs):=sH _ _ hl'
    have no2:¬bW σ' ei H2 l:=fun z=>by
      rcases X2.ow l z with z | z
      · exact no z
      · rw [hl'] at z;cases z
    have no3:¬bW σ3 e2 H2 l:=fun z=>by
      rcases X3.own l z with z | z
      · exact no2 z
      · rw [hlH2] at z;cases z
    have fl2:F2 l=none:=fz l fl (by rw [hl'];simp)
    have hlH4:H4 l=some (.lst vs):=X4.tmp l _ hlH2 no3
    have fl4:F4 l=none:=X4.fr l vs fl2 hlH2 no3
    have no4:¬bW σ3 e3 H4 l:=fun z=>by
      rcases X4.ow l z with z | z
      · exact no3 z
      · rw [hlH2] at z;cases z
    have E4:cv W (fw cp nT σ) F1 H1 (nB cp nT e1) σ3 F4 H4 e3:=((X'.trans X2.s).trans X3).trans X4.s
    cases b with
    | false=>
      rw [if_neg (by simp)] at hc
      exact yH (.mk R4 E4 fl4 no4 hlH4 (da.mono (sF2.trans X4.sf)) hc)
    | true=>
      rw [if_pos rfl] at hc
      obtain⟨⟨r,e5⟩,c5,hc⟩:=Option.bind_eq_some_iff.mp hc
      obtain⟨d,c6,hc⟩:=Option.bind_eq_some_iff.mp hc
      split at hc
      case isFalse=>cases hc
      case isTrue hlen=>
      refine wl ⟨F4,e3,r,e5,R4,c5,fun F5 H5 v X5 R5 A5=>?_⟩
      have hlH5:H5 l=some (.lst vs):=X5.tmp l _ hlH4 no4
      have fl5:F5 l=none:=X5.fr l vs fl4 hlH4 no4
      have no5:¬bW σ3 e5 H5 l:=fun z=>by
        rcases X5.ow l z with z | z
        · exact no4 z
        · rw [hlH4] at z;cases z
      obtain⟨F6,R6,s6,d6,f6⟩:=cH.frozen R5 (rs:=[r]) (vs:=[v]) ⟨v,[],rfl,A5,rfl⟩ (oZ c6)
      have fl6:F6 l=none:=f6 l fl5 (by rw [hlH4];simp)
      have X6:=X5.frz s6 f6
      have ll:=da.len
      have sl:sizeLine=16777216:=sizeLine_eq
      have dv:DA K F6 d v:=by
        simp only [aH] at d6
        obtain⟨v',r',e',hv,_⟩:=d6
        cases e';exact hv
      obtain⟨R7,o7⟩:=R6.putT (ws:=vs++[v]) fl6 no5
      exact⟨vs,hlH5,by lia,.mk R7 ((E4.trans X6.s).putT hl o7) fl6 (fun z=>no5 ((o7 l).mp z)) aE ((da.mono (sF2.trans (X4.sf.trans (X5.sf.trans s6)))).append (aH.one dv)) hc⟩
  · have hd:items.drop i=[]:=List.drop_eq_nil_of_le (by lia)
    rw [hd] at hc
    cases hc
    refine .inl ⟨stop i (by lia),?_⟩
    obtain⟨R9,X9,o9⟩:=mM R1 sub gY X'.sf X'.dom X'.fr X'.lst X'.tmp X'.fd R' (fun i k xs g1 g2=>X'.wr k fun z=>by
      obtain⟨s,g⟩:=el g2
      have:=(List.getElem?_eq_some_iff.mp g).1
      have:=hW k z
      lia) fun i k xs g1 g2=>by
        obtain⟨s,g⟩:=el g2
        unfold lr at hB
        have hb:=List.all_eq_true.mp hB _ (List.mem_of_getElem? g)
        simp only [g1,g2,Option.getD_some,sP,Bool.not_true,Bool.false_or] at hb
        exact tM.mp hb
    exact q F' H' (.ref l) (X1.trans X9) R9 ⟨l,vs,rfl,X1.dom l hl,fl,hl',da,fun z=>R1.ownH l (o9 l z) hl⟩
end
end L2
namespace L2
open PySem PySem.Spec PyProof.Rows
section
variable{X:Cx}{K:PySem.W.Frag}{a b:Expr}{es:List Expr}{fa fb:FE}{fs:FA}{pos p p2 p3:Pos}{lo hi:Option Expr}
def tI:En→Rv→Option Rv:=fun _ x=>(cB x).map fun i=>.d (.int (-i))
theorem yP:yl K (rU fun i=>.int (-i)) tI:=by
  intro σ H0 F H e x z v Q R A hg q
  obtain⟨i,h5,h4⟩:=Option.map_eq_some_iff.mp hg
  cases h4
  exact⟨i,bY A h5,q F H _ (dc.refl _ _ _ _) R jZ⟩
theorem y1(ha:PE X a (fE K fa)):PE X (.UnaryOp .USub a pos) (fE K (pV tI fa)):=y3 xW yP ha
theorem bu(hK:X.K=K)(ha:PE X a (fE K fa))(hb:PE X b (fE K fb)):PE X (.BinOp a .Add b pos) (fE K (aB bH fa fb)):=kR (hK ▸ uc) yo ha hb
theorem i5(ha:PE X a (fE K fa))(hb:PE X b (fE K fb)):PE X (.BinOp a .Sub b pos) (fE K (aB cz fa fb)):=kR wZ zm ha hb
theorem eK(hK:X.K=K)(ha:PE X a (fE K fa))(hb:PE X b (fE K fb)):PE X (.BinOp a .Mult b pos) (fE K (aB dz fa fb)):=kR (hK ▸ ug) yO ha hb
theorem df(ha:PE X a (fE K fa))(hb:PE X b (fE K fb)):PE X (.BinOp a .FloorDiv b pos) (fE K (aB bX fa fb)):=kR rm wd ha hb
theorem aP(ha:PE X a (fE K fa))(hb:PE X b (fE K fb)):PE X (.BinOp a .Mod b pos) (fE K (aB aU fa fb)):=kR uf yN ha hb
theorem vG(ha:PE X a (fE K fa))(hb:PE X b (fE K fb)):PE X (.BinOp a .Pow b pos) (fE K (aB nA fa fb)):=kR wX yZ ha hb
theorem cu(hK:X.K=K)(ha:PE X a (fE K fa))(hb:PE X b (fE K fb))(hs:lh b):PE X (.Subscript a b pos) (fE K (aB dQ fa fb)):=y2 (hK ▸ Am) An ha hb hs
theorem jh{fl fh:FO}(hK:X.K=K)(he:PE X a (fE K fa))(hl:PO X lo (fO K fl))(hh:PO X hi (fO K fh)):PE X (.Subscript a (.Slice lo hi none p2) pos) (fE K (sS fa fl fh)):=by subst hK;exact rO he hl hh
structure gN (X:Cx) (K:PySem.W.Frag) (op:CmpOp) (g:En→Rv→Rv→Option Rv):Prop where
  ex:∃r,dJ X (compareOp op) r∧dI K r g
theorem oT:gN X K .Lt sO:=⟨_,yV,Aq⟩
theorem qa:gN X K .LtE vt:=⟨_,yU,Ap⟩
theorem yu:gN X K .Gt yy:=⟨_,yT,Ai⟩
theorem yt:gN X K .GtE yx:=⟨_,yS,Ah⟩
theorem ls{k:Nat}(hK:X.K=K)(hr:cf k X.A):gN X K .Eq (de false):=⟨_,hK ▸ rl hr,vo⟩
theorem yv{k:Nat}(hK:X.K=K)(hr:cf k X.A):gN X K .NotEq (de true):=⟨_,hK ▸ wW hr,vo⟩
theorem Ad:gN X K .Is zN:=⟨_,wO,Al⟩
theorem jW{op:CmpOp}{g:En→Rv→Rv→Option Rv}(h:gN X K op g)(ha:PE X a (fE K fa))(hb:PE X b (fE K fb))(hm:behindInMarks op b=false):PE X (.Compare a [op] [b] pos) (fE K (aB g fa fb)):=by
  obtain⟨r,h1,h2⟩:=h.ex;exact xu h1 h2 ha hb hm
theorem ci{op:CmpOp}{g:En→Rv→Rv→Option Rv}(h:gN X K op g)(ha:PE X a (fE K fa))(hb:PE X b (fE K fb))(hm:behindInMarks op b=false):PT X (.Compare a [op] [b] pos) (fT K (aN (aB g fa fb))):=by
  obtain⟨r,h1,h2⟩:=h.ex;exact xx h1 h2 ha hb hm
theorem uD{op op':CmpOp}{g g':En→Rv→Rv→Option Rv}{c:Expr}{fc:FE}(h:gN X K op g)(h':gN X K op' g')(ha:PE X a (fE K fa))(hb:PE X b (fE K fb))(hc:PE X c (fE K fc))(hm:lastMarks [op,op'] [b,c]=false):PE X (.Compare a [op,op'] [b,c] pos) (fE K (fB g g' fa fb fc)):=by
  obtain⟨r,h1,h2⟩:=h.ex;obtain⟨r',h3,h4⟩:=h'.ex;exact rN h1 h2 h3 h4 ha hb hc hm
structure k_ (X:Cx) (K:PySem.W.Frag) (x:Str) (g:En→List Rv→Option Rv):Prop where
  ex:(∃id r,dh X (.builtin id) r∧dg K r g∧bootBuiltins x=some (.builtin id))∨∃T r,dh X (.type T) r∧dg K r g∧bootBuiltins x=some (.type T)
theorem bZ{x:Str}{g:En→List Rv→Option Rv}(h:k_ X K x g)(hg:Gl X x)(hm:X.mg x=none)(ha:PA X (a::es) (fA K fs))(hn:x≠"__name__")(hdb:(x==("__debug__":Str))=false)
    (he:starEach (a::es) X.env=(false,eval a X.env)::starEach es X.env)(hpl:(backTo pos (starEach es X.env)).any (·.1)=false):PE X (.Call (.Name x p) (a::es) [] pos) (fE K (be g fs)):=by
  rcases h.ex with ⟨id,r,h1,h2,h3⟩ | ⟨T,r,h1,h2,h3⟩
  · exact rM h1 h2 hg hm h3 ha hn hdb he hpl
  · exact pI h1 h2 hg hm h3 ha hn hdb he hpl
theorem b_len(hK:X.K=K):k_ X K "len" (g1 iC):=⟨.inl ⟨_,_,hK ▸ lu,yJ,PySem.boot_len⟩⟩
theorem b_abs:k_ X K "abs" (g1 ni):=⟨.inl ⟨_,_,qb,ym,PyProof.Rows.boot_abs⟩⟩
theorem b_min(hc:X.calm=true):k_ X K "min" (g2 qA):=⟨.inl ⟨_,_,oW hc,yM,PyProof.Rows.boot_min⟩⟩
theorem b_max(hc:X.calm=true):k_ X K "max" (g2 ph):=⟨.inl ⟨_,_,oV hc,yL,PyProof.Rows.boot_max⟩⟩
theorem b_int:k_ X K "int" (g1 pe):=⟨.inr ⟨_,_,oU,yD,PyProof.Rows.boot_int⟩⟩
theorem b_tuple(hK:X.K=K):k_ X K "tuple" (g1 dA):=⟨.inr ⟨_,_,hK ▸ kg,uU,PyProof.Rows.boot_tuple⟩⟩
theorem b_all{k:Nat}(hK:X.K=K)(hr:cf k X.A):k_ X K "all" (g1 (i0 kM)):=⟨.inl ⟨_,_,qc hr hK,yp,p_⟩⟩
theorem b_repr{k:Nat}(hK:X.K=K)(hr:cf k X.A):k_ X K "repr" (g1 iZ):=⟨.inl ⟨_,_,hK ▸ m_ hr,xE,PyProof.Rows.boot_repr⟩⟩
abbrev kb:FT:=fun e=>some (true,e)
theorem vT.mono{ifs:List Expr}{t t':TT}(h:vT X ifs t)(m:∀σ H Q,t' σ H Q→t σ H Q):vT X ifs t':=fun pins s σ H Q I q=>h pins s σ H Q I (m σ H Q q)
theorem oz:vT X [] (fT K kb):=uB.mono fun σ H Q h=>by
  obtain⟨F,e,b,e',R,hf,q⟩:=h
  cases hf
  exact q F H (dc.refl _ _ _ _) R
theorem rL{elt iter tg:Expr}{ifs:List Expr}{scope:Scope}{fi:FI}{g:FG}{ft:FT}{fe:FE}{W:List Nat}(sc0:Scope)(N0:List Str)(cp:List (Nat × Str))(tgN:List Str)
    (hc:X.calm=true)(hsc:X.env.scope=sc0)(hN0:X.N=N0)(hi:PI X tg iter (fI K fi))
    (hg:∀C s0 H0 fp,PG (bN X scope cp tgN C s0 H0 fp) tg (fG K g W))
    (ht:∀C s0 H0 fp,vT (bN X scope cp tgN C s0 H0 fp) ifs (fT K ft))
    (he:∀C s0 H0 fp,PE (bN X scope cp tgN C s0 H0 fp) elt (fE K fe))
    (hk:scope.kind=.function)(hcell:∀y∈scope.names,y.2≠.cell)(hnames:∀y∈scope.names,y.2=.local→scope.names.lookup y.1=some .local)
    (hfr:∀y∈scope.names,y.2=.free→scope.names.lookup y.1=some .free∧sc0.names.lookup y.1=some .cell)
    (hcp:∀p∈cp,N0[p.1]?=some p.2)(hcq:∀p∈cp,sc0.names.lookup p.2=some .cell∧scope.names.lookup p.2=some .free)(hnd:(cp.map (·.1)).Nodup)(hW:∀j∈W,cp.length≤j)
    (hs:∀x,foldedSetIterable iter X.env x=pure x):
    PE X (.ListComp elt [⟨tg,iter,ifs,0⟩] scope pos) (fE K (ke cp tgN.length fi g ft fe)):=(uk sc0 N0 cp tgN hc hsc hN0 hi hg ht he hk hcell hnames hfr hcp hcq hs).mono fun _ _ _ h=>sD hnd hW h
variable{o:Expr}{fo:FE}{apos cpos:Pos}
theorem eZ(hK:X.K=K)(ho:PE X o (fE K fo))(ha:PA X (a::es) (fA K fs))(hbase:attributeBase o "append" X.env (eval o X.env)=eval o X.env)
    (hfew:((backTo cpos (starEach (a::es) X.env)).all (fun x=> !x.1)&&(backToKw cpos (keywordEach [] X.env)).all (fun x=>x.1.isSome)
      &&decide ((a::es).length+([]:List Keyword).length+(if ([]:List Keyword).isEmpty then 0 else 1) < 30))=true)
    (hline:(apos.endLine==cpos.line)=true)(hs:starEach (a::es) X.env=(false,eval a X.env)::starEach es X.env)(hplain:(backTo cpos (starEach es X.env)).any (·.1)=false):
    PE X (.Call (.Attribute o "append" apos) (a::es) [] cpos) (fE K (dW cC fo fs)):=by
  subst hK;exact vH PySem.F.slot_list_append PySem.F.type_list_append kO p4 ho ha hbase hfew hline hs hplain
theorem uE(hK:X.K=K)(ho:PE X o (fE K fo))(ha:PA X (a::es) (fA K fs))(hbase:attributeBase o "pop" X.env (eval o X.env)=eval o X.env)
    (hfew:((backTo cpos (starEach (a::es) X.env)).all (fun x=> !x.1)&&(backToKw cpos (keywordEach [] X.env)).all (fun x=>x.1.isSome)
      &&decide ((a::es).length+([]:List Keyword).length+(if ([]:List Keyword).isEmpty then 0 else 1) < 30))=true)
    (hline:(apos.endLine==cpos.line)=true)(hs:starEach (a::es) X.env=(false,eval a X.env)::starEach es X.env)(hplain:(backTo cpos (starEach es X.env)).any (·.1)=false):
    PE X (.Call (.Attribute o "pop" apos) (a::es) [] cpos) (fE K (dW gu fo fs)):=by
  subst hK;exact vH PySem.F.slot_list_pop PySem.F.type_list_pop qV uw ho ha hbase hfew hline hs hplain
end
end L2
namespace L2
open PySem PySem.Spec PyProof.Rows
theorem nS{K:PySem.W.Frag}{H:Hp}{a:Addr}{ns:List Int}{m:FM}{as':List Sv}{Q:VK}{E:XK}(hS:eM K H a (ns.map V.int))(hm:m [.d (.list (ns.map .int))]=some (.d (.bool true),as'))(q:∀H',Q (.bl true) H'):bI K 1 m [.ref a] H Q E:=by
  refine⟨rfl,H,[.d (.list (ns.map .int))],_,as',?_,?_,hm,trivial,fun F' H' v X' R' A'=>?_⟩
  · refine⟨au.refl _,rfl,fun i x h=>?_,fun i xs h=>?_,fun i xss h=>?_,fun i j l f1 _=>?_⟩
    · match i,h with
      | 0,h=>
        simp at h;subst h
        exact⟨.ref a,rfl,cx.mpr ⟨a,_,rfl,hS,aH.ints.mpr rfl⟩⟩
      | i+1,h=>simp at h
    · match i,h with
      | 0,h=>simp at h
      | i+1,h=>simp at h
    · match i,h with
      | 0,h=>simp at h
      | i+1,h=>simp at h
    · rcases f1 with ⟨_,h,_⟩ | ⟨_,_,_,h,_⟩
      · match i,h with
        | 0,h=>simp at h
        | i+1,h=>simp at h
      · match i,h with
        | 0,h=>simp at h
        | i+1,h=>simp at h
  · intro i xss h
    match i,h with
    | 0,h=>simp at h
    | i+1,h=>simp at h
  · rw [bQ.mp (show DA K F' (.bool true) v from A')];exact q H'
end L2
namespace L2
open PySem PySem.Spec PyProof.Rows
section
variable{K:PySem.W.Frag}{σ:L2.St}{H0 F H F' H':Hp}{e e':En}
end
section
variable{X:Cx}{K:PySem.W.Frag}{a b:Expr}{es:List Expr}{fa fb:FE}{fs:FA}{pos p p2 p3 pos':Pos}{x:Str}{i:Nat}
def nC(k:Int):En→Option Int:=fun _=>some k
end
end L2
namespace L2
open PySem PySem.Spec PyProof.Rows
theorem iz{C:Int→Int→Bool}{f:Int→Int→PyData}{e:En}{i j:Int}(h:C i j=true):gI C f e (.d (.int i)) (.d (.int j))=some (.d (f i j)):=by simp [gI,cB,h]
theorem ej{e:En}{i j:Int}:bH e (.d (.int i)) (.d (.int j))=some (.d (.int (i+j))):=rfl
theorem gq{e:En}{i j:Int}:cz e (.d (.int i)) (.d (.int j))=some (.d (.int (i - j))):=rfl
theorem cA{e:En}{i j:Int}(h:iH i j=true):dz e (.d (.int i)) (.d (.int j))=some (.d (.int (i*j))):=by
  unfold dz tJ qC;rw [iz h];rfl
theorem eU{i j:Int}(h1: -(2 ^ 64) < i)(h2:i < 2 ^ 64):iH i j=true:=by
  have:eF i=true:=by unfold eF;rw [decide_eq_true h1,decide_eq_true h2];rfl
  unfold iH;rw [this];simp
theorem lR{i j:Int}(h1: -(2 ^ 64) < j)(h2:j < 2 ^ 64):iH i j=true:=by
  have:eF j=true:=by unfold eF;rw [decide_eq_true h1,decide_eq_true h2];rfl
  unfold iH;rw [this];simp
theorem aJ{e:En}{i j:Int}(h:0 < j):aU e (.d (.int i)) (.d (.int j))=some (.d (.int (i % j))):=by
  unfold aU;rw [iz (by simp;lia)]
  rw [Int.fmod_eq_emod_of_nonneg i (by lia)]
theorem cn{e:En}{i j:Int}(h:0 < j)(h2:Bt 8000 j):bX e (.d (.int i)) (.d (.int j))=some (.d (.int (i / j))):=by
  unfold bX;rw [iz (by simp [gP.mpr h2];lia)]
  rw [Int.fdiv_eq_ediv_of_nonneg i (by lia)]
theorem lB{e:En}{i j:Int}{neg:Bool}:de neg e (.d (.int i)) (.d (.int j))=some (.d (.bool (if neg then !(i==j) else i==j))):=by
  unfold de;simp [eP,SeqAt.shaped,PyData.canLay0,PyData.depth,PyData.eqv]
theorem lH{e:En}{i j:Int}:sO e (.d (.int i)) (.d (.int j))=some (.d (.bool (decide (i < j)))):=rfl
theorem lF{e:En}{i j:Int}:vt e (.d (.int i)) (.d (.int j))=some (.d (.bool (decide (i≤j)))):=rfl
theorem lD{e:En}{i j:Int}:yy e (.d (.int i)) (.d (.int j))=some (.d (.bool (decide (j < i)))):=rfl
theorem lC{e:En}{i j:Int}:yx e (.d (.int i)) (.d (.int j))=some (.d (.bool (decide (j≤i)))):=rfl
theorem jy{e:En}{i j:Int}:g2 qA e [.d (.int i),.d (.int j)]=some (.d (.int (min i j))):=by
  show some (Rv.d (.int (if j < i then j else i)))=_
  congr 3
  split<;>lia
theorem jx{e:En}{i j:Int}:g2 ph e [.d (.int i),.d (.int j)]=some (.d (.int (max i j))):=by
  show some (Rv.d (.int (if j > i then j else i)))=_
  congr 3
  split<;>lia
theorem jz{e:En}{i:Int}:tI e (.d (.int i))=some (.d (.int (-i))):=rfl
theorem iB{e:En}{b:Bool}:g1 pe e [.d (.bool b)]=some (.d (.int (if b then 1 else 0))):=rfl
theorem jw{e:En}{i:Int}:g1 ni e [.d (.int i)]=some (.d (.int i.natAbs)):=by
  show some (Rv.d (.int (if i < 0 then -i else i)))=_
  congr 3
  split<;>lia
theorem eO{j:Int}(h1:0 < j)(h2:j < 2 ^ 64):Bt 8000 j:=Bt.mono (m:=64) (by unfold Bt;lia) (by decide)
theorem gk{α:Type}{xs:List α}{i:Int}(h0:0≤i)(h:i < xs.length):atI xs i=xs[i.toNat]?:=by
  unfold atI yI
  rw [if_pos h0,if_pos h];rfl
theorem qu{e:En}{i:Nat}{xs:List PyData}{neg:Bool}(h:e[i]?=some (some (.l xs)))(hs:SeqAt.shaped (.list xs)=true):de neg e (.s i) (.l [])=some (.d (.bool (if neg then !xs.isEmpty else xs.isEmpty))):=by
  unfold de
  simp only [eP,h,Option.bind_some,hs]
  have h0:SeqAt.shaped (.list [])=true:=by simp [SeqAt.shaped,PyData.canLay0,PyData.canLayAll0,PyData.depth,PyData.depthAll]
  rw [h0]
  cases xs<;>simp [PyData.eqv,PyData.eqvAll]
theorem mJ(ns:List Int):SeqAt.shaped (.list (ns.map .int))=true∧SeqAt.shaped (.tuple (ns.map .int))=true:=by
  have h1:PyData.canLayAll0 (ns.map PyData.int)=true:=by
    induction ns with
    | nil=>rfl
    | cons n r ih=>simp [PyData.canLayAll0,PyData.canLay0,ih]
  have h2:PyData.depthAll (ns.map PyData.int)=0:=by
    clear h1
    induction ns with
    | nil=>rfl
    | cons n r ih=>simp [PyData.depthAll,PyData.depth,ih]
  constructor<;>simp [SeqAt.shaped,PyData.canLay0,PyData.depth,h1,h2]
theorem cX{own:gj}{g:FG}{f:FS}(P:Nat→En→Prop):∀(items:List PyData) (k:Nat) (e:En),(∀i x e,items[i]?=some x→P (k+i) e→∃e1 e2,g x e=some e1∧f e1=some (.nx e2)∧keeps own e2∧P (k+i+1) e2)→P k e→∃e',lz own g f items e=some (.nx e')∧P (k+items.length) e'
  | [],k,e,_,h=>⟨e,rfl,h⟩
  | x::r,k,e,hs,h=>by
    obtain⟨e1,e2,h1,h2,h3,h4⟩:=hs 0 x e rfl h
    obtain⟨e',h5,h6⟩:=cX P r (k+1) e2 (fun i y e hy hp=>by
      have:=hs (i+1) y e (by simpa using hy) (by rw [show k+(i+1)=k+1+i by lia];exact hp)
      rw [show k+(i+1)+1=k+1+i+1 by lia] at this
      exact this) h4
    refine⟨e',?_,by rw [List.length_cons,show k+(r.length+1)=k+1+r.length by lia];exact h6⟩
    unfold lz
    simp only [h1,h2,Option.bind_some,if_pos h3]
    exact h5
theorem cL{e:En}:keeps [] e:=fun _ h=>by cases h
theorem eE{W:List Nat}{fi:FI}{g:FG}{f:FS}{e e1:En}{items:List PyData}(h:fi e=some (items,[],e1)):fY W fi g f e=lz [] g f items e1:=by
  unfold fY;rw [h];rfl
theorem dC{lo:Int}{n i:Nat}{x:PyData}(h:(bv lo n)[i]?=some x):x=.int (lo+i)∧i < n:=by
  unfold bv at h
  rw [List.getElem?_map] at h
  obtain⟨k,h1,rfl⟩:=Option.map_eq_some_iff.mp h
  obtain⟨h2,h3⟩:=List.getElem?_eq_some_iff.mp h1
  simp at h2 h3
  subst h3
  exact⟨rfl,h2⟩
theorem gD{lo:Int}{n:Nat}:(bv lo n).length=n:=by simp [bv]
theorem cK{fs:FA}{e e1:En}{n:Int}(h:fs e=some ([.d (.int n)],e1))(h1: -1000000≤n)(h2:n≤1000000):cU fs e=some (bv 0 n.toNat,[],e1):=by
  unfold cU;rw [h]
  have:rZ n=true:=by unfold rZ;rw [decide_eq_true h1,decide_eq_true h2];rfl
  simp [cB,this]
theorem gK{ft:FT}{f:FS}(P:En→Prop)(μ:En→Nat)(hs:∀e,P e→(∃e1,ft e=some (false,e1)∧True)∨∃e1 e2,ft e=some (true,e1)∧f e1=some (.nx e2)∧P e2∧μ e2 < μ e):
    ∀(n:Nat) (e:En),P e→μ e < n→∃e0 e',eH ft f n e=some (.nx e')∧P e0∧ft e0=some (false,e'):=by
  intro n
  induction n with
  | zero=>intro e _ h;lia
  | succ n ih=>
    intro e hp hm
    rcases hs e hp with ⟨e1,h1,_⟩ | ⟨e1,e2,h1,h2,h3,h4⟩
    · exact⟨e,e1,by unfold eH;rw [h1];rfl,hp,h1⟩
    · obtain⟨e0,e',g1,g2⟩:=ih e2 h3 (by lia)
      exact⟨e0,e',by unfold eH;rw [h1];simp only [Option.bind_some,if_true,h2];exact g1,g2⟩
theorem fH{cs:En}{ft:FT}{fe:FE}{b:PyData→Bool}{y:PyData→PyData}:∀(items:List PyData) (t:Option Sv) (acc:List PyData),(∀x∈items,ft (cs++[some (.d x)])=some (b x,cs++[some (.d x)]))→(∀x∈items,b x=true→fe (cs++[some (.d x)])=some (.d (y x),cs++[some (.d x)]))→
    acc.length+items.length≤1000000→∃t',gS (aj cs.length) ft fe items (cs++[t]) acc=some (acc++(items.filter b).map y,cs++[t'])
  | [],t,acc,_,_,_=>⟨t,by simp [gS]⟩
  | x::r,t,acc,h1,h2,hl=>by
    have hg:aj cs.length x (cs++[t])=some (cs++[some (.d x)]):=by simp [aj]
    have h1x:=h1 x (by simp)
    unfold gS
    rw [hg]
    simp only [Option.bind_some,h1x]
    cases hb:b x with
    | true=>
      simp only [if_true,h2 x (by simp) hb,Option.bind_some,oY]
      rw [if_pos (by simp at hl;lia)]
      obtain⟨t',ih⟩:=fH (b:=b) (y:=y) r (some (.d x)) (acc++[y x]) (fun z hz=>h1 z (by simp [hz])) (fun z hz=>h2 z (by simp [hz])) (by simp at hl ⊢;lia)
      exact⟨t',by rw [ih];simp [hb]⟩
    | false=>
      simp only [Bool.false_eq_true,if_false]
      obtain⟨t',ih⟩:=fH (b:=b) (y:=y) r (some (.d x)) acc (fun z hz=>h1 z (by simp [hz])) (fun z hz=>h2 z (by simp [hz])) (by simp at hl;lia)
      exact⟨t',by rw [ih];simp [hb]⟩
theorem qL{fa:FE}{e e1:En}{xs:List PyData}(h:fa e=some (.d (.tuple xs),e1)):lL fa e=some (xs,[],e1):=by
  unfold lL;rw [h];rfl
theorem wk{fa:FE}{e e1:En}{xs:List PyData}(h:fa e=some (.l xs,e1)):lL fa e=some (xs,[],e1):=by
  unfold lL;rw [h];rfl
theorem mU{cp:List (Nat × Str)}{nT:Nat}{fi:FI}{g:FG}{ft:FT}{fe:FE}{e e1 cs:En}{t t':En}{items out:List PyData}(h1:fi e=some (items,[],e1))(hc:nB cp nT e1=cs++t)(hl:cs.length=cp.length)(h3:gS g ft fe items (nB cp nT e1) []=some (out,cs++t')):ke cp nT fi g ft fe e=some (.l out,e1):=by
  have key:∀i x,e1[i]?=some (some (.l x))→∀k,jV cp i=some k→(cs++t')[k]?=some (some (.l x)):=by
    intro i x hi k hk
    obtain⟨s,hs⟩:=el hk
    have hk2:k < cp.length:=(List.getElem?_eq_some_iff.mp hs).1
    have:(nB cp nT e1)[k]?=some (some (.l x)):=by
      unfold nB
      rw [List.getElem?_append_left (by simpa using hk2),List.getElem?_map,hs]
      simp [hi,yK]
    rw [hc,List.getElem?_append_left (by lia)] at this
    rw [List.getElem?_append_left (by lia)]
    exact this
  unfold ke
  rw [h1]
  simp only [Option.bind_some,List.all_nil,if_true,h3]
  have hb:lr cp (cs++t') e1=true:=by
    unfold lr
    rw [List.all_eq_true]
    intro p hp
    match hi:e1[p.1]? with
    | none=>simp [sP]
    | some none=>simp [sP]
    | some (some (.d x))=>simp [sP]
    | some (some (.n x))=>simp [sP]
    | some (some (.l x))=>
      cases hq:jV cp p.1 with
      | none=>
        unfold jV at hq
        rw [List.findIdx?_eq_none_iff] at hq
        have:=hq p hp
        simp at this
      | some k=>simp [key p.1 x hi k hq,sP]
  rw [if_pos hb]
  congr 2
  refine List.ext_getElem? fun i=>?_
  rw [bJ]
  match hi:e1[i]? with
  | none=>rfl
  | some none=>rfl
  | some (some (.d x))=>rfl
  | some (some (.n x))=>rfl
  | some (some (.l x))=>
    cases hp:jV cp i with
    | none=>simp [hp]
    | some k=>simp [hp,key i x hi k hp]
theorem jp{α:Type}{xs:List α}{i:Int}(h0:0≤i)(h1:i < xs.length):∃x∈xs,atI xs i=some x:=by
  rw [gk h0 h1]
  exact⟨xs[i.toNat]'(by lia),List.getElem_mem _,List.getElem?_eq_getElem _⟩
theorem qy{e:En}{xs:List PyData}{i:Int}:dQ e (.l xs) (.d (.int i))=(atI xs i).map .d:=rfl
theorem f_{e:En}{xs:List PyData}{i:Int}:dQ e (.d (.tuple xs)) (.d (.int i))=(atI xs i).map .d:=rfl
theorem nj{e:En}{xs:List PyData}{i:Int}:dQ e (.d (.list xs)) (.d (.int i))=(atI xs i).map .d:=rfl
theorem qz{e:En}{j:Nat}{xs:List PyData}{i:Int}(h:e[j]?=some (some (.l xs))):dQ e (.s j) (.d (.int i))=(atI xs i).map .d:=by
  simp [dQ,er,h,cB]
theorem nz{e:En}{xs:List PyData}:g1 iC e [.d (.tuple xs)]=some (.d (.int xs.length)):=rfl
theorem lG{e:En}{xs:List PyData}:g1 iC e [.d (.list xs)]=some (.d (.int xs.length)):=rfl
theorem nq{e:En}{xs:List PyData}:g1 iC e [.l xs]=some (.d (.int xs.length)):=rfl
theorem nu{e:En}{j:Nat}{xs:List PyData}(h:e[j]?=some (some (.l xs))):g1 iC e [.s j]=some (.d (.int xs.length)):=by
  simp [g1,iC,er,h]
theorem jB{e:En}{j:Nat}{xs:List PyData}(h:e[j]?=some (some (.l xs))):g1 dA e [.s j]=some (.d (.tuple xs)):=by
  simp [g1,dA,er,h]
theorem jA{e:En}{xs:List PyData}:g1 dA e [.l xs]=some (.d (.tuple xs)):=rfl
theorem iD{e:En}{xs:List PyData}:g1 dA e [.d (.list xs)]=some (.d (.tuple xs)):=rfl
theorem jC{e:En}{xs:List PyData}:g1 dA e [.d (.tuple xs)]=some (.d (.tuple xs)):=rfl
theorem qH{e:En}{xs:List PyData}{lo hi:Option Int}:yz e (.d (.tuple xs)) lo hi=some (.d (.tuple (cutD xs lo hi))):=rfl
theorem iy{e:En}{xs ys:List PyData}(h:xs.length+ys.length≤1000000):bH e (.d (.tuple xs)) (.d (.tuple ys))=some (.d (.tuple (xs++ys))):=by
  simp [bH,tJ,vq,gI,cB,om,er,h]
theorem qB{e:En}{i j:Int}(h:j≠0):aU e (.d (.int i)) (.d (.int j))=some (.d (.int (i.fmod j))):=by
  unfold aU;rw [iz (by simpa using h)]
theorem oo{e:En}{i j:Int}(h:j≠0)(h2:Bt 8000 j):bX e (.d (.int i)) (.d (.int j))=some (.d (.int (i.fdiv j))):=by
  unfold bX;rw [iz (by simp [gP.mpr h2,h])]
theorem gX{e:En}{i j:Int}(h:rE i j=true):nA e (.d (.int i)) (.d (.int j))=some (.d (.int (i ^ j.toNat))):=by
  unfold nA;rw [iz h]
theorem hU:rE 10 18=true:=by decide
theorem fQ{f g:FS}{e e1:En}(h:f e=some (.nx e1)):aI f g e=g e1:=by unfold aI;rw [h];rfl
theorem zi{ft:FT}{f g:FS}{e e1:En}(h:ft e=some (true,e1)):gc ft f g e=f e1:=by unfold gc;rw [h];rfl
theorem zh{ft:FT}{f g:FS}{e e1:En}(h:ft e=some (false,e1)):gc ft f g e=g e1:=by unfold gc;rw [h];rfl
def vy(i:Nat)(e:En):Nat:=match e[i]? with
  | some (some (.l xs))=>xs.length
  | _=>0
def kP(i:Nat)(e:En):Nat:=match e[i]? with
  | some (some (.d (.int k)))=>k.natAbs
  | _=>0
theorem lP{n m:Nat}(h:n < 2 ^ m)(hm:m≤4200):n < 2 ^ 4200:=Nat.lt_of_lt_of_le h (Nat.pow_le_pow_right (by decide) hm)
theorem ey{α:Type}{a:α}{r:List α}:atI (a::r) 0=some a:=by
  rw [gk (by decide) (by simp)];rfl
theorem ez{α:Type}{a b:α}{r:List α}:atI (a::b::r) 1=some b:=by
  rw [gk (by decide) (by simp;lia)];rfl
theorem m7{α:Type}{a b c:α}{r:List α}:atI (a::b::c::r) 2=some c:=by
  rw [gk (by decide) (by simp;lia)];rfl
theorem m8{α:Type}{a b c d:α}{r:List α}:atI (a::b::c::d::r) 3=some d:=by
  rw [gk (by decide) (by simp;lia)];rfl
theorem qg{a b c d:PyData}:cutD [a,b,c,d] none (some 2)=[a,b]:=rfl
theorem ix{a b c d:PyData}:cutD [a,b,c,d] (some 2) none=[c,d]:=rfl
theorem iw{a b c:PyData}:cutD [a,b,c] (some 1) none=[b,c]:=rfl
theorem me(ns:List Int):PyData.canLayAll0 (ns.map PyData.int)=true:=by
  induction ns with
  | nil=>rfl
  | cons n r ih=>simp [PyData.canLayAll0,PyData.canLay0,ih]
theorem l_{x:Int}:∀(ns:List Int),((ns.map PyData.int).any fun y=>PyData.eqv y (.int x))=ns.contains x
  | []=>rfl
  | n::r=>by
    rw [List.map_cons,List.any_cons,l_ r,List.contains_cons]
    show(n==x || _)=_
    rw [show(n==x)=(x==n) by rw [Bool.eq_iff_iff];simp;exact eq_comm]
theorem gW{e:En}{x:Int}{ns:List Int}{neg:Bool}:Af neg e (.d (.int x)) (.d (.tuple (ns.map .int)))=some (.d (.bool (if neg then !ns.contains x else ns.contains x))):=by
  unfold Af
  simp only [eP,er,Option.bind_some,me,l_]
  simp [PyData.canLay0,PyData.depth]
theorem lE{e:En}{x a b:Int}{neg:Bool}:Af neg e (.d (.int x)) (.d (.tuple [.int a,.int b]))=some (.d (.bool (if neg then !(a==x || b==x) else(a==x || b==x)))):=by
  have h:=gW (e:=e) (x:=x) (ns:=[a,b]) (neg:=neg)
  simp only [List.map_cons,List.map_nil] at h
  rw [h]
  have:[a,b].contains x=(a==x || b==x):=by
    simp only [List.contains_cons,List.contains_nil,Bool.or_false]
    rw [show(x==a)=(a==x) by rw [Bool.eq_iff_iff];simp;exact eq_comm,show(x==b)=(b==x) by rw [Bool.eq_iff_iff];simp;exact eq_comm]
  rw [this]
theorem mj(W:bU):bj W=.tuple [.int W.things,.tuple (W.ties.map ay),.tuple (W.pat.map .int),.int W.asks]:=rfl
end L2
namespace L2
open PySem PySem.Spec PyProof.Rows
abbrev Std:=List Int × List Int
structure yj (W:bU) (s:Std):Prop where
  inw:∀k∈s.1,oS W k
  nd:s.1.Nodup
  tk:s.2.length≤2*s.1.length
  th:∀t∈s.2,0≤t∧t < W.things
def nxt(W:bU)(s:Std)(k:Int)(b:Bool):Std:=(bU.askd s.1 k,W.took s.2 k b)
structure Nd where
  tie:Int
  yes:Int
  no:Int
def yh(W:bU)(n:Nat)(S:Nat→Std)(i:Nat)(k:Int)(b:Bool)(l:Int):Prop:=l= -1∨(0≤l∧l < (n:Int)∧S l.toNat=nxt W (S i) k b)
structure z3 (W:bU) (n:Nat) (S:Nat→Std) (i:Nat) (x:Nd):Prop where
  tie:oS W x.tie
  st:yj W (S i)
  may:W.may (S i).1 (S i).2 x.tie=true
  yes:yh W n S i x.tie true x.yes
  no:yh W n S i x.tie false x.no
def z8(W:bU)(T:List Nd)(S:Nat→Std):Prop:=∀(i:Nat) (x:Nd),T[i]?=some x→z3 W T.length S i x
structure Wt where
  st:Std
  par:Int
  side:Int
structure Bd (W:bU) (T:List Nd) (S:Nat→Std) (ws:List Wt):Prop where
  tr:z8 W T S
  wt:∀w∈ws,yj W w.st∧(w.par= -1∨∃(p:Nat) (x:Nd),w.par=(p:Int)∧T[p]?=some x∧((w.side=0∧w.st=L2.nxt W (S p) x.tie true)∨(w.side=1∧w.st=L2.nxt W (S p) x.tie false)))
  side:∀w∈ws,w.side=0∨w.side=1
end L2
namespace L2
open PySem PySem.Spec PyProof.Rows
def nm(nums:List Int)(l:Int):Int:=(atI nums l).getD (-1)
structure AO (order:List Int) (n:Nat) (nums:List Int):Prop where
  len:nums.length=n+1
  top:nums[n]?=some (-1)
  at':∀(j:Nat) (v:Int),j < n→nums[j]?=some v→v= -1∨∃p:Nat,v=(p:Int)∧order[p]?=some (j:Int)
def qW(T:List Nd)(w:Int):Nd:=T.getD w.toNat ⟨0,0,0⟩
end L2
namespace L2
open PySem PySem.Spec PyProof.Rows
structure Bl (S:Nat→Std) (n:Nat) (ss:List Std):Prop where
  len:ss.length=n
  at':∀(j:Nat) (s:Std),ss[j]?=some s→s.1.length≤(S j).1.length∧s.2.length≤2*s.1.length∧(∀k∈s.1,0≤k∧k < 16)∧∀t∈s.2,0≤t∧t < 12
end L2
namespace L2
open PySem PySem.Spec PyProof.Rows
theorem cc(s:String):PyData.strOk (Str.ofString s)=true:=by
  rw [Str.ofString_eq_toList]
  unfold PyData.strOk
  simp only [List.size_toArray,List.length_map]
  rw [show(List.map Char.toNat s.toList).toArray.all (fun a=>decide (a < 1114112)) 0 s.toList.length=(List.map Char.toNat s.toList).all (fun a=>decide (a < 1114112)) by simp]
  rw [List.all_map,List.all_eq_true]
  intro c _
  show decide (c.toNat < 1114112)=true
  rw [decide_eq_true_eq]
  have:=c.valid
  unfold UInt32.isValidChar Nat.isValidChar at this
  show c.val.toNat < _
  lia
theorem cQ{a b:Str}(h1:PyData.strOk a=true)(h2:PyData.strOk b=true):PyData.strOk (a++b)=true:=by
  unfold PyData.strOk at*
  rw [show(a++b).cps=a.cps++b.cps from rfl]
  simp only [Array.all_append,h1,h2,Bool.and_self]
theorem j'{sep:Str}(h:PyData.strOk sep=true):∀(ts:List Str),(∀t∈ts,PyData.strOk t=true)→PyData.strOk (Str.join sep ts)=true
  | [],_=>by show PyData.strOk Str.empty=true;simp [PyData.strOk,Str.empty]
  | [x],hx=>hx x (by simp)
  | x::y::r,hx=>cQ (cQ (hx x (by simp)) h) (j' h (y::r) fun t ht=>hx t (by simp at ht ⊢;exact .inr ht))
theorem pO{ts:List Str}(h:∀t∈ts,PyData.strOk t=true):PyData.strOk (tupleText ts)=true:=by
  unfold tupleText
  exact cQ (cQ (cc _) (j' (cc _) ts h)) (cc _)
structure Sz (n dep:Nat) (d:PyData):Prop where
  fl:iX d=true
  sh:d.showable=true
  dp:d.depth≤dep
  ln:d.shown.length≤n
  so:PyData.strOk d.shown=true
theorem tK{e:En}{d:PyData}(h:il d=true):g1 iZ e [.d d]=some (.d (.str d.shown)):=by
  simp [g1,iZ,h]
theorem tH{e:En}{s:Str}(h:PyData.strOk s=true):de false e (.d (.str s)) (.d (.str s))=some (.d (.bool true)):=by
  simp [de,eP,SeqAt.shaped,PyData.canLay0,PyData.depth,PyData.eqv,h]
end L2
namespace L2
open PySem PySem.Spec PyProof.Rows
def rn(T:List Nd)(ans:List Bool):Nat→Int→List (Int × Bool)
  | 0,_=>[]
  | f+1,at'=>if at' < 0 then [] else((qW T at').tie,ans.getD (qW T at').tie.toNat false)::rn T ans f (if ans.getD (qW T at').tie.toNat false=true then(qW T at').yes else(qW T at').no)
def rt(T:List Nd):Int:=if T.length=0 then -1 else 0
structure AS (W:bU) (T:List Nd) (S:Nat→Std) (ans:List Bool) (r:List (Int × Bool)) (a:Int):Prop where
  at':a= -1∨(0≤a∧a < (T.length:Int)∧r.length≤(S a.toNat).1.length)
  eq:r++rn T ans (17 - r.length) a=rn T ans 17 (rt T)
  len:r.length≤16
  inw:∀p∈r,oS W p.1
theorem Sz.bool{b:Bool}:Sz 5 2 (.bool b):=by
  cases b
  · exact⟨rfl,rfl,by simp [PyData.depth],by show(Str.ofString "False").length≤5;decide,cc _⟩
  · exact⟨rfl,rfl,by simp [PyData.depth],by show(Str.ofString "True").length≤5;decide,cc _⟩
end L2
namespace L2
open PySem PySem.Spec PyProof.Rows
abbrev Fr:=Int × Int
def dF(f:Fr):PyData:=.tuple [.int f.1,.int f.2]
def tm(a b:Fr):Fr:=a_ (a.1*b.1) (a.2*b.2)
def pl(a b:Fr):Fr:=a_ (a.1*b.2+b.1*a.2) (a.2*b.2)
structure Bi (M:Int) (f:Fr):Prop where
  pos:0 < f.2
  lo:0≤f.1
  hi:f.1≤f.2
  dv:f.2 ∣ M
structure zI (M i:Int) (f:Fr):Prop where
  pos:0 < f.2
  lo:0≤f.1
  hi:f.1≤i*f.2
  dv:f.2 ∣ M
def bp(W:bU):List Int→Int
  | []=>1
  | k::r=>(W.tie k).bot*bp W r
def yq(W:bU):Int:=bp W W.rng
def ch(W:bU)(k:Int)(b:Bool):Fr:=if b then((W.tie k).top,(W.tie k).bot) else((W.tie k).bot - (W.tie k).top,(W.tie k).bot)
structure Bk (W:bU) (S:Nat→Std) (n:Nat) (rs:List Fr):Prop where
  len:rs.length=n
  at':∀(j:Nat) (f:Fr),rs[j]?=some f→Bi (bp W (S j).1) f
structure Be (W:bU) (i:Nat) (ss:List Fr):Prop where
  len:ss.length=W.ties.length
  at':∀(j:Nat) (f:Fr),ss[j]?=some f→zI (yq W) (i:Int) f
end L2
namespace L2
open PySem PySem.Spec PyProof.Rows
def x4(sc:Scope)(x:Str):Bool:=match sc.names.lookup x with
  | some .local=>true
  | some .cell=>true
  | some .free=>true
  | _=>false
theorem uZ{sc:Scope}{x:Str}(h:x4 sc x=true):x8 sc x:=by
  unfold x4 at h
  unfold x8
  split at h
  · rename_i e;exact .inl e
  · rename_i e;exact .inr (.inl e)
  · rename_i e;exact .inr (.inr e)
  · cases h
section
variable{X:Cx}{K:PySem.W.Frag}
theorem qw(i:Nat){x:Str}{pos:Pos}(hN:X.N[i]?=some x)(hv:x4 X.env.scope x=true)(hd:((x==("__debug__":Str)) || (x==("__classdict__":Str)))=false):PE X (.Name x pos) (fE K (ae i)):=qv i hN (uZ hv) (Bool.or_eq_false_iff.mp hd).1 (Bool.or_eq_false_iff.mp hd).2
end
end L2
namespace L2
open PySem PySem.Spec PyProof.Rows
section
variable{X:Cx}{tg a b c:Expr}{ta:TA}{p pos p2 pos2:Pos}
end
section
variable{K:PySem.W.Frag}{σ:L2.St}
end
section
variable{X:Cx}{K:PySem.W.Frag}{tg a b c:Expr}{fs:FA}{pos p p2 pos2:Pos}
end
end L2
namespace L2
open PySem PySem.Spec PyProof.Rows
end L2
namespace L2
open PySem PySem.Spec PyProof.Rows
section
variable(P:Program)(w:World)
end
section
variable{P:Program}{w:World}{H H':Hp}{h h':Heap}{a:Addr}{o:HO}
end
section
variable{P:Program}{w:World}{H:Hp}{h h':Heap}{x e:Addr}{o':HO}
end
section
variable{fs fs' ex ex':List Addr}{H H1 H2:Hp}{h h1 h2 h':Heap}{a x e:Addr}{o:HO}
end
end L2
namespace L2
open PySem PySem.Spec PyProof.Rows
section
variable{X:Cx}{pins:List (Addr × Obj)}{σ:List (Option V)}{H H':Hp}{s:Shared}{h':Heap}
end
end L2
namespace L2
open PySem PySem.Spec PyProof.Rows
section
variable{X:Cx}
variable{a b:Expr}{ta tb:TE}{pos:Pos}
variable{tA tB':TT}{cO:List Expr}
end
end L2
namespace L2
open PySem PySem.Spec PyProof.Rows
section
variable{X:Cx}{pins:List (Addr × Obj)}{σ:St}{H:Hp}{s:Shared}{a:Addr}{xs ys:List V}
end
section
variable{X:Cx}{pins:List (Addr × Obj)}{σ:St}{H:Hp}{s:Shared}{E:Value→Shared→Prop}
end
section
variable{X:Cx}{st:Stmt}{cO:List Stmt}{t u:TS}{e:Expr}{te:TE}{pos:Pos}
end
section
variable{X:Cx}{pos:Pos}
end
section
variable{X:Cx}{pos:Pos}
end
end L2
namespace L2
open PySem PySem.Spec PyProof.Rows
section
variable{X:Cx}{tg:Expr}
end
end L2
namespace L2
open PySem PySem.Spec PyProof.Rows
section
variable{X:Cx}{a b c:Expr}{ta tb tc:TE}{pos:Pos}
end
section
variable{X:Cx}{a b c:Expr}{ta tb tc:TE}{pos:Pos}
end
end L2
namespace L2
open PySem PySem.Spec PyProof.Rows
section
variable{prog:Program}{w:World}{A:Around}{E:Value→Shared→Prop}{s:Shared}{K:PySem.W.Frag}{x dx C f:Addr}{mA:Str→Option Value}{name:Str}{v:Value}
end
section
variable{P:Program}{w:World}{H H':Hp}{h h':Heap}{a C dx:Addr}{fs fs':List (Str × V)}
end
section
variable{X:Cx}{pins:List (Addr × Obj)}{σ:St}{H:Hp}{s:Shared}{a C dx:Addr}{fs:List (Str × V)}{f:Str}{v:V}{A:Around}{E:Value→Shared→Prop}
end
section
variable{X:Cx}{o e value:Expr}{f:Str}{pos pos' tpos:Pos}{ta tv:TE}
end
section
variable{X:Cx}{pins:List (Addr × Obj)}{σ:St}{H:Hp}{s:Shared}{A:Around}{E:Value→Shared→Prop}{Q:Value→Shared→Prop}{c:Value}{b:Bool}
end
end L2
namespace L2
open PySem PySem.Spec PyProof.Rows
section
variable{X:Cx}{e:Expr}{es:List Expr}{te:TE}{t:TA}{pos:Pos}
end
section
variable{X:Cx}{pins:List (Addr × Obj)}{σ:St}{H:Hp}{s s':Shared}
end
section
variable{X:Cx}{CX:mX}{k:Nat}{f C:Addr}{fd:FuncData}{ps:List Str}{sp:Sp}{dvs:List V}{ds:List Value}{E:XK}{x m:Str}{p pos apos:Pos}{e o:Expr}{es:List Expr}{ta:TE}{t:TA}
end
section
variable{X:Cx}{CX:mX}{k:Nat}{f C:Addr}{fd:FuncData}{ps ks:List Str}{sp:Sp}{E:XK}{x m:Str}{p pos apos kpos:Pos}{e o:Expr}{es:List Expr}{kws:List Keyword}{te ta:TE}{t tk:TA}{nm:Option Str}
variable{g:List Value→List Value→List Value}{gV:List V→List V→List V}
end
end L2
namespace L2
open PySem PySem.Spec PyProof.Rows
section
variable{X:Cx}{x:Str}{p pos:Pos}{e:Expr}{es:List Expr}{t:TA}{id T:String}{r:List V→Hp→VK→Prop}
end
end L2
namespace L2
open PySem PySem.Spec PyProof.Rows
section
variable{κ:Type}[DecidableEq κ]
def Av(kvs:List (κ × V))(k:κ)(v:V):List (κ × V):=
  if (kvs.any fun kv=>decide (kv.1=k))=true then kvs.map (fun kv=>if kv.1=k then(kv.1,v) else kv) else kvs++[(k,v)]
end
section
variable{P:Program}{w:World}{H:Hp}{h:Heap}{a:Addr}
end
section
variable{X:Cx}{pins:List (Addr × Obj)}{σ:St}{H:Hp}{s:Shared}{a:Addr}{y v:V}{u r:Value}{o:Option V}{A:Around}{E:Value→Shared→Prop}
end
section
variable{X:Cx}{pins:List (Addr × Obj)}{σ:St}{H:Hp}{s:Shared}{a:Addr}{kvs:List (iS × V)}{k:iS}{u:Value}{A:Around}{E:Value→Shared→Prop}
end
section
variable{X:Cx}{o i e value:Expr}{pos pos' tpos:Pos}{td ty tv:TE}
end
section
variable{X:Cx}{pos:Pos}
end
section
variable{X:Cx}{pins:List (Addr × Obj)}{σ:St}{H:Hp}{s:Shared}{a:Addr}{y d:V}{u r:Value}{o:Option V}{A:Around}{E:Value→Shared→Prop}
end
section
variable{X:Cx}{o e f:Expr}{apos cpos:Pos}{td ty tx:TE}
end
section
variable{X:Cx}{pins:List (Addr × Obj)}{σ:St}{H:Hp}{s:Shared}{a:Addr}{kvs:List (iS × V)}{A:Around}{E:Value→Shared→Prop}
end
section
variable{X:Cx}{pins:List (Addr × Obj)}{σ:St}{H:Hp}{s:Shared}{a:Addr}{y:V}{u:Value}{A:Around}{E:Value→Shared→Prop}
end
end L2
namespace Att
open PySem PySem.W PySem.Calls PyProof.Rows
section
variable{prog:Program}{w:World}{A:Around}{E:Value→Shared→Prop}{s:Shared}{K:Frag}
end
end Att
namespace L2
open PySem PySem.Spec PyProof.Rows
end L2
namespace L2
open PySem PySem.Spec PyProof.Rows
end L2
namespace L2
open PySem PySem.Spec PyProof.Rows
section
variable{P:Program}{w:World}{K:PySem.W.Frag}{mg:Str→Option Value}{base:Heap}
end
section
variable{X:Cx}
end
section
variable{κ:Type}[DecidableEq κ]
end
end L2
namespace L2
open PySem PySem.Spec PyProof.Rows
def sR:PyData→String
  | .none=>"NoneType"
  | .bool _=>"bool"
  | .int _=>"int"
  | .str _=>"str"
  | .tuple _=>"tuple"
  | .list _=>"list"
  | .dict _=>"dict"
def mL(t T:String):Bool:=t==T || (t=="bool"&&T=="int")
def nD(T:String)(d:PyData):Bool:=mL (sR d) T
def i8(T:String):En→Rv→Option Rv:=fun _ r=>match r with
  | .d x=>some (.d (.bool (nD T x)))
  | _=>some (.d (.bool (nD T (.list []))))
section
variable{X:Cx}{K:PySem.W.Frag}{a:Expr}{fa:FE}{pos p p2:Pos}
def z_(K:PySem.W.Frag)(H:Hp):V→String→Prop
  | .non,t=>t="NoneType"
  | .bl _,t=>t="bool"
  | .int _,t=>t="int"
  | .str _,t=>t="str"
  | .ref a,t=>(t="tuple"∧∃xs,dm K H a xs)∨(t="list"∧∃xs,eM K H a xs)∨(t="dict"∧∃m,H a=some (.dK m))
  | _,_=>False
theorem qe{T:String}:dh X (.builtin "isinstance") (fun xs H Q=>∃x t b,xs=[x,.ty T]∧z_ X.K H x t∧PySem.W.kitOne X.K (.type t) (.type T)=some b∧Q (.bl b) H):=by
  intro pins s σ H xs us Q I r h
  obtain⟨x,t,b,rfl,ht,hk,q⟩:=h
  obtain⟨u1,u2,rfl,r1,r2⟩:∃u1 u2,us=[u1,u2]∧aZ x u1∧aZ (.ty T) u2:=by
    cases r with
    | cons p q=>cases q with
      | cons p' q'=>cases q';exact⟨_,_,rfl,p,p'⟩
  cases r2
  have q':∀tk,EP X pins σ Q (.bool b) {s with toks:=tk}:=fun tk=>⟨.bl b,H,I.tok _,rfl,q⟩
  cases x with
  | non=>cases (show u1=Value.none from r1);cases (show t=_ from ht);exact PySem.W.kia_one PySem.W.kitx_none I.kIn True.intro hk (fun z=>nomatch z) q'
  | bl y=>cases (show u1=Value.bool y from r1);cases (show t=_ from ht);exact PySem.W.kia_one PySem.W.kitx_bool I.kIn True.intro hk (fun z=>nomatch z) q'
  | int i=>obtain⟨tt,rfl⟩:=r1;cases (show t=_ from ht);exact PySem.W.kia_one PySem.W.kitx_int I.kIn True.intro hk (fun z=>nomatch z) q'
  | str y=>obtain⟨tt,rfl⟩:=r1;cases (show t=_ from ht);exact PySem.W.kia_one PySem.W.kitx_str I.kIn True.intro hk (fun z=>nomatch z) q'
  | ref a=>
    cases (show u1=Value.ref a from r1)
    rcases ht with ⟨rfl,xs,hs⟩ | ⟨rfl,xs,hs⟩ | ⟨rfl,m,hs⟩
    · obtain⟨its,rv,pl,hz⟩:=I.tuple hs
      obtain⟨o,h1,h2⟩:=pl.typeIs
      exact PySem.W.kia_one PySem.W.kitx_tuple I.kIn ⟨o,h1,h2⟩ hk (fun z=>nomatch z) q'
    · obtain⟨its,rv,pl,hz⟩:=I.list hs
      obtain⟨o,h1,h2⟩:=pl.isList.typeIs
      exact PySem.W.kia_one PySem.W.kitx_list I.kIn ⟨o,h1,h2⟩ hk (fun z=>nomatch z) q'
    · obtain⟨_,_,vs,_,pp⟩:=(show cG X.prog X.w H s.heap a (.dK m) from I.hok a _ hs)
      obtain⟨o,es,ep,h1,h2,_⟩:=pp
      exact PySem.W.kia_one PySem.W.kitx_dict I.kIn ⟨o,h1,h2.1⟩ hk (fun z=>nomatch z) q'
  | _=>exact False.elim ht
theorem mx{x:Str}{T:String}(hg:Gl X x)(hm:X.mg x=none)(hv:bootBuiltins x=some (.type T))(hn:x≠"__name__")(hd:(x==("__debug__":Str))=false):PE X (.Name x pos) (tC (.ty T)):=fun pins s σ H Q I h=>
  lN I hg hm hv ⟨.ty T,H,I,rfl,h⟩ hn hd
theorem ww{t T:String}(ht:t∈["NoneType","bool","int","str","tuple","list","dict"])(hT:T∈["int","bool","tuple","str"]):PySem.W.kitOne K (.type t) (.type T)=some (mL t T):=by
  simp only [List.mem_cons,List.not_mem_nil,or_false] at ht hT
  rcases ht with rfl | rfl | rfl | rfl | rfl | rfl | rfl<;>rcases hT with rfl | rfl | rfl | rfl<;>rfl
theorem uV(d:PyData):sR d∈["NoneType","bool","int","str","tuple","list","dict"]:=by cases d<;>simp [sR]
theorem xU{F H:Hp}{d:PyData}{v:V}(h:DA K F d v)(s:au F H):z_ K H v (sR d):=by
  have h:=DA.mono s h
  cases d with
  | none=>rw [gT.mp h];rfl
  | bool b=>rw [bQ.mp h];rfl
  | int b=>rw [bg.mp h];rfl
  | str b=>rw [nh.mp h];rfl
  | tuple ds=>obtain⟨a,xs,rfl,h1,_⟩:=cJ.mp h;exact .inl ⟨rfl,xs,h1⟩
  | list ds=>obtain⟨a,xs,rfl,h1,_⟩:=cx.mp h;exact .inr (.inl ⟨rfl,xs,h1⟩)
  | dict m=>simp only [DA] at h;obtain⟨a,m,rfl,h1,_⟩:=h;exact .inr (.inr ⟨rfl,_,h1⟩)
theorem tD{f:FE}{σ:L2.St}{H:Hp}{Q Q':VK}(h:fE K f σ H Q)(m:∀v H1,Q v H1→Q' v H1):fE K f σ H Q':=by
  obtain⟨F,e,r,e',R,hf,q⟩:=h
  exact⟨F,e,r,e',R,hf,fun F' H' v x R' A=>m _ _ (q F' H' v x R' A)⟩
theorem yG{T:String}:yl K (fun v H Q=>∃t,t∈["NoneType","bool","int","str","tuple","list","dict"]∧z_ K H v t∧Q (.bl (mL t T)) H) (i8 T):=by
  intro σ H0 F H e x z v Q R A hg q
  unfold i8 at hg
  cases x with
  | d d=>
    cases hg
    exact⟨sR d,uV d,xU A R.sm,q F H _ (dc.refl _ _ _ _) R cE⟩
  | l xs=>
    cases hg
    obtain⟨l,vs,rfl,h1,h2,h3,h4⟩:=A
    exact⟨"list",by simp,.inr (.inl ⟨rfl,vs,eM.of h3⟩),q F H _ (dc.refl _ _ _ _) R cE⟩
  | s i=>
    cases hg
    obtain⟨h1,xs,h2⟩:=A
    obtain⟨l,vs,h3,h4,h5,h6⟩:=R.own i xs h2
    rw [h1] at h3;cases h3
    exact⟨"list",by simp,.inr (.inl ⟨rfl,vs,eM.of h5⟩),q F H _ (dc.refl _ _ _ _) R cE⟩
theorem oy{x:Str}{T:String}(hK:X.K=K)(hT:T∈["int","bool","tuple","str"])(hg:Gl X "isinstance")(hm:X.mg "isinstance"=none)(hgT:Gl X x)(hmT:X.mg x=none)(AV:bootBuiltins x=some (.type T))(hn:x≠"__name__")(hd:(x==("__debug__":Str))=false)
    (ha:PE X a (fE K fa))(he:starEach [a,.Name x p2] X.env=(false,eval a X.env)::starEach [.Name x p2] X.env)(hpl:(backTo pos (starEach [.Name x p2] X.env)).any (·.1)=false):
    PE X (.Call (.Name "isinstance" p) [a,.Name x p2] [] pos) (fE K (pV (i8 T) fa)):=
  (jT (qe (T:=T)) hg hm boot_isinstance (aS ha (aS (mx hgT hmT AV hn hd) eC) he) (by decide) (by decide) he hpl).mono fun σ H Q h=>by
    subst hK
    have h1:=sJ (yG (T:=T)) h
    refine tD h1 fun v H1 ⟨t,ht,k,q⟩=>?_
    exact⟨v,t,_,rfl,k,ww ht hT,q⟩
end
end L2
namespace L2
open PySem PySem.Spec PyProof.Rows
section
variable{X:Cx}{K:PySem.W.Frag}
def vK:FS:=fun _=>none
theorem uF{st:Stmt}:PS X st (fS K vK []):=fun pins s σ H D I h=>by
  obtain⟨F,e,fl,R,hf,_⟩:=h
  cases hf
end
end L2
namespace L2
open PySem PySem.Spec PyProof.Rows
section
variable{X:Cx}{K:PySem.W.Frag}{σ:L2.St}{F H:Hp}{e:En}{pos p1 p2:Pos}
end
end L2
namespace L2
open PySem PySem.Spec PyProof.Rows
section
variable{X:Cx}{K:PySem.W.Frag}{a b c d:Expr}{ta tb tc td:TE}{fa fb fc fd:FE}{pos:Pos}
def oM(r r' r'':R2)(ta tb tc td:TE):TE:=fun σ H Q=>ta σ H fun x H1=>tb σ H1 fun y H2=>r x y H2 fun z H3=>∃k,z=.bl k∧
  (if k=true then tc σ H3 fun w H4=>r' y w H4 fun z' H5=>∃k',z'=.bl k'∧(if k'=true then td σ H5 fun v H6=>r'' w v H6 Q else Q (.bl false) H5) else Q (.bl false) H3)
theorem pF{op op' op'':CmpOp}{r r' r'':R2}(ho:dJ X (compareOp op) r)(ho':dJ X (compareOp op') r')(ho'':dJ X (compareOp op'') r'')(ha:PE X a ta)(hb:PE X b tb)(hc:PE X c tc)(hd:PE X d td)
    (hm:lastMarks [op,op',op''] [b,c,d]=false):PE X (.Compare a [op,op',op''] [b,c,d] pos) (oM r r' r'' ta tb tc td):=by
  intro pins s σ H Q I h
  refine Compare_chain (bV (ha pins s σ H _ I h) fun v s1 ⟨x,H1,I1,r1,q1⟩=>chain_link (bV (hb pins s1 σ H1 _ I1 q1) fun u s2 ⟨y,H2,I2,r2,q2⟩=>
    bV (ho pins s2 σ H2 x y v u _ I2 r1 r2 q2) fun d s3 ⟨z,H3,I3,r3,k,e,q3⟩=>?_)) hm
  subst e
  cases r3
  refine wpAny_truthy_bool ?_
  cases k with
  | false=>exact ite_ff ⟨.bl false,H3,I3,rfl,q3⟩
  | true=>
    refine ite_tt (chain_link (bV (hc pins s3 σ H3 _ I3 q3) fun w' s4 ⟨z',H4,I4,r4,q4⟩=>bV (ho' pins s4 σ H4 y z' u w' _ I4 r2 r4 q4) fun d5 s5 ⟨z5,H5,I5,r5,k5,e5,q5⟩=>?_))
    subst e5
    cases r5
    refine wpAny_truthy_bool ?_
    cases k5 with
    | false=>exact ite_ff ⟨.bl false,H5,I5,rfl,q5⟩
    | true=>exact ite_tt (chain_last (bV (hd pins s5 σ H5 _ I5 q5) fun w6 s6 ⟨z6,H6,I6,r6,q6⟩=>ho'' pins s6 σ H6 z' z6 w' w6 Q I6 r4 r6 q6))
def eG(g g' g'':En→Rv→Rv→Option Rv)(fa fb fc fd:FE):FE:=fun e=>(fa e).bind fun p=>(fb p.2).bind fun q=>(g q.2 p.1 q.1).bind fun z=>(cw z).bind fun k=>if k=true then
  (fc q.2).bind fun w=>(g' w.2 q.1 w.1).bind fun z'=>(cw z').bind fun k'=>if k'=true then(fd w.2).bind fun y=>(g'' y.2 w.1 y.1).map fun z''=>(z'',y.2) else some (.d (.bool false),w.2) else some (.d (.bool false),q.2)
theorem nX{r r' r'':R2}{g g' g'':En→Rv→Rv→Option Rv}(ho:dI K r g)(ho':dI K r' g')(ho'':dI K r'' g''){σ:L2.St}{H:Hp}{Q:VK}(h:fE K (eG g g' g'' fa fb fc fd) σ H Q):oM r r' r'' (fE K fa) (fE K fb) (fE K fc) (fE K fd) σ H Q:=by
  obtain⟨F,e,z,e4,R,hf,q⟩:=h
  unfold eG at hf
  obtain⟨⟨x,e1⟩,h1,hf⟩:=Option.bind_eq_some_iff.mp hf
  obtain⟨⟨y,e2⟩,h2,hf⟩:=Option.bind_eq_some_iff.mp hf
  obtain⟨z',h3,hf⟩:=Option.bind_eq_some_iff.mp hf
  obtain⟨k,h4,hf⟩:=Option.bind_eq_some_iff.mp hf
  refine⟨F,e,x,e1,R,h1,fun F1 H1 v X1 R1 A1=>⟨F1,e1,y,e2,R1,h2,fun F2 H2 u X2 R2 A2=>?_⟩⟩
  have X12:=X1.trans X2
  refine ho σ H F2 H2 e2 x y z' v u _ R2 (A1.ext X2) (A2.weak X1.dom) h3 fun F3 H3 w X3 R3 A3=>⟨k,cm A3 h4,?_⟩
  have X13:=X12.trans X3
  cases k with
  | false=>
    cases hf
    exact q F3 H3 _ X13 R3 cE
  | true=>
    obtain⟨⟨w',e3⟩,h5,hf⟩:=Option.bind_eq_some_iff.mp hf
    obtain⟨z2,h6,hf⟩:=Option.bind_eq_some_iff.mp hf
    obtain⟨k2,h7,hf⟩:=Option.bind_eq_some_iff.mp hf
    refine⟨F3,_,w',_,R3,h5,fun F4 H4 u4 X4 R4 A4=>?_⟩
    have X14:=X13.trans X4
    refine ho' σ H F4 H4 _ y w' _ u u4 _ R4 (((A2.weak X1.dom).ext X3).ext X4) (A4.weak X13.dom) h6 fun F5 H5 w5 X5 R5 A5=>⟨k2,cm A5 h7,?_⟩
    have X15:=X14.trans X5
    cases k2 with
    | false=>
      cases hf
      exact q F5 H5 _ X15 R5 cE
    | true=>
      obtain⟨⟨w8,e8⟩,h8,hf⟩:=Option.bind_eq_some_iff.mp hf
      obtain⟨z9,h9,hf⟩:=Option.map_eq_some_iff.mp hf
      cases hf
      refine⟨F5,_,w8,_,R5,h8,fun F6 H6 u6 X6 R6 A6=>?_⟩
      have X16:=X15.trans X6
      refine ho'' σ H F6 H6 _ w' w8 _ u4 u6 Q R6 (((A4.weak X13.dom).ext X5).ext X6) (A6.weak X15.dom) h9 fun F7 H7 w7 X7 R7 A7=>?_
      exact q F7 H7 w7 (X16.trans X7) R7 (A7.weak X16.dom)
theorem rK{op op' op'':CmpOp}{g g' g'':En→Rv→Rv→Option Rv}(h:gN X K op g)(h':gN X K op' g')(h'':gN X K op'' g'')(ha:PE X a (fE K fa))(hb:PE X b (fE K fb))(hc:PE X c (fE K fc))(hd:PE X d (fE K fd))
    (hm:lastMarks [op,op',op''] [b,c,d]=false):PE X (.Compare a [op,op',op''] [b,c,d] pos) (fE K (eG g g' g'' fa fb fc fd)):=by
  obtain⟨r,h1,h2⟩:=h.ex;obtain⟨r',h3,h4⟩:=h'.ex;obtain⟨r'',h5,h6⟩:=h''.ex
  exact(pF h1 h3 h5 ha hb hc hd hm).mono fun _ _ _ h=>nX h2 h4 h6 h
end
end L2
namespace L2
open PySem PySem.Spec PyProof.Rows
section
variable{X:Cx}{K:PySem.W.Frag}{a b:Expr}{es:List Expr}{fa fb:FE}{fs:FA}{pos p apos:Pos}
end
end L2
namespace L2
open PySem PySem.Spec PyProof.Rows
section
variable{X:Cx}{K:PySem.W.Frag}{a b:Expr}{fa fb:FE}{fs:FA}{pos p p2 p3:Pos}
end
end L2
namespace L2
open PySem PySem.Spec PyProof.Rows
def bq(W:bU)(as:List Int):Int:=bp W (W.rng.filter fun k=> !as.contains k)
def wI(l:Nat):Int:=1000*(2 ^ (16 - l) - 1)
structure Ba (W:bU) (k:Int) (as:List Int) (y n:Fr):Prop where
  y:zI (bq W (bU.askd as k)) (wI (as.length+1)) y
  n:zI (bq W (bU.askd as k)) (wI (as.length+1)) n
  len:as.length≤15
  inw:oS W k
  new:k∉as
def lk(ws:List Fr)(l:Int):Fr:=if l= -1 then(0,1) else ws.getD l.toNat (0,1)
structure Bm (W:bU) (S:Nat→Std) (n:Nat) (ws:List Fr):Prop where
  len:ws.length=n
  at':∀(j:Nat) (f:Fr),ws[j]?=some f→zI (bq W (S j).1) (wI (S j).1.length) f
theorem Sz.int10{n m:Nat}{k:Int}(hb:Bt m k)(m0:0 < m)(m1:m≤1900)(h:k.natAbs < 10 ^ n)(h0:0 < n):Sz (n+1) 2 (.int k):=by
  refine⟨rfl,?_,by simp [PyData.depth],?_,cc _⟩
  · show decide (k.natAbs.log2 < 1920)=true
    rw [decide_eq_true_eq]
    have:=hb.log m0
    lia
  · have:=int_text_length_le10 h0 h
    show(Str.ofString (toString k)).length≤n+1
    rw [PySem.ofString_length];exact this
end L2
namespace L2
open PySem PySem.Spec PyProof.Rows
theorem kZ{x:Str}(h:PyData.strOk x=true):∀c∈x.cps.toList,c < 1114112:=by
  intro c hc
  unfold PyData.strOk at h
  rw [Array.all_eq_true'] at h
  have:=h c (by simpa using hc)
  simpa using this
theorem sq{l:Array Nat}(h:∀c∈l.toList,c < 1114112):PyData.strOk ⟨l⟩=true:=by
  unfold PyData.strOk
  rw [Array.all_eq_true']
  intro c hc
  simpa using h c (by simpa using hc)
theorem sZ(c:Char):c.toNat < 1114112:=by
  have:=c.valid
  unfold UInt32.isValidChar Nat.isValidChar at this
  show c.val.toNat < _
  lia
open PySem.Builtin.Str in
theorem mz{q c:Nat}(hc:c < 1114112):∀d∈reprChar q c,d < 1114112:=by
  intro d hd
  unfold reprChar at hd
  have hx:∀w:Nat,∀d∈(List.replicate (w - ((Nat.toDigits 16 c).map Char.toNat).length) 48++(Nat.toDigits 16 c).map Char.toNat),d < 1114112:=by
    intro w d hd
    rcases List.mem_append.mp hd with h | h
    · have:=List.eq_of_mem_replicate h;lia
    · obtain⟨ch,_,rfl⟩:=List.mem_map.mp h;exact sZ ch
  dsimp only at hd
  split at hd
  · simp only [List.mem_cons,List.not_mem_nil,or_false] at hd;lia
  split at hd
  · simp only [List.mem_cons,List.not_mem_nil,or_false] at hd;lia
  split at hd
  · simp only [List.mem_cons,List.not_mem_nil,or_false] at hd;lia
  split at hd
  · simp only [List.mem_cons,List.not_mem_nil,or_false] at hd;lia
  split at hd
  · simp only [List.mem_cons,List.not_mem_nil,or_false] at hd;lia
  split at hd
  · rcases List.mem_append.mp hd with h | h
    · simp only [List.mem_cons,List.not_mem_nil,or_false] at h;lia
    · exact hx 2 d h
  split at hd
  · rcases List.mem_append.mp hd with h | h
    · simp only [List.mem_cons,List.not_mem_nil,or_false] at h;lia
    · exact hx 4 d h
  · rcases List.mem_append.mp hd with h | h
    · simp only [List.mem_cons,List.not_mem_nil,or_false] at h;lia
    · exact hx 8 d h
open PySem.Builtin.Str in
theorem kS{q:Nat}:∀(l:List Nat) (acc:Array Nat),(∀c∈l,c < 1114112)→(∀c∈acc.toList,c < 1114112)→∀c∈(l.foldl (fun out c=>out++(reprChar q c).toArray) acc).toList,c < 1114112
  | [],acc,_,h=>h
  | x::r,acc,h1,h2=>kS r _ (fun c hc=>h1 c (by simp [hc])) fun c hc=>by
    simp only [Array.toList_append,List.mem_append] at hc
    rcases hc with hc | hc
    · exact h2 c hc
    · exact mz (h1 x (by simp)) c hc
theorem mB{x:Str}(h:PyData.strOk x=true):PyData.strOk (reprText x)=true:=by
  unfold reprText
  refine sq fun c hc=>?_
  have hq:reprQuote x < 1114112:=by unfold reprQuote;split<;>lia
  rw [Array.toList_push] at hc
  rcases List.mem_append.mp hc with hc | hc
  · rw [←Array.foldl_toList] at hc
    exact kS _ _ (kZ h) (fun c hc=>by simp at hc;lia) c hc
  · simp at hc;lia
theorem Sz.str{x:Str}{n:Nat}(h:PyData.strOk x=true)(hl:x.length≤n):Sz (10*n+2) 2 (.str x):=by
  refine⟨rfl,rfl,by simp [PyData.depth],?_,mB h⟩
  have:=PySem.StrLaws.reprText_len x fun c hc=>Nat.lt_of_lt_of_le (kZ h c hc) (by decide)
  show(reprText x).length≤_
  lia
end L2
namespace L2
open PySem PySem.Spec PyProof.Rows
section
variable{X:Cx}{K:PySem.W.Frag}{a:Expr}{fa:FE}{pos p pos2 p2:Pos}
end
end L2
namespace L2
open PySem PySem.Spec PyProof.Rows
section
variable{X:Cx}{K:PySem.W.Frag}{a:Expr}{fa:FE}
end
end L2
namespace L2
open PySem PySem.Spec PyProof.Rows
abbrev Rn:=List (Int × Bool)
def tG(R:Rn):List Int:=R.map (·.1)
def vm(W:bU)(R:Rn):List Int:=(R.filter (·.2)).flatMap fun r=>[(W.tie r.1).one,(W.tie r.1).other]
structure Bj (W:bU) (R:Rn) (asked taken:List Int):Prop where
  pa:asked.Perm (tG R)
  pt:taken.Perm (vm W R)
  inw:∀k∈tG R,oS W k
  nd:(tG R).Nodup
  nk:(vm W R).Nodup
  bd:∀t:Int,0≤t→t < W.things→W.many (tG R) t≤W.pat.getD t.toNat 0
  ak:(R.length:Int)≤W.asks
  sa:asked.Pairwise (· ≤·)
  st:taken.Pairwise (· ≤·)
end L2
namespace L2
open PySem PySem.Spec PyProof.Rows
section
variable{prog:Program}{w:World}{A:Around}{R:Result→Shared→Prop}
end
def xM(l:Addr)(wi:TI)(g:TG)(tc:TT)(te:TE)(σ:L2.St)(H:Hp)(N:L2.St→Hp→Prop):Prop:=
  wi σ H fun J H1=>∃W:Nat→Nat→L2.St→Hp→Prop,(∃m,W 0 m σ H1)∧∀i m σ' H',W i m σ' H'→
    (J.stop i H'∧N σ' H')∨(J.go i H'∧∃N2:L2.St→Hp→Prop,(∀σ2 H2,N2 σ2 H2→∃m',m' < m∧W (i+1) m' σ2 H2)∧
      ∀x H2,J.yld i H' x H2→g x σ' H2 fun σ2 H3=>tc σ2 H3 fun b H4=>if b=true then te σ2 H4 fun v H5=>∃ys,H5 l=some (.lst ys)∧ys.length < sizeLine∧N2 σ2 (bP H5 l (.lst (ys++[v]))) else N2 σ2 H4)
structure AD (cp:List (Nat × Str)) (nT:Nat) (wi:TI) (g:TG) (tc:TT) (wi2:TI) (g2:TG) (tc2:TT) (te:TE) (σ:L2.St) (H:Hp) (Q:VK):Prop where
  go:wi σ H fun J H1=>∀l,H1 l=none→
  ∃W:Nat→Nat→L2.St→Hp→Prop,(∃m,W 0 m (fw cp nT σ) (bP H1 l (.lst [])))∧∀i m σ' H',W i m σ' H'→
    (J.stop i H'∧Q (.ref l) H')∨(J.go i H'∧∃N:L2.St→Hp→Prop,(∀σ2 H2,N σ2 H2→∃m',m' < m∧W (i+1) m' σ2 H2)∧
      ∀x H2,J.yld i H' x H2→g x σ' H2 fun σ2 H3=>tc σ2 H3 fun b H4=>if b=true then xM l wi2 g2 tc2 te σ2 H4 N else N σ2 H4)
section
variable{K:PySem.W.Frag}{F H:Hp}{σ:L2.St}{e:En}{cp:List (Nat × Str)}{nT:Nat}
end
section
variable{X:Cx}{K:PySem.W.Frag}{pos:Pos}
end
section
variable{X:Cx}{K:PySem.W.Frag}{pos:Pos}
variable{o:Expr}{fo:FE}{apos cpos:Pos}
end
end L2
namespace L2
open PySem PySem.Spec PyProof.Rows
section
variable{X:Cx}{K:PySem.W.Frag}
def Bu:List Int→Int
  | []=>0
  | x::r=>r.foldl max x
end
end L2
namespace L2
open PySem PySem.Spec PyProof.Rows
structure Bf (f:Fr):Prop where
  pos:0 < f.2
  cop:Int.gcd f.1 f.2=1
def r9:Nat→List (List Bool)
  | 0=>[[]]
  | n+1=>(r9 n).map (· ++[true])++(r9 n).map (· ++[false])
def Bn(t:eI)(b:Bool):Fr:=if b then(t.top,t.bot) else(t.bot - t.top,t.bot)
abbrev Pg:=List Int × Int
def Bv(t:eI)(p:Pg):Bool:= !p.1.contains t.one&& !p.1.contains t.other
def Ac(t:eI)(p:Pg):Pg:=(p.1++[t.one,t.other],p.2+t.worth)
def Bx(ps:List Pg)(t:eI):List Pg:=ps++(ps.filter (Bv t)).map (Ac t)
def Bw(ts:List eI):List Pg:=ts.foldl Bx [([],0)]
structure AR (k:Nat) (ps:List Pg):Prop where
  ne:ps≠[]
  len:ps.length≤2 ^ k
  pt:∀p∈ps,p.1.length≤2*k∧0≤p.2∧p.2≤1000*(k:Int)
def AV(ts:List eI):Int:=Bu ((Bw ts).map (·.2))
end L2
namespace L2
open PySem PySem.Spec PyProof.Rows
end L2
namespace L2
open PySem PySem.Spec PyProof.Rows
section
variable{prog:Program}{w:World}{A:Around}{E:Value→Shared→Prop}{s:Shared}
end
section
variable{X:Cx}{a:Expr}{ta:TA}{p p2 pos pos2:Pos}
variable{K:PySem.W.Frag}{fs:FA}{p3:Pos}
end
end L2
namespace L2
open PySem PySem.Spec PyProof.Rows
def qM:PyData→Bool
  | .int _=>true
  | _=>false
def ba(lo hi:Int):PyData→Bool
  | .int i=>decide (lo≤i)&&decide (i≤hi)
  | _=>false
theorem ko{lo hi:Int}:∀(ns:List Int),(ns.map PyData.int).all (ba lo hi)=ns.all fun i=>decide (lo≤i)&&decide (i≤hi)
  | []=>rfl
  | x::r=>by simp only [List.map_cons,List.all_cons,ko r,ba]
theorem kD{α:Type}(p:α→Bool):∀(ds:List α),jq (ds.map fun d=>PyData.bool (p d))=some (ds.map p)
  | []=>rfl
  | d::r=>by simp [jq,kD p r]
theorem ml{α:Type}{e:En}(p:α→Bool)(ds:List α):g1 (i0 kM) e [.l (ds.map fun d=>.bool (p d))]=some (.d (.bool (ds.all p))):=by
  simp [g1,i0,er,kM,kD p,List.all_map]
theorem cut_pre{xs ys:List PyData}:cutD (xs++ys) none (some (xs.length:Int))=xs:=by
  unfold cutD
  rw [HT.sIx_none,HT.sIx_nat]
  simp
end L2
namespace L2
open PySem PySem.Spec PyProof.Rows
mutual
def i_:Nat→PyData→Bool
  | _,.none=>true
  | _,.bool _=>true
  | _,.int i=>decide (i.natAbs < 2 ^ 128)
  | _,.str x=>PyData.strOk x&&decide (x.length≤10)
  | k,.list xs=>decide (0 < k)&&cI (k - 1) xs
  | k,.tuple xs=>decide (0 < k)&&cI (k - 1) xs
  | _,.dict _=>false
def cI:Nat→List PyData→Bool
  | _,[]=>true
  | k,x::r=>i_ k x&&cI k r
end
mutual
def wt:PyData→Nat
  | .list xs=>gh xs+1
  | .tuple xs=>gh xs+1
  | .dict _=>1
  | .none=>1
  | .bool _=>1
  | .int _=>1
  | .str _=>1
def gh:List PyData→Nat
  | []=>0
  | x::r=>wt x+gh r
end
theorem iI{k:Nat}:∀{ds:List PyData},cI k ds=true↔ ∀d∈ds,i_ k d=true
  | []=>by simp [cI]
  | d::r=>by simp [cI,iI (ds:=r)]
mutual
theorem wF{k:Nat}:∀{d:PyData},i_ k d=true→i_ (k+1) d=true
  | .none,_=>rfl
  | .bool _,_=>rfl
  | .int _,h=>by simpa [i_] using h
  | .str _,h=>by simpa [i_] using h
  | .dict _,h=>by simp [i_] at h
  | .list xs,h=>by
    simp only [i_,Bool.and_eq_true,decide_eq_true_eq] at h ⊢
    obtain⟨j,rfl⟩:∃j,k=j+1:=⟨k - 1,by lia⟩
    exact⟨by lia,eV (k:=j) h.2⟩
  | .tuple xs,h=>by
    simp only [i_,Bool.and_eq_true,decide_eq_true_eq] at h ⊢
    obtain⟨j,rfl⟩:∃j,k=j+1:=⟨k - 1,by lia⟩
    exact⟨by lia,eV (k:=j) h.2⟩
theorem eV{k:Nat}:∀{ds:List PyData},cI k ds=true→cI (k+1) ds=true
  | [],_=>rfl
  | d::r,h=>by
    simp only [cI,Bool.and_eq_true] at h ⊢
    exact⟨wF h.1,eV h.2⟩
end
theorem mR:∀(ts:List Str) (k:Nat) (acc:Str),(textFrom k acc ts).length≤acc.length+piled ts
  | [],_,acc=>by show acc.length≤acc.length+0;lia
  | t::r,k,acc=>by
    have ih:=mR r (k+1) (acc++(if k > 0 then ", " else "":String)++t)
    have e:(acc++(if k > 0 then ", " else "":String)++t).length≤acc.length+2+t.length:=by
      rw [strLen_append,strLen_append]
      have:(Str.ofString (if k > 0 then ", " else "")).length≤2:=by split<;>decide
      lia
    show(textFrom (k+1) _ r).length≤_
    rw [gA];lia
theorem qS(ts:List Str):(listText ts).length≤piled ts+2:=by
  unfold listText
  rw [strLen_append]
  have h:=mR ts 0 "["
  have h1:(("[":Str)).length=1:=by decide
  have h2:(("]":Str)).length=1:=by decide
  lia
theorem ka:∀(ts:List Str) (k:Nat) (acc:Str),PyData.strOk acc=true→(∀t∈ts,PyData.strOk t=true)→PyData.strOk (textFrom k acc ts)=true
  | [],_,acc,h,_=>h
  | t::r,k,acc,h,hs=>ka r (k+1) _ (cQ (cQ h (cc _)) (hs t (by simp))) fun u hu=>hs u (by simp [hu])
theorem pN{ts:List Str}(h:∀t∈ts,PyData.strOk t=true):PyData.strOk (listText ts)=true:=cQ (ka ts 0 _ (cc _) h) (cc _)
structure zE (d:PyData) (k:Nat):Prop where
  lay:d.canLay0=true
  sh:d.showable=true
  dp:d.depth≤k
  ln:d.shown.length+2≤104*wt d
  so:PyData.strOk d.shown=true
theorem jo{d:PyData}{n:Nat}{k:Nat}(h:Sz n 0 d∨Sz n 2 d)(hn:n≤102)(hw:wt d=1)(hl:d.canLay0=true)(hd:d.depth=0):zE d k:=by
  rcases h with h | h<;>exact⟨hl,h.sh,by lia,by have:=h.ln;lia,h.so⟩
mutual
theorem m6{k:Nat}:∀{d:PyData},i_ k d=true→zE d k
  | .none,_=>⟨rfl,rfl,by simp [PyData.depth],by show(Str.ofString "None").length+2≤104*1;decide,cc _⟩
  | .bool b,_=>jo (.inr Sz.bool) (by decide) rfl rfl (by simp [PyData.depth])
  | .int i,h=>by
    simp only [i_,decide_eq_true_eq] at h
    exact jo (.inr (Sz.int10 (n:=39) (m:=128) (show Bt 128 i from h) (by decide) (by decide) (Nat.lt_of_lt_of_le h (by decide)) (by decide))) (by decide) rfl rfl (by simp [PyData.depth])
  | .str x,h=>by
    simp only [i_,Bool.and_eq_true,decide_eq_true_eq] at h
    exact jo (.inr (Sz.str (n:=10) h.1 h.2)) (by decide) rfl (by simpa [PyData.canLay0] using h.1) (by simp [PyData.depth])
  | .dict _,h=>by simp [i_] at h
  | .list xs,h=>by
    simp only [i_,Bool.and_eq_true,decide_eq_true_eq] at h
    obtain⟨a1,a2,a3,a4,a5⟩:=lq h.2
    have:=qS (PyData.shownAll xs)
    refine⟨by simpa [PyData.canLay0] using a1,a2,by simp only [PyData.depth];lia,by simp only [PyData.shown,wt];lia,by simp only [PyData.shown];exact pN a5⟩
  | .tuple xs,h=>by
    simp only [i_,Bool.and_eq_true,decide_eq_true_eq] at h
    obtain⟨a1,a2,a3,a4,a5⟩:=lq h.2
    have:=k7 (PyData.shownAll xs)
    refine⟨by simpa [PyData.canLay0] using a1,a2,by simp only [PyData.depth];lia,by simp only [PyData.shown,wt];lia,by simp only [PyData.shown];exact pO a5⟩
theorem lq{k:Nat}:∀{ds:List PyData},cI k ds=true→PyData.canLayAll0 ds=true∧PyData.showableAll ds=true∧PyData.depthAll ds≤k∧piled (PyData.shownAll ds)≤104*gh ds∧∀t∈PyData.shownAll ds,PyData.strOk t=true
  | [],_=>⟨rfl,rfl,by simp [PyData.depthAll],by simp [PyData.shownAll,piled],by simp [PyData.shownAll]⟩
  | d::r,h=>by
    simp only [cI,Bool.and_eq_true] at h
    obtain⟨a1,a2,a3,a4,a5⟩:=m6 h.1
    obtain⟨b1,b2,b3,b4,b5⟩:=lq h.2
    refine⟨by simp only [PyData.canLayAll0,a1,b1,Bool.and_self],by simp only [PyData.showableAll,a2,b2,Bool.and_self],by simp only [PyData.depthAll];lia,by simp only [PyData.shownAll,gA,gh];lia,fun t ht=>?_⟩
    simp only [PyData.shownAll,List.mem_cons] at ht
    rcases ht with rfl | ht
    · exact a5
    · exact b5 t ht
end
theorem zE.ok{d:PyData}{k:Nat}(h:zE d k)(hk:k≤60)(hw:wt d≤100000):il d=true:=by
  have sl:sizeLine=16777216:=sizeLine_eq
  have:=h.ln
  unfold il
  rw [PyData.hasDict_of_canLay d h.lay,h.sh,decide_eq_true (Nat.le_trans h.dp hk),decide_eq_true (show d.shown.length≤sizeLine by rw [sl];lia)]
  simp
def dM(n:Int):PyData→Bool
  | .tuple ds=>(ds.length:Int)==n
  | _=>false
def pd:PyData→Bool
  | .tuple [.int t,.int b]=>decide (1≤b)&&decide (Int.gcd t b=1)
  | _=>false
def qf:PyData→Bool
  | .tuple [.int t,.int b]=>decide (0≤t)&&(decide (t≤b)&&(decide (1≤b)&&(decide (b≤100)&&decide (Int.gcd t b=1))))
  | _=>false
def dN(n:Int):PyData→Bool
  | .tuple [.int a,.int b,c,w]=>decide (0≤a)&&(decide (a < b)&&(decide (b≤n - 1)&&(qf c&&ba 0 1000 w)))
  | _=>false
def ir:PyData→Bool
  | .tuple [.int n,.tuple ts,.tuple ps,k]=>ba 0 12 (.int n)&&(ba 0 40 k&&(decide (ts.length≤16)&&(((ps.length:Int)==n)&&(ts.all (dN n)&&ps.all (ba 0 20)))))
  | _=>false
def gg(n:Int):PyData→Bool
  | .tuple ts=>decide (ts.length≤16)&&ts.all (dN n)
  | _=>false
def kl(n:Int):PyData→Bool
  | .tuple ps=>((ps.length:Int)==n)&&ps.all (ba 0 20)
  | _=>false
theorem Ay{d:PyData}(h:dM 2 d=true):∃x y,d=.tuple [x,y]:=by
  cases d with
  | tuple ds=>
    rcases ds with _ | ⟨x,_ | ⟨y,_ | ⟨z,r⟩⟩⟩
    · simp [dM] at h
    · simp [dM] at h
    · exact⟨x,y,rfl⟩
    · simp [dM] at h;lia
  | _=>simp [dM] at h
theorem ze{d:PyData}(h:dM 4 d=true):∃x y z w,d=.tuple [x,y,z,w]:=by
  cases d with
  | tuple ds=>
    rcases ds with _ | ⟨x,_ | ⟨y,_ | ⟨z,_ | ⟨w,_ | ⟨v,r⟩⟩⟩⟩⟩
    · simp [dM] at h
    · simp [dM] at h
    · simp [dM] at h
    · simp [dM] at h
    · exact⟨x,y,z,w,rfl⟩
    · simp [dM] at h;lia
  | _=>simp [dM] at h
theorem oq{d:PyData}(h:qM d=true):∃i,d=.int i:=by
  cases d with
  | int i=>exact⟨i,rfl⟩
  | _=>simp [qM] at h
theorem iF{lo hi:Int}{d:PyData}(h:ba lo hi d=true):∃i,d=.int i∧lo≤i∧i≤hi:=by
  cases d with
  | int i=>exact⟨i,rfl,by simpa [ba] using h⟩
  | _=>simp [ba] at h
theorem qx{e:En}{a b c d:Int}:de false e (.d (.tuple [.int a,.int b])) (.d (.tuple [.int c,.int d]))=some (.d (.bool (a==c&&b==d))):=by
  unfold de
  have h0:∀x y:Int,SeqAt.shaped (.tuple [.int x,.int y])=true:=fun x y=>by simp [SeqAt.shaped,PyData.canLay0,PyData.canLayAll0,PyData.depth,PyData.depthAll]
  simp only [eP,Option.bind_some,h0,Bool.and_self,if_true]
  simp [PyData.eqv,PyData.eqvAll]
theorem vX{b:Int}(h:b.natAbs.log2 < 1920)(h0:b≠0):Bt 4000 b:=Bt.mono (m:=1920) ((Nat.log2_lt (by lia)).mp h) (by decide)
theorem tR{t b:Int}(hb:0 < b):((a_ t b).1==t&&(a_ t b).2==b)=decide (Int.gcd t b=1):=by
  rw [Bool.eq_iff_iff]
  simp only [Bool.and_eq_true,beq_iff_eq,decide_eq_true_eq]
  constructor
  · rintro⟨h1,h2⟩
    have:=jG (t:=t) (b:=b) (by lia)
    rwa [h1,h2] at this
  · intro h
    unfold a_
    rw [if_neg (by lia),h]
    simp
theorem pZ{ds:List PyData}(h:PyData.showableAll ds=true):∀d∈ds,d.showable=true:=fun d hd=>by
  induction ds with
  | nil=>cases hd
  | cons x r ih=>
    simp only [PyData.showableAll,Bool.and_eq_true] at h
    rcases List.mem_cons.mp hd with rfl | hd
    · exact h.1
    · exact ih h.2 hd
theorem v_(d:PyData):qf d=true→pd d=true:=by
  intro h
  unfold qf at h
  split at h
  · simp only [Bool.and_eq_true,decide_eq_true_eq] at h
    simp only [pd,Bool.and_eq_true,decide_eq_true_eq]
    exact⟨h.2.2.1,h.2.2.2.2⟩
  · cases h
end L2
namespace L2
open PySem PySem.Spec PyProof.Rows
section
variable{X:Cx}{K:PySem.W.Frag}
variable{a b:Expr}{fa fb:FE}{pos:Pos}
end
end L2
namespace L2
open PySem PySem.Spec PyProof.Rows
def tx(s:Str):List Nat:=s.cps.toList
end L2
namespace L2
open PySem PySem.Spec PyProof.Rows
end L2
namespace L2
open PySem PySem.Spec PyProof.Rows
end L2
namespace L2
open PySem PySem.Spec PyProof.Rows
section
variable{X:Cx}{K:PySem.W.Frag}{es:List Expr}{k0:Nat}{tp:Pos}{a b:Expr}{fs:FA}{p pos:Pos}
end
end L2
namespace L2
open PySem PySem.Spec PyProof.Rows
def Bs(x:Nd)(b:Bool):Int:=if b=true then x.yes else x.no
def vz(T:List Nd)(i:Nat)(b:Bool):Int:=match T[i]? with
  | some x=>Bs x b
  | none=> -1
def Aa(T:List Nd):Prop:=∀(i j:Nat) (a b:Bool),vz T i a=vz T j b→vz T i a≠ -1→i=j∧a=b
def AJ(w:Wt):Int × Int:=(w.par,w.side)
structure BD (T:List Nd) (ws:List Wt):Prop where
  unq:Aa T
  rng:∀i a,vz T i a= -1∨(0 < vz T i a∧vz T i a < (T.length:Int))
  free:∀w∈ws,w.par= -1∨(0≤w.par∧w.par < (T.length:Int)∧vz T w.par.toNat (w.side==0)= -1)
  dst:(ws.map AJ).Nodup
  side:∀w∈ws,w.side=0∨w.side=1
structure BG (T:List Nd) (w0 ws order:List Int):Prop where
  nd:(order++ws).Nodup
  par:∀v∈order++ws,v=0∨∃u∈order,∃b,vz T u.toNat b=v∧v≠ -1
  fst:(order=[]∧ws=w0)∨order[0]?=some 0
end L2
namespace L2
open PySem PySem.Spec PyProof.Rows
section
variable{prog:Program}{w:World}{A:Around}{E:Value→Shared→Prop}{s:Shared}
end
section
variable{X:Cx}{tg a:Expr}{ta:TA}{p pos:Pos}
end
section
variable{X:Cx}{K:PySem.W.Frag}{σ:L2.St}{tg a:Expr}{fs:FA}{p pos:Pos}
end
end L2
namespace L2
open PySem PySem.Spec PyProof.Rows
section
variable{X:Cx}{a k:Expr}{p2 pos:Pos}{fa fk:FE}{K:PySem.W.Frag}
section
variable{prog:Program}{w:World}{A:Around}{E:Value→Shared→Prop}{s:Shared}
end
end
end L2
namespace L2
open PySem PySem.Spec PyProof.Rows
section
variable{X:Cx}{a b:Expr}{ta:TA}{p p2 pos pos2:Pos}{K:PySem.W.Frag}{fs:FA}
end
section
variable{X:Cx}{o i e:Expr}{fo fi:FE}{tpos pos:Pos}{K:PySem.W.Frag}
end
end L2
namespace L2
open PySem PySem.Spec PyProof.Rows
section
variable{X:Cx}{K:PySem.W.Frag}
end
end L2
namespace L2
open PySem PySem.Spec PyProof.Rows
section
open PySem.MeetsSeq2 PySem.AutoSeq1 PySem.SeqAt
end
section
variable{X:Cx}{K:PySem.W.Frag}{o a:Expr}{to te:TE}{name:Str}{apos cpos:Pos}{T id:String}{r:V→List V→Hp→VK→Prop}{fo fa:FE}
end
end L2
namespace L2
open PySem PySem.Spec PyProof.Rows
section
variable{X:Cx}{K:PySem.W.Frag}{o a:Expr}{apos cpos:Pos}{fo fa:FE}
end
end L2
namespace L2
open PySem PySem.Spec PyProof.Rows
section
variable{K:PySem.W.Frag}{F H:Hp}{σ:L2.St}{e:En}{cp:List (Nat × Str)}{nT:Nat}
end
section
variable{X:Cx}{K:PySem.W.Frag}{a b:Expr}{es:List Expr}{fa fb:FE}{fs:FA}{pos p p2 p3:Pos}{lo hi:Option Expr}
end
end L2
namespace L2
open PySem PySem.Spec PyProof.Rows
section
variable{X:Cx}{K:PySem.W.Frag}
end
end L2
namespace L2
open PySem PySem.Spec PyProof.Rows
section
variable{X:Cx}{K:PySem.W.Frag}{a b:Expr}{fa fb:FE}{pos:Pos}
end
end L2
namespace L2
open PySem PySem.Spec PyProof.Rows
section
variable{X:Cx}{K:PySem.W.Frag}
end
end L2
namespace L2
open PySem PySem.Spec PyProof.Rows
structure Sw (b:Bool) (n dep:Nat) (d:PyData):Prop where
  dl:bif b then gy d=true else d.hasDict=false
  sh:d.showable=true
  dp:d.depth≤dep
  ln:d.shown.length+2≤n
  so:PyData.strOk d.shown=true
end L2
namespace L2
open PySem PySem.Spec PyProof.Rows
structure S1 (n:Nat) (f:Fr):Prop where
  low:Bf f
  lo:0≤f.1
  hi:f.1≤f.2
  bt:Bt n f.2
def Br(e:Int)(t:eI):Bool:=t.one==e || t.other==e
structure BH (b f g:Fr):Prop where
  pf:0 < f.2
  pg:0 < g.2
  eq:g.1*(f.2*b.1)=g.2*(f.1*b.2)
end L2
namespace L2
open PySem PySem.Spec PyProof.Rows
def vR(f:Fr):Rat:=(f.1:Rat) / (f.2:Rat)
def SR(n:Nat)(f:List Bool→Rat):Rat:=((r9 n).map f).sum
def cR(t:eI)(b:Bool):Rat:=vR (Bn t b)
def wR:List eI→List Bool→Rat
  | t::ts,b::bs=>cR t b*wR ts bs
  | _,_=>1
end L2
namespace L2
open PySem PySem.Spec PyProof.Rows
def Ae(k:Int)(r:List (Int × Bool)):Rat:=(r.map fun p=>if p.1=k then(1:Rat) else 0).sum
def eR(W:bU)(T:List Nd)(k:Int)(m:Nat)(l:Int):Rat:=SR W.ties.length (fun a=>wR W.ties a*Ae k (rn T a m l))
end L2
namespace L2
open PySem PySem.Spec PyProof.Rows
structure BF (O:bU) (ss ws:List Std):Prop where
  len:ss.length=ws.length
  at':∀j,(ss.getD j ([],[])).1=(ws.getD j ([],[])).1∧(ss.getD j ([],[])).2.length≤2*(ss.getD j ([],[])).1.length∧∀k∈(ss.getD j ([],[])).1,oS O k
structure BC (O:bU) (T:List Nd):Prop where
  tie:∀(i:Nat) (x:Nd),T[i]?=some x→oS O x.tie
  lk:∀(i:Nat) (x:Nd),T[i]?=some x→(-1≤x.yes∧x.yes < (T.length:Int))∧(-1≤x.no∧x.no < (T.length:Int))
end L2
namespace L2
open PySem PySem.Spec PyProof.Rows
section
variable{K:PySem.W.Frag}
variable{X:Cx}{σ:L2.St}{H0 H:Hp}{e:En}
end
end L2
namespace L2
open PySem PySem.Spec PyProof.Rows
section
variable{X:Cx}{a b:Expr}{ta:TA}{p p2 pos pos2:Pos}
end
end L2
namespace L2
open PySem PySem.Spec PyProof.Rows
section
variable{X:Cx}{K:PySem.W.Frag}{fs:FA}{a b:Expr}{p p2 pos pos2:Pos}
end
end L2
namespace L2
open PySem PySem.Spec PyProof.Rows
end L2
namespace L2
open PySem PySem.Spec PyProof.Rows PySem.W
structure z4 (lt:Nat→Nat→Bool):Prop where
  irr:∀i,lt i i=false
  tr:∀{i j k},lt i j=false→lt j k=false→lt i k=false
  asy:∀{i j},lt i j=true→lt j i=false
structure BE (n:Nat) (p:Array Nat):Prop where
  sz:p.size=n
  pm:p.Perm (List.toArray (List.range n))
section
variable{lt:Nat→Nat→Bool}{n:Nat}(O:z4 lt)
include O
end
end L2
namespace L2
open PySem PySem.Spec PyProof.Rows PySem.W
section
variable{prog:Program}{w:World}{A:Around}{E:Value→Shared→Prop}{s:Shared}
end
end L2
namespace L2
open PySem PySem.Spec PyProof.Rows PySem.W
section
variable{X:Cx}{K:PySem.W.Frag}
end
end L2
namespace L2
open PySem PySem.Spec PyProof.Rows
section
variable{X:Cx}{K:PySem.W.Frag}
variable{o a:Expr}{es:List Expr}{fo:FE}{fs:FA}{apos cpos:Pos}
end
end L2
namespace L2
open PySem PySem.Spec PyProof.Rows
end L2
namespace L2
open PySem PySem.Spec PyProof.Rows
section
variable{X:Cx}{K:PySem.W.Frag}{σ σ2:L2.St}{H0 F H F2 H2 F3:Hp}{e e2:En}
end
end L2
namespace L2
open PySem PySem.Spec PyProof.Rows
section
variable{X:Cx}{K:PySem.W.Frag}{a b:Expr}{fa fb:FE}{pos p p1 p2 p3 pos':Pos}{x:Str}{i:Nat}
end
section
variable{X:Cx}{K:PySem.W.Frag}
end
end L2
namespace L2
open PySem PySem.Spec PyProof.Rows
section
variable{prog:Program}{w:World}{A:Around}{R:Result→Shared→Prop}
end
def uP(l:Addr)(wi:TI)(g:TG)(tc:TT)(tk tv:TE)(σ:L2.St)(H:Hp)(N:L2.St→Hp→Prop):Prop:=
  wi σ H fun J H1=>∃W:Nat→Nat→L2.St→Hp→Prop,(∃m,W 0 m σ H1)∧∀i m σ' H',W i m σ' H'→
    (J.stop i H'∧N σ' H')∨(J.go i H'∧∃N2:L2.St→Hp→Prop,(∀σ2 H2,N2 σ2 H2→∃m',m' < m∧W (i+1) m' σ2 H2)∧
      ∀x H2,J.yld i H' x H2→g x σ' H2 fun σ2 H3=>tc σ2 H3 fun b H4=>if b=true then tk σ2 H4 fun y H5=>tv σ2 H5 fun v H6=>∃(kk:iS) (kvs:List (iS × V)),y=kV kk∧H6 l=some (.dK kvs)∧kvs.length < sizeLine∧N2 σ2 (bP H6 l (.dK (Av kvs kk v))) else N2 σ2 H4)
structure zQ (cp:List (Nat × Str)) (nT:Nat) (wi:TI) (g:TG) (tc:TT) (wi2:TI) (g2:TG) (tc2:TT) (tk tv:TE) (σ:L2.St) (H:Hp) (Q:VK):Prop where
  go:wi σ H fun J H1=>∀l,H1 l=none→
  ∃W:Nat→Nat→L2.St→Hp→Prop,(∃m,W 0 m (fw cp nT σ) (bP H1 l (.dK [])))∧∀i m σ' H',W i m σ' H'→
    (J.stop i H'∧Q (.ref l) H')∨(J.go i H'∧∃N:L2.St→Hp→Prop,(∀σ2 H2,N σ2 H2→∃m',m' < m∧W (i+1) m' σ2 H2)∧
      ∀x H2,J.yld i H' x H2→g x σ' H2 fun σ2 H3=>tc σ2 H3 fun b H4=>if b=true then uP l wi2 g2 tc2 tk tv σ2 H4 N else N σ2 H4)
end L2
namespace L2
open PySem PySem.Spec PyProof.Rows
def aK(p:Int × pX):iS × V:=(Sum.inl p.1,p.2.toV)
def aD(p:Int × pX):PyData × PyData:=(.int p.1,p.2.toD)
section
variable{K:PySem.W.Frag}{F H F' H':Hp}{σ σ':L2.St}{e e':En}{nT:Nat}
inductive CD (K:PySem.W.Frag) (W:List Nat) (σ0:L2.St) (F1 H1:Hp) (e0:En) (l:Addr) (P:Hp→En→List (Int × pX)→Prop) (σ':L2.St) (H':Hp):Prop
  | mk {F':Hp} {ei:En} {acc:List (Int × pX)} (R:aQ K F' H' σ' ei) (X:cv W σ0 F1 H1 e0 σ' F' H' ei) (fl:F' l=none) (hl:H' l=some (.dK (acc.map aK))) (hc:P F' ei acc):CD K W σ0 F1 H1 e0 l P σ' H'
end
section
variable{X:Cx}{K:PySem.W.Frag}{pos:Pos}
end
end L2
namespace L2
open PySem PySem.Spec PyProof.Rows
section
variable{K:PySem.W.Frag}{F H F' H' F1 H1 F2 H2:Hp}{σ σ' σ1 σ2:L2.St}{e e' e1 e2:En}{i:Nat}{W W1 W2:List Nat}
structure z7 (K:PySem.W.Frag) (i:Nat) (F H:Hp) (σ:L2.St) (e:En):Prop where
  rel:aQ K F H σ (e.set i none)
  dct:∃(l:Addr) (m:List (Int × pX)),e[i]?=some (some (.d (.dict (m.map aD))))∧σ[i]?=some (some (.ref l))∧F l=none∧H l=some (.dK (m.map aK))
structure Bc (i:Nat) (W:List Nat) (σ:L2.St) (F H:Hp) (e:En) (σ':L2.St) (F' H':Hp) (e':En):Prop where
  sf:au F F'
  dom:∀a,H' a=none→H a=none
  fr:∀a vs,F a=none→H a=some (.lst vs)→¬bW σ (e.set i none) H a→F' a=none
  lst:∀a vs,H a=some (.lst vs)→∃vs',H' a=some (.lst vs')
  tmp:∀a o,H a=some o→¬bW σ (e.set i none) H a→σ[i]?≠some (some (.ref a))→H' a=some o
  own:∀a,bW σ' (e'.set i none) H' a→bW σ (e.set i none) H a∨H a=none
  wr:∀j,j∉W→σ'[j]?=σ[j]?
  dd:σ'[i]?=σ[i]?
  fd:∀a m,F a=none→H a=some (.dK m)→¬bW σ (e.set i none) H a→σ[i]?≠some (some (.ref a))→F' a=none
end
section
variable{X:Cx}{K:PySem.W.Frag}{i:Nat}{W W1 W2:List Nat}{st:Stmt}{cO:List Stmt}{f g:FS}{ft:FT}{pos:Pos}
inductive zV (K:PySem.W.Frag) (i:Nat) (F1:Hp) (P:En→Prop) (G:L2.St→Hp→Hp→En→Prop) (σ:L2.St) (H:Hp):Prop
  | mk {F:Hp} {e:En} (R:z7 K i F H σ e) (sF:au F1 F) (hf:P e) (q:G σ F H e):zV K i F1 P G σ H
end
end L2
namespace L2
open PySem PySem.Spec PyProof.Rows
abbrev sE:List Value:=[.type "ValueError",.type "Exception",.type "BaseException",.type "object"]
def zT(h:Heap)(C:Addr):Prop:=∃(bm:List Value) (N:Addr) (nm q:Str) (bs:List Value) (hd:Bool) (sn:List Str) (sub:List Value) (ab:Bool) (col:Option Bool) (dd:Option Addr) (k0 k1 k2 k3 k5:Option Value) (m:Str→Option Value),
  h.get? C=some (excClassObj nm q C N bs bm hd sn sub ab col dd k0 k1 k2 k3 k5 "ValueError.__new__")∧h.Ns N m∧m "__init__"=none∧OwnTail h sE bm
theorem tu{K:PySem.W.Frag}{h:Heap}{C:Addr}(X:K.In h)(q:PySem.W.excIn K C sE "ValueError.__new__"=true):zT h C:=by
  unfold PySem.W.excIn at q
  split at q
  case h_2=>cases q
  case h_1 dd cd sl ho=>
  split at q
  case h_2=>cases q
  case h_1 C' bm k0 k1 k2 k3 n k5 hm hs=>
  simp only [Bool.and_eq_true,beq_iff_eq,Bool.not_eq_true'] at q
  obtain⟨⟨⟨⟨⟨e1,e2⟩,e3⟩,e4⟩,e5⟩,e6⟩:=q
  subst e1 e2
  cases cd with
  | mk nm bs mro ns qn hd sn sub ab col del=>
  have e7:mro=.ref C'::bm:=hm
  have e8:del=false:=e3
  subst e7 e8
  cases sl with
  | mk l=>
  have e9:l=[k0,k1,k2,k3,some (.builtin "ValueError.__new__"),k5]:=hs
  subst e9
  exact⟨bm,ns,nm,qn,bs,hd,sn,sub,ab,col,dd,k0,k1,k2,k3,k5,_,X _ _ ho,.of_isNs (PySem.W.isNs_of_in X e5),PySem.W.nsMap_none_of_in X e5 e6,PySem.W.tail_of_in X e4⟩
section
variable{X:Cx}{C:Addr}{x:Str}{p pos rp:Pos}{e:Expr}{t:TA}
def Kp(H H':Hp):Prop:=∀a o,H a=some o→H' a=some o
def n5(X:Cx)(C:Addr):Prop:=∀(pins:List (Addr × Obj)) (σ:St) (H:Hp) (s:Shared) (h':Heap) (a:Addr) (vs:List Value),ax X pins σ H s→Kp X.H₀ H→Heap.MadeExcOf s.heap h' a (.ref C) vs→X.xe (.ref a) {s with heap:=h'}
theorem rG(hcalm:X.calm=true)(hg:Gl X x)(hm:X.mg x=some (.ref C))(hC:PySem.W.excIn X.K C sE "ValueError.__new__"=true)(hx:n5 X C)(ha:PA X [e] t)
    (hdb:(x==("__debug__":Str))=false:=by decide)(he:starEach [e] X.env=[(false,eval e X.env)]:=by rfl):
    PS X (.Raise (some (.Call (.Name x p) [e] [] pos)) none rp) (fun _ σ H=>t σ H fun vs H1=>vs.length≤sizeLine∧Kp X.H₀ H1):=by
  intro pins s σ H D I h
  obtain⟨bm,N,nm,q,bs,hd,sn,sub,ab,col,dd,k0,k1,k2,k3,k5,m,c1,c2,c3,c4⟩:=tu I.mod.kin hC
  refine wpAny_Raise_call_subU (C:=C) (N:=N) (nm:=nm) (q:=q) (bs:=bs) (bm:=bm) (hdct:=hd) (sn:=sn) (sub:=sub) (ab:=ab) (col:=col) (dd:=dd) (k0:=k0) (k1:=k1) (k2:=k2) (k3:=k3) (k5:=k5) (mN:=m) F.excBase_ValueError (by decide+kernel) F.excBase_ValueError (c4.hasType (by decide+kernel)) (I.ok.hd hcalm) (by rw [he];rfl) c3 (gZ I hg hm ⟨rfl,?_⟩ hdb)
  have hA:=ha pos pins s σ H _ I h
  rw [he] at hA ⊢
  refine Calls.evalArgs_plain (bV hA fun us s1 ⟨vs,H1,I1,r,q,kq⟩=>⟨rfl,?_,I1.bk _ _ c1,c2.keeps I1.bk,c4.keeps I1.bk,fun h' a hx'=>hx pins σ H1 s1 h' a us I1 kq hx'⟩)
  rw [←r.length];exact q
end
end L2
namespace L2
open PySem PySem.Spec PyProof.Rows
theorem cG.some{P:Program}{w:World}{H:Hp}{h:Heap}{a:Addr}{o:HO}(x:cG P w H h a o):∃u,h.get? a=.some u:=by
  cases o with
  | lst xs=>obtain⟨_,_,_,_,e⟩:=x;exact⟨_,e⟩
  | tup xs=>obtain⟨_,_,_,p⟩:=x;obtain⟨o,e,_⟩:=p;exact⟨o,e⟩
  | dK kvs=>obtain⟨_,_,_,_,o,_,_,e,_⟩:=x;exact⟨_,e⟩
  | dT kvs=>obtain⟨_,_,_,_,o,_,_,e,_⟩:=x;exact⟨_,e⟩
  | set S n=>obtain⟨o,_,_,_,e,_⟩:=x;exact⟨_,e⟩
  | ins C dx fs=>obtain⟨_,_,_,e,_⟩:=x;exact⟨_,e⟩
  | own y=>obtain⟨o,e⟩:=x;exact⟨o,e⟩
  | xd fs=>obtain⟨_,⟨_,_,_,e,_⟩,_⟩:=x;exact⟨_,e⟩
  | rng lo hi=>obtain⟨_,_,_,e⟩:=x;exact⟨_,e⟩
  | frz ob u=>obtain⟨e,_⟩:=x;exact⟨_,e⟩
  | tbl ps=>exact⟨_,show h.get? a=.some _ from x⟩
  | met f y=>exact⟨_,show h.get? a=.some _ from x⟩
  | ext φ=>obtain⟨_,⟨o,e⟩,_⟩:=x;exact⟨o,e⟩
def mZ(l:List Env)(h h':Heap):Prop:=∀b∈iu l,∀o,h.get? b=some o→∃sl,h'.get? b=some {o with slots:=sl}
def vP(P:Program)(w:World)(C:Addr):mX:=fun outer H s _ e s'=>∃(a:Addr) (t:Value) (b0:Heap) (H':Hp),e=.ref a∧s'.os=s.os∧AllBare s'.gens∧Heap.FlyingW b0 outer a (.ref C) t s'.heap∧mZ outer s.heap s'.heap∧H' a=none∧s.heap.get? a=none∧Kp H H'∧
  ∀h2:Heap,b0.StaysIn h2→mZ outer s.heap h2→Un (iu outer) [] H H' s.heap h2∧i6 P w H' h2
theorem kJ{h base b0:Heap}:∀{l:List Env},(∀b∈iu l,b0.get? b=none)→h.FunFrames base l→h.FunFrames b0 l
  | [],_,_=>trivial
  | env::r,hn,hl=>by
    obtain⟨hk,⟨L,o,hf,_,ho,hd⟩,hr⟩:=hl
    have e:iu (env::r)=L::iu r:=by unfold iu;rw [List.filterMap_cons,hf]
    rw [e] at hn
    exact⟨hk,⟨L,o,hf,hn L (by simp),ho,hd⟩,kJ (fun b hb=>hn b (by simp [hb])) hr⟩
theorem rX{P:Program}{w:World}{K:PySem.W.Frag}{mg:Str→Option Value}{base:Heap}{N:List Str}{qual:Str}{scope:Scope}{f:Addr}{cd:Value}{A:Around}{outer:List Env}{s:Shared}{H:Hp}{E:XK}{C:Addr}:
    n5 (i7 (vP P w C) P w K mg base N qual scope f cd A outer s H E) C:=by
  intro pins σ H1 s1 h' a vs I hkp hx
  have hst:(i7 (vP P w C) P w K mg base N qual scope f cd A outer s H E).stack=envOfC qual scope s.heap.objs.size f cd::outer:=rfl
  have sfr:=I.stkFree
  have sfun:=I.stack
  rw [hst] at sfr sfun
  have hf:(envOfC qual scope s.heap.objs.size f cd).frame=some (envOfC qual scope s.heap.objs.size f cd).locals:=by
    rcases I.ok.stk with e | e
    · exact absurd (congrArg List.length (hst.symm.trans e)) (by simp [i7])
    · exact e.2
  have frc:iu (envOfC qual scope s.heap.objs.size f cd::outer)=(envOfC qual scope s.heap.objs.size f cd).locals::iu outer:=by unfold iu;rw [List.filterMap_cons,hf]
  have hid:∀b o,s1.heap.get? b=some o→b∉iu (envOfC qual scope s.heap.objs.size f cd::outer)→(PySem.W.hideAll s1.heap (iu (envOfC qual scope s.heap.objs.size f cd::outer))).get? b=some o:=fun b o e hn=>PySem.W.hideAll_get _ e hn
  have nonf:∀b∈iu outer,∀o,s1.heap.get? b=some o→∀vs,o.data≠.fields vs:=fun b hb o e=>by
    obtain⟨_,o',e',q⟩:=sfun.mem (show b∈iu (_::outer) by rw [frc];simp [hb])
    rw [e] at e';cases e';exact q
  refine wpAny_leaves_madeW (base:=PySem.W.hideAll s1.heap (iu (envOfC qual scope s.heap.objs.size f cd::outer))) (h:=s1.heap) (I.ok.frames.trans (by rw [hst])) hf (fun b o e=>PySem.W.of_hideAll _ e) (kJ (fun b hb=>PySem.W.hideAll_none _ hb) sfun) hx fun h2 t fl _ _ up=>?_
  have ib:Un (iu outer) [] H H1 s.heap s1.heap:=I.base
  have sl0:mZ outer s.heap s1.heap:=fun b hb o e=>ib.slot b o e (I.ok.frf b hb) hb (by simp)
  refine⟨a,.ref t,_,H1,rfl,I.os,I.bare,fl,fun b hb o e=>?_,?_,?_,hkp,fun h3 st sl=>⟨⟨fun b o e n hb _=>?_,fun b o e n hb _=>sl b hb o e,ib.free,fun b o e _=>?_,ib.tups,ib.frzs,ib.tbls⟩,fun b u e=>?_⟩⟩
  · obtain⟨s2,e2⟩:=sl0 b hb o e
    obtain⟨s3,e3⟩:=up b _ (hx.keeps b _ e2) (nonf b hb _ e2)
    exact⟨s3,e3⟩
  · cases q:H1 a with
    | none=>rfl
    | some u=>
      obtain⟨o,e⟩:=(I.hok a u q).some
      have:=hx.new
      rw [e] at this;cases this
  · cases q:s.heap.get? a with
    | none=>rfl
    | some o=>
      obtain⟨o',e⟩:=ib.there a o q (by simp)
      have:=hx.new
      rw [e] at this;cases this
  · have lt:=Heap.lt_size e
    refine st b o (hid b o (ib.keep b o e n hb (by simp)) ?_)
    rw [frc]
    intro z
    rcases List.mem_cons.mp z with z | z
    · have ab:s.heap.objs.size≤(envOfC qual scope s.heap.objs.size f cd).locals:=I.ok.above
      rw [z] at lt
      exact absurd lt (Nat.not_lt.mpr ab)
    · exact hb z
  · by_cases hb:b∈iu outer
    · obtain⟨s2,e2⟩:=sl b hb o e
      exact⟨_,e2⟩
    · obtain⟨o',e'⟩:=ib.there b o e (by simp)
      have lt:=Heap.lt_size e
      refine⟨o',st b o' (hid b o' e' ?_)⟩
      rw [frc]
      intro z
      rcases List.mem_cons.mp z with z | z
      · have ab:s.heap.objs.size≤(envOfC qual scope s.heap.objs.size f cd).locals:=I.ok.above
        rw [z] at lt
        exact absurd lt (Nat.not_lt.mpr ab)
      · exact hb z
  · refine(I.hok b u e).stay (fun c v hc q=>st c v (hid c v q fun z=>?_)) (fun _ q=>q) (fun _ _ q=>q)
    have zn:=sfr c z
    rcases hc with rfl | hc
    · rw [e] at zn;cases zn
    · rw [hc] at zn;cases zn
theorem vd.okX{P:Program}{w:World}{K:PySem.W.Frag}{mg:Str→Option Value}{base:Heap}{CX:mX}{x qual:Str}{st:Stmt}{f:Addr}{fd:FuncData}{N ps:List Str}{k:Nat}{sp:Sp}(F:vd K x qual st f fd)(S:av N ps (ah st))(len:∀vs H Q E,sp vs H Q E→vs.length=ps.length)
    (hb:∀(cdv:Value) (A:Around) (outer:List Env) (s:Shared) (H:Hp) (vs:List V) (Q:VK) (E:XK),cf k (A.deeper (envOfC qual (ah st) s.heap.objs.size f cdv))→sp vs H Q E→
      ∃t,gL (i7 CX P w K mg base N qual (ah st) f cdv A outer s H E) (bG st) t∧t {nx:=fun _ H'=>Q .non H',rt:=Q} (dH N vs) H):az P w K mg base CX (k+1) f fd ps sp:=by
  obtain⟨oc,od,kV,doc,pm,an,cdv,ct,osl,e1,lk,hcd⟩:=F.ex
  rw [e1] at lk ⊢
  exact vp lk hcd S len fun A outer s H vs Q E hr hsp=>hb cdv A outer s H vs Q E hr hsp
def jL(e:En):Bool:=e.all fun s=>match s with
  | none=>true
  | some (.d _)=>true
  | _=>false
theorem lS{e:En}(h:jL e=true){σ:L2.St}{H:Hp}{a:Addr}(o:bW σ e H a):False:=by
  obtain⟨i,⟨xs,q,_⟩ | ⟨xss,_,_,q,_⟩⟩:=o
  · have:=List.all_eq_true.mp h _ (List.mem_of_getElem? q);cases this
  · have:=List.all_eq_true.mp h _ (List.mem_of_getElem? q);cases this
def fR(H0:Hp)(K:PySem.W.Frag)(g:En→Prop):TS:=fun _ σ H=>∃F e,aQ K F H σ e∧jL e=true∧Kp H0 H∧g e
section
variable{X:Cx}{K:PySem.W.Frag}{st r:Stmt}{cO:List Stmt}{c:Expr}{pos:Pos}{f1:FS}{ft:FT}{W1:List Nat}{g:En→Prop}
theorem PS.nox{t:TS}(h:PS X.nox st t):PS X st t:=fun pins s σ H D I hw=>
  wpAny_mono (h pins s σ H D (I.wish _) hw) (fun _ _ q=>q.unwish) fun _ _ z=>False.elim z
theorem zg(hc:PT X c (fT K ft))(hr:PS X r fun _ _ H=>Kp X.H₀ H):gL X (.If c [r] [] pos::cO) (fR X.H₀ K fun e=>∃e',ft e=some (true,e')):=by
  intro pins s σ H D I ⟨F,e,R,no,kp,e',he⟩
  have hi:=vF (pos:=pos) hc (hV hr) (ox (X:=X))
  refine wpAny_execs_cons (bV (hi pins s σ H {nx:=fun _ _=>False,rt:=fun _ _=>False} I ⟨F,e,true,e',R,he,fun F' H' x _=>?_⟩) fun f s1 q=>?_)
  · exact wl fun a o h=>x.tmp a o (kp a o h) (lS no)
  · cases f with
    | next=>obtain⟨_,_,_,z⟩:=q;exact z.elim
    | brk=>obtain⟨_,_,_,z⟩:=q;exact z.elim
    | cont=>obtain⟨_,_,_,z⟩:=q;exact z.elim
    | ret u=>obtain⟨_,_,_,_,_,z⟩:=q;exact z.elim
theorem oC(h1:PS X st (fS K f1 W1))(h2:gL X cO (fR X.H₀ K g)):gL X (st::cO) (fR X.H₀ K fun e=>∃e1,f1 e=some (.nx e1)∧jL e1=true∧g e1):=(eY h1 h2).mono fun D σ H ⟨F,e,R,no,kp,e1,he,no1,hg⟩=>
  ⟨F,e,.nx e1,R,he,fun F' H' σ' x R'=>⟨F',e1,R',no1,fun a o h=>x.tmp a o (kp a o h) (lS no),hg⟩⟩
end
def yg(K:PySem.W.Frag)(n k0:Nat)(g:En→Prop):Sp:=fun vs H _ _=>vs.length=n∧∃(F:Hp) (as:List Sv),aQ K F H (vs.map some) (as.map some)∧jL (as.map some)=true∧g (as.map some++List.replicate k0 none)
theorem qY{e:En}{k:Nat}(h:jL e=true):jL (e++List.replicate k none)=true:=by
  unfold jL at h ⊢
  rw [List.all_append,h,Bool.true_and,List.all_eq_true]
  intro s hs
  rw [(List.mem_replicate.mp hs).2]
theorem aV.fnR{P:Program}{w:World}{K:PySem.W.Frag}{mg:Str→Option Value}{base:Heap}{x:Str}{st:Stmt}{f C:Addr}{fd:FuncData}{N ps:List Str}{k n k0:Nat}{g:En→Prop}(h:aV K mg x st f fd ps)(S:av N ps (ah st))(hn:ps.length=n)(hN:N.length=n+k0)
    (hb:∀(cdv:Value) (A:Around) (outer:List Env) (s:Shared) (H:Hp) (E:XK),cf k (A.deeper (envOfC x (ah st) s.heap.objs.size f cdv))→gL (i7 (vP P w C) P w K mg base N x (ah st) f cdv A outer s H E) (bG st) (fR H K g)):
    az P w K mg base (vP P w C) (k+1) f fd ps (yg K n k0 g):=by
  refine h.F.okX S (fun vs H Q E q=>by rw [hn];exact q.1) fun cdv A outer s H vs Q E hr hsp=>⟨_,hb cdv A outer s H E hr,?_⟩
  obtain⟨hl,F,as,R,no,hg⟩:=hsp
  have hst:dH N vs=vs.map some++List.replicate k0 none:=by unfold dH;rw [hN,hl];congr 2;lia
  rw [hst]
  exact⟨F,_,R.pad,qY no,fun _ _ z=>z,hg⟩
end L2
namespace L2
open PySem PySem.Spec PyProof.Rows PySem.W
section
variable{prog:Program}{w:World}{A:Around}{E:Value→Shared→Prop}{h:Heap}{g:Array GenState}{d:Drawn}{t:Nat}{os:OsState}{a D:Addr}{o:Obj}{K:Frag}
structure l7 (K:Frag) (D:Addr):Prop where
  ga:findIn K (.ref D) "__getattribute__"=some (some (.builtin "BaseException.__getattribute__"))
  gt:findIn K (.ref D) "__getattr__"=some none
  cl:findIn K (.ref D) "__class__"=some (some (.builtin "object.__class__"))
  mo:mroIn K D (.type "object")=some true
  mb:mroIn K D (.type "BaseException")=some true
  cs:(clsIn K D).isSome=true
theorem jt(hx:h.get? a=some o)(hc:o.cls=.ref D)(M:Model):Looks M h (typeOf (.ref a)) (.ref D):=hc ▸ (Looks.ld hx).andThen .now
theorem pb{tk:Tok}{Q:Fin→Shared→Prop}(X:K.In h)(Z:l7 K D)(hx:h.get? a=some o)(hc:o.cls=.ref D)(hq:Q (.done (.ret (.ref D))) ⟨h,g,d,t,os⟩):
    wpAny (model prog w) A (Builtin.«object.__getattribute__» ⟨[.ref a,.str "__class__" tk],[]⟩) Q E ⟨h,g,d,t,os⟩:=by
  have T:=jt hx hc (model prog w)
  have L1:=looks_findIn (M:=model prog w) X Z.cl
  have hT5:(⟨h,g,d,t,os⟩:Shared).TypeIs (.builtin "object.__class__") "getset_descriptor":=F.typeOf_object_class
  have f5:=F.typeOf_object_class
  have f6:=F.slot_gs_get.lookup
  have f7:=F.slot_gs_set.lookup
  repeat (any_goals (first | assumption | (with_reducible refine wpAny_loadPart_at hx ?_;rw [hc]) | with_reducible refine L1.at ?_ | wp_step))
  have L2:=looks_mroIn (M:=model prog w) X Z.mo
  refine codeAny_call_builtin F.slot_gs_get.plain F.entry_gs_get (F.slot_gs_get.check _ _ _ _ _ _ _ _ hT5 (F.args_gs_get _ _ _) ?_)
  unfold Builtin.«getset_descriptor.__get__» Builtin.Getset_descriptor.descrGet
  rw [dga_obj]
  refine wpAny_bind (wpAny_pure ?_)
  unfold Builtin.Getset_descriptor.descrGetter Builtin.Getset_descriptor.descrCheckInstance Builtin.Getset_descriptor.descrNameAndClass isInstance
  simp only [KF.owner_class]
  repeat (any_goals (first | assumption | (with_reducible refine wpAny_loadPart_at hx ?_;rw [hc]) | with_reducible refine L2.at ?_ | wp_step))
  refine⟨Code.quiet_builtin _ (by decide+kernel),codeAny_builtin KF.entry_class ?_⟩
  unfold Builtin.«object.__class__» shownTypeOf
  repeat (any_goals (first | assumption | (with_reducible refine wpAny_loadPart_at hx ?_;rw [hc]) | wp_step))
theorem o_{nv:Value}{Q:Unit→Shared→Prop}(X:K.In h)(Z:l7 K D)(hx:h.get? a=some o)(hc:o.cls=.ref D)(hq:Q () ⟨h,g,d,t,os⟩):
    wpAny (model prog w) A (checkBuiltinCall "BaseException.__getattribute__" ⟨[.ref a,nv],[]⟩) Q E ⟨h,g,d,t,os⟩:=by
  have L3:=looks_mroIn (M:=model prog w) X Z.mb
  have hk:builtinKind "BaseException.__getattribute__"=some .slot:=by decide+kernel
  have hs:splitId "BaseException.__getattribute__"=some ("BaseException","__getattribute__"):=by decide+kernel
  have ha:=F.args_bexc_ga (.ref a) nv
  simp only [checkBuiltinCall,hk,hs]
  refine wpAny_bind ?_
  unfold isInstance
  repeat (first | (with_reducible refine wpAny_loadPart_at hx ?_;rw [hc]) | with_reducible refine L3.at ?_ | wp_step)
  exact hq
theorem wc{tk:Tok}{Q:Value→Shared→Prop}(X:K.In h)(Z:l7 K D)(hx:h.get? a=some o)(hc:o.cls=.ref D)(hq:Q (.ref D) ⟨h,g,d,t,os⟩):
    wpAny (model prog w) A (getAttrBy (.ref a) (.str "__class__" tk) false) Q E ⟨h,g,d,t,os⟩:=by
  have L1:=looks_findIn (M:=model prog w) X Z.ga
  have L2:=looks_findIn (M:=model prog w) X Z.gt
  have L3:=looks_mroIn (M:=model prog w) X Z.mb
  have f3:=F.excAttr_ValueError.ga.bind (.ref a)
  have hx2:(Value.builtin "BaseException.__getattribute__"==Value.builtin "object.__getattribute__")=false:=by decide+kernel
  have hx1:(onTheHeap (Value.ref D)&&Value.builtin "BaseException.__getattribute__"==Value.builtin "object.__getattribute__")=false:=by rw [hx2,Bool.and_false]
  repeat (any_goals (first | assumption | (with_reducible refine wpAny_loadPart_at hx ?_;rw [hc]) | with_reducible refine L1.at ?_ | with_reducible refine L2.at ?_ | wp_step))
  exact codeAny_call_builtin F.attr_ValueError.ga.plain F.entry_bexc_ga (o_ X Z hx hc (pb X Z hx hc (handed_on rfl hq)))
theorem qP(Z:l7 K D):KitX K (.ref a) (.ref D) (fun h=>∃o,h.get? a=some o∧o.cls=.ref D) where
  ty:=fun M h _ ⟨o,h1,h2⟩=>jt h1 h2 M
  it:=fun M h X _=>by
    obtain⟨cd,hc⟩:=Option.isSome_iff_exists.mp Z.cs
    unfold clsIn at hc
    split at hc
    case h_2=>cases hc
    case h_1 ho=>
    intro A' Q' E' s' k q
    unfold isType loadHead
    exact wpAny_bind (wpAny_loadPart (k _ _ (X _ _ ho)) (wpAny_pure q))
  ne:=fun h tp dd its n sl X htp=>by
    obtain⟨cd,hc⟩:=Option.isSome_iff_exists.mp Z.cs
    refine Bool.eq_false_iff.mpr fun q=>?_
    have e:D=tp:=Value.ref.inj (beq_iff_eq.mp q)
    subst e
    unfold clsIn at hc
    split at hc
    case h_2=>cases hc
    case h_1 ho=>
    cases (X _ _ ho).symm.trans htp
  ca:=fun{_ _ _ _ _ s} X ⟨o,h1,h2⟩ k=>by
    obtain⟨hh,g,d,t,os⟩:=s
    unfold getAttr? getAttrBy?
    exact wpAny_bind (wpAny_mkText (wpAny_bind (wpAny_attempt (wc X Z h1 h2 (wpAny_pure k)))))
end
end L2
namespace L2
open PySem PySem.Spec PyProof.Rows
def Ak(C a:Addr)(h:Heap):Prop:=∃o,h.get? a=some o∧o.cls=.ref C
def tj(C a:Addr):HO:=.ext (Ak C a)
section
variable{X:Cx}{pins:List (Addr × Obj)}{σ:L2.St}{H H':Hp}{s:Shared}{n:Str}{j:Nat}
theorem tL{M:Model}{A:Around}{E:Value→Shared→Prop}{pos:Pos}{Q:Unit→Shared→Prop}(I:ax X pins σ H s)(hN:X.N.Nodup)(hj:X.N[j]?=some n)(lj:X.env.scope.names.lookup n=some .local)
    (h:∀s',ax X pins (σ.set j none) H s'→Q () s'):wpAny M A (do bindName X.env n .none;unbindBehindTheSuite X.env n pos) Q E s:=by
  obtain⟨m,hn,hl⟩:=id I.loc
  have hp:(X.env.scope.kind==.class || (X.env.scope.kind==.module&&X.env.locals != X.env.globals))=false:=by rw [I.ok.kind];rfl
  refine wpAny_nameGoes_keeps lj hn hp fun h' v hn' hs=>h _ ?_
  obtain⟨oL,_,_,hoL,_⟩:=id hn
  have old:∀b o,X.s₀.heap.get? b=some o→h'.get? b=s.heap.get? b:=fun b o e=>hs.2 b (Nat.ne_of_lt (Nat.lt_of_lt_of_le (Heap.lt_size e) I.ok.above))
  refine⟨I.ok,I.os,I.bare,⟨fun b o e k hb hx=>(old b o e).trans (I.base.keep b o e k hb hx),fun b o e k hb hx=>?_,I.base.free,fun b o e hx=>?_,I.base.tups,I.base.frzs,I.base.tbls⟩,⟨_,hn',fun i y w e1 e2 e3=>?_⟩,fun y c e=>?_,I.free,I.freeC,fun p hp'=>?_,fun b ob e=>?_,by rw [List.length_set];exact I.len⟩
  · obtain⟨sl,q⟩:=I.base.slot b o e k hb hx
    exact⟨sl,(old b o e).trans q⟩
  · obtain⟨o',q⟩:=I.base.there b o e hx
    exact⟨o',(old b o e).trans q⟩
  · have ij:i≠j:=fun z=>by
      subst z
      by_cases z2:i < σ.length
      · rw [List.getElem?_set_self z2] at e2;cases e2
      · rw [List.getElem?_eq_none (by rw [List.length_set];lia)] at e2;cases e2
    rw [List.getElem?_set_ne (Ne.symm ij)] at e2
    obtain⟨u,r,q⟩:=hl i y w e1 e2 e3
    refine⟨u,r,?_⟩
    have yn:y≠n:=fun z=>ij (jN hN e1 (z ▸ hj))
    rcases q with ⟨k,q⟩ | ⟨k,c,q,z⟩
    · exact .inl ⟨k,(if_neg yn).trans q⟩
    · exact .inr ⟨k,c,q,z.sameBut hs (I.cne y c q)⟩
  · obtain⟨w,z⟩:=I.cell y c e
    exact⟨w,z.sameBut hs (I.cne y c e)⟩
  · obtain⟨e,k,ne,nf,d⟩:=I.pin p hp'
    exact⟨(hs.2 p.1 ne).trans e,k,ne,nf,d⟩
  · refine(I.hok b ob e).stay (fun c w hc q=>(hs.2 c ?_).trans q) (fun _ q=>q) fun _ _ q=>q
    rintro rfl
    have fr:=I.free
    rcases hc with rfl | hc
    · rw [fr] at e;cases e
    · rw [fr] at hc;cases hc
abbrev Cx.inX(X:Cx)(a:Addr):Cx:={X with A:=X.A.mark (some (.ref a)),calm:=false,xe:=fun _ _=>False}
theorem ax.inX(I:ax X pins σ H s)(a:Addr):ax (X.inX a) pins σ H s:=
  ⟨⟨I.ok.mod,I.ok.kind,I.ok.glob,I.ok.blt,I.ok.above,I.ok.inj,I.ok.has,I.ok.cab,fun z=>(by cases z),I.ok.frames,I.ok.stk,I.ok.exf,I.ok.bs,I.ok.bsz,I.ok.noex,I.ok.exfs,I.ok.funs,I.ok.frf⟩,I.os,I.bare,I.base,I.loc,I.cell,I.free,I.freeC,I.pin,I.hok,I.len⟩
theorem ax.outX{a:Addr}(I:ax (X.inX a) pins σ H s)(hd:X.calm=true→X.A.handled=none):ax X pins σ H s:=
  ⟨⟨I.ok.mod,I.ok.kind,I.ok.glob,I.ok.blt,I.ok.above,I.ok.inj,I.ok.has,I.ok.cab,hd,I.ok.frames,I.ok.stk,I.ok.exf,I.ok.bs,I.ok.bsz,I.ok.noex,I.ok.exfs,I.ok.funs,I.ok.frf⟩,I.os,I.bare,I.base,I.loc,I.cell,I.free,I.freeC,I.pin,I.hok,I.len⟩
theorem ax.raised{C a:Addr}{t:Value}{b0 h2:Heap}{g':Array GenState}{d':Drawn}{t':Nat}(I:ax X pins σ H s)(hf:Heap.FlyingW b0 X.stack a (.ref C) t h2)(sl:mZ X.stack s.heap h2)(hn:H' a=none)(na:s.heap.get? a=none)(bare:AllBare g')
    (un:∀h3:Heap,b0.StaysIn h3→mZ X.stack s.heap h3→Un (iu X.stack) [] H H' s.heap h3∧i6 X.prog X.w H' h3):ax X pins σ (bP H' a (tj C a)) {s with heap:=h2,gens:=g',drawn:=d',toks:=t'}:=by
  obtain⟨u,ok⟩:=un h2 hf.1 sl
  obtain⟨oe,vs,he,hc,hd,_⟩:=hf.first
  have nb:∀b o,H' b=some o→b≠a:=fun b o q z=>by subst z;rw [hn] at q;cases q
  refine I.call (ch:=[]) ⟨u.keep,u.slot,fun b o e k hx=>?_,u.there,fun b xs q=>?_,fun b o v q=>?_,fun b ps q=>?_⟩ (fun b o e=>?_) bare (fun b z=>by cases z)
  · rw [aF fun z=>by subst z;rw [na] at e;cases e];exact u.free b o e k hx
  · have:=u.tups b xs q;rw [aF (nb b _ this)];exact this
  · have:=u.frzs b o v q;rw [aF (nb b _ this)];exact this
  · obtain⟨mo,q⟩:=u.tbls b ps q;exact⟨mo,by rw [aF (nb b _ q)];exact q⟩
  · by_cases z:b=a
    · subst z
      rw [aE] at e
      cases e
      exact⟨⟨oe,he,hc⟩,⟨oe,he⟩,fun h1 h3 ⟨o,q1,q2⟩ k=>⟨o,k o q1,q2⟩⟩
    · rw [aF z] at e
      exact(ok b o e).stay (fun _ _ _ q=>q) (fun c q=>by rw [aF (nb c _ q)];exact q) fun c xs q=>by rw [aF (nb c _ q)];exact q
theorem j9{l:List Env}{h h1 h2 b0:Heap}(x:mZ l h h1)(f:h1.FunFrames b0 l)(u:h1.UpToSlots h2):mZ l h h2:=fun b hb o e=>by
  obtain⟨sl,q⟩:=x b hb o e
  obtain⟨_,o',q',nf⟩:=f.mem hb
  rw [q] at q';cases q'
  obtain⟨s2,q2⟩:=u b _ q nf
  exact⟨s2,q2⟩
end
section
variable{X:Cx}{C Cb f:Addr}{fd:FuncData}{ps:List Str}{k n k0 i j:Nat}{g:En→Prop}{fn B kx nx:Str}{p pos ep bp kp np ap hp tp:Pos}{e:Expr}{es:List Expr}{t:TA}
theorem rF(hcalm:X.calm=true)(hst:X.stack=X.env::X.outer)(F:az X.prog X.w X.K X.mg X.base (vP X.prog X.w C) k f fd ps (yg X.K n k0 g))(hr:cf k X.A)(hg:Gl X fn)(hm:X.mg fn=some (.ref f))(hk:PySem.W.keepIn X.K (.ref f)=true)(hb:jm X.K fd ps [])
    (ha:PA X.nox (e::es) t)(hB:Gl X B)(hmB:X.mg B=some (.ref Cb))(hex:PySem.W.exmOne X.K (.ref C) (.ref Cb)=some true)(nd:X.N.Nodup)(hi:X.N[i]?=some kx)(hj:X.N[j]?=some nx)(li:X.env.scope.names.lookup kx=some .local)(lj:X.env.scope.names.lookup nx=some .local)(ij:i≠j)
    (hs:swapsWith (.Call (.Name fn p) (e::es) [] pos) none ep.line X.env=pure false:=by rfl)(hs2:swapsWith (.Name nx np) (some (.Name kx kp)) ap.line X.env=pure false:=by rfl)
    (hdb:(fn==("__debug__":Str))=false:=by decide)(hdB:(B==("__debug__":Str))=false:=by decide)(hdn:(nx==("__debug__":Str))=false:=by decide)(hdc:(nx==("__classdict__":Str))=false:=by decide)(he:starEach (e::es) X.env=(false,eval e X.env)::starEach es X.env:=by rfl)(hpl:(backTo pos (starEach es X.env)).any (·.1)=false:=by rfl):
    PS X (.Try [.Expr (.Call (.Name fn p) (e::es) [] pos) ep] [.ExceptHandler (some (.Name B bp)) (some nx) [.Assign [.Name kx kp] (.Name nx np) ap] hp] [] [] tp)
      (fun D σ H=>t σ H fun vs H1=>yg X.K n k0 g vs H1 (fun _ _=>False) E0∧∀a H',Kp H1 H'→H' a=none→D.nx (((σ.set j (some (.ref a))).set i (some (.ref a))).set j none) (bP H' a (tj C a))):=by
  intro pins s σ H D I h
  refine wpAny_Try_except (wpAny_execs_cons (wpAny_Expr_any ?_ I.quiet hs))
  refine wpAny_Call_Name_kw (gZ I hg hm ?_ hdb)
  refine PySem.W.callWith_K (h₀:=X.base) I.ok.mod.kin hk (wpAny_mono (ha pos pins s σ H _ (I.wish _) h) (fun us s1 ⟨vs,H1,I1,r,q,qD⟩=>⟨I1.kIn,?_⟩) fun _ _ z=>z.elim) he hpl
  have I1:ax X pins σ H1 s1:=I1.unwish
  have hl:us.length=ps.length:=by rw [←r.length];exact F.len _ _ _ _ q
  refine wpAny_call (codeAny_mono (F.run X.A X.stack s1 H1 ⟨us,[]⟩ us vs (fun _ _=>False) E0 hr I1.env0 (by have:=hb s1 us I1.kIn (by rw [List.append_nil];exact hl);rw [List.append_nil] at this;exact this) r q) fun r s' hq=>?_)
  cases r with
  | ok fl=>
    cases fl with
    | ret u=>obtain⟨_,_,_,_,_,_,_,z⟩:=hq;exact z.elim
    | next=>exact False.elim hq
    | brk=>exact False.elim hq
    | cont=>exact False.elim hq
  | error x=>
    obtain⟨a,ta,b0,H',rfl,os,bare,fl,sl,hn,na,kpp,un⟩:=hq
    have hfr:X.A.frames=some (X.env::X.outer):=by rw [I.ok.frames,hst]
    have hf:X.env.frame=some X.env.locals:=by
      rcases I.ok.stk with z | z
      · rw [hst] at z;exact absurd (congrArg List.length z) (by simp)
      · exact z.2
    have fl':=fl
    rw [hst] at fl
    refine wpAny_looks_onW hfr hf fl fun h2 held up2=>?_
    have sl2:=j9 sl fl'.2.2.1 up2
    refine wpAny_landsW (s:={s' with heap:=h2}) held fun h3 fl3 up3=>?_
    rw [←hst] at fl3 held
    have sl3:=j9 sl2 held.2.2.1 up3
    obtain⟨hh,g',d',t',o'⟩:=s'
    have eo:o'=s1.os:=os
    subst eo
    have I3:=I1.raised (h2:=h3) (g':=g') (d':=d') (t':=t') fl3 sl3 hn na bare un
    obtain⟨oe,vs0,e3,c3,_,_⟩:=fl3.first
    refine wpAny_handleBy_cons (codeAny_handlers_test (gZ (I3.inX a) hB hmB ?_ hdB)) (by intro z;cases z)
    refine(PySem.W.exm_one (M:=model X.prog X.w) I3.kIn (jt e3 c3 _) hex).at ?_
    show codeAny _ _ _ _ _
    refine codeAny_handlers_suite_as ?_
    refine lands_againW (s:={heap:=h3,gens:=g',drawn:=d',toks:=t',os:=s1.os}) fl3 fun h4 fl4 up4=>?_
    have sl4:=j9 sl3 fl3.2.2.1 up4
    have I4:=(I1.raised (h2:=h4) (g':=g') (d':=d') (t':=t') fl4 sl4 hn na bare un)
    refine fx I4 nd hj (.inl lj) (v:=.ref a) rfl (fun s5 I5=>?_) (.inr lj)
    have hjl:j < σ.length:=by rw [I.len];exact(List.getElem?_eq_some_iff.mp hj).1
    have as:=hV (lX (X:=X.inX a) (pos:=ap) (pos':=kp) nd hi (.inl li) (nL (X:=X.inX a) (pos:=np) hj (.inl lj) hdn hdc) hs2 (.inr li))
    refine wpAny_mono (as pins s5 _ _ {nx:=fun σ' H''=>σ'=(σ.set j (some (.ref a))).set i (some (.ref a))∧H''=bP H' a (tj C a),rt:=fun _ _=>False} (I5.inX a) ⟨.ref a,by rw [List.getElem?_set_self hjl],rfl,rfl⟩) (fun fl s6 q6=>?_) fun _ _ z=>z.elim
    cases fl with
    | next=>
      obtain⟨σ6,H6,I6,e6,e7⟩:=q6
      subst e6 e7
      exact tL (I6.outX I.ok.hd) nd hj lj fun s7 I7=>⟨_,_,I7,qD a _ kpp hn⟩
    | brk=>obtain⟨_,_,_,z⟩:=q6;exact z.elim
    | cont=>obtain⟨_,_,_,z⟩:=q6;exact z.elim
    | ret u=>obtain⟨_,_,_,_,_,z⟩:=q6;exact z.elim
end
end L2
namespace L2
open PySem PySem.Spec PyProof.Rows
section
variable{X:Cx}{C:Addr}{i:Nat}{x c:Str}{p p1 p2 pos:Pos}{v:V}{u:Value}{b:Bool}
theorem qd(Z:l7 X.K C):dh X (.builtin "isinstance") (fun xs H Q=>∃a v u b,xs=[.ref a,v]∧H a=some (tj C a)∧(∀u',aZ v u'→u'=u)∧PySem.W.kitOne X.K (.ref C) u=some b∧Q (.bl b) H):=by
  intro pins s σ H xs us Q I r h
  obtain⟨a,v,u,b,rfl,ha,hu,hk,q⟩:=h
  obtain⟨u1,u2,rfl,r1,r2⟩:∃u1 u2,us=[u1,u2]∧aZ (.ref a) u1∧aZ v u2:=by
    cases r with
    | cons p q=>cases q with
      | cons p' q'=>cases q';exact⟨_,_,rfl,p,p'⟩
  cases (show u1=Value.ref a from r1)
  cases hu u2 r2
  obtain⟨o,h1,h2⟩:=(show cG X.prog X.w H s.heap a (tj C a) from I.hok a _ ha).1
  exact PySem.W.kia_one (qP Z) I.kIn ⟨o,h1,h2⟩ hk (fun z=>nomatch z) fun tk=>⟨.bl b,H,I.tok _,rfl,q⟩
def zR(i:Nat)(C:Addr)(b:Bool):TE:=fun σ H Q=>∃a,σ[i]?=some (some (.ref a))∧H a=some (tj C a)∧Q (.bl b) H
theorem iJ(Z:l7 X.K C)(hg:Gl X "isinstance")(hm:X.mg "isinstance"=none)(hv:bootBuiltins "isinstance"=some (.builtin "isinstance"))(hx:PE X (.Name x p1) (pP i))(hc:PE X (.Name c p2) (tC v))(hu:∀u',aZ v u'→u'=u)(hk:PySem.W.kitOne X.K (.ref C) u=some b)
    (he:starEach [.Name x p1,.Name c p2] X.env=(false,eval (.Name x p1) X.env)::starEach [.Name c p2] X.env:=by rfl)(he2:starEach [.Name c p2] X.env=(false,eval (.Name c p2) X.env)::starEach [] X.env:=by rfl)(hpl:(backTo pos (starEach [.Name c p2] X.env)).any (·.1)=false:=by rfl):
    PE X (.Call (.Name "isinstance" p) [.Name x p1,.Name c p2] [] pos) (zR i C b):=
  (jT (qd Z) hg hm hv (aS hx (aS hc eC he2) he) (by decide) (by decide) he hpl).mono fun σ H Q ⟨a,h1,h2,q⟩=>⟨.ref a,h1,a,v,u,b,rfl,h2,hu,hk,q⟩
end
end L2
namespace L2
open PySem PySem.Spec PyProof.Rows
def AB(C:Addr)(bs:List Bool):Sp:=fun vs H Q _=>∃a,vs=[.ref a]∧H a=some (tj C a)∧∀l H',H' l=some (.lst (bs.map V.bl))→Kp H H'→Q (.ref l) H'
abbrev t3(C:Addr)(b1 b2 b3:Bool):TE:=xN (ip (zR 0 C b1) (ip (zR 0 C b2) (ip (zR 0 C b3) su)))
theorem jF{H:Hp}{l:Addr}{o:HO}(h:H l=none):Kp H (bP H l o):=fun a u e=>by rw [aF fun z=>by subst z;rw [h] at e;cases e];exact e
theorem uJ{C a:Addr}{b1 b2 b3 b4 b5 b6:Bool}{D:lb}{H:Hp}(ha:H a=some (tj C a))(q:∀l H',H' l=some (.lst ([b1,b2,b3,b4,b5,b6].map V.bl))→Kp H H'→D.rt (.ref l) H'):
    zw (xK (t3 C b1 b2 b3) (qE 1)) (xP (xO uG (pP 1) (t3 C b4 b5 b6))) D [some (.ref a),none] H:=by
  refine⟨a,rfl,ha,a,rfl,ha,a,rfl,ha,(show 3≤sizeLine by decide),fun l hl=>?_⟩
  have k1:Kp H (bP H l (.lst [.bl b1,.bl b2,.bl b3])):=jF hl
  refine⟨.ref l,rfl,a,rfl,k1 _ _ ha,a,rfl,k1 _ _ ha,a,rfl,k1 _ _ ha,(show 3≤sizeLine by decide),fun p hp=>?_⟩
  have k2:=jF (o:=.lst [.bl b4,.bl b5,.bl b6]) hp
  refine⟨l,p,_,_,rfl,rfl,k2 _ _ aE,aE,(show 6≤sizeLine by decide),fun z hz=>?_⟩
  exact q z _ aE fun c o e=>jF hz c o (k2 c o (k1 c o e))
open Classical in
noncomputable def ya(n k0:Nat)(g:En→Prop):FM:=fun as=>if as.length=n∧jL (as.map some)=true∧g (as.map some++List.replicate k0 none) then some (.d (.bool true),as) else none
theorem wA{n k0:Nat}{g:En→Prop}{as:List Sv}(h1:as.length=n)(h2:jL (as.map some)=true)(h3:g (as.map some++List.replicate k0 none)):ya n k0 g as=some (.d (.bool true),as):=if_pos ⟨h1,h2,h3⟩
section
variable{K:PySem.W.Frag}
theorem mY{F:Hp}:∀bs:List Bool,aH K F (bs.map PyData.bool) (bs.map V.bl)
  | []=>aH.nil
  | b::r=>by
    rw [List.map_cons,List.map_cons]
    simp only [aH]
    exact⟨_,_,rfl,bQ.mpr rfl,mY r⟩
theorem wb{n k0:Nat}{g:En→Prop}{vs:List V}{H H':Hp}{Q:VK}{E:XK}(h:bI K n (ya n k0 g) vs H Q E)(kp:Kp H H'):Q (.bl true) H':=by
  obtain⟨hl,F,as,r,as',R,nN,hm,nr,q⟩:=h
  unfold ya at hm
  split at hm
  case isFalse=>cases hm
  case isTrue hc=>
  cases hm
  have no:∀{a:Addr} {Z:Hp},¬bW (vs.map some) (as.map some) Z a:=fun z=>lS hc.2.1 z
  have nol:∀(i:Nat) (xs:List PyData),(as.map some)[i]?≠some (some (.l xs)):=fun i xs z=>by have:=List.all_eq_true.mp hc.2.1 _ (List.mem_of_getElem? z);cases this
  have non:∀(i:Nat) (xs:List (List PyData)),(as.map some)[i]?≠some (some (.n xs)):=fun i xs z=>by have:=List.all_eq_true.mp hc.2.1 _ (List.mem_of_getElem? z);cases this
  refine q F H' (.bl true) ⟨au.refl _,fun a z=>?_,fun _ _ z _ _=>z,fun a vs z=>⟨vs,kp a _ z⟩,fun a o z _=>kp a o z,fun _=>Iff.rfl,fun a z=>(no z).elim,fun _ _ z _ _=>z⟩ ⟨fun a o z=>kp a o (R.sm a o z),R.len,R.dat,fun i xs z=>(nol i xs z).elim,fun i xs z=>(non i xs z).elim,fun i j a z=>(no ⟨i,z⟩).elim⟩ (show DA K F (.bool true) (.bl true) from bQ.mpr rfl)
  cases e:H a with
  | none=>rfl
  | some o=>rw [kp a o e] at z;cases z
theorem sk{n k0:Nat}{g:En→Prop}{vs:List V}{H:Hp}{Q Q':VK}{E E':XK}(h:bI K n (ya n k0 g) vs H Q E):yg K n k0 g vs H Q' E':=by
  obtain⟨hl,F,as,r,as',R,nN,hm,nr,q⟩:=h
  unfold ya at hm
  split at hm
  case isFalse=>cases hm
  case isTrue hc=>exact⟨hl,F,as,R,hc.2.1,hc.2.2⟩
theorem l0(bs:List Bool):SeqAt.shaped (.list (bs.map PyData.bool))=true:=by
  have h1:PyData.canLayAll0 (bs.map PyData.bool)=true:=by
    induction bs with
    | nil=>rfl
    | cons n r ih=>simp [PyData.canLayAll0,PyData.canLay0,ih]
  have h2:PyData.depthAll (bs.map PyData.bool)=0:=by
    clear h1
    induction bs with
    | nil=>rfl
    | cons n r ih=>simp [PyData.depthAll,PyData.depth,ih]
  simp [SeqAt.shaped,PyData.canLay0,PyData.depth,h1,h2]
theorem o8(bs:List Bool):PyData.eqv (.list (bs.map PyData.bool)) (.list (bs.map PyData.bool))=true:=by
  have h:PyData.eqvAll (bs.map PyData.bool) (bs.map PyData.bool)=true:=by
    induction bs with
    | nil=>simp [PyData.eqvAll]
    | cons b r ih=>cases b<;>simp [PyData.eqvAll,PyData.eqv,ih]
  simp [PyData.eqv,h]
theorem uI{C a:Addr}{i:Nat}{bs:List Bool}{D:lb}{H:Hp}{σ:L2.St}{tl:TA}(h0:σ[i]?=some (some (.ref a)))(ha:H a=some (tj C a))(hl:bs.length≤60)(ht:∀H Q,Q (bs.map V.bl) H→tl σ H Q)
    (q:∀H',Kp H H'→D.rt (.bl true) H'):xP (xO (uH K false) (oK (AB C bs) [] E0 (ip (pP i) su)) (xN tl)) D σ H:=by
  refine⟨.ref a,h0,a,rfl,ha,fun l H1 e1 k1=>?_⟩
  refine ht _ _ ⟨by rw [List.length_map];exact Nat.le_trans hl (by decide),fun p hp=>?_⟩
  have k2:=jF (o:=.lst (bs.map V.bl)) hp
  have sh:SeqAt.shaped (.list (bs.map PyData.bool))=true:=l0 bs
  refine⟨.list (bs.map .bool),.list (bs.map .bool),cx.mpr ⟨l,_,rfl,eM.of (k2 _ _ e1),mY bs⟩,cx.mpr ⟨p,_,rfl,eM.of aE,mY bs⟩,sh,sh,?_⟩
  have e:PyData.eqv (.list (bs.map .bool)) (.list (bs.map .bool))=true:=o8 bs
  rw [if_neg (by decide),e]
  exact q _ fun c o z=>k2 c o (k1 c o z)
end
end L2
namespace V77
open PySem PySem.Spec PyProof.Rows L2
variable{P:Program}{w:World}{K:W.Frag}{mg:Str→Option Value}{base:Heap}{f:Addr}{fd:FuncData}
local macro_rules|`(tactic|trivial)=>`(tactic|first|exact .inl rfl|exact .inr rfl|assumption)
local macro_rules|`(¬$n:num)=>`(@qw _ _ $n _ _ (by rfl) (by rfl) (by decide))
local macro_rules|`($a∘$b)=>`(@Aw _ _ _ _ _ _ $a $b (by rfl))
def top(i:Nat):Stmt:=PySem.Challenge.pw_askedpairs_k77_chances_raised.main.body.getD i (.Pass ⟨0,0,0,0⟩)
theorem qq{α:Type u}{β:Type v}{f:α→β}:List.map f []=[]:=rfl
theorem qp{α:Type u}{β:Type v}{f:α→β}{a:α}{l:List α}:List.map f (a::l)=f a::List.map f l:=rfl
theorem qk{α:Type u}{l:List α}:[]++l=l:=rfl
theorem qj{α:Type u}{a:α}{l m:List α}:(a::l)++m=a::(l++m):=rfl
theorem qm{α:Type u}{a:α}{l:List α}:(a::l)[0]?=some a:=rfl
theorem qo{α:Type u}{a:α}{l:List α}{i:Nat}:(a::l)[i+1]?=l[i]?:=rfl
theorem ql{α:Type u}{β:Type v}{a:α}{f:α→Option β}:Option.bind (some a) f=f a:=rfl
theorem qr{α:Type u}{β:Type v}{a:α}{f:α→β}:Option.map f (some a)=some (f a):=rfl
abbrev bx:Stmt:=top 7
abbrev fg:Stmt:=top 8
abbrev iQ:Stmt:=top 9
abbrev cq:Stmt:=top 11
abbrev aO:Stmt:=top 12
abbrev bD:Stmt:=top 13
abbrev b_:Stmt:=top 14
abbrev c9:Stmt:=top 22
abbrev cF:Stmt:=top 23
abbrev du:Stmt:=top 24
abbrev bM:Stmt:=top 25
abbrev ff:Stmt:=top 26
abbrev dD:Stmt:=top 28
abbrev ia:Stmt:=top 30
abbrev h_:Stmt:=top 31
abbrev gF:Stmt:=top 32
abbrev mC:Stmt:=top 33
abbrev j1:Stmt:=top 34
abbrev j0:Stmt:=top 35
abbrev iP:Stmt:=top 36
abbrev e_:Stmt:=top 37
abbrev ie:Stmt:=top 38
abbrev j2:Stmt:=top 39
abbrev mE:Stmt:=top 40
abbrev mD:Stmt:=top 41
abbrev em:Stmt:=top 42
abbrev b7:Stmt:=top 43
abbrev en:Stmt:=top 44
abbrev ic:Stmt:=top 45
abbrev j3:Stmt:=top 46
structure fZ (mg:Str→Option Value):Prop where
  b_abs:mg "abs"=none
  b_len:mg "len"=none
  b_min:mg "min"=none
  b_max:mg "max"=none
  b_range:mg "range"=none
  b_repr:mg "repr"=none
  b_tuple:mg "tuple"=none
  b_int:mg "int"=none
  b_isinstance:mg "isinstance"=none
  b_bool:mg "bool"=none
  b_all:mg "all"=none
  b_ValueError:mg "ValueError"=none
noncomputable def a':FT:=(aN (aB (de true) (ae 1) (vC (.int 0))))
noncomputable def bE:FS:=(nR 0 1 (aa (ae 1) (aa (aB aU (ae 0) (ae 1)) am)))
noncomputable def eg:FS:=(aI (gG (2 ^ 4200) a' bE)
    (a8 (be (g1 ni) (aa (ae 0) am))))
noncomputable def br:FM:=fW 2 0 ([0,1]++[]) eg
theorem dS:av ["one","other"] ["one","other"] (ah bx):=⟨rfl,rfl,rfl,by decide+kernel,rfl,by decide+kernel,by decide+kernel⟩
theorem hR(h:aV K mg "common_divisor" bx f fd ["one","other"])(T:fZ mg):az P w K mg base bz 1 f fd ["one","other"] (bI K 2 br):=by
  have nd:=dS.nd
  exact h.fn dS rfl rfl (fun cdv A outer s H E hr=>(@ag _ _ _ _ _ _ _ _ (@jX _ _ _ _ _ _ _ _ _ PassesOwn.never (@ci _ _ _ _ _ _ _ _ _ (@yv _ _ _ rfl hr) (¬1) ac (bc _))
      (@ai _ _ _ _ _ (@rP _ _ _ _ _ 0 1 _ _ _ _ _ _ _ _ _ rfl nd rfl rfl (by decide) rfl rfl ((¬1)∘((@aP _ _ _ _ _ _ _ (¬0) (¬1))∘af)) (by rfl) (by rfl))))
      (@ai _ _ _ _ _ (@aw _ _ _ _ _ (@bZ _ _ _ _ _ _ _ _ _ (@b_abs _ _) (by rfl) T.b_abs ((¬0)∘af) (by decide) (by decide) (by rfl) (by rfl))))))
noncomputable def ma:FS:=(aI (bA 2 (ck 2 br (aa (ae 0) (aa (ae 1) am))))
    (aI (gc (aN (aB sO (ae 1) (vC (.int 0))))
    (bA 2 (pV tI (ae 2)))
    cP)
    (a8 (c_ (aa (aB bX (ae 0) (ae 2)) (aa (aB bX (ae 1) (ae 2)) am))))))
noncomputable def eS:FM:=fW 2 1 ([2]++(([2]++[])++[])) ma
theorem kW:av ["top","bottom","divisor"] ["top","bottom"] (ah fg):=⟨rfl,rfl,rfl,by decide+kernel,rfl,by decide+kernel,by decide+kernel⟩
theorem pC(h:aV K mg "lowest" fg f fd ["top","bottom"])(T:fZ mg){f_common_divisor:Addr}{e_common_divisor:FuncData}(h_common_divisor:aV K mg "common_divisor" bx f_common_divisor e_common_divisor ["one","other"])(G_common_divisor:az P w K mg base bz 1 f_common_divisor e_common_divisor ["one","other"] (bI K 2 br)):az P w K mg base bz 2 f fd ["top","bottom"] (bI K 2 eS):=by
  have nd:=kW.nd
  exact h.fn kW rfl rfl (fun cdv A outer s H E hr=>(@ag _ _ _ _ _ _ _ _ (@aL _ _ _ _ _ 2 _ _ nd rfl (Or.inl rfl) (@aR _ _ _ _ _ _ _ _ _ _ _ _ _ _ _ h_common_divisor G_common_divisor (hr.mono (by decide)) ((¬0)∘((¬1)∘af)) (by rfl) (by decide) (by rfl) (by rfl)) (by rfl) (by trivial))
      (@ag _ _ _ _ _ _ _ _ (@bT _ _ _ _ _ _ _ _ _ _ _ (@ci _ _ _ _ _ _ _ _ _ (@oT _ _) (¬1) ac (bc _))
      (@ai _ _ _ _ _ (@aL _ _ _ _ _ 2 _ _ nd rfl (Or.inl rfl) (@y1 _ _ _ _ _ (¬2)) (by rfl) (by trivial)))
      (@aT _ _))
      (@ai _ _ _ _ _ (@aw _ _ _ _ _ (@bi _ _ _ _ _ _ ((@df _ _ _ _ _ _ _ (¬0) (¬2))∘((@df _ _ _ _ _ _ _ (¬1) (¬2))∘af))))))))
noncomputable def p8:FS:=(a8 (aB sO (aB dz (aB dQ (ae 0) (vC (.int 0))) (aB dQ (ae 1) (vC (.int 1)))) (aB dz (aB dQ (ae 1) (vC (.int 0))) (aB dQ (ae 0) (vC (.int 1))))))
noncomputable def gv:FM:=fW 2 0 [] p8
theorem oI:av ["one","other"] ["one","other"] (ah iQ):=⟨rfl,rfl,rfl,by decide+kernel,rfl,by decide+kernel,by decide+kernel⟩
theorem t9(h:aV K mg "less" iQ f fd ["one","other"])(T:fZ mg):az P w K mg base bz 1 f fd ["one","other"] (bI K 2 gv):=by
  have nd:=oI.nd
  exact h.fn oI rfl rfl (fun cdv A outer s H E hr=>(@ai _ _ _ _ _ (@aw _ _ _ _ _ (@jW _ _ _ _ _ _ _ _ _ (@oT _ _) (@eK _ _ _ _ _ _ _ rfl (@cu _ _ _ _ _ _ _ rfl (¬0) ac (fun _ _=>rfl)) (@cu _ _ _ _ _ _ _ rfl (¬1) ac (fun _ _=>rfl))) (@eK _ _ _ _ _ _ _ rfl (@cu _ _ _ _ _ _ _ rfl (¬1) ac (fun _ _=>rfl)) (@cu _ _ _ _ _ _ _ rfl (¬0) ac (fun _ _=>rfl))) (bc _)))))
noncomputable def iU:FS:=(a8 (fy (pV (i8 "int") (ae 0)) (k8 (pV (i8 "bool") (ae 0)))))
noncomputable def bC:FM:=fW 1 0 [] iU
theorem ii:av ["thing"] ["thing"] (ah cq):=⟨rfl,rfl,rfl,by decide+kernel,rfl,by decide+kernel,by decide+kernel⟩
theorem lU(h:aV K mg "is_number" cq f fd ["thing"])(T:fZ mg):az P w K mg base bz 1 f fd ["thing"] (bI K 1 bC):=by
  have nd:=ii.nd
  exact h.fn ii rfl rfl (fun cdv A outer s H E hr=>(@ai _ _ _ _ _ (@aw _ _ _ _ _ (@iM _ _ _ _ _ _ _ _ (@oy _ _ _ _ _ _ _ _ "int" rfl (by decide) rfl T.b_isinstance rfl T.b_int PyProof.Rows.boot_int (by decide) (by decide) (¬0) (by rfl) (by rfl)) (@iO _ _ _ _ _ _ (@xw _ _ _ _ _ (@oy _ _ _ _ _ _ _ _ "bool" rfl (by decide) rfl T.b_isinstance rfl T.b_bool PyProof.Rows.boot_bool (by decide) (by decide) (¬0) (by rfl) (by rfl))))))))
noncomputable def bF:FS:=(a8 (fy (ck 1 bC (aa (ae 0) am)) (fB vt vt (ae 1) (ae 0) (ae 2))))
noncomputable def ao:FM:=fW 3 0 [] bF
theorem di:av ["thing","low","high"] ["thing","low","high"] (ah aO):=⟨rfl,rfl,rfl,by decide+kernel,rfl,by decide+kernel,by decide+kernel⟩
theorem fX(h:aV K mg "is_number_within" aO f fd ["thing","low","high"])(T:fZ mg){f_is_number:Addr}{e_is_number:FuncData}(h_is_number:aV K mg "is_number" cq f_is_number e_is_number ["thing"])(G_is_number:az P w K mg base bz 1 f_is_number e_is_number ["thing"] (bI K 1 bC)):az P w K mg base bz 2 f fd ["thing","low","high"] (bI K 3 ao):=by
  have nd:=di.nd
  exact h.fn di rfl rfl (fun cdv A outer s H E hr=>(@ai _ _ _ _ _ (@aw _ _ _ _ _ (@iM _ _ _ _ _ _ _ _ (@aR _ _ _ _ _ _ _ _ _ _ _ _ _ _ _ h_is_number G_is_number (hr.mono (by decide)) ((¬0)∘af) (by rfl) (by decide) (by rfl) (by rfl)) (@iO _ _ _ _ _ _ (@uD _ _ _ _ _ _ _ _ _ _ _ _ _ (@qa _ _) (@qa _ _) (¬1) (¬0) (¬2) (by with_unfolding_all rfl)))))))
noncomputable def iV:FS:=(a8 (fy (pV (i8 "tuple") (ae 0)) (aB (de false) (be (g1 iC) (aa (ae 0) am)) (ae 1))))
noncomputable def aX:FM:=fW 2 0 [] iV
theorem ik:av ["thing","many"] ["thing","many"] (ah bD):=⟨rfl,rfl,rfl,by decide+kernel,rfl,by decide+kernel,by decide+kernel⟩
theorem lV(h:aV K mg "is_row_of" bD f fd ["thing","many"])(T:fZ mg):az P w K mg base bz 1 f fd ["thing","many"] (bI K 2 aX):=by
  have nd:=ik.nd
  exact h.fn ik rfl rfl (fun cdv A outer s H E hr=>(@ai _ _ _ _ _ (@aw _ _ _ _ _ (@iM _ _ _ _ _ _ _ _ (@oy _ _ _ _ _ _ _ _ "tuple" rfl (by decide) rfl T.b_isinstance rfl T.b_tuple PyProof.Rows.boot_tuple (by decide) (by decide) (¬0) (by rfl) (by rfl)) (@iO _ _ _ _ _ _ (@jW _ _ _ _ _ _ _ _ _ (@ls _ _ _ rfl hr) (@bZ _ _ _ _ _ _ _ _ _ (@b_len _ _ rfl) (by rfl) T.b_len ((¬0)∘af) (by decide) (by decide) (by rfl) (by rfl)) (¬1) (bc _)))))))
noncomputable def bK:FS:=(aI (gc (ed (aN (ck 2 aX (aa (ae 0) (aa (vC (.int 2)) am)))))
    (a8 (vC (.bool false)))
    cP)
    (aI (gE (ae 0) (dB (aC (aj 1) (aC (aj 2) cZ))))
    (aI (gc (sI (ed (aN (ck 1 bC (aa (ae 1) am)))) (sI (ed (aN (ck 1 bC (aa (ae 2) am)))) (aN (aB sO (ae 2) (vC (.int 1))))))
    (a8 (vC (.bool false)))
    cP)
    (a8 (aB (de false) (ck 2 eS (aa (ae 1) (aa (ae 2) am))) (ae 0))))))
noncomputable def aW:FM:=fW 1 2 (([]++[])++(([1]++([2]++[]))++(([]++[])++[]))) bK
theorem fm:av ["thing","top","bottom"] ["thing"] (ah b_):=⟨rfl,rfl,rfl,by decide+kernel,rfl,by decide+kernel,by decide+kernel⟩
theorem jQ(h:aV K mg "is_fraction" b_ f fd ["thing"])(T:fZ mg){f_is_row_of:Addr}{e_is_row_of:FuncData}(h_is_row_of:aV K mg "is_row_of" bD f_is_row_of e_is_row_of ["thing","many"])(G_is_row_of:az P w K mg base bz 1 f_is_row_of e_is_row_of ["thing","many"] (bI K 2 aX)){f_lowest:Addr}{e_lowest:FuncData}(h_lowest:aV K mg "lowest" fg f_lowest e_lowest ["top","bottom"])(G_lowest:az P w K mg base bz 2 f_lowest e_lowest ["top","bottom"] (bI K 2 eS)){f_is_number:Addr}{e_is_number:FuncData}(h_is_number:aV K mg "is_number" cq f_is_number e_is_number ["thing"])(G_is_number:az P w K mg base bz 1 f_is_number e_is_number ["thing"] (bI K 1 bC)):az P w K mg base bz 3 f fd ["thing"] (bI K 1 aW):=by
  have nd:=fm.nd
  exact h.fn fm rfl rfl (fun cdv A outer s H E hr=>(@ag _ _ _ _ _ _ _ _ (@bT _ _ _ _ _ _ _ _ _ _ _ (@cj _ _ _ _ _ (@bO _ _ _ _ (@aR _ _ _ _ _ _ _ _ _ _ _ _ _ _ _ h_is_row_of G_is_row_of (hr.mono (by decide)) ((¬0)∘(ac∘af)) (by rfl) (by decide) (by rfl) (by rfl)) (by intro _;rfl)))
      (@ai _ _ _ _ _ (@aw _ _ _ _ _ (@dR _ _ _ _ _)))
      (@aT _ _))
      (@ag _ _ _ _ _ _ _ _ (@ec _ _ _ _ _ _ _ _ (¬0) (@d_ _ _ _ _ _ _ _ _ rfl rfl (@ar _ _ _ _ _ _ _ _ (@aq _ _ _ 1 _ nd rfl (Or.inl rfl) (by trivial)) (@ar _ _ _ _ _ _ _ _ (@aq _ _ _ 2 _ nd rfl (Or.inl rfl) (by trivial)) (@cV _ _) (by rfl)) (by rfl)) (aA (aA dY)) (by rfl) (by rfl)) (by rfl) (by rfl) (by rfl))
      (@ag _ _ _ _ _ _ _ _ (@bT _ _ _ _ _ _ _ _ _ _ _ (@pJ _ _ _ _ (@my _ _ _ _ _ _ _ _ (@cj _ _ _ _ _ (@bO _ _ _ _ (@aR _ _ _ _ _ _ _ _ _ _ _ _ _ _ _ h_is_number G_is_number (hr.mono (by decide)) ((¬1)∘af) (by rfl) (by decide) (by rfl) (by rfl)) (by intro _;rfl))) (@my _ _ _ _ _ _ _ _ (@cj _ _ _ _ _ (@bO _ _ _ _ (@aR _ _ _ _ _ _ _ _ _ _ _ _ _ _ _ h_is_number G_is_number (hr.mono (by decide)) ((¬2)∘af) (by rfl) (by decide) (by rfl) (by rfl)) (by intro _;rfl))) (@lY _ _ _ _ _ (@ci _ _ _ _ _ _ _ _ _ (@oT _ _) (¬2) ac (bc _))))))
      (@ai _ _ _ _ _ (@aw _ _ _ _ _ (@dR _ _ _ _ _)))
      (@aT _ _))
      (@ai _ _ _ _ _ (@aw _ _ _ _ _ (@jW _ _ _ _ _ _ _ _ _ (@ls _ _ _ rfl hr) (@aR _ _ _ _ _ _ _ _ _ _ _ _ _ _ _ h_lowest G_lowest (hr.mono (by decide)) ((¬1)∘((¬2)∘af)) (by rfl) (by decide) (by rfl) (by rfl)) (¬0) (bc _))))))))
noncomputable def cW:FS:=(aI (gc (ed (aN (ck 1 aW (aa (ae 0) am))))
    (a8 (vC (.bool false)))
    cP)
    (aI (gE (ae 0) (dB (aC (aj 1) (aC (aj 2) cZ))))
    (a8 (eG vt vt vt (vC (.int 0)) (ae 1) (ae 2) (vC (.int (100)))))))
noncomputable def bB:FM:=fW 1 2 (([]++[])++(([1]++([2]++[]))++[])) cW
theorem ig:av ["thing","top","bottom"] ["thing"] (ah c9):=⟨rfl,rfl,rfl,by decide+kernel,rfl,by decide+kernel,by decide+kernel⟩
theorem lT(h:aV K mg "is_chance" c9 f fd ["thing"])(T:fZ mg){f_is_fraction:Addr}{e_is_fraction:FuncData}(h_is_fraction:aV K mg "is_fraction" b_ f_is_fraction e_is_fraction ["thing"])(G_is_fraction:az P w K mg base bz 3 f_is_fraction e_is_fraction ["thing"] (bI K 1 aW)){t_MOST_BOTTOM:Tok}(m_MOST_BOTTOM:mg "MOST_BOTTOM"=some (.int (100) t_MOST_BOTTOM)):az P w K mg base bz 4 f fd ["thing"] (bI K 1 bB):=by
  have nd:=ig.nd
  exact h.fn ig rfl rfl (fun cdv A outer s H E hr=>(@ag _ _ _ _ _ _ _ _ (@bT _ _ _ _ _ _ _ _ _ _ _ (@cj _ _ _ _ _ (@bO _ _ _ _ (@aR _ _ _ _ _ _ _ _ _ _ _ _ _ _ _ h_is_fraction G_is_fraction (hr.mono (by decide)) ((¬0)∘af) (by rfl) (by decide) (by rfl) (by rfl)) (by intro _;rfl)))
      (@ai _ _ _ _ _ (@aw _ _ _ _ _ (@dR _ _ _ _ _)))
      (@aT _ _))
      (@ag _ _ _ _ _ _ _ _ (@ec _ _ _ _ _ _ _ _ (¬0) (@d_ _ _ _ _ _ _ _ _ rfl rfl (@ar _ _ _ _ _ _ _ _ (@aq _ _ _ 1 _ nd rfl (Or.inl rfl) (by trivial)) (@ar _ _ _ _ _ _ _ _ (@aq _ _ _ 2 _ nd rfl (Or.inl rfl) (by trivial)) (@cV _ _) (by rfl)) (by rfl)) (aA (aA dY)) (by rfl) (by rfl)) (by rfl) (by rfl) (by rfl))
      (@ai _ _ _ _ _ (@aw _ _ _ _ _ (@rK _ _ _ _ _ _ _ _ _ _ _ _ _ _ _ _ _ (@qa _ _) (@qa _ _) (@qa _ _) ac (¬1) (¬2) (@fP _ _ _ (V.int (100)) _ _ (PyData.int (100)) rfl m_MOST_BOTTOM ⟨_,rfl⟩ (fun _=>bg.mpr rfl) (by decide)) (by with_unfolding_all rfl)))))))
noncomputable def bS:FS:=(aI (gc (ed (aN (ck 2 aX (aa (ae 0) (aa (vC (.int 4)) am)))))
    (a8 (vC (.bool false)))
    cP)
    (aI (gE (ae 0) (dB (aC (aj 2) (aC (aj 3) (aC (aj 4) (aC (aj 5) cZ))))))
    (aI (gc (sI (ed (aN (ck 3 ao (aa (ae 2) (aa (vC (.int 0)) (aa (aB cz (ae 1) (vC (.int 1))) am)))))) (ed (aN (ck 3 ao (aa (ae 3) (aa (aB bH (ae 2) (vC (.int 1))) (aa (aB cz (ae 1) (vC (.int 1))) am)))))))
    (a8 (vC (.bool false)))
    cP)
    (a8 (fy (ck 1 bB (aa (ae 4) am)) (ck 3 ao (aa (ae 5) (aa (vC (.int 0)) (aa (vC (.int (1000))) am)))))))))
noncomputable def a7:FM:=fW 2 4 (([]++[])++(([2]++([3]++([4]++([5]++[]))))++(([]++[])++[]))) bS
theorem gf:av ["thing","things","one","other","chance","worth"] ["thing","things"] (ah cF):=⟨rfl,rfl,rfl,by decide+kernel,rfl,by decide+kernel,by decide+kernel⟩
theorem kj(h:aV K mg "is_tie_row" cF f fd ["thing","things"])(T:fZ mg){f_is_row_of:Addr}{e_is_row_of:FuncData}(h_is_row_of:aV K mg "is_row_of" bD f_is_row_of e_is_row_of ["thing","many"])(G_is_row_of:az P w K mg base bz 1 f_is_row_of e_is_row_of ["thing","many"] (bI K 2 aX)){f_is_chance:Addr}{e_is_chance:FuncData}(h_is_chance:aV K mg "is_chance" c9 f_is_chance e_is_chance ["thing"])(G_is_chance:az P w K mg base bz 4 f_is_chance e_is_chance ["thing"] (bI K 1 bB)){f_is_number_within:Addr}{e_is_number_within:FuncData}(h_is_number_within:aV K mg "is_number_within" aO f_is_number_within e_is_number_within ["thing","low","high"])(G_is_number_within:az P w K mg base bz 2 f_is_number_within e_is_number_within ["thing","low","high"] (bI K 3 ao)){t_MOST_WORTH:Tok}(m_MOST_WORTH:mg "MOST_WORTH"=some (.int (1000) t_MOST_WORTH)):az P w K mg base bz 5 f fd ["thing","things"] (bI K 2 a7):=by
  have nd:=gf.nd
  exact h.fn gf rfl rfl (fun cdv A outer s H E hr=>(@ag _ _ _ _ _ _ _ _ (@bT _ _ _ _ _ _ _ _ _ _ _ (@cj _ _ _ _ _ (@bO _ _ _ _ (@aR _ _ _ _ _ _ _ _ _ _ _ _ _ _ _ h_is_row_of G_is_row_of (hr.mono (by decide)) ((¬0)∘(ac∘af)) (by rfl) (by decide) (by rfl) (by rfl)) (by intro _;rfl)))
      (@ai _ _ _ _ _ (@aw _ _ _ _ _ (@dR _ _ _ _ _)))
      (@aT _ _))
      (@ag _ _ _ _ _ _ _ _ (@ec _ _ _ _ _ _ _ _ (¬0) (@d_ _ _ _ _ _ _ _ _ rfl rfl (@ar _ _ _ _ _ _ _ _ (@aq _ _ _ 2 _ nd rfl (Or.inl rfl) (by trivial)) (@ar _ _ _ _ _ _ _ _ (@aq _ _ _ 3 _ nd rfl (Or.inl rfl) (by trivial)) (@ar _ _ _ _ _ _ _ _ (@aq _ _ _ 4 _ nd rfl (Or.inl rfl) (by trivial)) (@ar _ _ _ _ _ _ _ _ (@aq _ _ _ 5 _ nd rfl (Or.inl rfl) (by trivial)) (@cV _ _) (by rfl)) (by rfl)) (by rfl)) (by rfl)) (aA (aA (aA (aA dY)))) (by rfl) (by rfl)) (by rfl) (by rfl) (by rfl))
      (@ag _ _ _ _ _ _ _ _ (@bT _ _ _ _ _ _ _ _ _ _ _ (@pJ _ _ _ _ (@my _ _ _ _ _ _ _ _ (@cj _ _ _ _ _ (@bO _ _ _ _ (@aR _ _ _ _ _ _ _ _ _ _ _ _ _ _ _ h_is_number_within G_is_number_within (hr.mono (by decide)) ((¬2)∘(ac∘((@i5 _ _ _ _ _ _ _ (¬1) ac)∘af))) (by rfl) (by decide) (by rfl) (by rfl)) (by intro _;rfl))) (@lY _ _ _ _ _ (@cj _ _ _ _ _ (@bO _ _ _ _ (@aR _ _ _ _ _ _ _ _ _ _ _ _ _ _ _ h_is_number_within G_is_number_within (hr.mono (by decide)) ((¬3)∘((@bu _ _ _ _ _ _ _ rfl (¬2) ac)∘((@i5 _ _ _ _ _ _ _ (¬1) ac)∘af))) (by rfl) (by decide) (by rfl) (by rfl)) (by intro _;rfl))))))
      (@ai _ _ _ _ _ (@aw _ _ _ _ _ (@dR _ _ _ _ _)))
      (@aT _ _))
      (@ai _ _ _ _ _ (@aw _ _ _ _ _ (@iM _ _ _ _ _ _ _ _ (@aR _ _ _ _ _ _ _ _ _ _ _ _ _ _ _ h_is_chance G_is_chance (hr.mono (by decide)) ((¬4)∘af) (by rfl) (by decide) (by rfl) (by rfl)) (@iO _ _ _ _ _ _ (@aR _ _ _ _ _ _ _ _ _ _ _ _ _ _ _ h_is_number_within G_is_number_within (hr.mono (by decide)) ((¬5)∘(ac∘((@fP _ _ _ (V.int (1000)) _ _ (PyData.int (1000)) rfl m_MOST_WORTH ⟨_,rfl⟩ (fun _=>bg.mpr rfl) (by decide))∘af))) (by rfl) (by decide) (by rfl) (by rfl))))))))))
noncomputable def i3:FI:=(lL (ae 0))
noncomputable def dO:FE:=(ck 2 a7 (aa (ae 1) (aa (ae 0) am)))
noncomputable def fD:FS:=(aI (gc (sI (ed (aN (pV (i8 "tuple") (ae 0)))) (aN (aB yy (be (g1 iC) (aa (ae 0) am)) (vC (.int (16))))))
    (a8 (vC (.bool false)))
    cP)
    (a8 (be (g1 (i0 kM)) (aa (ke [(1,"things")] 1 i3 (aj 1) kb dO) am))))
noncomputable def cM:FM:=fW 2 0 (([]++[])++[]) fD
theorem j6:av ["thing","things"] ["thing","things"] (ah du):=⟨rfl,rfl,rfl,by decide+kernel,rfl,by decide+kernel,by decide+kernel⟩
theorem nJ(h:aV K mg "is_ties" du f fd ["thing","things"])(T:fZ mg){f_is_tie_row:Addr}{e_is_tie_row:FuncData}(h_is_tie_row:aV K mg "is_tie_row" cF f_is_tie_row e_is_tie_row ["thing","things"])(G_is_tie_row:az P w K mg base bz 5 f_is_tie_row e_is_tie_row ["thing","things"] (bI K 2 a7)){t_MOST_TIES:Tok}(m_MOST_TIES:mg "MOST_TIES"=some (.int (16) t_MOST_TIES)):az P w K mg base bz 6 f fd ["thing","things"] (bI K 2 cM):=by
  have nd:=j6.nd
  exact h.fn j6 rfl rfl (fun cdv A outer s H E hr=>(@ag _ _ _ _ _ _ _ _ (@bT _ _ _ _ _ _ _ _ _ _ _ (@pJ _ _ _ _ (@my _ _ _ _ _ _ _ _ (@cj _ _ _ _ _ (@bO _ _ _ _ (@oy _ _ _ _ _ _ _ _ "tuple" rfl (by decide) rfl T.b_isinstance rfl T.b_tuple PyProof.Rows.boot_tuple (by decide) (by decide) (¬0) (by rfl) (by rfl)) (by intro _;rfl))) (@lY _ _ _ _ _ (@ci _ _ _ _ _ _ _ _ _ (@yu _ _) (@bZ _ _ _ _ _ _ _ _ _ (@b_len _ _ rfl) (by rfl) T.b_len ((¬0)∘af) (by decide) (by decide) (by rfl) (by rfl)) (@fP _ _ _ (V.int (16)) _ _ (PyData.int (16)) rfl m_MOST_TIES ⟨_,rfl⟩ (fun _=>bg.mpr rfl) (by decide)) (bc _)))))
      (@ai _ _ _ _ _ (@aw _ _ _ _ _ (@dR _ _ _ _ _)))
      (@aT _ _))
      (@ai _ _ _ _ _ (@aw _ _ _ _ _ (@bZ _ _ _ _ _ _ _ _ _ (@b_all _ _ _ rfl hr) (by rfl) T.b_all ((@rL _ _ _ _ _ _ _ _ _ _ _ _ _ (ah du) ["thing","things"] [(1,"things")] ["part"] rfl rfl rfl (@nP _ _ _ _ _ rfl (¬0))
        (fun C s0 H0 fp=>(@aq _ _ _ 1 _ (show List.Nodup (["things","part"]:List Str) by decide+kernel) rfl (Or.inl rfl) (by trivial))) (fun C s0 H0 fp=>(@oz _ _))
        (fun C s0 H0 fp=>(@aR _ _ _ _ _ _ _ _ _ _ _ _ _ _ _ h_is_tie_row G_is_tie_row (hr.mono (by decide)) ((¬1)∘((¬0)∘af)) (by rfl) (by decide) (by rfl) (by rfl))) rfl (by decide+kernel) (by decide+kernel) (by decide+kernel) (by decide+kernel) (by decide+kernel) (by decide+kernel) (by decide+kernel) (by intro _;rfl))∘af) (by decide) (by decide) (by rfl) (by rfl))))))
noncomputable def eJ:FI:=(lL (ae 0))
noncomputable def ce:FE:=(ck 3 ao (aa (ae 0) (aa (vC (.int 0)) (aa (vC (.int (20))) am))))
noncomputable def cS:FS:=(aI (gc (ed (aN (ck 2 aX (aa (ae 0) (aa (ae 1) am)))))
    (a8 (vC (.bool false)))
    cP)
    (a8 (be (g1 (i0 kM)) (aa (ke [] 1 eJ (aj 0) kb ce) am))))
noncomputable def bh:FM:=fW 2 0 (([]++[])++[]) cS
theorem fq:av ["thing","things"] ["thing","things"] (ah bM):=⟨rfl,rfl,rfl,by decide+kernel,rfl,by decide+kernel,by decide+kernel⟩
theorem jR(h:aV K mg "is_patience" bM f fd ["thing","things"])(T:fZ mg){f_is_row_of:Addr}{e_is_row_of:FuncData}(h_is_row_of:aV K mg "is_row_of" bD f_is_row_of e_is_row_of ["thing","many"])(G_is_row_of:az P w K mg base bz 1 f_is_row_of e_is_row_of ["thing","many"] (bI K 2 aX)){f_is_number_within:Addr}{e_is_number_within:FuncData}(h_is_number_within:aV K mg "is_number_within" aO f_is_number_within e_is_number_within ["thing","low","high"])(G_is_number_within:az P w K mg base bz 2 f_is_number_within e_is_number_within ["thing","low","high"] (bI K 3 ao)){t_MOST_PATIENCE:Tok}(m_MOST_PATIENCE:mg "MOST_PATIENCE"=some (.int (20) t_MOST_PATIENCE)):az P w K mg base bz 3 f fd ["thing","things"] (bI K 2 bh):=by
  have nd:=fq.nd
  exact h.fn fq rfl rfl (fun cdv A outer s H E hr=>(@ag _ _ _ _ _ _ _ _ (@bT _ _ _ _ _ _ _ _ _ _ _ (@cj _ _ _ _ _ (@bO _ _ _ _ (@aR _ _ _ _ _ _ _ _ _ _ _ _ _ _ _ h_is_row_of G_is_row_of (hr.mono (by decide)) ((¬0)∘((¬1)∘af)) (by rfl) (by decide) (by rfl) (by rfl)) (by intro _;rfl)))
      (@ai _ _ _ _ _ (@aw _ _ _ _ _ (@dR _ _ _ _ _)))
      (@aT _ _))
      (@ai _ _ _ _ _ (@aw _ _ _ _ _ (@bZ _ _ _ _ _ _ _ _ _ (@b_all _ _ _ rfl hr) (by rfl) T.b_all ((@rL _ _ _ _ _ _ _ _ _ _ _ _ _ (ah bM) ["thing","things"] [] ["part"] rfl rfl rfl (@nP _ _ _ _ _ rfl (¬0))
        (fun C s0 H0 fp=>(@aq _ _ _ 0 _ (show List.Nodup (["part"]:List Str) by decide+kernel) rfl (Or.inl rfl) (by trivial))) (fun C s0 H0 fp=>(@oz _ _))
        (fun C s0 H0 fp=>(@aR _ _ _ _ _ _ _ _ _ _ _ _ _ _ _ h_is_number_within G_is_number_within (hr.mono (by decide)) ((¬0)∘(ac∘((@fP _ _ _ (V.int (20)) _ _ (PyData.int (20)) rfl m_MOST_PATIENCE ⟨_,rfl⟩ (fun _=>bg.mpr rfl) (by decide))∘af))) (by rfl) (by decide) (by rfl) (by rfl))) rfl (by decide+kernel) (by decide+kernel) (by decide+kernel) (by decide+kernel) (by decide+kernel) (by decide+kernel) (by decide+kernel) (by intro _;rfl))∘af) (by decide) (by decide) (by rfl) (by rfl))))))
noncomputable def eh:FS:=(aI (gc (ed (aN (ck 2 aX (aa (ae 0) (aa (vC (.int 4)) am)))))
    (a8 (vC (.bool false)))
    cP)
    (aI (gE (ae 0) (dB (aC (aj 1) (aC (aj 2) (aC (aj 3) (aC (aj 4) cZ))))))
    (aI (gc (sI (ed (aN (ck 3 ao (aa (ae 1) (aa (vC (.int 0)) (aa (vC (.int (12))) am)))))) (ed (aN (ck 3 ao (aa (ae 4) (aa (vC (.int 0)) (aa (vC (.int (40))) am)))))))
    (a8 (vC (.bool false)))
    cP)
    (a8 (fy (ck 2 cM (aa (ae 2) (aa (ae 1) am))) (ck 2 bh (aa (ae 3) (aa (ae 1) am))))))))
noncomputable def cD:FM:=fW 1 4 (([]++[])++(([1]++([2]++([3]++([4]++[]))))++(([]++[])++[]))) eh
theorem kU:av ["thing","things","ties","patience","asks"] ["thing"] (ah ff):=⟨rfl,rfl,rfl,by decide+kernel,rfl,by decide+kernel,by decide+kernel⟩
theorem pB(h:aV K mg "is_web" ff f fd ["thing"])(T:fZ mg){f_is_row_of:Addr}{e_is_row_of:FuncData}(h_is_row_of:aV K mg "is_row_of" bD f_is_row_of e_is_row_of ["thing","many"])(G_is_row_of:az P w K mg base bz 1 f_is_row_of e_is_row_of ["thing","many"] (bI K 2 aX)){f_is_ties:Addr}{e_is_ties:FuncData}(h_is_ties:aV K mg "is_ties" du f_is_ties e_is_ties ["thing","things"])(G_is_ties:az P w K mg base bz 6 f_is_ties e_is_ties ["thing","things"] (bI K 2 cM)){f_is_patience:Addr}{e_is_patience:FuncData}(h_is_patience:aV K mg "is_patience" bM f_is_patience e_is_patience ["thing","things"])(G_is_patience:az P w K mg base bz 3 f_is_patience e_is_patience ["thing","things"] (bI K 2 bh)){f_is_number_within:Addr}{e_is_number_within:FuncData}(h_is_number_within:aV K mg "is_number_within" aO f_is_number_within e_is_number_within ["thing","low","high"])(G_is_number_within:az P w K mg base bz 2 f_is_number_within e_is_number_within ["thing","low","high"] (bI K 3 ao)){t_MOST_THINGS:Tok}(m_MOST_THINGS:mg "MOST_THINGS"=some (.int (12) t_MOST_THINGS)){t_MOST_ASKS:Tok}(m_MOST_ASKS:mg "MOST_ASKS"=some (.int (40) t_MOST_ASKS)):az P w K mg base bz 7 f fd ["thing"] (bI K 1 cD):=by
  have nd:=kU.nd
  exact h.fn kU rfl rfl (fun cdv A outer s H E hr=>(@ag _ _ _ _ _ _ _ _ (@bT _ _ _ _ _ _ _ _ _ _ _ (@cj _ _ _ _ _ (@bO _ _ _ _ (@aR _ _ _ _ _ _ _ _ _ _ _ _ _ _ _ h_is_row_of G_is_row_of (hr.mono (by decide)) ((¬0)∘(ac∘af)) (by rfl) (by decide) (by rfl) (by rfl)) (by intro _;rfl)))
      (@ai _ _ _ _ _ (@aw _ _ _ _ _ (@dR _ _ _ _ _)))
      (@aT _ _))
      (@ag _ _ _ _ _ _ _ _ (@ec _ _ _ _ _ _ _ _ (¬0) (@d_ _ _ _ _ _ _ _ _ rfl rfl (@ar _ _ _ _ _ _ _ _ (@aq _ _ _ 1 _ nd rfl (Or.inl rfl) (by trivial)) (@ar _ _ _ _ _ _ _ _ (@aq _ _ _ 2 _ nd rfl (Or.inl rfl) (by trivial)) (@ar _ _ _ _ _ _ _ _ (@aq _ _ _ 3 _ nd rfl (Or.inl rfl) (by trivial)) (@ar _ _ _ _ _ _ _ _ (@aq _ _ _ 4 _ nd rfl (Or.inl rfl) (by trivial)) (@cV _ _) (by rfl)) (by rfl)) (by rfl)) (by rfl)) (aA (aA (aA (aA dY)))) (by rfl) (by rfl)) (by rfl) (by rfl) (by rfl))
      (@ag _ _ _ _ _ _ _ _ (@bT _ _ _ _ _ _ _ _ _ _ _ (@pJ _ _ _ _ (@my _ _ _ _ _ _ _ _ (@cj _ _ _ _ _ (@bO _ _ _ _ (@aR _ _ _ _ _ _ _ _ _ _ _ _ _ _ _ h_is_number_within G_is_number_within (hr.mono (by decide)) ((¬1)∘(ac∘((@fP _ _ _ (V.int (12)) _ _ (PyData.int (12)) rfl m_MOST_THINGS ⟨_,rfl⟩ (fun _=>bg.mpr rfl) (by decide))∘af))) (by rfl) (by decide) (by rfl) (by rfl)) (by intro _;rfl))) (@lY _ _ _ _ _ (@cj _ _ _ _ _ (@bO _ _ _ _ (@aR _ _ _ _ _ _ _ _ _ _ _ _ _ _ _ h_is_number_within G_is_number_within (hr.mono (by decide)) ((¬4)∘(ac∘((@fP _ _ _ (V.int (40)) _ _ (PyData.int (40)) rfl m_MOST_ASKS ⟨_,rfl⟩ (fun _=>bg.mpr rfl) (by decide))∘af))) (by rfl) (by decide) (by rfl) (by rfl)) (by intro _;rfl))))))
      (@ai _ _ _ _ _ (@aw _ _ _ _ _ (@dR _ _ _ _ _)))
      (@aT _ _))
      (@ai _ _ _ _ _ (@aw _ _ _ _ _ (@iM _ _ _ _ _ _ _ _ (@aR _ _ _ _ _ _ _ _ _ _ _ _ _ _ _ h_is_ties G_is_ties (hr.mono (by decide)) ((¬2)∘((¬1)∘af)) (by rfl) (by decide) (by rfl) (by rfl)) (@iO _ _ _ _ _ _ (@aR _ _ _ _ _ _ _ _ _ _ _ _ _ _ _ h_is_patience G_is_patience (hr.mono (by decide)) ((¬3)∘((¬1)∘af)) (by rfl) (by decide) (by rfl) (by rfl))))))))))
noncomputable def md:FS:=(aI (gE (ae 0) (dB (aC (aj 3) (aC (aj 4) (aC (aj 5) (aC (aj 6) cZ))))))
    (aI (gE (aB dQ (ae 4) (ae 1)) (dB (aC (aj 7) (aC (aj 8) (aC (aj 9) (aC (aj 10) cZ))))))
    (aI (gc (aN (ck 2 gv (aa (ae 2) (aa (ae 9) am))))
    vK
    cP)
    (a8 (c_ (aa (ae 3) (aa (aB bH (aB bH (sS (ae 4) i4 (hJ (ae 1))) (c_ (aa (c_ (aa (ae 7) (aa (ae 8) (aa (ae 2) (aa (ae 10) am))))) am))) (sS (ae 4) (hJ (aB bH (ae 1) (vC (.int 1)))) i4)) (aa (ae 5) (aa (ae 6) am)))))))))
noncomputable def eT:FM:=fW 3 8 (([3]++([4]++([5]++([6]++[]))))++(([7]++([8]++([9]++([10]++[]))))++(([]++[])++[]))) md
theorem fU:av ["web","tie","chance","things","ties","patience","asks","one","other","own","worth"] ["web","tie","chance"] (ah dD):=⟨rfl,rfl,rfl,by decide+kernel,rfl,by decide+kernel,by decide+kernel⟩
theorem pD(h:aV K mg "raised" dD f fd ["web","tie","chance"])(T:fZ mg){f_less:Addr}{e_less:FuncData}(h_less:aV K mg "less" iQ f_less e_less ["one","other"])(G_less:az P w K mg base bz 1 f_less e_less ["one","other"] (bI K 2 gv)):az P w K mg base bz 2 f fd ["web","tie","chance"] (bI K 3 eT):=by
  have nd:=fU.nd
  exact h.fn fU rfl rfl (fun cdv A outer s H E hr=>(@ag _ _ _ _ _ _ _ _ (@ec _ _ _ _ _ _ _ _ (¬0) (@d_ _ _ _ _ _ _ _ _ rfl rfl (@ar _ _ _ _ _ _ _ _ (@aq _ _ _ 3 _ nd rfl (Or.inl rfl) (by trivial)) (@ar _ _ _ _ _ _ _ _ (@aq _ _ _ 4 _ nd rfl (Or.inl rfl) (by trivial)) (@ar _ _ _ _ _ _ _ _ (@aq _ _ _ 5 _ nd rfl (Or.inl rfl) (by trivial)) (@ar _ _ _ _ _ _ _ _ (@aq _ _ _ 6 _ nd rfl (Or.inl rfl) (by trivial)) (@cV _ _) (by rfl)) (by rfl)) (by rfl)) (by rfl)) (aA (aA (aA (aA dY)))) (by rfl) (by rfl)) (by rfl) (by rfl) (by rfl))
      (@ag _ _ _ _ _ _ _ _ (@ec _ _ _ _ _ _ _ _ (@cu _ _ _ _ _ _ _ rfl (¬4) (¬1) (fun _ _=>rfl)) (@d_ _ _ _ _ _ _ _ _ rfl rfl (@ar _ _ _ _ _ _ _ _ (@aq _ _ _ 7 _ nd rfl (Or.inl rfl) (by trivial)) (@ar _ _ _ _ _ _ _ _ (@aq _ _ _ 8 _ nd rfl (Or.inl rfl) (by trivial)) (@ar _ _ _ _ _ _ _ _ (@aq _ _ _ 9 _ nd rfl (Or.inl rfl) (by trivial)) (@ar _ _ _ _ _ _ _ _ (@aq _ _ _ 10 _ nd rfl (Or.inl rfl) (by trivial)) (@cV _ _) (by rfl)) (by rfl)) (by rfl)) (by rfl)) (aA (aA (aA (aA dY)))) (by rfl) (by rfl)) (by rfl) (by rfl) (by rfl))
      (@ag _ _ _ _ _ _ _ _ (@bT _ _ _ _ _ _ _ _ _ _ _ (@bO _ _ _ _ (@aR _ _ _ _ _ _ _ _ _ _ _ _ _ _ _ h_less G_less (hr.mono (by decide)) ((¬2)∘((¬9)∘af)) (by rfl) (by decide) (by rfl) (by rfl)) (by intro _;rfl))
      (@ai _ _ _ _ _ (@uF _ _ _))
      (@aT _ _))
      (@ai _ _ _ _ _ (@aw _ _ _ _ _ (@bi _ _ _ _ _ _ ((¬3)∘((@bu _ _ _ _ _ _ _ rfl (@bu _ _ _ _ _ _ _ rfl (@jh _ _ _ _ _ _ _ _ _ _ rfl (¬4) (@ji _ _) (@jj _ _ _ _ (¬1))) (@bi _ _ _ _ _ _ ((@bi _ _ _ _ _ _ ((¬7)∘((¬8)∘((¬2)∘((¬10)∘af)))))∘af))) (@jh _ _ _ _ _ _ _ _ _ _ rfl (¬4) (@jj _ _ _ _ (@bu _ _ _ _ _ _ _ rfl (¬1) ac)) (@ji _ _)))∘((¬5)∘((¬6)∘af)))))))))))
def jD:En→Prop:=fun e=>∃e1,(gE (ae 0) (dB (aC (aj 3) (aC (aj 4) (aC (aj 5) (aC (aj 6) cZ)))))) e=some (.nx e1)∧jL e1=true∧(fun e=>∃e1,(gE (aB dQ (ae 4) (ae 1)) (dB (aC (aj 7) (aC (aj 8) (aC (aj 9) (aC (aj 10) cZ)))))) e=some (.nx e1)∧jL e1=true∧(fun e=>∃e',(aN (ck 2 gv (aa (ae 2) (aa (ae 9) am)))) e=some (true,e')) e1) e1
theorem nK(h:aV K mg "raised" dD f fd ["web","tie","chance"])(T:fZ mg){f_less:Addr}{e_less:FuncData}(h_less:aV K mg "less" iQ f_less e_less ["one","other"])(G_less:az P w K mg base bz 1 f_less e_less ["one","other"] (bI K 2 gv)){C:Addr}(m_NoRise:mg "NoRise"=some (.ref C))(x_NoRise:W.excIn K C sE "ValueError.__new__"=true):az P w K mg base (vP P w C) 2 f fd ["web","tie","chance"] (yg K 3 8 jD):=by
  have nd:=fU.nd
  exact h.fnR fU rfl rfl (fun cdv A outer s H E hr=>(oC (PS.nox (@ec _ _ _ _ _ _ _ _ (¬0) (@d_ _ _ _ _ _ _ _ _ rfl rfl (@ar _ _ _ _ _ _ _ _ (@aq _ _ _ 3 _ nd rfl (Or.inl rfl) (by trivial)) (@ar _ _ _ _ _ _ _ _ (@aq _ _ _ 4 _ nd rfl (Or.inl rfl) (by trivial)) (@ar _ _ _ _ _ _ _ _ (@aq _ _ _ 5 _ nd rfl (Or.inl rfl) (by trivial)) (@ar _ _ _ _ _ _ _ _ (@aq _ _ _ 6 _ nd rfl (Or.inl rfl) (by trivial)) (@cV _ _) (by rfl)) (by rfl)) (by rfl)) (by rfl)) (aA (aA (aA (aA dY)))) (by rfl) (by rfl)) (by rfl) (by rfl) (by rfl)))
      (oC (PS.nox (@ec _ _ _ _ _ _ _ _ (@cu _ _ _ _ _ _ _ rfl (¬4) (¬1) (fun _ _=>rfl)) (@d_ _ _ _ _ _ _ _ _ rfl rfl (@ar _ _ _ _ _ _ _ _ (@aq _ _ _ 7 _ nd rfl (Or.inl rfl) (by trivial)) (@ar _ _ _ _ _ _ _ _ (@aq _ _ _ 8 _ nd rfl (Or.inl rfl) (by trivial)) (@ar _ _ _ _ _ _ _ _ (@aq _ _ _ 9 _ nd rfl (Or.inl rfl) (by trivial)) (@ar _ _ _ _ _ _ _ _ (@aq _ _ _ 10 _ nd rfl (Or.inl rfl) (by trivial)) (@cV _ _) (by rfl)) (by rfl)) (by rfl)) (by rfl)) (aA (aA (aA (aA dY)))) (by rfl) (by rfl)) (by rfl) (by rfl) (by rfl)))
      (zg (PT.nox (@bO _ _ _ _ (@aR _ _ _ _ _ _ _ _ _ _ _ _ _ _ _ h_less G_less (hr.mono (by decide)) ((¬2)∘((¬9)∘af)) (by rfl) (by decide) (by rfl) (by rfl)) (by intro _;rfl))) (PS.mono (rG rfl rfl m_NoRise x_NoRise rX (aS xg eC rfl) (by decide) rfl) (fun _ _ _ kp=>⟨(show 1≤sizeLine by decide),kp⟩))))))
noncomputable def n_:FS:=(aI (bA 2 (aB aU (aB bH (aB bH (aB dz (aB aU (ae 0) (vC (.int 2147483647))) (vC (.int 48271))) (aB dz (aB dz (vC (.int 7919)) (ae 1)) (ae 1))) (vC (.int 104729))) (vC (.int 2147483647))))
    (a8 (aB aU (aB dz (ae 2) (ae 2)) (vC (.int 2147483629)))))
noncomputable def fL:FM:=fW 2 1 ([2]++[]) n_
theorem mG:av ["_law_cell","_law_k","_law_number"] ["_law_cell","_law_k"] (ah ia):=⟨rfl,rfl,rfl,by decide+kernel,rfl,by decide+kernel,by decide+kernel⟩
theorem rc(h:aV K mg "_law_mixed" ia f fd ["_law_cell","_law_k"])(T:fZ mg):az P w K mg base bz 1 f fd ["_law_cell","_law_k"] (bI K 2 fL):=by
  have nd:=mG.nd
  exact h.fn mG rfl rfl (fun cdv A outer s H E hr=>(@ag _ _ _ _ _ _ _ _ (@aL _ _ _ _ _ 2 _ _ nd rfl (Or.inl rfl) (@aP _ _ _ _ _ _ _ (@bu _ _ _ _ _ _ _ rfl (@bu _ _ _ _ _ _ _ rfl (@eK _ _ _ _ _ _ _ rfl (@aP _ _ _ _ _ _ _ (¬0) ac) ac) (@eK _ _ _ _ _ _ _ rfl (@eK _ _ _ _ _ _ _ rfl ac (¬1)) (¬1))) ac) ac) (by rfl) (by trivial))
      (@ai _ _ _ _ _ (@aw _ _ _ _ _ (@aP _ _ _ _ _ _ _ (@eK _ _ _ _ _ _ _ rfl (¬2) (¬2)) ac)))))
noncomputable def dq:FT:=(mS (aN (aB yx (ae 3) (aB nA (vC (.int 10)) (vC (.int 18))))) (aN (aB sO (be (g1 iC) (aa (ae 1) am)) (vC (.int 900)))))
noncomputable def fC:FS:=(aI (hZ (dW cC (ae 1) (aa (aB aU (ae 3) (vC (.int 2147483629))) am)))
    (bA 3 (aB bX (ae 3) (vC (.int 2147483629)))))
noncomputable def fJ:FI:=(cU (aa (vC (.int 12)) am))
noncomputable def ee:FS:=(hZ (dW cC (ae 1) (aa (ck 2 fL (aa (ck 2 fL (aa (ae 3) (aa (aB bH (aB dz (vC (.int 3)) (ae 4)) (vC (.int 1))) am))) (aa (aB bH (aB bH (ae 4) (ae 2)) (vC (.int 2))) am))) am)))
noncomputable def iE:FI:=(cU (aa (be (g2 qA) (aa (be (g1 iC) (aa (ae 0) am)) (aa (vC (.int 63)) am))) am))
noncomputable def dn:FS:=(aI (bA 3 (be (g1 ni) (aa (aB dQ (ae 0) (ae 2)) am)))
    (aI (gc (aN (aB sO (ae 3) (aB nA (vC (.int 10)) (vC (.int 18)))))
    (fY ([4]++[]) fJ (aj 4) ee)
    cP)
    (aI (gG (2 ^ 4200) dq fC)
    (gc (aN (aB yx (ae 3) (vC (.int 2147483629))))
    (hZ (dW cC (ae 1) (aa (aB aU (ae 3) (vC (.int 2147483629))) am)))
    cP))))
noncomputable def n9:FS:=(aI (bA 1 (gJ am))
    (aI (fY ([2]++([3]++((([4]++[])++[])++(([]++[3])++([]++[]))))) iE (aj 2) dn)
    (a8 (ae 1))))
noncomputable def g9:FM:=fW 1 4 ([1]++(([2]++([3]++((([4]++[])++[])++(([]++[3])++([]++[])))))++[])) n9
theorem mF:av ["_law_script","_law_drawn","_law_k","_law_cell","_law_j"] ["_law_script"] (ah h_):=⟨rfl,rfl,rfl,by decide+kernel,rfl,by decide+kernel,by decide+kernel⟩
theorem q_(h:aV K mg "_law_draws" h_ f fd ["_law_script"])(T:fZ mg){fLmixed:Addr}{eLmixed:FuncData}(hLmixed:aV K mg "_law_mixed" ia fLmixed eLmixed ["_law_cell","_law_k"])(GLmixed:az P w K mg base bz 1 fLmixed eLmixed ["_law_cell","_law_k"] (bI K 2 fL)):az P w K mg base bz 2 f fd ["_law_script"] (bI K 1 g9):=by
  have nd:=mF.nd
  exact h.fn mF rfl rfl (fun cdv A outer s H E hr=>(@ag _ _ _ _ _ _ _ _ (@aL _ _ _ _ _ 1 _ _ nd rfl (Or.inl rfl) (@d9 _ _ _ _ _ af) (by rfl) (by trivial))
      (@ag _ _ _ _ _ _ _ _ (@gC _ _ _ _ _ _ _ _ _ _ _ PassesOwn.never rfl (@dt _ _ _ _ _ _ _ rfl T.b_range ((@bZ _ _ _ _ _ _ _ _ _ (@b_min _ _ rfl) (by rfl) T.b_min ((@bZ _ _ _ _ _ _ _ _ _ (@b_len _ _ rfl) (by rfl) T.b_len ((¬0)∘af) (by decide) (by decide) (by rfl) (by rfl))∘(ac∘af)) (by decide) (by decide) (by rfl) (by rfl))∘af) (by rfl)) (@aq _ _ _ 2 _ nd rfl (Or.inl rfl) (by trivial))
      (@ag _ _ _ _ _ _ _ _ (@aL _ _ _ _ _ 3 _ _ nd rfl (Or.inl rfl) (@bZ _ _ _ _ _ _ _ _ _ (@b_abs _ _) (by rfl) T.b_abs ((@cu _ _ _ _ _ _ _ rfl (¬0) (¬2) (fun _ _=>rfl))∘af) (by decide) (by decide) (by rfl) (by rfl)) (by rfl) (by trivial))
      (@ag _ _ _ _ _ _ _ _ (@bT _ _ _ _ _ _ _ _ _ _ _ (@ci _ _ _ _ _ _ _ _ _ (@oT _ _) (¬3) (@vG _ _ _ _ _ _ _ ac ac) (bc _))
      (@ai _ _ _ _ _ (@gC _ _ _ _ _ _ _ _ _ _ _ PassesOwn.never rfl (@dt _ _ _ _ _ _ _ rfl T.b_range (ac∘af) (by rfl)) (@aq _ _ _ 4 _ nd rfl (Or.inl rfl) (by trivial))
      (@ai _ _ _ _ _ (@hX _ _ _ _ _ (@eZ _ _ _ _ _ _ _ _ _ rfl (¬1) ((@aR _ _ _ _ _ _ _ _ _ _ _ _ _ _ _ hLmixed GLmixed (hr.mono (by decide)) ((@aR _ _ _ _ _ _ _ _ _ _ _ _ _ _ _ hLmixed GLmixed (hr.mono (by decide)) ((¬3)∘((@bu _ _ _ _ _ _ _ rfl (@eK _ _ _ _ _ _ _ rfl ac (¬4)) ac)∘af)) (by rfl) (by decide) (by rfl) (by rfl))∘((@bu _ _ _ _ _ _ _ rfl (@bu _ _ _ _ _ _ _ rfl (¬4) (¬2)) ac)∘af)) (by rfl) (by decide) (by rfl) (by rfl))∘af) (by rfl) (by rfl) (by rfl) (by rfl) (by rfl)) (by rfl))) (by intro _;rfl)))
      (@aT _ _))
      (@ag _ _ _ _ _ _ _ _ (@jX _ _ _ _ _ _ _ _ _ PassesOwn.never (@pJ _ _ _ _ (@rQ _ _ _ _ _ _ _ _ (@ci _ _ _ _ _ _ _ _ _ (@yt _ _) (¬3) (@vG _ _ _ _ _ _ _ ac ac) (bc _)) (@oA _ _ _ _ _ (@ci _ _ _ _ _ _ _ _ _ (@oT _ _) (@bZ _ _ _ _ _ _ _ _ _ (@b_len _ _ rfl) (by rfl) T.b_len ((¬1)∘af) (by decide) (by decide) (by rfl) (by rfl)) ac (bc _)))))
      (@ag _ _ _ _ _ _ _ _ (@hX _ _ _ _ _ (@eZ _ _ _ _ _ _ _ _ _ rfl (¬1) ((@aP _ _ _ _ _ _ _ (¬3) ac)∘af) (by rfl) (by rfl) (by rfl) (by rfl) (by rfl)) (by rfl))
      (@ai _ _ _ _ _ (@aL _ _ _ _ _ 3 _ _ nd rfl (Or.inl rfl) (@df _ _ _ _ _ _ _ (¬3) ac) (by rfl) (by trivial)))))
      (@ai _ _ _ _ _ (@bT _ _ _ _ _ _ _ _ _ _ _ (@ci _ _ _ _ _ _ _ _ _ (@yt _ _) (¬3) ac (bc _))
      (@ai _ _ _ _ _ (@hX _ _ _ _ _ (@eZ _ _ _ _ _ _ _ _ _ rfl (¬1) ((@aP _ _ _ _ _ _ _ (¬3) ac)∘af) (by rfl) (by rfl) (by rfl) (by rfl) (by rfl)) (by rfl)))
      (@aT _ _)))))) (by intro _;rfl))
      (@ai _ _ _ _ _ (@aw _ _ _ _ _ (¬1))))))
noncomputable def m9:FS:=(aI (gc (aN (aB (de false) (ae 0) (gJ am)))
    (a8 (vC (.int 0)))
    cP)
    (a8 (dW gu (ae 0) (aa (vC (.int 0)) am))))
noncomputable def bf:FM:=fW 1 0 (([]++[])++[]) m9
theorem oF:av ["_law_drawn"] ["_law_drawn"] (ah gF):=⟨rfl,rfl,rfl,by decide+kernel,rfl,by decide+kernel,by decide+kernel⟩
theorem tY(h:aV K mg "_law_next" gF f fd ["_law_drawn"])(T:fZ mg):az P w K mg base bz 1 f fd ["_law_drawn"] (bI K 1 bf):=by
  have nd:=oF.nd
  exact h.fn oF rfl rfl (fun cdv A outer s H E hr=>(@ag _ _ _ _ _ _ _ _ (@bT _ _ _ _ _ _ _ _ _ _ _ (@ci _ _ _ _ _ _ _ _ _ (@ls _ _ _ rfl hr) (¬0) (@d9 _ _ _ _ _ af) (bc _))
      (@ai _ _ _ _ _ (@aw _ _ _ _ _ ac))
      (@aT _ _))
      (@ai _ _ _ _ _ (@aw _ _ _ _ _ (@uE _ _ _ _ _ _ _ _ _ rfl (¬0) (ac∘af) (by rfl) (by rfl) (by rfl) (by rfl) (by rfl))))))
noncomputable def gQ:FT:=(aN (aB (de true) (ae 1) (vC (.int 0))))
noncomputable def jc:FS:=(nR 0 1 (aa (ae 1) (aa (aB aU (ae 0) (ae 1)) am)))
noncomputable def vf:FS:=(aI (gG (2 ^ 4200) gQ jc)
    (a8 (be (g1 ni) (aa (ae 0) am))))
noncomputable def mq:FM:=fW 2 0 ([0,1]++[]) vf
theorem r_:av ["_law_one","_law_other"] ["_law_one","_law_other"] (ah mC):=⟨rfl,rfl,rfl,by decide+kernel,rfl,by decide+kernel,by decide+kernel⟩
theorem wG(h:aV K mg "_law_gcd" mC f fd ["_law_one","_law_other"])(T:fZ mg):az P w K mg base bz 1 f fd ["_law_one","_law_other"] (bI K 2 mq):=by
  have nd:=r_.nd
  exact h.fn r_ rfl rfl (fun cdv A outer s H E hr=>(@ag _ _ _ _ _ _ _ _ (@jX _ _ _ _ _ _ _ _ _ PassesOwn.never (@ci _ _ _ _ _ _ _ _ _ (@yv _ _ _ rfl hr) (¬1) ac (bc _))
      (@ai _ _ _ _ _ (@rP _ _ _ _ _ 0 1 _ _ _ _ _ _ _ _ _ rfl nd rfl rfl (by decide) rfl rfl ((¬1)∘((@aP _ _ _ _ _ _ _ (¬0) (¬1))∘af)) (by rfl) (by rfl))))
      (@ai _ _ _ _ _ (@aw _ _ _ _ _ (@bZ _ _ _ _ _ _ _ _ _ (@b_abs _ _) (by rfl) T.b_abs ((¬0)∘af) (by decide) (by decide) (by rfl) (by rfl))))))
noncomputable def vg:FS:=(aI (bA 2 (ck 2 mq (aa (ae 0) (aa (ae 1) am))))
    (a8 (c_ (aa (aB bX (ae 0) (ae 2)) (aa (aB bX (ae 1) (ae 2)) am)))))
noncomputable def gb:FM:=fW 2 1 ([2]++[]) vg
theorem sd:av ["_law_top","_law_bottom","_law_common"] ["_law_top","_law_bottom"] (ah j1):=⟨rfl,rfl,rfl,by decide+kernel,rfl,by decide+kernel,by decide+kernel⟩
theorem wH(h:aV K mg "_law_low" j1 f fd ["_law_top","_law_bottom"])(T:fZ mg){fLgcd:Addr}{eLgcd:FuncData}(hLgcd:aV K mg "_law_gcd" mC fLgcd eLgcd ["_law_one","_law_other"])(GLgcd:az P w K mg base bz 1 fLgcd eLgcd ["_law_one","_law_other"] (bI K 2 mq)):az P w K mg base bz 2 f fd ["_law_top","_law_bottom"] (bI K 2 gb):=by
  have nd:=sd.nd
  exact h.fn sd rfl rfl (fun cdv A outer s H E hr=>(@ag _ _ _ _ _ _ _ _ (@aL _ _ _ _ _ 2 _ _ nd rfl (Or.inl rfl) (@aR _ _ _ _ _ _ _ _ _ _ _ _ _ _ _ hLgcd GLgcd (hr.mono (by decide)) ((¬0)∘((¬1)∘af)) (by rfl) (by decide) (by rfl) (by rfl)) (by rfl) (by trivial))
      (@ai _ _ _ _ _ (@aw _ _ _ _ _ (@bi _ _ _ _ _ _ ((@df _ _ _ _ _ _ _ (¬0) (¬2))∘((@df _ _ _ _ _ _ _ (¬1) (¬2))∘af)))))))
noncomputable def p5:FS:=(a8 (aB sO (aB dz (aB dQ (ae 0) (vC (.int 0))) (aB dQ (ae 1) (vC (.int 1)))) (aB dz (aB dQ (ae 1) (vC (.int 0))) (aB dQ (ae 0) (vC (.int 1))))))
noncomputable def jI:FM:=fW 2 0 [] p5
theorem oE:av ["_law_one","_law_other"] ["_law_one","_law_other"] (ah j0):=⟨rfl,rfl,rfl,by decide+kernel,rfl,by decide+kernel,by decide+kernel⟩
theorem tX(h:aV K mg "_law_less" j0 f fd ["_law_one","_law_other"])(T:fZ mg):az P w K mg base bz 1 f fd ["_law_one","_law_other"] (bI K 2 jI):=by
  have nd:=oE.nd
  exact h.fn oE rfl rfl (fun cdv A outer s H E hr=>(@ai _ _ _ _ _ (@aw _ _ _ _ _ (@jW _ _ _ _ _ _ _ _ _ (@oT _ _) (@eK _ _ _ _ _ _ _ rfl (@cu _ _ _ _ _ _ _ rfl (¬0) ac (fun _ _=>rfl)) (@cu _ _ _ _ _ _ _ rfl (¬1) ac (fun _ _=>rfl))) (@eK _ _ _ _ _ _ _ rfl (@cu _ _ _ _ _ _ _ rfl (¬1) ac (fun _ _=>rfl)) (@cu _ _ _ _ _ _ _ rfl (¬0) ac (fun _ _=>rfl))) (bc _)))))
noncomputable def p6:FS:=(a8 (aB (de false) (be (g1 iZ) (aa (ae 0) am)) (be (g1 iZ) (aa (ae 1) am))))
noncomputable def gr:FM:=fW 2 0 [] p6
theorem oG:av ["_law_found","_law_due"] ["_law_found","_law_due"] (ah iP):=⟨rfl,rfl,rfl,by decide+kernel,rfl,by decide+kernel,by decide+kernel⟩
theorem tZ(h:aV K mg "_law_same" iP f fd ["_law_found","_law_due"])(T:fZ mg):az P w K mg base bz 1 f fd ["_law_found","_law_due"] (bI K 2 gr):=by
  have nd:=oG.nd
  exact h.fn oG rfl rfl (fun cdv A outer s H E hr=>(@ai _ _ _ _ _ (@aw _ _ _ _ _ (@jW _ _ _ _ _ _ _ _ _ (@ls _ _ _ rfl hr) (@bZ _ _ _ _ _ _ _ _ _ (@b_repr _ _ _ rfl hr) (by rfl) T.b_repr ((¬0)∘af) (by decide) (by decide) (by rfl) (by rfl)) (@bZ _ _ _ _ _ _ _ _ _ (@b_repr _ _ _ rfl hr) (by rfl) T.b_repr ((¬1)∘af) (by decide) (by decide) (by rfl) (by rfl)) (bc _)))))
noncomputable def eN:FS:=(aI (gc (aN (aB (de false) (ae 1) (vC (.int 0))))
    (a8 (aB dQ (gJ (aa (c_ (aa (vC (.int 1)) (aa (vC (.int 2)) am))) (aa (c_ (aa (vC (.int 1)) (aa (vC (.int 3)) am))) (aa (c_ (aa (vC (.int 2)) (aa (vC (.int 3)) am))) (aa (c_ (aa (vC (.int 1)) (aa (vC (.int 1)) am))) (aa (c_ (aa (vC (.int 0)) (aa (vC (.int 1)) am))) (aa (c_ (aa (vC (.int 3)) (aa (vC (.int 4)) am))) am))))))) (aB aU (ae 0) (vC (.int 6)))))
    cP)
    (aI (gc (aN (aB (de false) (ae 1) (vC (.int 1))))
    (aI (bA 2 (aB bH (vC (.int 2)) (aB aU (ae 0) (vC (.int 9)))))
    (a8 (ck 2 gb (aa (aB bH (vC (.int 1)) (aB aU (aB bX (ae 0) (vC (.int 9))) (aB cz (ae 2) (vC (.int 1))))) (aa (ae 2) am)))))
    cP)
    (aI (gc (aN (aB (de false) (ae 1) (vC (.int 2))))
    (aI (bA 2 (aB bH (vC (.int 1)) (aB aU (ae 0) (vC (.int 100)))))
    (a8 (ck 2 gb (aa (aB aU (aB bX (ae 0) (vC (.int 100))) (aB bH (ae 2) (vC (.int 1)))) (aa (ae 2) am)))))
    cP)
    (a8 (c_ (aa (vC (.int 1)) (aa (vC (.int 1)) am)))))))
noncomputable def c8:FM:=fW 2 1 (([]++[])++((([2]++[])++[])++((([2]++[])++[])++[]))) eN
theorem kT:av ["_law_number","_law_kind","_law_bottom"] ["_law_number","_law_kind"] (ah e_):=⟨rfl,rfl,rfl,by decide+kernel,rfl,by decide+kernel,by decide+kernel⟩
theorem pA(h:aV K mg "_law_chance" e_ f fd ["_law_number","_law_kind"])(T:fZ mg){fLlow:Addr}{eLlow:FuncData}(hLlow:aV K mg "_law_low" j1 fLlow eLlow ["_law_top","_law_bottom"])(GLlow:az P w K mg base bz 2 fLlow eLlow ["_law_top","_law_bottom"] (bI K 2 gb)):az P w K mg base bz 3 f fd ["_law_number","_law_kind"] (bI K 2 c8):=by
  have nd:=kT.nd
  exact h.fn kT rfl rfl (fun cdv A outer s H E hr=>(@ag _ _ _ _ _ _ _ _ (@bT _ _ _ _ _ _ _ _ _ _ _ (@ci _ _ _ _ _ _ _ _ _ (@ls _ _ _ rfl hr) (¬1) ac (bc _))
      (@ai _ _ _ _ _ (@aw _ _ _ _ _ (@cu _ _ _ _ _ _ _ rfl (@d9 _ _ _ _ _ ((@bi _ _ _ _ _ _ (ac∘(ac∘af)))∘((@bi _ _ _ _ _ _ (ac∘(ac∘af)))∘((@bi _ _ _ _ _ _ (ac∘(ac∘af)))∘((@bi _ _ _ _ _ _ (ac∘(ac∘af)))∘((@bi _ _ _ _ _ _ (ac∘(ac∘af)))∘((@bi _ _ _ _ _ _ (ac∘(ac∘af)))∘af))))))) (@aP _ _ _ _ _ _ _ (¬0) ac) (fun _ _=>rfl))))
      (@aT _ _))
      (@ag _ _ _ _ _ _ _ _ (@bT _ _ _ _ _ _ _ _ _ _ _ (@ci _ _ _ _ _ _ _ _ _ (@ls _ _ _ rfl hr) (¬1) ac (bc _))
      (@ag _ _ _ _ _ _ _ _ (@aL _ _ _ _ _ 2 _ _ nd rfl (Or.inl rfl) (@bu _ _ _ _ _ _ _ rfl ac (@aP _ _ _ _ _ _ _ (¬0) ac)) (by rfl) (by trivial))
      (@ai _ _ _ _ _ (@aw _ _ _ _ _ (@aR _ _ _ _ _ _ _ _ _ _ _ _ _ _ _ hLlow GLlow (hr.mono (by decide)) ((@bu _ _ _ _ _ _ _ rfl ac (@aP _ _ _ _ _ _ _ (@df _ _ _ _ _ _ _ (¬0) ac) (@i5 _ _ _ _ _ _ _ (¬2) ac)))∘((¬2)∘af)) (by rfl) (by decide) (by rfl) (by rfl)))))
      (@aT _ _))
      (@ag _ _ _ _ _ _ _ _ (@bT _ _ _ _ _ _ _ _ _ _ _ (@ci _ _ _ _ _ _ _ _ _ (@ls _ _ _ rfl hr) (¬1) ac (bc _))
      (@ag _ _ _ _ _ _ _ _ (@aL _ _ _ _ _ 2 _ _ nd rfl (Or.inl rfl) (@bu _ _ _ _ _ _ _ rfl ac (@aP _ _ _ _ _ _ _ (¬0) ac)) (by rfl) (by trivial))
      (@ai _ _ _ _ _ (@aw _ _ _ _ _ (@aR _ _ _ _ _ _ _ _ _ _ _ _ _ _ _ hLlow GLlow (hr.mono (by decide)) ((@aP _ _ _ _ _ _ _ (@df _ _ _ _ _ _ _ (¬0) ac) (@bu _ _ _ _ _ _ _ rfl (¬2) ac))∘((¬2)∘af)) (by rfl) (by decide) (by rfl) (by rfl)))))
      (@aT _ _))
      (@ai _ _ _ _ _ (@aw _ _ _ _ _ (@bi _ _ _ _ _ _ (ac∘(ac∘af)))))))))
noncomputable def oh:FS:=(a8 (aB dQ (gJ (aa (aB aU (ae 0) (vC (.int 7))) (aa (aB bH (vC (.int 5)) (aB aU (ae 0) (vC (.int 2)))) (aa (aB aU (ae 0) (vC (.int 1001))) (aa (aB cz (vC (.int 1000)) (aB aU (ae 0) (vC (.int 3)))) am))))) (aB aU (ae 1) (vC (.int 4)))))
noncomputable def hE:FM:=fW 2 0 [] oh
theorem mI:av ["_law_number","_law_kind"] ["_law_number","_law_kind"] (ah ie):=⟨rfl,rfl,rfl,by decide+kernel,rfl,by decide+kernel,by decide+kernel⟩
theorem rh(h:aV K mg "_law_worth" ie f fd ["_law_number","_law_kind"])(T:fZ mg):az P w K mg base bz 1 f fd ["_law_number","_law_kind"] (bI K 2 hE):=by
  have nd:=mI.nd
  exact h.fn mI rfl rfl (fun cdv A outer s H E hr=>(@ai _ _ _ _ _ (@aw _ _ _ _ _ (@cu _ _ _ _ _ _ _ rfl (@d9 _ _ _ _ _ ((@aP _ _ _ _ _ _ _ (¬0) ac)∘((@bu _ _ _ _ _ _ _ rfl ac (@aP _ _ _ _ _ _ _ (¬0) ac))∘((@aP _ _ _ _ _ _ _ (¬0) ac)∘((@i5 _ _ _ _ _ _ _ ac (@aP _ _ _ _ _ _ _ (¬0) ac))∘af))))) (@aP _ _ _ _ _ _ _ (¬1) ac) (fun _ _=>rfl)))))
noncomputable def jE:FI:=(cU (aa (ae 2) am))
noncomputable def ef:FS:=(aI (bA 8 (ck 1 bf (aa (ae 0) am)))
    (aI (bA 9 (aB dQ (gJ (aa (aB aU (ae 8) (ae 1)) (aa (vC (.int 0)) (aa (aB aU (ae 7) (ae 1)) (aa (aB aU (ae 8) (ae 1)) (aa (aB aU (ae 8) (vC (.int 2))) (aa (aB aU (ae 8) (ae 1)) am))))))) (ae 3)))
    (aI (bA 10 (aB aU (aB bH (aB bH (ae 9) (vC (.int 1))) (aB aU (aB bX (ae 8) (vC (.int 12))) (aB cz (ae 1) (vC (.int 1))))) (ae 1)))
    (aI (gc (aN (aB (de false) (ae 3) (vC (.int 4))))
    (gE (c_ (aa (vC (.int 0)) (aa (vC (.int 1)) am))) (dB (aC (aj 9) (aC (aj 10) cZ))))
    cP)
    (aI (bA 11 (ck 1 bf (aa (ae 0) am)))
    (aI (bA 12 (c_ (aa (be (g2 qA) (aa (ae 9) (aa (ae 10) am))) (aa (be (g2 ph) (aa (ae 9) (aa (ae 10) am))) am))))
    (hZ (dW cC (ae 6) (aa (aB bH (ae 12) (c_ (aa (ck 2 c8 (aa (ae 11) (aa (ae 4) am))) (aa (ck 2 hE (aa (aB bX (ae 11) (vC (.int 10007))) (aa (ae 5) am))) am)))) am)))))))))
noncomputable def p7:FS:=(aI (bA 3 (aB aU (ck 1 bf (aa (ae 0) am)) (vC (.int 6))))
    (aI (bA 4 (aB aU (ck 1 bf (aa (ae 0) am)) (vC (.int 4))))
    (aI (bA 5 (aB aU (ck 1 bf (aa (ae 0) am)) (vC (.int 4))))
    (aI (bA 6 (gJ am))
    (aI (fY ([7]++([8]++([9]++([10]++((([9]++([10]++[]))++[])++([11]++([12]++[]))))))) jE (aj 7) ef)
    (a8 (be (g1 dA) (aa (ae 6) am))))))))
noncomputable def jJ:FM:=fW 3 10 ([3]++([4]++([5]++([6]++(([7]++([8]++([9]++([10]++((([9]++([10]++[]))++[])++([11]++([12]++[])))))))++[]))))) p7
theorem oH:av ["_law_drawn","_law_things","_law_many","_law_shape","_law_odds","_law_worths","_law_found","_law_k","_law_number","_law_one","_law_other","_law_cell","_law_ends"] ["_law_drawn","_law_things","_law_many"] (ah j2):=⟨rfl,rfl,rfl,by decide+kernel,rfl,by decide+kernel,by decide+kernel⟩
theorem t5(h:aV K mg "_law_ties" j2 f fd ["_law_drawn","_law_things","_law_many"])(T:fZ mg){fLnext:Addr}{eLnext:FuncData}(hLnext:aV K mg "_law_next" gF fLnext eLnext ["_law_drawn"])(GLnext:az P w K mg base bz 1 fLnext eLnext ["_law_drawn"] (bI K 1 bf)){fLchance:Addr}{eLchance:FuncData}(hLchance:aV K mg "_law_chance" e_ fLchance eLchance ["_law_number","_law_kind"])(GLchance:az P w K mg base bz 3 fLchance eLchance ["_law_number","_law_kind"] (bI K 2 c8)){fLworth:Addr}{eLworth:FuncData}(hLworth:aV K mg "_law_worth" ie fLworth eLworth ["_law_number","_law_kind"])(GLworth:az P w K mg base bz 1 fLworth eLworth ["_law_number","_law_kind"] (bI K 2 hE)):az P w K mg base bz 4 f fd ["_law_drawn","_law_things","_law_many"] (bI K 3 jJ):=by
  have nd:=oH.nd
  exact h.fn oH rfl rfl (fun cdv A outer s H E hr=>(@ag _ _ _ _ _ _ _ _ (@aL _ _ _ _ _ 3 _ _ nd rfl (Or.inl rfl) (@aP _ _ _ _ _ _ _ (@aR _ _ _ _ _ _ _ _ _ _ _ _ _ _ _ hLnext GLnext (hr.mono (by decide)) ((¬0)∘af) (by rfl) (by decide) (by rfl) (by rfl)) ac) (by rfl) (by trivial))
      (@ag _ _ _ _ _ _ _ _ (@aL _ _ _ _ _ 4 _ _ nd rfl (Or.inl rfl) (@aP _ _ _ _ _ _ _ (@aR _ _ _ _ _ _ _ _ _ _ _ _ _ _ _ hLnext GLnext (hr.mono (by decide)) ((¬0)∘af) (by rfl) (by decide) (by rfl) (by rfl)) ac) (by rfl) (by trivial))
      (@ag _ _ _ _ _ _ _ _ (@aL _ _ _ _ _ 5 _ _ nd rfl (Or.inl rfl) (@aP _ _ _ _ _ _ _ (@aR _ _ _ _ _ _ _ _ _ _ _ _ _ _ _ hLnext GLnext (hr.mono (by decide)) ((¬0)∘af) (by rfl) (by decide) (by rfl) (by rfl)) ac) (by rfl) (by trivial))
      (@ag _ _ _ _ _ _ _ _ (@aL _ _ _ _ _ 6 _ _ nd rfl (Or.inl rfl) (@d9 _ _ _ _ _ af) (by rfl) (by trivial))
      (@ag _ _ _ _ _ _ _ _ (@gC _ _ _ _ _ _ _ _ _ _ _ PassesOwn.never rfl (@dt _ _ _ _ _ _ _ rfl T.b_range ((¬2)∘af) (by rfl)) (@aq _ _ _ 7 _ nd rfl (Or.inl rfl) (by trivial))
      (@ag _ _ _ _ _ _ _ _ (@aL _ _ _ _ _ 8 _ _ nd rfl (Or.inl rfl) (@aR _ _ _ _ _ _ _ _ _ _ _ _ _ _ _ hLnext GLnext (hr.mono (by decide)) ((¬0)∘af) (by rfl) (by decide) (by rfl) (by rfl)) (by rfl) (by trivial))
      (@ag _ _ _ _ _ _ _ _ (@aL _ _ _ _ _ 9 _ _ nd rfl (Or.inl rfl) (@cu _ _ _ _ _ _ _ rfl (@d9 _ _ _ _ _ ((@aP _ _ _ _ _ _ _ (¬8) (¬1))∘(ac∘((@aP _ _ _ _ _ _ _ (¬7) (¬1))∘((@aP _ _ _ _ _ _ _ (¬8) (¬1))∘((@aP _ _ _ _ _ _ _ (¬8) ac)∘((@aP _ _ _ _ _ _ _ (¬8) (¬1))∘af))))))) (¬3) (fun _ _=>rfl)) (by rfl) (by trivial))
      (@ag _ _ _ _ _ _ _ _ (@aL _ _ _ _ _ 10 _ _ nd rfl (Or.inl rfl) (@aP _ _ _ _ _ _ _ (@bu _ _ _ _ _ _ _ rfl (@bu _ _ _ _ _ _ _ rfl (¬9) ac) (@aP _ _ _ _ _ _ _ (@df _ _ _ _ _ _ _ (¬8) ac) (@i5 _ _ _ _ _ _ _ (¬1) ac))) (¬1)) (by rfl) (by trivial))
      (@ag _ _ _ _ _ _ _ _ (@bT _ _ _ _ _ _ _ _ _ _ _ (@ci _ _ _ _ _ _ _ _ _ (@ls _ _ _ rfl hr) (¬3) ac (bc _))
      (@ai _ _ _ _ _ (@ec _ _ _ _ _ _ _ _ (@bi _ _ _ _ _ _ (ac∘(ac∘af))) (@d_ _ _ _ _ _ _ _ _ rfl rfl (@ar _ _ _ _ _ _ _ _ (@aq _ _ _ 9 _ nd rfl (Or.inl rfl) (by trivial)) (@ar _ _ _ _ _ _ _ _ (@aq _ _ _ 10 _ nd rfl (Or.inl rfl) (by trivial)) (@cV _ _) (by rfl)) (by rfl)) (aA (aA dY)) (by rfl) (by rfl)) (by rfl) (by rfl) (by rfl)))
      (@aT _ _))
      (@ag _ _ _ _ _ _ _ _ (@aL _ _ _ _ _ 11 _ _ nd rfl (Or.inl rfl) (@aR _ _ _ _ _ _ _ _ _ _ _ _ _ _ _ hLnext GLnext (hr.mono (by decide)) ((¬0)∘af) (by rfl) (by decide) (by rfl) (by rfl)) (by rfl) (by trivial))
      (@ag _ _ _ _ _ _ _ _ (@aL _ _ _ _ _ 12 _ _ nd rfl (Or.inl rfl) (@bi _ _ _ _ _ _ ((@bZ _ _ _ _ _ _ _ _ _ (@b_min _ _ rfl) (by rfl) T.b_min ((¬9)∘((¬10)∘af)) (by decide) (by decide) (by rfl) (by rfl))∘((@bZ _ _ _ _ _ _ _ _ _ (@b_max _ _ rfl) (by rfl) T.b_max ((¬9)∘((¬10)∘af)) (by decide) (by decide) (by rfl) (by rfl))∘af))) (by rfl) (by trivial))
      (@ai _ _ _ _ _ (@hX _ _ _ _ _ (@eZ _ _ _ _ _ _ _ _ _ rfl (¬6) ((@bu _ _ _ _ _ _ _ rfl (¬12) (@bi _ _ _ _ _ _ ((@aR _ _ _ _ _ _ _ _ _ _ _ _ _ _ _ hLchance GLchance (hr.mono (by decide)) ((¬11)∘((¬4)∘af)) (by rfl) (by decide) (by rfl) (by rfl))∘((@aR _ _ _ _ _ _ _ _ _ _ _ _ _ _ _ hLworth GLworth (hr.mono (by decide)) ((@df _ _ _ _ _ _ _ (¬11) ac)∘((¬5)∘af)) (by rfl) (by decide) (by rfl) (by rfl))∘af))))∘af) (by rfl) (by rfl) (by rfl) (by rfl) (by rfl)) (by rfl))))))))) (by intro _;rfl))
      (@ai _ _ _ _ _ (@aw _ _ _ _ _ (@bZ _ _ _ _ _ _ _ _ _ (@b_tuple _ _ rfl) (by rfl) T.b_tuple ((¬6)∘af) (by decide) (by decide) (by rfl) (by rfl))))))))))
noncomputable def lK:FI:=(cU (aa (ae 3) am))
noncomputable def jd:FS:=(hZ (dW cC (ae 7) (aa (aB dQ (gJ (aa (vC (.int 20)) (aa (aB bH (vC (.int 1)) (aB aU (ck 1 bf (aa (ae 0) am)) (vC (.int 3)))) (aa (aB aU (ck 1 bf (aa (ae 0) am)) (vC (.int 21))) am)))) (ae 6)) am)))
noncomputable def vj:FS:=(aI (bA 3 (aB aU (ck 1 bf (aa (ae 0) am)) (aB bH (ae 1) (vC (.int 1)))))
    (aI (bA 4 (aB dz (aB aU (ck 1 bf (aa (ae 0) am)) (aB bH (ae 2) (vC (.int 1)))) (be (g1 pe) (aa (aB yy (ae 3) (vC (.int 1))) am))))
    (aI (bA 5 (ck 3 jJ (aa (ae 0) (aa (be (g2 ph) (aa (vC (.int 2)) (aa (ae 3) am))) (aa (ae 4) am)))))
    (aI (bA 6 (aB aU (ck 1 bf (aa (ae 0) am)) (vC (.int 3))))
    (aI (bA 7 (gJ am))
    (aI (fY ([8]++[]) lK (aj 8) jd)
    (aI (bA 9 (aB dQ (gJ (aa (vC (.int 40)) (aa (aB bH (vC (.int 1)) (aB aU (ck 1 bf (aa (ae 0) am)) (be (g2 ph) (aa (vC (.int 1)) (aa (ae 4) am))))) (aa (aB aU (ck 1 bf (aa (ae 0) am)) (vC (.int 41))) am)))) (aB aU (ck 1 bf (aa (ae 0) am)) (vC (.int 3)))))
    (a8 (c_ (aa (ae 3) (aa (ae 5) (aa (be (g1 dA) (aa (ae 7) am)) (aa (ae 9) am)))))))))))))
noncomputable def ms:FM:=fW 3 7 ([3]++([4]++([5]++([6]++([7]++(([8]++[])++([9]++[]))))))) vj
theorem si:av ["_law_drawn","_law_most","_law_ties_here","_law_things","_law_many","_law_rows","_law_way","_law_patience","_law_k","_law_asks"] ["_law_drawn","_law_most","_law_ties_here"] (ah mE):=⟨rfl,rfl,rfl,by decide+kernel,rfl,by decide+kernel,by decide+kernel⟩
theorem wK(h:aV K mg "_law_web" mE f fd ["_law_drawn","_law_most","_law_ties_here"])(T:fZ mg){fLties:Addr}{eLties:FuncData}(hLties:aV K mg "_law_ties" j2 fLties eLties ["_law_drawn","_law_things","_law_many"])(GLties:az P w K mg base bz 4 fLties eLties ["_law_drawn","_law_things","_law_many"] (bI K 3 jJ)){fLnext:Addr}{eLnext:FuncData}(hLnext:aV K mg "_law_next" gF fLnext eLnext ["_law_drawn"])(GLnext:az P w K mg base bz 1 fLnext eLnext ["_law_drawn"] (bI K 1 bf)):az P w K mg base bz 5 f fd ["_law_drawn","_law_most","_law_ties_here"] (bI K 3 ms):=by
  have nd:=si.nd
  exact h.fn si rfl rfl (fun cdv A outer s H E hr=>(@ag _ _ _ _ _ _ _ _ (@aL _ _ _ _ _ 3 _ _ nd rfl (Or.inl rfl) (@aP _ _ _ _ _ _ _ (@aR _ _ _ _ _ _ _ _ _ _ _ _ _ _ _ hLnext GLnext (hr.mono (by decide)) ((¬0)∘af) (by rfl) (by decide) (by rfl) (by rfl)) (@bu _ _ _ _ _ _ _ rfl (¬1) ac)) (by rfl) (by trivial))
      (@ag _ _ _ _ _ _ _ _ (@aL _ _ _ _ _ 4 _ _ nd rfl (Or.inl rfl) (@eK _ _ _ _ _ _ _ rfl (@aP _ _ _ _ _ _ _ (@aR _ _ _ _ _ _ _ _ _ _ _ _ _ _ _ hLnext GLnext (hr.mono (by decide)) ((¬0)∘af) (by rfl) (by decide) (by rfl) (by rfl)) (@bu _ _ _ _ _ _ _ rfl (¬2) ac)) (@bZ _ _ _ _ _ _ _ _ _ (@b_int _ _) (by rfl) T.b_int ((@jW _ _ _ _ _ _ _ _ _ (@yu _ _) (¬3) ac (bc _))∘af) (by decide) (by decide) (by rfl) (by rfl))) (by rfl) (by trivial))
      (@ag _ _ _ _ _ _ _ _ (@aL _ _ _ _ _ 5 _ _ nd rfl (Or.inl rfl) (@aR _ _ _ _ _ _ _ _ _ _ _ _ _ _ _ hLties GLties (hr.mono (by decide)) ((¬0)∘((@bZ _ _ _ _ _ _ _ _ _ (@b_max _ _ rfl) (by rfl) T.b_max (ac∘((¬3)∘af)) (by decide) (by decide) (by rfl) (by rfl))∘((¬4)∘af))) (by rfl) (by decide) (by rfl) (by rfl)) (by rfl) (by trivial))
      (@ag _ _ _ _ _ _ _ _ (@aL _ _ _ _ _ 6 _ _ nd rfl (Or.inl rfl) (@aP _ _ _ _ _ _ _ (@aR _ _ _ _ _ _ _ _ _ _ _ _ _ _ _ hLnext GLnext (hr.mono (by decide)) ((¬0)∘af) (by rfl) (by decide) (by rfl) (by rfl)) ac) (by rfl) (by trivial))
      (@ag _ _ _ _ _ _ _ _ (@aL _ _ _ _ _ 7 _ _ nd rfl (Or.inl rfl) (@d9 _ _ _ _ _ af) (by rfl) (by trivial))
      (@ag _ _ _ _ _ _ _ _ (@gC _ _ _ _ _ _ _ _ _ _ _ PassesOwn.never rfl (@dt _ _ _ _ _ _ _ rfl T.b_range ((¬3)∘af) (by rfl)) (@aq _ _ _ 8 _ nd rfl (Or.inl rfl) (by trivial))
      (@ai _ _ _ _ _ (@hX _ _ _ _ _ (@eZ _ _ _ _ _ _ _ _ _ rfl (¬7) ((@cu _ _ _ _ _ _ _ rfl (@d9 _ _ _ _ _ (ac∘((@bu _ _ _ _ _ _ _ rfl ac (@aP _ _ _ _ _ _ _ (@aR _ _ _ _ _ _ _ _ _ _ _ _ _ _ _ hLnext GLnext (hr.mono (by decide)) ((¬0)∘af) (by rfl) (by decide) (by rfl) (by rfl)) ac))∘((@aP _ _ _ _ _ _ _ (@aR _ _ _ _ _ _ _ _ _ _ _ _ _ _ _ hLnext GLnext (hr.mono (by decide)) ((¬0)∘af) (by rfl) (by decide) (by rfl) (by rfl)) ac)∘af)))) (¬6) (fun _ _=>rfl))∘af) (by rfl) (by rfl) (by rfl) (by rfl) (by rfl)) (by rfl))) (by intro _;rfl))
      (@ag _ _ _ _ _ _ _ _ (@aL _ _ _ _ _ 9 _ _ nd rfl (Or.inl rfl) (@cu _ _ _ _ _ _ _ rfl (@d9 _ _ _ _ _ (ac∘((@bu _ _ _ _ _ _ _ rfl ac (@aP _ _ _ _ _ _ _ (@aR _ _ _ _ _ _ _ _ _ _ _ _ _ _ _ hLnext GLnext (hr.mono (by decide)) ((¬0)∘af) (by rfl) (by decide) (by rfl) (by rfl)) (@bZ _ _ _ _ _ _ _ _ _ (@b_max _ _ rfl) (by rfl) T.b_max (ac∘((¬4)∘af)) (by decide) (by decide) (by rfl) (by rfl))))∘((@aP _ _ _ _ _ _ _ (@aR _ _ _ _ _ _ _ _ _ _ _ _ _ _ _ hLnext GLnext (hr.mono (by decide)) ((¬0)∘af) (by rfl) (by decide) (by rfl) (by rfl)) ac)∘af)))) (@aP _ _ _ _ _ _ _ (@aR _ _ _ _ _ _ _ _ _ _ _ _ _ _ _ hLnext GLnext (hr.mono (by decide)) ((¬0)∘af) (by rfl) (by decide) (by rfl) (by rfl)) ac) (fun _ _=>rfl)) (by rfl) (by trivial))
      (@ai _ _ _ _ _ (@aw _ _ _ _ _ (@bi _ _ _ _ _ _ ((¬3)∘((¬5)∘((@bZ _ _ _ _ _ _ _ _ _ (@b_tuple _ _ rfl) (by rfl) T.b_tuple ((¬7)∘af) (by decide) (by decide) (by rfl) (by rfl))∘((¬9)∘af)))))))))))))))
noncomputable def vh:FS:=(a8 (aB bH (aB bH (sS (ae 0) i4 (hJ (ae 1))) (c_ (aa (ae 2) am))) (sS (ae 0) (hJ (aB bH (ae 1) (vC (.int 1)))) i4)))
noncomputable def mr:FM:=fW 3 0 [] vh
theorem se:av ["_law_row","_law_at","_law_thing"] ["_law_row","_law_at","_law_thing"] (ah mD):=⟨rfl,rfl,rfl,by decide+kernel,rfl,by decide+kernel,by decide+kernel⟩
theorem wJ(h:aV K mg "_law_put" mD f fd ["_law_row","_law_at","_law_thing"])(T:fZ mg):az P w K mg base bz 1 f fd ["_law_row","_law_at","_law_thing"] (bI K 3 mr):=by
  have nd:=se.nd
  exact h.fn se rfl rfl (fun cdv A outer s H E hr=>(@ai _ _ _ _ _ (@aw _ _ _ _ _ (@bu _ _ _ _ _ _ _ rfl (@bu _ _ _ _ _ _ _ rfl (@jh _ _ _ _ _ _ _ _ _ _ rfl (¬0) (@ji _ _) (@jj _ _ _ _ (¬1))) (@bi _ _ _ _ _ _ ((¬2)∘af))) (@jh _ _ _ _ _ _ _ _ _ _ rfl (¬0) (@jj _ _ _ _ (@bu _ _ _ _ _ _ _ rfl (¬1) ac)) (@ji _ _))))))
theorem j4:av ["_law_kept","_law_found"] ["_law_kept"] (ah em):=⟨rfl,rfl,rfl,by decide+kernel,rfl,by decide+kernel,by decide+kernel⟩
theorem nH(h:aV K mg "_law_refusal" em f fd ["_law_kept"])(T:fZ mg){C:Addr}(Z:l7 K C){c_PairsError:Addr}(m_PairsError:mg "PairsError"=some (.ref c_PairsError))(k_PairsError:W.kitOne K (.ref C) (.ref c_PairsError)=some true)(k_ValueError:W.kitOne K (.ref C) (.type "ValueError")=some true){c_TooMany:Addr}(m_TooMany:mg "TooMany"=some (.ref c_TooMany))(k_TooMany:W.kitOne K (.ref C) (.ref c_TooMany)=some false){c_NoRise:Addr}(m_NoRise:mg "NoRise"=some (.ref c_NoRise))(k_NoRise:W.kitOne K (.ref C) (.ref c_NoRise)=some true){c_NotTwoSided:Addr}(m_NotTwoSided:mg "NotTwoSided"=some (.ref c_NotTwoSided))(k_NotTwoSided:W.kitOne K (.ref C) (.ref c_NotTwoSided)=some false){c_NoText:Addr}(m_NoText:mg "NoText"=some (.ref c_NoText))(k_NoText:W.kitOne K (.ref C) (.ref c_NoText)=some false):az P w K mg base bz 1 f fd ["_law_kept"] (AB C [true,true,false,true,false,false]):=by
  have nd:=j4.nd
  refine h.F.ok j4 (fun vs H Q E q=>by obtain⟨a,rfl,_⟩:=q;rfl) fun cdv A outer s H vs Q E hr hsp=>⟨_,eY (lX (i:=1) nd rfl (Or.inl rfl) (lW (aS (iJ Z rfl T.b_isinstance boot_isinstance (pv 0) (fN (v:=V.ref c_PairsError) rfl m_PairsError rfl) (fun _ r=>r) k_PairsError) (aS (iJ Z rfl T.b_isinstance boot_isinstance (pv 0) (mx (T:="ValueError") rfl T.b_ValueError (by decide+kernel) (by decide) (by decide)) (fun _ r=>r) k_ValueError) (aS (iJ Z rfl T.b_isinstance boot_isinstance (pv 0) (fN (v:=V.ref c_TooMany) rfl m_TooMany rfl) (fun _ r=>r) k_TooMany) eC rfl) rfl) rfl)) rfl (.inl rfl)) (hV (nO (vE rk (pv 1) (lW (aS (iJ Z rfl T.b_isinstance boot_isinstance (pv 0) (fN (v:=V.ref c_NoRise) rfl m_NoRise rfl) (fun _ r=>r) k_NoRise) (aS (iJ Z rfl T.b_isinstance boot_isinstance (pv 0) (fN (v:=V.ref c_NotTwoSided) rfl m_NotTwoSided rfl) (fun _ r=>r) k_NotTwoSided) (aS (iJ Z rfl T.b_isinstance boot_isinstance (pv 0) (fN (v:=V.ref c_NoText) rfl m_NoText rfl) (fun _ r=>r) k_NoText) eC rfl) rfl) rfl))))),?_⟩
  obtain⟨a,rfl,ha,q⟩:=hsp
  exact uJ ha q
noncomputable def dX:FS:=(aI (gc (aN (aB (de false) (aB aU (ae 0) (vC (.int 7))) (vC (.int 0))))
    (a8 (c_ (aa (vC (.int 1)) (aa (vC (.int 1)) am))))
    cP)
    (aI (bA 2 (aB bH (vC (.int 1)) (aB aU (ae 0) (vC (.int 100)))))
    (aI (bA 3 (aB cz (vC (.int 0)) (aB bX (aB cz (vC (.int 0)) (aB dz (aB dQ (ae 1) (vC (.int 0))) (ae 2))) (aB dQ (ae 1) (vC (.int 1))))))
    (a8 (ck 2 gb (aa (aB bH (ae 3) (aB aU (aB bX (ae 0) (vC (.int 100))) (aB bH (aB cz (ae 2) (ae 3)) (vC (.int 1))))) (aa (ae 2) am)))))))
noncomputable def bL:FM:=fW 2 2 (([]++[])++([2]++([3]++[]))) dX
theorem fj:av ["_law_number","_law_own","_law_bottom","_law_least"] ["_law_number","_law_own"] (ah b7):=⟨rfl,rfl,rfl,by decide+kernel,rfl,by decide+kernel,by decide+kernel⟩
theorem jP(h:aV K mg "_law_chance_from" b7 f fd ["_law_number","_law_own"])(T:fZ mg){fLlow:Addr}{eLlow:FuncData}(hLlow:aV K mg "_law_low" j1 fLlow eLlow ["_law_top","_law_bottom"])(GLlow:az P w K mg base bz 2 fLlow eLlow ["_law_top","_law_bottom"] (bI K 2 gb)):az P w K mg base bz 3 f fd ["_law_number","_law_own"] (bI K 2 bL):=by
  have nd:=fj.nd
  exact h.fn fj rfl rfl (fun cdv A outer s H E hr=>(@ag _ _ _ _ _ _ _ _ (@bT _ _ _ _ _ _ _ _ _ _ _ (@ci _ _ _ _ _ _ _ _ _ (@ls _ _ _ rfl hr) (@aP _ _ _ _ _ _ _ (¬0) ac) ac (bc _))
      (@ai _ _ _ _ _ (@aw _ _ _ _ _ (@bi _ _ _ _ _ _ (ac∘(ac∘af)))))
      (@aT _ _))
      (@ag _ _ _ _ _ _ _ _ (@aL _ _ _ _ _ 2 _ _ nd rfl (Or.inl rfl) (@bu _ _ _ _ _ _ _ rfl ac (@aP _ _ _ _ _ _ _ (¬0) ac)) (by rfl) (by trivial))
      (@ag _ _ _ _ _ _ _ _ (@aL _ _ _ _ _ 3 _ _ nd rfl (Or.inl rfl) (@i5 _ _ _ _ _ _ _ ac (@df _ _ _ _ _ _ _ (@i5 _ _ _ _ _ _ _ ac (@eK _ _ _ _ _ _ _ rfl (@cu _ _ _ _ _ _ _ rfl (¬1) ac (fun _ _=>rfl)) (¬2))) (@cu _ _ _ _ _ _ _ rfl (¬1) ac (fun _ _=>rfl)))) (by rfl) (by trivial))
      (@ai _ _ _ _ _ (@aw _ _ _ _ _ (@aR _ _ _ _ _ _ _ _ _ _ _ _ _ _ _ hLlow GLlow (hr.mono (by decide)) ((@bu _ _ _ _ _ _ _ rfl (¬3) (@aP _ _ _ _ _ _ _ (@df _ _ _ _ _ _ _ (¬0) ac) (@bu _ _ _ _ _ _ _ rfl (@i5 _ _ _ _ _ _ _ (¬2) (¬3)) ac)))∘((¬2)∘af)) (by rfl) (by decide) (by rfl) (by rfl))))))))
noncomputable def fM:FM:=ya 3 8 jD
theorem j5:av ["_law_web_here","_law_tie","_law_chance_here","_law_kept","error"] ["_law_web_here","_law_tie","_law_chance_here"] (ah en):=⟨rfl,rfl,rfl,by decide+kernel,rfl,by decide+kernel,by decide+kernel⟩
theorem nI(h:aV K mg "_law_refused" en f fd ["_law_web_here","_law_tie","_law_chance_here"])(T:fZ mg){C Cb:Addr}{f_raised:Addr}{e_raised:FuncData}(h_raised:aV K mg "raised" dD f_raised e_raised ["web","tie","chance"])(R_raised:az P w K mg base (vP P w C) 2 f_raised e_raised ["web","tie","chance"] (yg K 3 8 jD)){fLrefusal:Addr}{eLrefusal:FuncData}(hLrefusal:aV K mg "_law_refusal" em fLrefusal eLrefusal ["_law_kept"])(GLrefusal:az P w K mg base bz 1 fLrefusal eLrefusal ["_law_kept"] (AB C [true,true,false,true,false,false]))(m_PairsError:mg "PairsError"=some (.ref Cb))(hex:W.exmOne K (.ref C) (.ref Cb)=some true):az P w K mg base bz 3 f fd ["_law_web_here","_law_tie","_law_chance_here"] (bI K 3 fM):=by
  have nd:=j5.nd
  refine h.F.ok j5 (fun vs H Q E q=>q.1) fun cdv A outer s H vs Q E hr hsp=>⟨_,eY (lX (i:=3) nd rfl (Or.inl rfl) xb rfl (.inl rfl)) (eY (rF (i:=3) (j:=4) rfl rfl R_raised (hr.mono (by decide)) rfl h_raised.m h_raised.F.kp h_raised.b (aS (pv 0) (aS (pv 1) (aS (pv 2) eC rfl) rfl) rfl) rfl m_PairsError hex nd rfl rfl rfl rfl (by decide)) (hV (nO (ov (rl hr) (ou GLrefusal (hr.mono (by decide)) rfl hLrefusal.m hLrefusal.F.kp hLrefusal.b .nil vD (aS (pv 3) eC rfl)) (lW (aS jS (aS jS (aS jS (aS jS (aS jS (aS jS eC rfl) rfl) rfl) rfl) rfl) rfl)) (bc _))))),?_⟩
  obtain⟨v0,v1,v2,rfl⟩:∃v0 v1 v2,vs=[v0,v1,v2]:=match vs,hsp.1 with | [v0,v1,v2],_=>⟨_,_,_,rfl⟩
  refine⟨v0,rfl,v1,rfl,v2,rfl,sk hsp,fun a H' kp hn=>?_⟩
  exact uI rfl aE (by decide) (fun H Q q=>q) fun H2 k2=>wb hsp fun c o e=>k2 c o (jF hn c o (kp c o e))
noncomputable def og:FS:=(aI (bA 3 (ck 3 eT (aa (ae 0) (aa (ae 1) (aa (ae 2) am)))))
    (aI (gE (aB dQ (aB dQ (ae 0) (vC (.int 1))) (ae 1)) (dB (aC (aj 4) (aC (aj 5) (aC (aj 6) (aC (aj 7) cZ))))))
    (aI (bA 8 (ck 3 mr (aa (aB dQ (ae 0) (vC (.int 1))) (aa (ae 1) (aa (c_ (aa (ae 4) (aa (ae 5) (aa (ae 2) (aa (ae 7) am))))) am)))))
    (a8 (fy (ck 2 gr (aa (ae 3) (aa (c_ (aa (aB dQ (ae 0) (vC (.int 0))) (aa (ae 8) (aa (aB dQ (ae 0) (vC (.int 2))) (aa (aB dQ (ae 0) (vC (.int 3))) am))))) am))) (aB zN (ck 1 cD (aa (ae 3) am)) (vC (.bool true))))))))
noncomputable def g_:FM:=fW 3 6 ([3]++(([4]++([5]++([6]++([7]++[]))))++([8]++[]))) og
theorem mH:av ["_law_web_here","_law_tie","_law_chance_here","_law_found","_law_one","_law_other","_law_own","_law_worth_here","_law_ties_here"] ["_law_web_here","_law_tie","_law_chance_here"] (ah ic):=⟨rfl,rfl,rfl,by decide+kernel,rfl,by decide+kernel,by decide+kernel⟩
theorem rg(h:aV K mg "_law_right" ic f fd ["_law_web_here","_law_tie","_law_chance_here"])(T:fZ mg){f_raised:Addr}{e_raised:FuncData}(h_raised:aV K mg "raised" dD f_raised e_raised ["web","tie","chance"])(G_raised:az P w K mg base bz 2 f_raised e_raised ["web","tie","chance"] (bI K 3 eT)){fLput:Addr}{eLput:FuncData}(hLput:aV K mg "_law_put" mD fLput eLput ["_law_row","_law_at","_law_thing"])(GLput:az P w K mg base bz 1 fLput eLput ["_law_row","_law_at","_law_thing"] (bI K 3 mr)){fLsame:Addr}{eLsame:FuncData}(hLsame:aV K mg "_law_same" iP fLsame eLsame ["_law_found","_law_due"])(GLsame:az P w K mg base bz 1 fLsame eLsame ["_law_found","_law_due"] (bI K 2 gr)){f_is_web:Addr}{e_is_web:FuncData}(h_is_web:aV K mg "is_web" ff f_is_web e_is_web ["thing"])(G_is_web:az P w K mg base bz 7 f_is_web e_is_web ["thing"] (bI K 1 cD)):az P w K mg base bz 8 f fd ["_law_web_here","_law_tie","_law_chance_here"] (bI K 3 g_):=by
  have nd:=mH.nd
  exact h.fn mH rfl rfl (fun cdv A outer s H E hr=>(@ag _ _ _ _ _ _ _ _ (@aL _ _ _ _ _ 3 _ _ nd rfl (Or.inl rfl) (@aR _ _ _ _ _ _ _ _ _ _ _ _ _ _ _ h_raised G_raised (hr.mono (by decide)) ((¬0)∘((¬1)∘((¬2)∘af))) (by rfl) (by decide) (by rfl) (by rfl)) (by rfl) (by trivial))
      (@ag _ _ _ _ _ _ _ _ (@ec _ _ _ _ _ _ _ _ (@cu _ _ _ _ _ _ _ rfl (@cu _ _ _ _ _ _ _ rfl (¬0) ac (fun _ _=>rfl)) (¬1) (fun _ _=>rfl)) (@d_ _ _ _ _ _ _ _ _ rfl rfl (@ar _ _ _ _ _ _ _ _ (@aq _ _ _ 4 _ nd rfl (Or.inl rfl) (by trivial)) (@ar _ _ _ _ _ _ _ _ (@aq _ _ _ 5 _ nd rfl (Or.inl rfl) (by trivial)) (@ar _ _ _ _ _ _ _ _ (@aq _ _ _ 6 _ nd rfl (Or.inl rfl) (by trivial)) (@ar _ _ _ _ _ _ _ _ (@aq _ _ _ 7 _ nd rfl (Or.inl rfl) (by trivial)) (@cV _ _) (by rfl)) (by rfl)) (by rfl)) (by rfl)) (aA (aA (aA (aA dY)))) (by rfl) (by rfl)) (by rfl) (by rfl) (by rfl))
      (@ag _ _ _ _ _ _ _ _ (@aL _ _ _ _ _ 8 _ _ nd rfl (Or.inl rfl) (@aR _ _ _ _ _ _ _ _ _ _ _ _ _ _ _ hLput GLput (hr.mono (by decide)) ((@cu _ _ _ _ _ _ _ rfl (¬0) ac (fun _ _=>rfl))∘((¬1)∘((@bi _ _ _ _ _ _ ((¬4)∘((¬5)∘((¬2)∘((¬7)∘af)))))∘af))) (by rfl) (by decide) (by rfl) (by rfl)) (by rfl) (by trivial))
      (@ai _ _ _ _ _ (@aw _ _ _ _ _ (@iM _ _ _ _ _ _ _ _ (@aR _ _ _ _ _ _ _ _ _ _ _ _ _ _ _ hLsame GLsame (hr.mono (by decide)) ((¬3)∘((@bi _ _ _ _ _ _ ((@cu _ _ _ _ _ _ _ rfl (¬0) ac (fun _ _=>rfl))∘((¬8)∘((@cu _ _ _ _ _ _ _ rfl (¬0) ac (fun _ _=>rfl))∘((@cu _ _ _ _ _ _ _ rfl (¬0) ac (fun _ _=>rfl))∘af)))))∘af)) (by rfl) (by decide) (by rfl) (by rfl)) (@iO _ _ _ _ _ _ (@jW _ _ _ _ _ _ _ _ _ (@Ad _ _) (@aR _ _ _ _ _ _ _ _ _ _ _ _ _ _ _ h_is_web G_is_web (hr.mono (by decide)) ((¬3)∘af) (by rfl) (by decide) (by rfl) (by rfl)) (@dR _ _ _ _ _) (bc _))))))))))
noncomputable def AW:FI:=(lL (gJ (aa (ck 2 bL (aa (ae 7) (aa (ae 6) am))) (aa (ae 6) (aa (c_ (aa (vC (.int 1)) (aa (vC (.int 1)) am))) am)))))
noncomputable def zK:FS:=(gc (ed (aN (ck 3 g_ (aa (ae 3) (aa (ae 5) (aa (ae 8) am))))))
    (a8 (vC (.bool false)))
    cP)
noncomputable def AX:FI:=(cU (aa (be (g1 iC) (aa (aB dQ (ae 3) (vC (.int 1))) am)) am))
noncomputable def x9:FS:=(aI (bA 6 (aB dQ (aB dQ (aB dQ (ae 3) (vC (.int 1))) (ae 5)) (vC (.int 2))))
    (aI (bA 7 (ck 1 bf (aa (ae 1) am)))
    (aI (fY ([8]++([]++[])) AW (aj 8) zK)
    (aI (bA 9 (ck 2 gb (aa (aB bX (aB dz (aB dQ (ae 6) (vC (.int 0))) (aB aU (ae 7) (vC (.int 50)))) (vC (.int 50))) (aa (aB dQ (ae 6) (vC (.int 1))) am))))
    (gc (mS (aN (ck 2 jI (aa (ae 9) (aa (ae 6) am)))) (ed (aN (ck 3 fM (aa (ae 3) (aa (ae 5) (aa (ae 9) am)))))))
    (a8 (vC (.bool false)))
    cP)))))
noncomputable def AY:FI:=(cU (aa (vC (.int 5)) am))
noncomputable def zL:FS:=(aI (bA 3 (ck 3 ms (aa (ae 1) (aa (vC (.int 12)) (aa (vC (.int 16)) am)))))
    (aI (bA 4 (be (g1 dA) (aa (ae 3) am)))
    (aI (fY ([5]++([6]++([7]++(([8]++([]++[]))++([9]++([]++[])))))) AX (aj 5) x9)
    (gc (ed (aN (ck 2 gr (aa (ae 3) (aa (ae 4) am)))))
    (a8 (vC (.bool false)))
    cP))))
noncomputable def vk:FS:=(aI (bA 1 (ck 1 g9 (aa (ae 0) am)))
    (aI (fY ([2]++([3]++([4]++(([5]++([6]++([7]++(([8]++([]++[]))++([9]++([]++[]))))))++([]++[]))))) AY (aj 2) zL)
    (a8 (vC (.bool true)))))
noncomputable def jK:FM:=fW 1 9 ([1]++(([2]++([3]++([4]++(([5]++([6]++([7]++(([8]++([]++[]))++([9]++([]++[]))))))++([]++[])))))++[])) vk
theorem sj:av ["_law_script","_law_drawn","_law_turn","_law_web_here","_law_kept","_law_tie","_law_own","_law_number","_law_chance_here","_law_lower"] ["_law_script"] (ah j3):=⟨rfl,rfl,rfl,by decide+kernel,rfl,by decide+kernel,by decide+kernel⟩
theorem wL(h:aV K mg "law" j3 f fd ["_law_script"])(T:fZ mg){fLdraws:Addr}{eLdraws:FuncData}(hLdraws:aV K mg "_law_draws" h_ fLdraws eLdraws ["_law_script"])(GLdraws:az P w K mg base bz 2 fLdraws eLdraws ["_law_script"] (bI K 1 g9)){fLweb:Addr}{eLweb:FuncData}(hLweb:aV K mg "_law_web" mE fLweb eLweb ["_law_drawn","_law_most","_law_ties_here"])(GLweb:az P w K mg base bz 5 fLweb eLweb ["_law_drawn","_law_most","_law_ties_here"] (bI K 3 ms)){fLnext:Addr}{eLnext:FuncData}(hLnext:aV K mg "_law_next" gF fLnext eLnext ["_law_drawn"])(GLnext:az P w K mg base bz 1 fLnext eLnext ["_law_drawn"] (bI K 1 bf)){fLlow:Addr}{eLlow:FuncData}(hLlow:aV K mg "_law_low" j1 fLlow eLlow ["_law_top","_law_bottom"])(GLlow:az P w K mg base bz 2 fLlow eLlow ["_law_top","_law_bottom"] (bI K 2 gb)){fLsame:Addr}{eLsame:FuncData}(hLsame:aV K mg "_law_same" iP fLsame eLsame ["_law_found","_law_due"])(GLsame:az P w K mg base bz 1 fLsame eLsame ["_law_found","_law_due"] (bI K 2 gr)){fLchance_from:Addr}{eLchance_from:FuncData}(hLchance_from:aV K mg "_law_chance_from" b7 fLchance_from eLchance_from ["_law_number","_law_own"])(GLchance_from:az P w K mg base bz 3 fLchance_from eLchance_from ["_law_number","_law_own"] (bI K 2 bL)){fLless:Addr}{eLless:FuncData}(hLless:aV K mg "_law_less" j0 fLless eLless ["_law_one","_law_other"])(GLless:az P w K mg base bz 1 fLless eLless ["_law_one","_law_other"] (bI K 2 jI)){fLright:Addr}{eLright:FuncData}(hLright:aV K mg "_law_right" ic fLright eLright ["_law_web_here","_law_tie","_law_chance_here"])(GLright:az P w K mg base bz 8 fLright eLright ["_law_web_here","_law_tie","_law_chance_here"] (bI K 3 g_)){fLrefused:Addr}{eLrefused:FuncData}(hLrefused:aV K mg "_law_refused" en fLrefused eLrefused ["_law_web_here","_law_tie","_law_chance_here"])(GLrefused:az P w K mg base bz 3 fLrefused eLrefused ["_law_web_here","_law_tie","_law_chance_here"] (bI K 3 fM)):az P w K mg base bz 9 f fd ["_law_script"] (bI K 1 jK):=by
  have nd:=sj.nd
  exact h.fn sj rfl rfl (fun cdv A outer s H E hr=>(@ag _ _ _ _ _ _ _ _ (@aL _ _ _ _ _ 1 _ _ nd rfl (Or.inl rfl) (@aR _ _ _ _ _ _ _ _ _ _ _ _ _ _ _ hLdraws GLdraws (hr.mono (by decide)) ((¬0)∘af) (by rfl) (by decide) (by rfl) (by rfl)) (by rfl) (by trivial))
      (@ag _ _ _ _ _ _ _ _ (@gC _ _ _ _ _ _ _ _ _ _ _ PassesOwn.never rfl (@dt _ _ _ _ _ _ _ rfl T.b_range (ac∘af) (by rfl)) (@aq _ _ _ 2 _ nd rfl (Or.inl rfl) (by trivial))
      (@ag _ _ _ _ _ _ _ _ (@aL _ _ _ _ _ 3 _ _ nd rfl (Or.inl rfl) (@aR _ _ _ _ _ _ _ _ _ _ _ _ _ _ _ hLweb GLweb (hr.mono (by decide)) ((¬1)∘(ac∘(ac∘af))) (by rfl) (by decide) (by rfl) (by rfl)) (by rfl) (by trivial))
      (@ag _ _ _ _ _ _ _ _ (@aL _ _ _ _ _ 4 _ _ nd rfl (Or.inl rfl) (@bZ _ _ _ _ _ _ _ _ _ (@b_tuple _ _ rfl) (by rfl) T.b_tuple ((¬3)∘af) (by decide) (by decide) (by rfl) (by rfl)) (by rfl) (by trivial))
      (@ag _ _ _ _ _ _ _ _ (@gC _ _ _ _ _ _ _ _ _ _ _ PassesOwn.never rfl (@dt _ _ _ _ _ _ _ rfl T.b_range ((@bZ _ _ _ _ _ _ _ _ _ (@b_len _ _ rfl) (by rfl) T.b_len ((@cu _ _ _ _ _ _ _ rfl (¬3) ac (fun _ _=>rfl))∘af) (by decide) (by decide) (by rfl) (by rfl))∘af) (by rfl)) (@aq _ _ _ 5 _ nd rfl (Or.inl rfl) (by trivial))
      (@ag _ _ _ _ _ _ _ _ (@aL _ _ _ _ _ 6 _ _ nd rfl (Or.inl rfl) (@cu _ _ _ _ _ _ _ rfl (@cu _ _ _ _ _ _ _ rfl (@cu _ _ _ _ _ _ _ rfl (¬3) ac (fun _ _=>rfl)) (¬5) (fun _ _=>rfl)) ac (fun _ _=>rfl)) (by rfl) (by trivial))
      (@ag _ _ _ _ _ _ _ _ (@aL _ _ _ _ _ 7 _ _ nd rfl (Or.inl rfl) (@aR _ _ _ _ _ _ _ _ _ _ _ _ _ _ _ hLnext GLnext (hr.mono (by decide)) ((¬1)∘af) (by rfl) (by decide) (by rfl) (by rfl)) (by rfl) (by trivial))
      (@ag _ _ _ _ _ _ _ _ (@gC _ _ _ _ _ _ _ _ _ _ _ PassesOwn.never rfl (@nP _ _ _ _ _ rfl (@d9 _ _ _ _ _ ((@aR _ _ _ _ _ _ _ _ _ _ _ _ _ _ _ hLchance_from GLchance_from (hr.mono (by decide)) ((¬7)∘((¬6)∘af)) (by rfl) (by decide) (by rfl) (by rfl))∘((¬6)∘((@bi _ _ _ _ _ _ (ac∘(ac∘af)))∘af))))) (@aq _ _ _ 8 _ nd rfl (Or.inl rfl) (by trivial))
      (@ai _ _ _ _ _ (@bT _ _ _ _ _ _ _ _ _ _ _ (@cj _ _ _ _ _ (@bO _ _ _ _ (@aR _ _ _ _ _ _ _ _ _ _ _ _ _ _ _ hLright GLright (hr.mono (by decide)) ((¬3)∘((¬5)∘((¬8)∘af))) (by rfl) (by decide) (by rfl) (by rfl)) (by intro _;rfl)))
      (@ai _ _ _ _ _ (@aw _ _ _ _ _ (@dR _ _ _ _ _)))
      (@aT _ _))) (by intro _;rfl))
      (@ag _ _ _ _ _ _ _ _ (@aL _ _ _ _ _ 9 _ _ nd rfl (Or.inl rfl) (@aR _ _ _ _ _ _ _ _ _ _ _ _ _ _ _ hLlow GLlow (hr.mono (by decide)) ((@df _ _ _ _ _ _ _ (@eK _ _ _ _ _ _ _ rfl (@cu _ _ _ _ _ _ _ rfl (¬6) ac (fun _ _=>rfl)) (@aP _ _ _ _ _ _ _ (¬7) ac)) ac)∘((@cu _ _ _ _ _ _ _ rfl (¬6) ac (fun _ _=>rfl))∘af)) (by rfl) (by decide) (by rfl) (by rfl)) (by rfl) (by trivial))
      (@ai _ _ _ _ _ (@bT _ _ _ _ _ _ _ _ _ _ _ (@pJ _ _ _ _ (@rQ _ _ _ _ _ _ _ _ (@bO _ _ _ _ (@aR _ _ _ _ _ _ _ _ _ _ _ _ _ _ _ hLless GLless (hr.mono (by decide)) ((¬9)∘((¬6)∘af)) (by rfl) (by decide) (by rfl) (by rfl)) (by intro _;rfl)) (@oA _ _ _ _ _ (@cj _ _ _ _ _ (@bO _ _ _ _ (@aR _ _ _ _ _ _ _ _ _ _ _ _ _ _ _ hLrefused GLrefused (hr.mono (by decide)) ((¬3)∘((¬5)∘((¬9)∘af))) (by rfl) (by decide) (by rfl) (by rfl)) (by intro _;rfl))))))
      (@ai _ _ _ _ _ (@aw _ _ _ _ _ (@dR _ _ _ _ _)))
      (@aT _ _))))))) (by intro _;rfl))
      (@ai _ _ _ _ _ (@bT _ _ _ _ _ _ _ _ _ _ _ (@cj _ _ _ _ _ (@bO _ _ _ _ (@aR _ _ _ _ _ _ _ _ _ _ _ _ _ _ _ hLsame GLsame (hr.mono (by decide)) ((¬3)∘((¬4)∘af)) (by rfl) (by decide) (by rfl) (by rfl)) (by intro _;rfl)))
      (@ai _ _ _ _ _ (@aw _ _ _ _ _ (@dR _ _ _ _ _)))
      (@aT _ _)))))) (by intro _;rfl))
      (@ai _ _ _ _ _ (@aw _ _ _ _ _ (@dR _ _ _ _ _))))))
local macro_rules | `(tactic| simp? [$ts,*]) => `(tactic| simp [$ts,*, fW, kQ, aI, gc, a8, cP, bA, hZ, gE, nR, rJ, aN, aB, pV, ae, vC, gJ, am, aa, c_, be, ck, mS, sI, ed, AI, fy, xY, k8, sS, i4, hJ, dW, cC, wB, gu, f9, oY, cw, cB, qi, oQ, dB, aC, aj, cZ, cg, aG, aY, tU, dy, ej, gq, lB, lH, lF, lD, lC, jy, jx, jz, iB, jw, qy, f_, nj, qz, nz, lG, nq, nu, jB, jA, iD, jC, qH, ey, ez, m7, m8, qg, ix, iw, gW, lE, List.replicate, -List.map_nil, -List.map_cons, -List.nil_append, -List.cons_append, -Option.bind_some, -Option.map_some, -getElem?_pos, -List.append_nil, qq, qp, qk, qj, qm, qo, ql, qr])
theorem o5{n k:Int}(h:0 < k):0≤n % k:=Int.emod_nonneg _ (Int.ne_of_gt h)
theorem o6{n k:Int}(h:0 < k):n % k < k:=Int.emod_lt_of_pos _ h
def nx:List Int→Int
  | []=>0
  | d::_=>d
def gM(ds:List Int):Prop:=∀d∈ds,0≤d∧d < 2147483648
theorem vB{ds:List Int}(h:gM ds):0≤nx ds∧nx ds < 2147483648:=by
  cases ds with
  | nil=>exact⟨Int.le_refl 0,by show(0:Int) < 2147483648;decide⟩
  | cons d r=>exact h d (by simp)
theorem zD{ds:List Int}(h:gM ds):gM ds.tail:=fun d hd=>h d (List.mem_of_mem_tail hd)
theorem xS(ds:List Int):bf [.l (ds.map .int)]=some (.d (.int (nx ds)),[.l (ds.tail.map .int)]):=by
  have hq:∀e:En,e[0]?=some (some (.l (ds.map .int)))→de false e (.s 0) (.l [])=some (.d (.bool (ds.map PyData.int).isEmpty)):=fun e he=>qu he (mJ ds).1
  cases ds with
  | nil=>simp? [bf,m9,hq,nx]
  | cons d r=>simp? [bf,m9,hq,nx]
theorem iq{ds:List Int}(hd:gM ds):∃(n:Int) (ds':List Int),bf [.l (ds.map .int)]=some (.d (.int n),[.l (ds'.map .int)])∧0≤n∧n < 2147483648∧gM ds':=⟨nx ds,ds.tail,xS ds,(vB hd).1,(vB hd).2,zD hd⟩
theorem oP(cell k:Int)(h0:0≤k)(h1:k≤1000):∃r,fL [.d (.int cell),.d (.int k)]=some (.d (.int r),[.d (.int cell),.d (.int k)])∧0≤r∧r < 2147483648:=by
  have a1:iH (cell % 2147483647) 48271=true:=lR (by decide) (by decide)
  have a2:iH 7919 k=true:=eU (by decide) (by decide)
  have a3:iH (7919*k) k=true:=lR (by lia) (by lia)
  have a4:iH ((cell % 2147483647*48271+7919*k*k+104729) % 2147483647) ((cell % 2147483647*48271+7919*k*k+104729) % 2147483647)=true:=lR (by lia) (by lia)
  refine⟨_,by simp? [fL,n_,aJ,cA,a1,a2,a3,a4];rfl,?_,?_⟩
  · lia
  · lia
theorem ly{ds:List Int}(h:gM ds){r:Int}(h0:0≤r)(h1:r < 2147483648):gM (ds++[r]):=fun d hd=>by
  rcases List.mem_append.mp hd with hd | hd
  · exact h d hd
  · simp at hd;subst hd;exact⟨h0,h1⟩
abbrev dE(ns ds:List Int)(v2 v3 v4:Option Sv):En:=[some (.d (.list (ns.map .int))),some (.l (ds.map .int)),v2,v3,v4]
inductive DI (ns:List Int) (i:Nat):En→Prop
  | mk {ds v2 v3 v4} (hd:gM ds) (hl:ds.length≤1000*i):DI ns i (dE ns ds v2 v3 v4)
inductive DJ (ns:List Int) (k cell:Int) (n i:Nat):En→Prop
  | mk {ds v4} (hd:gM ds) (hl:ds.length=n+i):DJ ns k cell n i (dE ns ds (some (.d (.int k))) (some (.d (.int cell))) v4)
inductive DW (ns:List Int) (k:Int) (v4:Option Sv) (n:Nat):En→Prop
  | mk {cell ds} (hc:0≤cell) (hd:gM ds) (hl:ds.length≤max n 900):DW ns k v4 n (dE ns ds (some (.d (.int k))) (some (.d (.int cell))) v4)
theorem uR(ns:List Int)(hn:ns.length≤63):∃ds,g9 [.d (.list (ns.map .int))]=some (.l (ds.map .int),[.d (.list (ns.map .int))])∧gM ds:=by
  have inner:∀(cell k:Int) (ds:List Int) (v4:Option Sv),0≤k→k≤63→gM ds→ds.length≤63000→∃ds' v4',(∀W,fY W fJ (aj 4) ee (dE ns ds (some (.d (.int k))) (some (.d (.int cell))) v4)=some (.nx (dE ns ds' (some (.d (.int k))) (some (.d (.int cell))) v4')))∧gM ds'∧ds'.length=ds.length+12:=by
    intro cell k ds v4 k0 k1 hd hl
    obtain⟨e',h1,h2⟩:=cX (own:=[]) (g:=aj 4) (f:=ee) (DJ ns k cell ds.length) (bv 0 12) 0 (dE ns ds (some (.d (.int k))) (some (.d (.int cell))) v4) (fun i x e hx hI=>by
      obtain⟨rfl,hi⟩:=dC hx
      obtain⟨hd',hl'⟩:=hI
      rename_i ds' v4'
      obtain⟨r1,c1,_,_⟩:=oP cell (3*(0+(i:Int))+1) (by lia) (by lia)
      obtain⟨r2,c2,c3,c4⟩:=oP r1 (0+(i:Int)+k+2) (by lia) (by lia)
      have a1:iH 3 (0+(i:Int))=true:=eU (by decide) (by decide)
      refine⟨_,dE ns (ds'++[r2]) (some (.d (.int k))) (some (.d (.int cell))) (some (.d (.int (0+(i:Int))))),rfl,?_,cL,.mk (ly hd' c3 c4) (by simp;lia)⟩
      have hlen:ds'.length < 1000000:=by lia
      simp only [Int.zero_add] at a1 c1 c2
      simp? [dE,ee,c1,c2,cA,a1,hlen]) (.mk hd rfl)
    obtain⟨hd',hl'⟩:=h2
    rename_i ds' v4'
    rw [gD] at hl'
    refine⟨ds',v4',fun W=>?_,hd',by lia⟩
    rw [eE (show fJ _=some (bv 0 12,[],_) from cK (n:=12) rfl (by decide) (by decide))]
    exact h1
  have wh:∀(cell k:Int) (ds:List Int) (v4:Option Sv),0≤cell→gM ds→ds.length≤63100→∃cell' ds',gG (2 ^ 4200) dq fC (dE ns ds (some (.d (.int k))) (some (.d (.int cell))) v4)=some (.nx (dE ns ds' (some (.d (.int k))) (some (.d (.int cell'))) v4))∧0≤cell'∧gM ds'∧ds'.length≤max ds.length 900:=by
    intro cell k ds v4 hc hd hl
    have tst:∀(cell:Int) (ds:List Int),dq (dE ns ds (some (.d (.int k))) (some (.d (.int cell))) v4)=some (decide (1000000000000000000≤cell)&&decide ((ds.length:Int) < 900),dE ns ds (some (.d (.int k))) (some (.d (.int cell))) v4):=by
      intro cell ds
      by_cases h:(1000000000000000000:Int)≤cell
      · simp? [dE,dq,gX,hU,h]
      · simp? [dE,dq,gX,hU,h]
    obtain⟨e0,e',h1,hI,h3⟩:=gK (ft:=dq) (f:=fC) (DW ns k v4 ds.length)
      (fun e=>1000000 - vy 1 e) (fun e hI=>by
        obtain⟨hc',hd',hl'⟩:=hI
        rename_i cell' ds'
        rw [tst]
        by_cases c1:(1000000000000000000:Int)≤cell'
        · by_cases c2:(ds'.length:Int) < 900
          · refine .inr ⟨_,dE ns (ds'++[cell' % 2147483629]) (some (.d (.int k))) (some (.d (.int (cell' / 2147483629)))) v4,by rw [decide_eq_true c1,decide_eq_true c2];rfl,?_,.mk (by lia) (ly hd' (by lia) (by lia)) (by simp;lia),?_⟩
            · have hlen:ds'.length < 1000000:=by lia
              have b8:Bt 8000 2147483629:=eO (by decide) (by decide)
              simp? [dE,fC,aJ,cn,b8,hlen]
            · simp [vy,dE];lia
          · exact .inl ⟨_,by rw [decide_eq_true c1,decide_eq_false c2];rfl,trivial⟩
        · exact .inl ⟨_,by rw [decide_eq_false c1];rfl,trivial⟩) (2 ^ 4200) _ (.mk hc hd (by lia)) (lP (m:=20) (Nat.lt_of_le_of_lt (Nat.sub_le _ _) (by decide)) (by decide))
    obtain⟨hc',hd',hl'⟩:=hI
    rename_i cell' ds'
    rw [tst] at h3
    have h4:=(Prod.mk.inj (Option.some.inj h3)).2
    subst h4
    exact⟨cell',ds',h1,hc',hd',hl'⟩
  have turn:∀(i:Nat) (ds:List Int) (v3 v4:Option Sv) (hi:i < ns.length),gM ds→ds.length≤1000*i→∃ds2 v3' v4',dn (dE ns ds (some (.d (.int (i:Int)))) v3 v4)=some (.nx (dE ns ds2 (some (.d (.int (i:Int)))) v3' v4'))∧gM ds2∧ds2.length≤1000*(i+1):=by
    intro i ds v3 v4 hi hd hl
    have hcell:atI (ns.map PyData.int) (i:Int)=some (.int ns[i]):=by
      rw [gk (by lia) (by rw [List.length_map];lia)]
      simp [hi]
    have c0:(0:Int)≤(ns[i].natAbs:Int):=by lia
    have st:bA 3 (be (g1 ni) (aa (aB dQ (ae 0) (ae 2)) am)) (dE ns ds (some (.d (.int (i:Int)))) v3 v4)=some (.nx (dE ns ds (some (.d (.int (i:Int)))) (some (.d (.int (ns[i].natAbs:Int)))) v4)):=by
      simp? [dE,hcell]
    generalize (ns[i].natAbs:Int)=cell at c0 st
    have mid:∃ds1 v4',gc (aN (aB sO (ae 3) (aB nA (vC (.int 10)) (vC (.int 18))))) (fY ([4]++[]) fJ (aj 4) ee) cP (dE ns ds (some (.d (.int (i:Int)))) (some (.d (.int cell))) v4)=some (.nx (dE ns ds1 (some (.d (.int (i:Int)))) (some (.d (.int cell))) v4'))∧gM ds1∧ds1.length≤ds.length+12:=by
      by_cases cb:cell < 1000000000000000000
      · obtain⟨ds1,v4',f1,f2,f3⟩:=inner cell (i:Int) ds v4 (by lia) (by lia) hd (by lia)
        refine⟨ds1,v4',?_,f2,by lia⟩
        rw [zi (e1:=dE ns ds (some (.d (.int (i:Int)))) (some (.d (.int cell))) v4) (by simp? [dE,gX,hU,cb])]
        exact f1 _
      · refine⟨ds,v4,?_,hd,by lia⟩
        rw [zh (e1:=dE ns ds (some (.d (.int (i:Int)))) (some (.d (.int cell))) v4) (by simp? [dE,gX,hU,cb])]
        rfl
    obtain⟨ds1,v4',m1,m2,m3⟩:=mid
    obtain⟨cell2,ds2,w1,w2,w3,w4⟩:=wh cell (i:Int) ds1 v4' c0 m2 (by lia)
    by_cases c2:(2147483629:Int)≤cell2
    · refine⟨ds2++[cell2 % 2147483629],some (.d (.int cell2)),v4',?_,ly w3 (by lia) (by lia),by simp;lia⟩
      have hlen:ds2.length < 1000000:=by lia
      unfold dn
      rw [fQ st,fQ m1,fQ w1]
      simp? [dE,c2,aJ,hlen]
    · refine⟨ds2,some (.d (.int cell2)),v4',?_,w3,by lia⟩
      unfold dn
      rw [fQ st,fQ m1,fQ w1]
      simp? [dE,c2]
  obtain⟨e',h1,hI⟩:=cX (own:=[]) (g:=aj 2) (f:=dn) (DI ns) (bv 0 (min (ns.length:Int) 63).toNat) 0 (dE ns [] none none none) (fun i x e hx hI=>by
    obtain⟨rfl,hi⟩:=dC hx
    obtain⟨hd,hl⟩:=hI
    rename_i ds v2 v3 v4
    rw [Nat.zero_add] at hl ⊢
    obtain⟨ds2,v3',v4',t1,t2,t3⟩:=turn i ds v3 v4 (by lia) hd hl
    exact⟨dE ns ds (some (.d (.int (i:Int)))) v3 v4,_,by simp [aj,dE],t1,cL,.mk t2 t3⟩) (.mk (fun d hd=>by cases hd) (by simp))
  obtain⟨hd,hl⟩:=hI
  rename_i ds v2 v3 v4
  refine⟨ds,?_,hd⟩
  have hf:∀W,fY W iE (aj 2) dn (dE ns [] none none none)=some (.nx (dE ns ds v2 v3 v4)):=fun W=>by
    rw [eE (show iE _=some (bv 0 (min (ns.length:Int) 63).toNat,[],dE ns [] none none none) from cK (n:=min (ns.length:Int) 63) (by simp? [dE]) (by lia) (by lia))]
    exact h1
  unfold dE at hf
  simp only [List.map_nil] at hf
  simp? [g9,n9,hf]
theorem zz(a b:Int)(hb:Bt 4000 b):mq [.d (.int a),.d (.int b)]=some (.d (.int (Int.gcd a b)),[.d (.int a),.d (.int b)]):=by
  have tst:∀x y:Int,gQ [some (.d (.int x)),some (.d (.int y))]=some (!(y==0),[some (.d (.int x)),some (.d (.int y))]):=fun x y=>by simp? [gQ]
  obtain⟨e0,e',h1,⟨x,y,he,hg,hy⟩,h3⟩:=gK (ft:=gQ) (f:=jc) (fun e=>∃x y,e=[some (.d (.int x)),some (.d (.int y))]∧Int.gcd x y=Int.gcd a b∧Bt 4000 y) (kP 1) (fun e ⟨x,y,he,hg,hy⟩=>by
    subst he
    rw [tst]
    by_cases c:y=0
    · subst c;exact .inl ⟨_,rfl,trivial⟩
    · refine .inr ⟨_,[some (.d (.int y)),some (.d (.int (x.fmod y)))],by rw [beq_false_of_ne c];rfl,by simp? [jc,qB c],⟨y,x.fmod y,rfl,by rw [mn,hg],?_⟩,?_⟩
      · have:=dP x c
        exact Bt.of_le hy (by lia)
      · have:=dP x c
        simpa [kP] using this) (2 ^ 4200) _ ⟨a,b,rfl,rfl,hb⟩ (lP (m:=4000) (by simpa [kP,Bt] using hb) (by decide))
  subst he
  rw [tst] at h3
  have h4:=Prod.mk.inj (Option.some.inj h3)
  have hy0:y=0:=by simpa using h4.1
  subst hy0
  have h5:=h4.2
  subst h5
  have hs:gG (2 ^ 4200) gQ jc [some (.d (.int a)),some (.d (.int b))]=some (.nx [some (.d (.int x)),some (.d (.int 0))]):=h1
  have hg':(x.natAbs:Int)=(Int.gcd a b:Int):=by rw [←hg];simp
  simp only [mq,vf,fW,kQ,aI,gc,a8,cP,bA,hZ,gE,nR,rJ,aN,aB,pV,ae,vC,gJ,am,aa,c_,be,ck,mS,sI,ed,AI,fy,xY,k8,sS,i4,hJ,dW,cC,wB,gu,f9,oY,cw,cB,qi,oQ,dB,aC,aj,cZ,cg,aG,aY,tU,dy,ej,gq,lB,lH,lF,lD,lC,jy,jx,jz,iB,jw,qy,f_,nj,qz,nz,lG,nq,nu,jB,jA,iD,jC,qH,ey,ez,m7,m8,qg,ix,iw,gW,lE,List.replicate, -List.map_nil, -List.map_cons, -List.nil_append, -List.cons_append, -Option.bind_some, -Option.map_some, -getElem?_pos, -List.append_nil,qq,qp,qk,qj,qm,qo,ql,qr]
  simp? [hs,hg']
theorem oO(t b:Int)(hb:0 < b)(h:Bt 4000 b):gb [.d (.int t),.d (.int b)]=some (.d (.tuple [.int (a_ t b).1,.int (a_ t b).2]),[.d (.int t),.d (.int b)]):=by
  have g0:=lI (t:=t) (b:=b) (by lia)
  have g1:(Int.gcd t b:Int)≠0:=by lia
  have g8:Bt 8000 (Int.gcd t b:Int):=(qI (t:=t) (by lia) h).mono (by decide)
  have e:a_ t b=(t.fdiv (Int.gcd t b:Int),b.fdiv (Int.gcd t b:Int)):=by unfold a_;rw [if_neg (by lia)]
  rw [e]
  simp? [gb,vg,zz t b h,oo g1 g8]
theorem oi{i:Int}{n:Nat}(h1: -2147483648 < i)(h2:i < 2147483648)(hn:31≤n):Bt n i:=Bt.mono (m:=31) (by unfold Bt;lia) hn
def gn(t b:Int):Prop:=0≤t∧t≤b∧1≤b∧b≤100∧Int.gcd t b=1
theorem sv(n k:Int)(hn:0≤n):∃t b,c8 [.d (.int n),.d (.int k)]=some (.d (.tuple [.int t,.int b]),[.d (.int n),.d (.int k)])∧gn t b:=by
  have b9:Bt 8000 9:=eO (by decide) (by decide)
  have b100:Bt 8000 100:=eO (by decide) (by decide)
  have low:∀t b:Int,0 < b→0≤t→t≤b→b≤100→gn (a_ t b).1 (a_ t b).2:=fun t b hb h0 h1 h2=>by
    obtain⟨r1,r2,r3,r4⟩:=jH hb h0 h1 h2
    exact⟨r1,r2,r3,r4,jG (by lia)⟩
  by_cases c0:k=0
  · subst c0
    obtain⟨x,hx,ha⟩:=jp (xs:=[PyData.tuple [.int 1,.int 2],.tuple [.int 1,.int 3],.tuple [.int 2,.int 3],.tuple [.int 1,.int 1],.tuple [.int 0,.int 1],.tuple [.int 3,.int 4]]) (i:=n % 6) (by lia) (by simp;lia)
    obtain⟨t,b,rfl,hc⟩:∃t b,x=.tuple [.int t,.int b]∧gn t b:=by
      simp only [List.mem_cons,List.not_mem_nil,or_false] at hx
      rcases hx with rfl | rfl | rfl | rfl | rfl | rfl<;>exact⟨_,_,rfl,by unfold gn;decide⟩
    exact⟨t,b,by simp? [c8,eN,aJ,ha],hc⟩
  · by_cases c1:k=1
    · subst c1
      have hm:(n / 9) % (2+n % 9 - 1) < 2+n % 9 - 1:=Int.emod_lt_of_pos _ (by lia)
      have hm0:0≤(n / 9) % (2+n % 9 - 1):=Int.emod_nonneg _ (by lia)
      refine⟨_,_,?_,low (1+(n / 9) % (2+n % 9 - 1)) (2+n % 9) (by lia) (by lia) (by lia) (by lia)⟩
      have hpos:∀e:En,aU e (.d (.int (n / 9))) (.d (.int (2+n % 9 - 1)))=_:=fun e=>aJ (by lia)
      have hl:=oO (1+(n / 9) % (2+n % 9 - 1)) (2+n % 9) (by lia) (oi (by lia) (by lia) (by decide))
      simp? [c8,eN,aJ,cn,b9,hpos,hl]
    · by_cases c2:k=2
      · subst c2
        have hm:(n / 100) % (1+n % 100+1) < 1+n % 100+1:=Int.emod_lt_of_pos _ (by lia)
        have hm0:0≤(n / 100) % (1+n % 100+1):=Int.emod_nonneg _ (by lia)
        refine⟨_,_,?_,low ((n / 100) % (1+n % 100+1)) (1+n % 100) (by lia) (by lia) (by lia) (by lia)⟩
        have hpos:∀e:En,aU e (.d (.int (n / 100))) (.d (.int (1+n % 100+1)))=_:=fun e=>aJ (by lia)
        have hl:=oO ((n / 100) % (1+n % 100+1)) (1+n % 100) (by lia) (oi (by lia) (by lia) (by decide))
        simp? [c8,eN,aJ,cn,b100,hpos,hl]
      · refine⟨1,1,?_,by unfold gn;decide⟩
        simp? [c8,eN,c0,c1,c2]
theorem uT(n k:Int):∃r,hE [.d (.int n),.d (.int k)]=some (.d (.int r),[.d (.int n),.d (.int k)])∧0≤r∧r≤1000:=by
  obtain⟨x,hx,ha⟩:=jp (xs:=[PyData.int (n % 7),.int (5+n % 2),.int (n % 1001),.int (1000 - n % 3)]) (i:=k % 4) (by lia) (by simp;lia)
  obtain⟨r,rfl,hr⟩:∃r,x=.int r∧0≤r∧r≤1000:=by
    simp only [List.mem_cons,List.not_mem_nil,or_false] at hx
    rcases hx with rfl | rfl | rfl | rfl<;>exact⟨_,rfl,by lia,by lia⟩
  exact⟨r,by simp? [hE,oh,aJ,ha],hr⟩
abbrev tE(ds:List Int)(things many shape odds ws:Int)(ts:List eI)(v7 v8 v9 v10 v11 v12:Option Sv):En:=[some (.l (ds.map .int)),some (.d (.int things)),some (.d (.int many)),some (.d (.int shape)),some (.d (.int odds)),some (.d (.int ws)),some (.l (ts.map ay)),v7,v8,v9,v10,v11,v12]
inductive TR (things many shape odds ws:Int) (ts:List eI) (k:Option Sv):En→Prop
  | mk {t ds w8 w9 w10 w11 w12} (hd:gM ds) (ht:t.Ok things):TR things many shape odds ws ts k (tE ds things many shape odds ws (ts++[t]) k w8 w9 w10 w11 w12)
inductive TI (things many a b c:Int) (i:Nat):En→Prop
  | mk {ts ds w7 w8 w9 w10 w11 w12} (hd:gM ds) (hl:ts.length=i) (ht:∀t∈ts,t.Ok things):TI things many a b c i (tE ds things many a b c ts w7 w8 w9 w10 w11 w12)
theorem zB(ds:List Int)(things many shape odds ws:Int)(ts:List eI)(k:Int)(v8 v9 v10 v11 v12:Option Sv)(hd:gM ds)(h2:2≤things)(h12:things≤100)(s0:0≤shape)(s1:shape < 6)(k0:0≤k)(hl:ts.length≤1000):
    ∃e',ef (tE ds things many shape odds ws ts (some (.d (.int k))) v8 v9 v10 v11 v12)=some (.nx e')∧TR things many shape odds ws ts (some (.d (.int k))) e':=by
  obtain⟨n,d1,tn, -, -,hd1⟩:=iq hd
  obtain⟨m,d2,tm,m0, -,hd2⟩:=iq hd1
  obtain⟨x,hx,ha⟩:=jp (xs:=[PyData.int (n % things),.int 0,.int (k % things),.int (n % things),.int (n % 2),.int (n % things)]) (i:=shape) s0 (by simp;lia)
  have tp:0 < things:=Int.lt_of_lt_of_le (by decide) h2
  have tq:0 < things - 1:=Int.sub_pos_of_lt (Int.lt_of_lt_of_le (by decide) h2)
  have nt:0≤n % things∧n % things < things:=⟨o5 tp,o6 tp⟩
  have kt:0≤k % things∧k % things < things:=⟨o5 tp,o6 tp⟩
  obtain⟨one,rfl,o0,o1⟩:∃r,x=.int r∧0≤r∧r < things:=by
    simp only [List.mem_cons,List.not_mem_nil,or_false] at hx
    rcases hx with rfl | rfl | rfl | rfl | rfl | rfl<;>exact⟨_,rfl,by lia,by lia⟩
  have r0:0≤(n / 12) % (things - 1):=o5 tq
  have r1:(n / 12) % (things - 1) < things - 1:=o6 tq
  have q0:0≤(one+1+(n / 12) % (things - 1)) % things:=o5 tp
  have q1:(one+1+(n / 12) % (things - 1)) % things < things:=o6 tp
  have qn:(one+1+(n / 12) % (things - 1)) % things≠one:=fun z=>by
    by_cases c:one+1+(n / 12) % (things - 1) < things
    · rw [Int.emod_eq_of_lt (by lia) c] at z;lia
    · have e:(one+1+(n / 12) % (things - 1)) % things=(one+1+(n / 12) % (things - 1) - things) % things:=by rw [Int.sub_emod_right]
      rw [e,Int.emod_eq_of_lt (by lia) (by lia)] at z;lia
  obtain⟨t,b,c1,c2,c3,c4,c5,c6⟩:=sv m odds m0
  obtain⟨w,w1,w2,w3⟩:=uT (m / 10007) ws
  have b12:Bt 8000 12:=eO (by decide) (by decide)
  have b107:Bt 8000 10007:=eO (by decide) (by decide)
  have g1:∀(e:En) (i:Int),aU e (.d (.int i)) (.d (.int things))=some (.d (.int (i % things))):=fun e i=>aJ tp
  have g2:∀(e:En) (i:Int),aU e (.d (.int i)) (.d (.int (things - 1)))=some (.d (.int (i % (things - 1)))):=fun e i=>aJ tq
  have hlen:ts.length < 1000000:=by lia
  by_cases c:shape=4
  · subst c
    refine⟨tE d2 things many 4 odds ws (ts++[⟨0,1,t,b,w⟩]) (some (.d (.int k))) (some (.d (.int n))) (some (.d (.int 0))) (some (.d (.int 1))) (some (.d (.int m))) (some (.d (.tuple [.int 0,.int 1]))),?_,.mk hd2 ⟨by show(0:Int)≤0;decide,by show(0:Int) < 1;decide,by show(1:Int) < things;lia,c2,c3,c4,c5,w2,w3,c6⟩⟩
    simp? [tE,ef,tn,tm,aJ,g1,g2,cn,b12,b107,ha,c1,w1,iy,ay,hlen]
    decide
  · refine⟨tE d2 things many shape odds ws (ts++[⟨min one ((one+1+(n / 12) % (things - 1)) % things),max one ((one+1+(n / 12) % (things - 1)) % things),t,b,w⟩]) (some (.d (.int k))) (some (.d (.int n))) (some (.d (.int one))) (some (.d (.int ((one+1+(n / 12) % (things - 1)) % things)))) (some (.d (.int m))) (some (.d (.tuple [.int (min one ((one+1+(n / 12) % (things - 1)) % things)),.int (max one ((one+1+(n / 12) % (things - 1)) % things))]))),?_,.mk hd2 ⟨by show 0≤min _ _;lia,by show min _ _ < max _ _;lia,by show max _ _ < _;lia,c2,c3,c4,c5,w2,w3,c6⟩⟩
    simp? [tE,ef,tn,tm,aJ,g1,g2,cn,b12,b107,ha,c1,w1,iy,ay,hlen,c]
theorem xT(ds:List Int)(things many:Int)(hd:gM ds)(h2:2≤things)(h12:things≤100)(m0:0≤many)(m1:many≤1000):∃(ts:List eI) (ds':List Int),jJ [.l (ds.map .int),.d (.int things),.d (.int many)]=some (.d (.tuple (ts.map ay)),[.l (ds'.map .int),.d (.int things),.d (.int many)])∧gM ds'∧(ts.length:Int)=many∧∀t∈ts,t.Ok things:=by
  obtain⟨n0,d1,t0, -, -,hd1⟩:=iq hd
  obtain⟨n1,d2,t1, -, -,hd2⟩:=iq hd1
  obtain⟨n2,d3,t2, -, -,hd3⟩:=iq hd2
  obtain⟨e',h1,hI⟩:=cX (own:=[]) (g:=aj 7) (f:=ef) (TI things many (n0 % 6) (n1 % 4) (n2 % 4)) (bv 0 many.toNat) 0 (tE d3 things many (n0 % 6) (n1 % 4) (n2 % 4) [] none none none none none none) (fun i x e hx hI=>by
    obtain⟨rfl,hi⟩:=dC hx
    obtain⟨hd',hl,ht⟩:=hI
    rename_i ts ds' w7 w8 w9 w10 w11 w12
    obtain⟨e9,s1,⟨s2,s3⟩⟩:=zB ds' things many (n0 % 6) (n1 % 4) (n2 % 4) ts (0+(i:Int)) w8 w9 w10 w11 w12 hd' h2 h12 (o5 (by decide)) (o6 (by decide)) (by lia) (by lia)
    exact⟨_,_,rfl,s1,cL,.mk s2 (by simp;lia) fun z hz=>by
      rcases List.mem_append.mp hz with hz | hz
      · exact ht z hz
      · simp at hz;subst hz;exact s3⟩) (.mk hd3 rfl fun t ht=>by cases ht)
  obtain⟨hd',hl,ht⟩:=hI
  rename_i ts ds' w7 w8 w9 w10 w11 w12
  refine⟨ts,ds',?_,hd',by rw [hl,gD];lia,ht⟩
  have hf:∀W,fY W jE (aj 7) ef (tE d3 things many (n0 % 6) (n1 % 4) (n2 % 4) [] none none none none none none)=some (.nx (tE ds' things many (n0 % 6) (n1 % 4) (n2 % 4) ts w7 w8 w9 w10 w11 w12)):=fun W=>by
    rw [eE (show jE _=some (bv 0 many.toNat,[],tE d3 things many (n0 % 6) (n1 % 4) (n2 % 4) [] none none none none none none) from cK (n:=many) (by simp? [tE]) (by lia) (by lia))]
    exact h1
  unfold tE at hf
  simp only [List.map_nil] at hf
  simp? [jJ,p7,t0,t1,t2,aJ,hf]
abbrev wE(ds:List Int)(most tn things many:Int)(ts:List eI)(way:Int)(ps:List Int)(v8 v9:Option Sv):En:=[some (.l (ds.map .int)),some (.d (.int most)),some (.d (.int tn)),some (.d (.int things)),some (.d (.int many)),some (.d (.tuple (ts.map ay))),some (.d (.int way)),some (.l (ps.map .int)),v8,v9]
inductive WI (most tn things many:Int) (ts:List eI) (way:Int) (i:Nat):En→Prop
  | mk {ps ds w8} (hd:gM ds) (hpl:ps.length=i) (hps:∀p∈ps,0≤p∧p≤20):WI most tn things many ts way i (wE ds most tn things many ts way ps w8 none)
theorem zC(ds:List Int)(most tn:Int)(hd:gM ds)(m0:0≤most)(m1:most≤12)(k0:0≤tn)(k1:tn≤16):∃(W:bU) (ds':List Int),ms [.l (ds.map .int),.d (.int most),.d (.int tn)]=some (.d (bj W),[.l (ds'.map .int),.d (.int most),.d (.int tn)])∧gM ds'∧W.Ok∧W.things≤most∧(W.ties.length:Int)≤tn:=by
  obtain⟨n0,d1,t0, -, -,hd1⟩:=iq hd
  obtain⟨n1,d2,t1, -, -,hd2⟩:=iq hd1
  have mp:0 < most+1:=Int.lt_add_one_of_le m0
  have kp:0 < tn+1:=Int.lt_add_one_of_le k0
  have g0:∀(e:En),aU e (.d (.int n0)) (.d (.int (most+1)))=some (.d (.int (n0 % (most+1)))):=fun e=>aJ mp
  have g1':∀(e:En),aU e (.d (.int n1)) (.d (.int (tn+1)))=some (.d (.int (n1 % (tn+1)))):=fun e=>aJ kp
  have th0:0≤n0 % (most+1):=o5 mp
  have th1:n0 % (most+1) < most+1:=o6 mp
  have ti0:0≤n1 % (tn+1):=o5 kp
  have ti1:n1 % (tn+1) < tn+1:=o6 kp
  clear mp kp
  generalize n0 % (most+1)=things at th0 th1 g0
  generalize n1 % (tn+1)=tm at ti0 ti1 g1'
  obtain⟨many,hmany,mm,m00,m01⟩:∃many:Int,many=tm*(if decide (1 < things)=true then 1 else 0)∧(1 < things∨many=0)∧0≤many∧many≤tn:=by
    by_cases c:1 < things
    · exact⟨tm,by simp [c],.inl c,ti0,by lia⟩
    · exact⟨0,by simp [c],.inr rfl,by lia,by lia⟩
  have gm:∀e:En,dz e (.d (.int tm)) (.d (.int (if decide (1 < things)=true then 1 else 0)))=some (.d (.int many)):=fun e=>by
    rw [cA (lR (by split<;>decide) (by split<;>decide)),hmany]
  have gi:∀e:En,g1 pe e [.d (.bool (decide (1 < things)))]=some (.d (.int (if decide (1 < things)=true then 1 else 0))):=fun e=>rfl
  generalize (if decide (1 < things)=true then 1 else 0:Int)=one at gm gi
  obtain⟨ts,d3,t3,hd3,hlen,hts⟩:=xT d2 (max 2 things) many hd2 (by lia) (by lia) m00 (by lia)
  obtain⟨n4,d4,t4, -, -,hd4⟩:=iq hd3
  obtain⟨e',h1,hI⟩:=cX (own:=[]) (g:=aj 8) (f:=jd) (WI most tn things many ts (n4 % 3)) (bv 0 things.toNat) 0 (wE d4 most tn things many ts (n4 % 3) [] none none) (fun i x e hx hI=>by
    obtain⟨rfl,hi⟩:=dC hx
    obtain⟨hd5,hpl,hps⟩:=hI
    rename_i ps d5 w8
    obtain⟨p1,d6,t6, -, -,hd6⟩:=iq hd5
    obtain⟨p2,d7,t7, -, -,hd7⟩:=iq hd6
    obtain⟨z,hz,ha⟩:=jp (xs:=[PyData.int 20,.int (1+p1 % 3),.int (p2 % 21)]) (i:=n4 % 3) (o5 (by decide)) (o6 (k:=3) (by decide))
    obtain⟨p,rfl,hp⟩:∃r,z=.int r∧0≤r∧r≤20:=by
      simp only [List.mem_cons,List.not_mem_nil,or_false] at hz
      rcases hz with rfl | rfl | rfl<;>exact⟨_,rfl,by lia,by lia⟩
    refine⟨wE d5 most tn things many ts (n4 % 3) ps (some (.d (.int (0+(i:Int))))) none,wE d7 most tn things many ts (n4 % 3) (ps++[p]) (some (.d (.int (0+(i:Int))))) none,rfl,?_,cL,.mk hd7 (by simp;lia) fun q hq=>by
      rcases List.mem_append.mp hq with hq | hq
      · exact hps q hq
      · simp at hq;subst hq;exact hp⟩
    have hlen:ps.length < 1000000:=by lia
    simp? [wE,jd,t6,t7,aJ,ha,hlen]) (.mk hd4 rfl fun p hp=>by cases hp)
  obtain⟨hd5,hpl,hps⟩:=hI
  rename_i ps d5 w8
  have hf:∀W,fY W lK (aj 8) jd (wE d4 most tn things many ts (n4 % 3) [] none none)=some (.nx (wE d5 most tn things many ts (n4 % 3) ps w8 none)):=fun W=>by
    rw [eE (show lK _=some (bv 0 things.toNat,[],wE d4 most tn things many ts (n4 % 3) [] none none) from cK (n:=things) (by simp? [wE]) (by lia) (by lia))]
    exact h1
  obtain⟨p1,d6,t6, -, -,hd6⟩:=iq hd5
  obtain⟨p2,d7,t7, -, -,hd7⟩:=iq hd6
  obtain⟨p3,d8,t8, -, -,hd8⟩:=iq hd7
  have xp:0 < max 1 many:=Int.lt_of_lt_of_le Int.zero_lt_one (Int.le_max_left _ _)
  have gx:∀(e:En),aU e (.d (.int p1)) (.d (.int (max 1 many)))=some (.d (.int (p1 % max 1 many))):=fun e=>aJ xp
  have x0:0≤p1 % max 1 many:=o5 xp
  have x1:p1 % max 1 many < max 1 many:=o6 xp
  obtain⟨z,hz,ha⟩:=jp (xs:=[PyData.int 40,.int (1+p1 % max 1 many),.int (p2 % 41)]) (i:=p3 % 3) (o5 (by decide)) (o6 (k:=3) (by decide))
  obtain⟨asks,rfl,hasks⟩:∃r,z=.int r∧0≤r∧r≤40:=by
    simp only [List.mem_cons,List.not_mem_nil,or_false] at hz
    rcases hz with rfl | rfl | rfl<;>exact⟨_,rfl,by lia,by lia⟩
  rw [gD] at hpl
  refine⟨⟨things,ts,ps,asks⟩,d8,?_,hd8,⟨th0,by show things≤12;lia,fun t ht=>?_,by show ts.length≤16;lia,by show(ps.length:Int)=things;lia,hps,hasks.1,hasks.2⟩,by show things≤most;lia,by show(ts.length:Int)≤tn;lia⟩
  · unfold wE at hf
    simp only [List.map_nil] at hf
    simp? [ms,vj,t0,t1,g0,g1',gm,gi,t3,t4,aJ,hf,t6,t7,t8,gx,ha,bj]
  · rcases mm with c | c
    · have:=hts t ht
      rw [show max 2 things=things by lia] at this
      exact this
    · have:ts=[]:=List.length_eq_zero_iff.mp (by lia)
      subst this;cases ht
theorem nU(d:PyData):bC [.d d]=some (.d (.bool (qM d)),[.d d]):=by
  cases d<;>simp? [bC,iU,qM,i8,nD,mL,sR]
theorem dw(d:PyData)(lo hi:Int):ao [.d d,.d (.int lo),.d (.int hi)]=some (.d (.bool (ba lo hi d)),[.d d,.d (.int lo),.d (.int hi)]):=by
  have t:=nU d
  cases d with
  | int i=>
    by_cases c:lo≤i
    · simp? [ao,bF,t,qM,ba,fB,c]
    · simp? [ao,bF,t,qM,ba,fB,c]
  | _=>simp? [ao,bF,t,qM,ba,fB]
theorem iR(a b:Int)(hb:Bt 4000 b):br [.d (.int a),.d (.int b)]=some (.d (.int (Int.gcd a b)),[.d (.int a),.d (.int b)]):=by
  have tst:∀x y:Int,a' [some (.d (.int x)),some (.d (.int y))]=some (!(y==0),[some (.d (.int x)),some (.d (.int y))]):=fun x y=>by simp? [a']
  obtain⟨e0,e',h1,⟨x,y,he,hg,hy⟩,h3⟩:=gK (ft:=a') (f:=bE) (fun e=>∃x y,e=[some (.d (.int x)),some (.d (.int y))]∧Int.gcd x y=Int.gcd a b∧Bt 4000 y) (kP 1) (fun e ⟨x,y,he,hg,hy⟩=>by
    subst he
    rw [tst]
    by_cases c:y=0
    · subst c;exact .inl ⟨_,rfl,trivial⟩
    · refine .inr ⟨_,[some (.d (.int y)),some (.d (.int (x.fmod y)))],by rw [beq_false_of_ne c];rfl,by simp? [bE,qB c],⟨y,x.fmod y,rfl,by rw [mn,hg],?_⟩,?_⟩
      · have:=dP x c
        exact Bt.of_le hy (by lia)
      · have:=dP x c
        simpa [kP] using this) (2 ^ 4200) _ ⟨a,b,rfl,rfl,hb⟩ (lP (m:=4000) (by simpa [kP,Bt] using hb) (by decide))
  subst he
  rw [tst] at h3
  have h4:=Prod.mk.inj (Option.some.inj h3)
  have hy0:y=0:=by simpa using h4.1
  subst hy0
  have h5:=h4.2
  subst h5
  have hs:gG (2 ^ 4200) a' bE [some (.d (.int a)),some (.d (.int b))]=some (.nx [some (.d (.int x)),some (.d (.int 0))]):=h1
  have hg':(x.natAbs:Int)=(Int.gcd a b:Int):=by rw [←hg];simp
  simp only [br,eg,fW,kQ,aI,gc,a8,cP,bA,hZ,gE,nR,rJ,aN,aB,pV,ae,vC,gJ,am,aa,c_,be,ck,mS,sI,ed,AI,fy,xY,k8,sS,i4,hJ,dW,cC,wB,gu,f9,oY,cw,cB,qi,oQ,dB,aC,aj,cZ,cg,aG,aY,tU,dy,ej,gq,lB,lH,lF,lD,lC,jy,jx,jz,iB,jw,qy,f_,nj,qz,nz,lG,nq,nu,jB,jA,iD,jC,qH,ey,ez,m7,m8,qg,ix,iw,gW,lE,List.replicate, -List.map_nil, -List.map_cons, -List.nil_append, -List.cons_append, -Option.bind_some, -Option.map_some, -getElem?_pos, -List.append_nil,qq,qp,qk,qj,qm,qo,ql,qr]
  simp? [hs,hg']
theorem sy(t b:Int)(hb:0 < b)(h:Bt 4000 b):eS [.d (.int t),.d (.int b)]=some (.d (dF (a_ t b)),[.d (.int t),.d (.int b)]):=by
  have g0:=lI (t:=t) (b:=b) (by lia)
  have g1:(Int.gcd t b:Int)≠0:=by lia
  have g8:Bt 8000 (Int.gcd t b:Int):=(qI (t:=t) (by lia) h).mono (by decide)
  have e:a_ t b=(t.fdiv (Int.gcd t b:Int),b.fdiv (Int.gcd t b:Int)):=by unfold a_;rw [if_neg (by lia)]
  have nb:¬b < 0:=by lia
  rw [e]
  simp? [eS,ma,iR t b h,oo g1 g8,nb,dF]
theorem fV(d:PyData)(n:Int):aX [.d d,.d (.int n)]=some (.d (.bool (dM n d)),[.d d,.d (.int n)]):=by
  cases d<;>simp? [aX,iV,i8,nD,mL,sR,dM]
theorem kc{d:PyData}(h:d.showable=true):aW [.d d]=some (.d (.bool (pd d)),[.d d]):=by
  have tr:=fV d 2
  cases c:dM 2 d with
  | false=>
    rw [c] at tr
    have e:pd d=false:=by
      cases q:pd d with
      | false=>rfl
      | true=>
        unfold pd at q
        split at q
        · simp [dM] at c
        · cases q
    rw [e]
    simp? [aW,bK,tr]
  | true=>
    obtain⟨x,y,rfl⟩:=Ay c
    rw [c] at tr
    have nx:=nU x
    have ny:=nU y
    cases hx:qM x with
    | false=>
      rw [hx] at nx
      have e:pd (.tuple [x,y])=false:=by cases x<;>first | rfl | simp [qM] at hx
      rw [e]
      simp? [aW,bK,tr,nx]
    | true=>
      obtain⟨t,rfl⟩:=oq hx
      rw [hx] at nx
      cases hy:qM y with
      | false=>
        rw [hy] at ny
        have e:pd (.tuple [.int t,y])=false:=by cases y<;>first | rfl | simp [qM] at hy
        rw [e]
        simp? [aW,bK,tr,nx,ny]
      | true=>
        obtain⟨b,rfl⟩:=oq hy
        rw [hy] at ny
        by_cases c1:b < 1
        · have e:pd (.tuple [.int t,.int b])=false:=by
            simp only [pd,Bool.and_eq_false_iff,decide_eq_false_iff_not];left;lia
          rw [e]
          simp? [aW,bK,tr,nx,ny,c1]
        · simp only [PyData.showable,PyData.showableAll,Bool.and_eq_true,decide_eq_true_eq] at h
          have tl:=sy t b (by lia) (vX h.2.1 (by lia))
          have e:pd (.tuple [.int t,.int b])=((a_ t b).1==t&&(a_ t b).2==b):=by
            rw [tR (by lia)]
            show(decide (1≤b)&&_)=_
            rw [decide_eq_true (by lia),Bool.true_and]
          rw [e]
          unfold dF at tl
          have ge:=fun e=>qx (e:=e) (a:=(a_ t b).1) (b:=(a_ t b).2) (c:=t) (d:=b)
          generalize a_ t b=p at*
          simp? [aW,bK,tr,nx,ny,c1,tl,ge]
theorem mO{d:PyData}(h:d.showable=true):bB [.d d]=some (.d (.bool (qf d)),[.d d]):=by
  have tf:=kc h
  cases c:pd d with
  | false=>
    rw [c] at tf
    have e:qf d=false:=by
      cases q:qf d with
      | false=>rfl
      | true=>rw [v_ d q] at c;cases c
    rw [e]
    simp? [bB,cW,tf]
  | true=>
    rw [c] at tf
    unfold pd at c
    split at c
    · rename_i t b
      simp only [Bool.and_eq_true,decide_eq_true_eq] at c
      have e:qf (.tuple [.int t,.int b])=(decide (0≤t)&&(decide (t≤b)&&decide (b≤100))):=by
        simp only [qf,decide_eq_true c.1,decide_eq_true c.2,Bool.true_and,Bool.and_true]
      rw [e]
      by_cases c1:0≤t
      · by_cases c2:t≤b
        · simp? [bB,cW,tf,eG,c1,c2]
        · simp? [bB,cW,tf,eG,c1,c2]
      · simp? [bB,cW,tf,eG,c1]
    · cases c
theorem l4{d:PyData}(h:d.showable=true)(n:Int):a7 [.d d,.d (.int n)]=some (.d (.bool (dN n d)),[.d d,.d (.int n)]):=by
  have tr:=fV d 4
  cases c:dM 4 d with
  | false=>
    rw [c] at tr
    have e:dN n d=false:=by
      cases q:dN n d with
      | false=>rfl
      | true=>
        unfold dN at q
        split at q
        · simp [dM] at c
        · cases q
    rw [e]
    simp? [a7,bS,tr]
  | true=>
    obtain⟨x,y,z,w,rfl⟩:=ze c
    rw [c] at tr
    simp only [PyData.showable,PyData.showableAll,Bool.and_eq_true] at h
    have tc:=mO h.2.2.1
    have tw:=dw w 0 1000
    have tx:=dw x 0 (n - 1)
    cases hx:ba 0 (n - 1) x with
    | false=>
      rw [hx] at tx
      have e:dN n (.tuple [x,y,z,w])=false:=by
        cases x with
        | int a=>
          cases y with
          | int b=>
            simp only [ba,Bool.and_eq_false_iff,decide_eq_false_iff_not] at hx
            rw [Bool.eq_false_iff]
            intro q
            simp only [dN,Bool.and_eq_true,decide_eq_true_eq] at q
            lia
          | _=>rfl
        | _=>rfl
      rw [e]
      simp? [a7,bS,tr,tx]
    | true=>
      obtain⟨a,rfl,a0,a1⟩:=iF hx
      rw [hx] at tx
      have ty:=dw y (a+1) (n - 1)
      cases hy:ba (a+1) (n - 1) y with
      | false=>
        rw [hy] at ty
        have e:dN n (.tuple [.int a,y,z,w])=false:=by
          cases y with
          | int b=>
            simp only [ba,Bool.and_eq_false_iff,decide_eq_false_iff_not] at hy
            rw [Bool.eq_false_iff]
            intro q
            simp only [dN,Bool.and_eq_true,decide_eq_true_eq] at q
            lia
          | _=>rfl
        rw [e]
        simp? [a7,bS,tr,tx,ty]
      | true=>
        obtain⟨b,rfl,b0,b1⟩:=iF hy
        rw [hy] at ty
        have e:dN n (.tuple [.int a,.int b,z,w])=(qf z&&ba 0 1000 w):=by
          simp only [dN,decide_eq_true a0,decide_eq_true (show a < b by lia),decide_eq_true b1,Bool.true_and]
        rw [e]
        cases hz:qf z with
        | false=>
          rw [hz] at tc
          simp? [a7,bS,tr,tx,ty,tc]
        | true=>
          rw [hz] at tc
          generalize ba 0 1000 w=bw at*
          simp? [a7,bS,tr,tx,ty,tc,tw]
theorem pQ{d:PyData}(h:d.showable=true)(n:Int):cM [.d d,.d (.int n)]=some (.d (.bool (gg n d)),[.d d,.d (.int n)]):=by
  cases d with
  | tuple ts=>
    by_cases c:ts.length≤16
    · let cs:En:=[some (.d (.int n))]
      simp only [PyData.showable] at h
      obtain⟨t',hf⟩:=fH (cs:=cs) (ft:=kb) (fe:=dO) (b:=fun _=>true) (y:=fun d=>.bool (dN n d)) ts none [] (fun x _=>rfl) (fun x hx _=>by
        have t:=l4 (pZ h x hx) n
        generalize dN n x=bb at*
        simp? [cs,dO,t]) (by simp;lia)
      have hv:=mU (cp:=[(1,"things")]) (nT:=1) (fi:=i3) (g:=aj 1) (ft:=kb) (fe:=dO) (e:=[some (.d (.tuple ts)),some (.d (.int n))]) (cs:=cs) (t:=[none]) (t':=[t']) (qL (fa:=ae 0) rfl) rfl rfl hf
      rw [List.nil_append,show List.filter (fun _=>true) ts=ts from List.filter_eq_self.mpr fun _ _=>rfl] at hv
      have ga:=fun e=>ml (e:=e) (dN n) ts
      have c':¬(16:Int) < (ts.length:Int):=by lia
      rw [show gg n (.tuple ts)=ts.all (dN n) by simp only [gg,decide_eq_true c,Bool.true_and]]
      generalize ts.all (dN n)=bb at*
      generalize ts.map (fun d=>PyData.bool (dN n d))=M at*
      simp? [cM,fD,i8,nD,mL,sR,c',hv,ga]
    · have c':(16:Int) < (ts.length:Int):=by lia
      rw [show gg n (.tuple ts)=false by simp only [gg,decide_eq_false c,Bool.false_and]]
      simp? [cM,fD,i8,nD,mL,sR,c']
  | _=>simp? [cM,fD,i8,nD,mL,sR,gg]
theorem kn(d:PyData){n:Int}(hn:n≤12):bh [.d d,.d (.int n)]=some (.d (.bool (kl n d)),[.d d,.d (.int n)]):=by
  have tr:=fV d n
  cases d with
  | tuple ps=>
    cases c:dM n (.tuple ps) with
    | true=>
      rw [c] at tr
      have c2:((ps.length:Int)==n)=true:=c
      have c3:(ps.length:Int)=n:=by simpa using c2
      obtain⟨t',hf⟩:=fH (cs:=[]) (ft:=kb) (fe:=ce) (b:=fun _=>true) (y:=fun d=>.bool (ba 0 20 d)) ps none [] (fun x _=>rfl) (fun x hx _=>by
        have t:=dw x 0 20
        generalize ba 0 20 x=bb at*
        simp? [ce,t]) (by simp;lia)
      have hv:=mU (cp:=[]) (nT:=1) (fi:=eJ) (g:=aj 0) (ft:=kb) (fe:=ce) (e:=[some (.d (.tuple ps)),some (.d (.int n))]) (cs:=[]) (t:=[none]) (t':=[t']) (qL (fa:=ae 0) rfl) rfl rfl hf
      rw [List.nil_append,show List.filter (fun _=>true) ps=ps from List.filter_eq_self.mpr fun _ _=>rfl] at hv
      have ga:=fun e=>ml (e:=e) (ba 0 20) ps
      rw [show kl n (.tuple ps)=ps.all (ba 0 20) by simp only [kl,c2,Bool.true_and]]
      generalize ps.all (ba 0 20)=bb at*
      generalize ps.map (fun d=>PyData.bool (ba 0 20 d))=M at*
      simp? [bh,cS,tr,hv,ga]
    | false=>
      rw [c] at tr
      have c2:((ps.length:Int)==n)=false:=c
      rw [show kl n (.tuple ps)=false by simp only [kl,c2,Bool.false_and]]
      simp? [bh,cS,tr]
  | _=>simp? [bh,cS,tr,dM,kl]
theorem sx{d:PyData}(h:d.showable=true):cD [.d d]=some (.d (.bool (ir d)),[.d d]):=by
  have tr:=fV d 4
  cases c:dM 4 d with
  | false=>
    rw [c] at tr
    have e:ir d=false:=by
      cases q:ir d with
      | false=>rfl
      | true=>
        unfold ir at q
        split at q
        · simp [dM] at c
        · cases q
    rw [e]
    simp? [cD,eh,tr]
  | true=>
    obtain⟨x,y,z,w,rfl⟩:=ze c
    rw [c] at tr
    simp only [PyData.showable,PyData.showableAll,Bool.and_eq_true] at h
    have tx:=dw x 0 12
    have tw:=dw w 0 40
    cases hx:ba 0 12 x with
    | false=>
      rw [hx] at tx
      have e:ir (.tuple [x,y,z,w])=false:=by
        cases x with
        | int n=>cases y<;>first | rfl | (cases z<;>first | rfl | (simp only [ir,hx,Bool.false_and]))
        | _=>rfl
      rw [e]
      simp? [cD,eh,tr,tx]
    | true=>
      obtain⟨n,rfl,n0,n1⟩:=iF hx
      rw [hx] at tx
      have ti:=pQ h.2.1 n
      have tp:=kn z n1
      cases hw:ba 0 40 w with
      | false=>
        rw [hw] at tw
        have e:ir (.tuple [.int n,y,z,w])=false:=by
          cases y<;>first | rfl | (cases z<;>first | rfl | (simp only [ir,hw,Bool.false_and,Bool.and_false]))
        rw [e]
        simp? [cD,eh,tr,tx,tw]
      | true=>
        rw [hw] at tw
        have e:ir (.tuple [.int n,y,z,w])=(gg n y&&kl n z):=by
          cases y with
          | tuple ts=>
            cases z with
            | tuple ps=>
              simp only [ir,gg,kl,hx,hw,Bool.true_and]
              cases decide (ts.length≤16)<;>cases ts.all (dN n)<;>cases ((ps.length:Int)==n)<;>rfl
            | _=>simp only [ir,kl,Bool.and_false]
          | _=>simp only [ir,gg,Bool.false_and]
        rw [e]
        generalize gg n y=b1 at*
        generalize kl n z=b2 at*
        cases b1 with
        | true=>simp? [cD,eh,tr,tx,tw,ti,tp]
        | false=>simp? [cD,eh,tr,tx,tw,ti]
theorem t_{ts:List eI}{N:Int}(hN:N≤12)(h:∀t∈ts,t.Ok N):cI 2 (ts.map ay)=true:=iI.mpr fun d hd=>by
  obtain⟨t,ht,rfl⟩:=List.mem_map.mp hd
  have o:=h t ht
  have o0:=o.o0;have o1:=o.o1;have o2:=o.o2;have c0:=o.c0;have c1:=o.c1;have b1:=o.b1;have w0:=o.w0;have w1:=o.w1
  simp only [ay,i_,cI,Bool.and_eq_true,decide_eq_true_eq,Nat.reducePow]
  refine⟨by decide,by lia,by lia,⟨by decide,by lia,by lia,trivial⟩,by lia,trivial⟩
theorem oR:∀(ts:List eI),gh (ts.map ay)=7*ts.length
  | []=>rfl
  | t::r=>by simp only [List.map_cons,gh,oR r,ay,wt,List.length_cons];lia
theorem wM{ps:List Int}(h:∀p∈ps,0≤p∧p≤20):cI 0 (ps.map .int)=true:=iI.mpr fun d hd=>by
  obtain⟨p,hp,rfl⟩:=List.mem_map.mp hd
  have:=h p hp
  simp only [i_,decide_eq_true_eq,Nat.reducePow]
  lia
theorem sM:∀(ps:List Int),gh (ps.map .int)=ps.length
  | []=>rfl
  | t::r=>by simp only [List.map_cons,gh,sM r,wt,List.length_cons];lia
theorem sL{W:bU}(ok:W.Ok):ir (bj W)=true:=by
  have t0:=ok.t0;have t1:=ok.t1;have a0:=ok.a0;have a1:=ok.a1
  have h1:(W.ties.map ay).all (dN W.things)=true:=by
    rw [List.all_map,List.all_eq_true]
    intro t ht
    have o:=ok.ties t ht
    have o0:=o.o0;have o1:=o.o1;have o2:=o.o2;have c0:=o.c0;have c1:=o.c1;have b0:=o.b0;have b1:=o.b1;have w0:=o.w0;have w1:=o.w1
    show dN W.things (ay t)=true
    simp only [ay,dN,qf,ba,Bool.and_eq_true,decide_eq_true_eq]
    exact⟨o0,o1,by lia,⟨c0,c1,b0,b1,o.cop⟩,w0,w1⟩
  have h2:(W.pat.map PyData.int).all (ba 0 20)=true:=by
    rw [ko,List.all_eq_true]
    intro p hp
    have:=ok.pat p hp
    simp only [Bool.and_eq_true,decide_eq_true_eq]
    exact this
  simp only [bj,ir,ba,h1,h2,List.length_map,Bool.and_eq_true,decide_eq_true_eq,beq_iff_eq,and_true]
  exact⟨⟨t0,t1⟩,⟨a0,a1⟩,ok.len,ok.pl⟩
theorem Ar{k:Nat}{xs:List PyData}(h:cI k xs=true):i_ (k+1) (.tuple xs)=true:=by simp only [i_,Nat.add_sub_cancel,h,Bool.and_true];simp
theorem zP{k:Nat}{x:PyData}{r:List PyData}(h1:i_ k x=true)(h2:cI k r=true):cI k (x::r)=true:=by simp only [cI,h1,h2,Bool.and_self]
theorem ri{W:bU}(ok:W.Ok):i_ 4 (bj W)=true:=by
  have t0:=ok.t0;have t1:=ok.t1;have a0:=ok.a0;have a1:=ok.a1
  have T2:=t_ t1 ok.ties
  have P2:=eV (eV (wM ok.pat))
  have iN:i_ 3 (.int W.things)=true:=by simp only [i_,decide_eq_true_eq,Nat.reducePow];lia
  have iA:i_ 3 (.int W.asks)=true:=by simp only [i_,decide_eq_true_eq,Nat.reducePow];lia
  exact Ar (zP iN (zP (Ar T2) (zP (Ar P2) (zP iA rfl))))
theorem x5{W:bU}(ok:W.Ok):wt (bj W)≤1000:=by
  have h1:=ok.len
  have h2:=ok.pl
  have h3:=ok.t1
  simp only [bj,wt,gh,oR,sM]
  lia
theorem mQ{W:bU}(ok:W.Ok):gr [.d (bj W),.d (bj W)]=some (.d (.bool true),[.d (bj W),.d (bj W)]):=by
  have a:=m6 (ri ok)
  have w:=x5 ok
  have so:=a.so
  have r:∀e,g1 iZ e [.d (bj W)]=some (.d (.str (bj W).shown)):=fun e=>tK (a.ok (by decide) (by lia))
  generalize bj W=d at*
  have q:∀e,de false e (.d (.str d.shown)) (.d (.str d.shown))=some (.d (.bool true)):=fun e=>tH so
  generalize d.shown=x at*
  simp? [gr,p6,r,q]
theorem Bo{W:bU}(e:En):dQ e (.d (bj W)) (.d (.int 0))=some (.d (.int W.things)):=by rw [mj,f_,ey];rfl
theorem Aj{W:bU}(e:En):dQ e (.d (bj W)) (.d (.int 1))=some (.d (.tuple (W.ties.map ay))):=by rw [mj,f_,ez];rfl
theorem Bp{W:bU}(e:En):dQ e (.d (bj W)) (.d (.int 2))=some (.d (.tuple (W.pat.map .int))):=rfl
theorem Bq{W:bU}(e:En):dQ e (.d (bj W)) (.d (.int 3))=some (.d (.int W.asks)):=rfl
theorem mP{a b c d:Int}(ha:a≤100∧0≤a)(hc:c≤100∧0≤c):gv [.d (.tuple [.int a,.int b]),.d (.tuple [.int c,.int d])]=some (.d (.bool (decide (a*d < c*b))),[.d (.tuple [.int a,.int b]),.d (.tuple [.int c,.int d])]):=by
  have g1:∀e:En,dz e (.d (.int a)) (.d (.int d))=some (.d (.int (a*d))):=fun e=>cA (eU (by lia) (by lia))
  have g2:∀e:En,dz e (.d (.int c)) (.d (.int b))=some (.d (.int (c*b))):=fun e=>cA (eU (by lia) (by lia))
  generalize a*d=x at*
  generalize c*b=y at*
  simp? [gv,p8,g1,g2,f_,ey,ez]
theorem pR{a b c d:Int}(ha:a≤100∧0≤a)(hc:c≤100∧0≤c):jI [.d (.tuple [.int a,.int b]),.d (.tuple [.int c,.int d])]=some (.d (.bool (decide (a*d < c*b))),[.d (.tuple [.int a,.int b]),.d (.tuple [.int c,.int d])]):=by
  have g1:∀e:En,dz e (.d (.int a)) (.d (.int d))=some (.d (.int (a*d))):=fun e=>cA (eU (by lia) (by lia))
  have g2:∀e:En,dz e (.d (.int c)) (.d (.int b))=some (.d (.int (c*b))):=fun e=>cA (eU (by lia) (by lia))
  generalize a*d=x at*
  generalize c*b=y at*
  simp? [jI,p5,g1,g2,f_,ey,ez]
theorem mi{xs ys:List PyData}{y:PyData}:L2.cutD (xs++y::ys) (some ((xs.length:Int)+1)) none=ys:=by
  unfold L2.cutD
  have e1:HT.sIx (xs++y::ys).length 0 (some ((xs.length:Int)+1))=xs.length+1:=by
    have z:¬((xs.length:Int)+1 < 0):=by lia
    unfold HT.sIx
    simp only [z,if_false,List.length_append,List.length_cons]
    lia
  have e2:HT.sIx (xs++y::ys).length (xs++y::ys).length none=(xs++y::ys).length:=rfl
  rw [e1,e2,show xs++y::ys=(xs++[y])++ys by simp,List.drop_left' (by simp)]
  rw [List.take_of_length_le]
  simp
  lia
theorem jb{xs ys:List PyData}{y:PyData}:atI (xs++y::ys) (xs.length:Int)=some y:=by
  rw [gk (by lia) (by simp;lia)]
  simp
def rW(W:bU)(A:List eI)(t:eI)(B:List eI)(a b:Int):bU:=⟨W.things,A++⟨t.one,t.other,a,b,t.worth⟩::B,W.pat,W.asks⟩
theorem zc{W:bU}(ok:W.Ok){A B:List eI}{t:eI}(hs:W.ties=A++t::B){a b:Int}(h:gn a b):(rW W A t B a b).Ok:=by
  have o:=ok.ties t (by rw [hs];simp)
  refine⟨ok.t0,ok.t1,fun z hz=>?_,?_,ok.pl,ok.pat,ok.a0,ok.a1⟩
  · rcases List.mem_append.mp (show z∈A++_::B from hz) with q | q
    · exact ok.ties z (by rw [hs];simp [q])
    · rcases List.mem_cons.mp q with q | q
      · subst q
        obtain⟨h0,h1,h2,h3,h4⟩:=h
        exact⟨o.o0,o.o1,o.o2,h0,h1,h2,h3,o.w0,o.w1,h4⟩
      · exact ok.ties z (by rw [hs];simp [q])
  · have:=ok.len
    rw [hs] at this
    simpa [rW] using this
theorem sA{W:bU}(ok:W.Ok){A B:List eI}{t:eI}(hs:W.ties=A++t::B){a b:Int}(h:gn a b)(c:¬a*t.bot < t.top*b):
    eT [.d (bj W),.d (.int (A.length:Int)),.d (.tuple [.int a,.int b])]=some (.d (bj (rW W A t B a b)),[.d (bj W),.d (.int (A.length:Int)),.d (.tuple [.int a,.int b])]):=by
  have o:=ok.ties t (by rw [hs];simp)
  have:=o.c0;have:=o.c1;have:=o.b1
  have len:=ok.len
  rw [hs] at len
  simp only [List.length_append,List.length_cons] at len
  obtain⟨h0,h1,h2,h3,h4⟩:=h
  have tl:=mP (a:=a) (b:=b) (c:=t.top) (d:=t.bot) (by lia) (by lia)
  rw [decide_eq_false c] at tl
  have c1:=L2.cut_pre (xs:=A.map ay) (ys:=ay t::B.map ay)
  have c2:=mi (xs:=A.map ay) (ys:=B.map ay) (y:=ay t)
  have at1:=jb (xs:=A.map ay) (ys:=B.map ay) (y:=ay t)
  rw [List.length_map] at c1 c2 at1
  have eW:bj W=.tuple [.int W.things,.tuple (A.map ay++ay t::B.map ay),.tuple (W.pat.map .int),.int W.asks]:=by
    show PyData.tuple [.int W.things,.tuple (W.ties.map ay),.tuple (W.pat.map .int),.int W.asks]=_
    rw [hs,List.map_append,List.map_cons]
  have eR:bj (rW W A t B a b)=.tuple [.int W.things,.tuple ((A.map ay++[.tuple [.int t.one,.int t.other,.tuple [.int a,.int b],.int t.worth]])++B.map ay),.tuple (W.pat.map .int),.int W.asks]:=by
    show PyData.tuple [.int W.things,.tuple ((A++eI.mk t.one t.other a b t.worth::B).map ay),.tuple (W.pat.map .int),.int W.asks]=_
    rw [List.map_append,List.map_cons,List.append_assoc]
    rfl
  have l1:(A.map ay).length+1≤1000000:=by rw [List.length_map];lia
  have l2:(A.map ay++[PyData.tuple [.int t.one,.int t.other,.tuple [.int a,.int b],.int t.worth]]).length+(B.map ay).length≤1000000:=by simp;lia
  have gc1:∀(e:En),bH e (.d (.tuple (A.map ay))) (.d (.tuple [.tuple [.int t.one,.int t.other,.tuple [.int a,.int b],.int t.worth]]))=some (.d (.tuple (A.map ay++[.tuple [.int t.one,.int t.other,.tuple [.int a,.int b],.int t.worth]]))):=fun e=>iy l1
  have gc2:∀(e:En),bH e (.d (.tuple (A.map ay++[.tuple [.int t.one,.int t.other,.tuple [.int a,.int b],.int t.worth]]))) (.d (.tuple (B.map ay)))=some (.d (.tuple ((A.map ay++[.tuple [.int t.one,.int t.other,.tuple [.int a,.int b],.int t.worth]])++B.map ay))):=fun e=>iy l2
  have gs:∀(e:En) (lo hi:Option Int) (xs:List PyData),yz e (.d (.tuple xs)) lo hi=some (.d (.tuple (L2.cutD xs lo hi))):=fun _ _ _ _=>rfl
  have dT:ay t=.tuple [.int t.one,.int t.other,.tuple [.int t.top,.int t.bot],.int t.worth]:=rfl
  rw [eW,eR]
  rw [dT] at c1 c2 at1 ⊢
  generalize (A.map ay++[PyData.tuple [.int t.one,.int t.other,.tuple [.int a,.int b],.int t.worth]])++B.map ay=RR at*
  generalize A.map ay++[PyData.tuple [.int t.one,.int t.other,.tuple [.int a,.int b],.int t.worth]]=R1 at*
  generalize A.map ay++PyData.tuple [.int t.one,.int t.other,.tuple [.int t.top,.int t.bot],.int t.worth]::B.map ay=TT at*
  generalize A.map ay=AA at*
  generalize B.map ay=BB at*
  generalize W.pat.map PyData.int=PP at*
  simp? [eT,md,at1,tl,gs,c1,c2,gc1,gc2]
theorem pS{W:bU}(ok:W.Ok){A B:List eI}{t:eI}(hs:W.ties=A++t::B){a b:Int}(h:gn a b)(c:a*t.bot < t.top*b):
    fM [.d (bj W),.d (.int (A.length:Int)),.d (.tuple [.int a,.int b])]=some (.d (.bool true),[.d (bj W),.d (.int (A.length:Int)),.d (.tuple [.int a,.int b])]):=by
  have o:=ok.ties t (by rw [hs];simp)
  have:=o.c0;have:=o.c1;have:=o.b1
  obtain⟨h0,h1,h2,h3,h4⟩:=h
  have tl:=mP (a:=a) (b:=b) (c:=t.top) (d:=t.bot) (by lia) (by lia)
  rw [decide_eq_true c] at tl
  have at1:=jb (xs:=A.map ay) (ys:=B.map ay) (y:=ay t)
  rw [List.length_map] at at1
  have eW:bj W=.tuple [.int W.things,.tuple (A.map ay++ay t::B.map ay),.tuple (W.pat.map .int),.int W.asks]:=by
    show PyData.tuple [.int W.things,.tuple (W.ties.map ay),.tuple (W.pat.map .int),.int W.asks]=_
    rw [hs,List.map_append,List.map_cons]
  have dT:ay t=.tuple [.int t.one,.int t.other,.tuple [.int t.top,.int t.bot],.int t.worth]:=rfl
  rw [eW]
  rw [dT] at at1 ⊢
  generalize A.map ay++PyData.tuple [.int t.one,.int t.other,.tuple [.int t.top,.int t.bot],.int t.worth]::B.map ay=TT at*
  generalize W.pat.map PyData.int=PP at*
  refine wA rfl rfl ⟨[some (.d (.tuple [.int W.things,.tuple TT,.tuple PP,.int W.asks])),some (.d (.int (A.length:Int))),some (.d (.tuple [.int a,.int b])),some (.d (.int W.things)),some (.d (.tuple TT)),some (.d (.tuple PP)),some (.d (.int W.asks)),none,none,none,none],?_,rfl,[some (.d (.tuple [.int W.things,.tuple TT,.tuple PP,.int W.asks])),some (.d (.int (A.length:Int))),some (.d (.tuple [.int a,.int b])),some (.d (.int W.things)),some (.d (.tuple TT)),some (.d (.tuple PP)),some (.d (.int W.asks)),some (.d (.int t.one)),some (.d (.int t.other)),some (.d (.tuple [.int t.top,.int t.bot])),some (.d (.int t.worth))],?_,rfl,[some (.d (.tuple [.int W.things,.tuple TT,.tuple PP,.int W.asks])),some (.d (.int (A.length:Int))),some (.d (.tuple [.int a,.int b])),some (.d (.int W.things)),some (.d (.tuple TT)),some (.d (.tuple PP)),some (.d (.int W.asks)),some (.d (.int t.one)),some (.d (.int t.other)),some (.d (.tuple [.int t.top,.int t.bot])),some (.d (.int t.worth))],?_⟩
  · simp? [List.replicate]
  · simp? [at1]
  · simp? [tl]
theorem zA{AA BB:List PyData}{y x:PyData}(l:AA.length+BB.length+2≤1000):mr [.d (.tuple (AA++y::BB)),.d (.int (AA.length:Int)),.d x]=some (.d (.tuple ((AA++[x])++BB)),[.d (.tuple (AA++y::BB)),.d (.int (AA.length:Int)),.d x]):=by
  have c1:=L2.cut_pre (xs:=AA) (ys:=y::BB)
  have c2:=mi (xs:=AA) (ys:=BB) (y:=y)
  have gs:∀(e:En) (lo hi:Option Int) (xs:List PyData),yz e (.d (.tuple xs)) lo hi=some (.d (.tuple (L2.cutD xs lo hi))):=fun _ _ _ _=>rfl
  have gc1:∀(e:En),bH e (.d (.tuple AA)) (.d (.tuple [x]))=some (.d (.tuple (AA++[x]))):=fun e=>iy (by simp;lia)
  have gc2:∀(e:En),bH e (.d (.tuple (AA++[x]))) (.d (.tuple BB))=some (.d (.tuple ((AA++[x])++BB))):=fun e=>iy (by simp;lia)
  generalize (AA++[x])++BB=RR at*
  generalize AA++[x]=R1 at*
  generalize AA++y::BB=TT at*
  simp? [mr,vh,gs,c1,c2,gc1,gc2]
theorem uS{W:bU}(ok:W.Ok){A B:List eI}{t:eI}(hs:W.ties=A++t::B){a b:Int}(h:gn a b)(c:¬a*t.bot < t.top*b):
    g_ [.d (bj W),.d (.int (A.length:Int)),.d (.tuple [.int a,.int b])]=some (.d (.bool true),[.d (bj W),.d (.int (A.length:Int)),.d (.tuple [.int a,.int b])]):=by
  have tr:=sA ok hs h c
  have ok':=zc ok hs h
  have ts:=mQ ok'
  have tw:=sx (m6 (ri ok')).sh
  rw [sL ok'] at tw
  have len:=ok.len
  rw [hs] at len
  simp only [List.length_append,List.length_cons] at len
  have tp:=zA (AA:=A.map ay) (BB:=B.map ay) (y:=ay t) (x:=.tuple [.int t.one,.int t.other,.tuple [.int a,.int b],.int t.worth]) (by simp;lia)
  have at1:=jb (xs:=A.map ay) (ys:=B.map ay) (y:=ay t)
  rw [List.length_map] at at1 tp
  have g0:=Bo (W:=W);have g1':=Aj (W:=W);have g2:=Bp (W:=W);have g3:=Bq (W:=W)
  rw [show W.ties.map ay=A.map ay++ay t::B.map ay by rw [hs,List.map_append,List.map_cons]] at g1'
  have eR:PyData.tuple [.int W.things,.tuple ((A.map ay++[.tuple [.int t.one,.int t.other,.tuple [.int a,.int b],.int t.worth]])++B.map ay),.tuple (W.pat.map .int),.int W.asks]=bj (rW W A t B a b):=by
    show _=PyData.tuple [.int W.things,.tuple ((A++eI.mk t.one t.other a b t.worth::B).map ay),.tuple (W.pat.map .int),.int W.asks]
    rw [List.map_append,List.map_cons,List.append_assoc]
    rfl
  have gi:∀e:En,zN e (.d (.bool true)) (.d (.bool true))=some (.d (.bool true)):=fun e=>rfl
  have dT:ay t=.tuple [.int t.one,.int t.other,.tuple [.int t.top,.int t.bot],.int t.worth]:=rfl
  rw [dT] at at1 tp g1'
  generalize (A.map ay++[PyData.tuple [.int t.one,.int t.other,.tuple [.int a,.int b],.int t.worth]])++B.map ay=RR at*
  generalize A.map ay++PyData.tuple [.int t.one,.int t.other,.tuple [.int t.top,.int t.bot],.int t.worth]::B.map ay=TT at*
  generalize W.pat.map PyData.int=PP at*
  generalize bj (rW W A t B a b)=RW at*
  generalize bj W=WW at*
  simp? [g_,og,tr,g1',at1,tp,g0,g2,g3,eR,ts,tw,gi]
theorem wz{t b u v:Int}(hb:0 < b)(h:u*b≤t*v):¬(a_ t b).1*v < u*(a_ t b).2:=fun z=>by
  obtain⟨d,e1,e2,e3,e4,e5⟩:=iG (t:=t) (b:=b) (by lia)
  have dp:0 < d:=by
    rcases Int.lt_or_gt_of_ne e2 with q | q
    · have:=Int.mul_neg_of_pos_of_neg e5 q
      lia
    · exact q
  have h1:=Int.mul_lt_mul_of_pos_right z dp
  have a1:(a_ t b).1*v*d=t*v:=(Int.mul_right_comm _ _ _).trans (by rw [e3])
  have a2:u*(a_ t b).2*d=u*b:=by rw [Int.mul_assoc,e4]
  rw [a1,a2] at h1
  lia
theorem qT{t b:Int}(hb:0 < b)(h0:0≤t)(h1:t≤b)(h2:b≤100):gn (a_ t b).1 (a_ t b).2:=by
  obtain⟨r1,r2,r3,r4⟩:=jH hb h0 h1 h2
  exact⟨r1,r2,r3,r4,jG (by lia)⟩
theorem xR{n u v:Int}(hn:0≤n∧n < 2147483648)(u0:0≤u)(u1:u≤v)(v0:1≤v)(v1:v≤100):∃a b:Int,bL [.d (.int n),.d (.tuple [.int u,.int v])]=some (.d (.tuple [.int a,.int b]),[.d (.int n),.d (.tuple [.int u,.int v])])∧gn a b∧¬a*v < u*b:=by
  have g7:∀e:En,aU e (.d (.int n)) (.d (.int 7))=some (.d (.int (n % 7))):=fun e=>aJ (by decide)
  by_cases c7:n % 7=0
  · refine⟨1,1,?_,by unfold gn;decide,by lia⟩
    rw [c7] at g7
    simp? [bL,dX,g7]
  · have g100:∀e:En,aU e (.d (.int n)) (.d (.int 100))=some (.d (.int (n % 100))):=fun e=>aJ (by decide)
    have f100:∀e:En,bX e (.d (.int n)) (.d (.int 100))=some (.d (.int (n / 100))):=fun e=>cn (by decide) (eO (by decide) (by decide))
    have q0:=o5 (n:=n) (k:=100) (by decide);have q1:=o6 (n:=n) (k:=100) (by decide)
    generalize n % 100=r at*
    generalize n / 100=s at*
    obtain⟨bo,hbo⟩:∃bo,bo=1+r:=⟨_,rfl⟩
    have gbo:∀e:En,bH e (.d (.int 1)) (.d (.int r))=some (.d (.int bo)):=fun e=>by rw [ej,hbo]
    have gm:∀e:En,dz e (.d (.int u)) (.d (.int bo))=some (.d (.int (u*bo))):=fun e=>cA (eU (by lia) (by lia))
    have m0:0≤u*bo:=Int.mul_nonneg u0 (by lia)
    have m1:u*bo≤v*bo:=Int.mul_le_mul_of_nonneg_right u1 (by lia)
    obtain⟨w,hw⟩:∃w,w=0 - u*bo:=⟨_,rfl⟩
    have gw:∀e:En,cz e (.d (.int 0)) (.d (.int (u*bo)))=some (.d (.int w)):=fun e=>by rw [hw];rfl
    have fv:∀e:En,bX e (.d (.int w)) (.d (.int v))=some (.d (.int (w / v))):=fun e=>cn (by lia) (eO (by lia) (by lia))
    obtain⟨k,hk⟩:∃k,k=w / v:=⟨_,rfl⟩
    rw [←hk] at fv
    have k1:v*k≤w:=by rw [hk];exact Int.mul_ediv_self_le (by lia)
    have k2: -bo≤k:=by
      rw [hk]
      refine Int.le_ediv_of_mul_le (by lia) ?_
      have: -bo*v= -(v*bo):=by rw [Int.neg_mul,Int.mul_comm]
      lia
    have k3:k≤0:=by
      rcases Int.lt_or_le 0 k with z | z
      · have:=Int.mul_pos (show 0 < v by lia) z
        lia
      · exact z
    obtain⟨l,hl⟩:∃l,l=0 - k:=⟨_,rfl⟩
    have gl0:∀e:En,cz e (.d (.int 0)) (.d (.int k))=some (.d (.int l)):=fun e=>by rw [hl];rfl
    obtain⟨x1,hx1⟩:∃x,x=bo - l:=⟨_,rfl⟩
    have gx1:∀e:En,cz e (.d (.int bo)) (.d (.int l))=some (.d (.int x1)):=fun e=>by rw [hx1];rfl
    obtain⟨x2,hx2⟩:∃x,x=x1+1:=⟨_,rfl⟩
    have gx2:∀e:En,bH e (.d (.int x1)) (.d (.int 1))=some (.d (.int x2)):=fun e=>by rw [ej,hx2]
    have bp:0 < x2:=by lia
    have gl:∀e:En,aU e (.d (.int s)) (.d (.int x2))=some (.d (.int (s % x2))):=fun e=>aJ bp
    have p0:=o5 (n:=s) bp;have p1:=o6 (n:=s) bp
    generalize s % x2=y at*
    obtain⟨z,hz⟩:∃z,z=l+y:=⟨_,rfl⟩
    have gz:∀e:En,bH e (.d (.int l)) (.d (.int y))=some (.d (.int z)):=fun e=>by rw [ej,hz]
    have tl:=oO z bo (by lia) (oi (by lia) (by lia) (by decide))
    refine⟨(a_ z bo).1,(a_ z bo).2,?_,qT (by lia) (by lia) (by lia) (by lia),wz (by lia) ?_⟩
    · generalize u*bo=uu at*
      generalize (a_ z bo).1=z1 at*
      generalize (a_ z bo).2=z2 at*
      generalize n % 7=n7 at*
      simp? [bL,dX,g7,c7,g100,f100,gbo,gm,gw,fv,gl0,gx1,gx2,gl,gz,tl,f_,ey,ez]
    · have e1:z*v= -(v*k)+y*v:=by rw [hz,hl,Int.add_mul,Int.sub_mul,Int.zero_mul,Int.mul_comm k v];lia
      have e2:0≤y*v:=Int.mul_nonneg p0 (by lia)
      lia
abbrev dZ(ns ds:List Int)(v2:Option Sv)(W:bU)(v5 v6 v7 v8 v9:Option Sv):En:=[some (.d (.list (ns.map .int))),some (.l (ds.map .int)),v2,some (.d (bj W)),some (.d (bj W)),v5,v6,v7,v8,v9]
inductive LI (ns:List Int):En→Prop
  | mk {ds v2 v3 v4 v5 v6 v7 v8 v9} (hd:gM ds):LI ns [some (.d (.list (ns.map .int))),some (.l (ds.map .int)),v2,v3,v4,v5,v6,v7,v8,v9]
theorem tP{ns ds:List Int}(hd:gM ds){v2:Option Sv}{W:bU}(ok:W.Ok){v6 v7 v8 v9:Option Sv}{i:Nat}(hi:i < W.ties.length):∃ds' w6 w7 w8 w9,x9 (dZ ns ds v2 W (some (.d (.int (i:Int)))) v6 v7 v8 v9)=some (.nx (dZ ns ds' v2 W (some (.d (.int (i:Int)))) w6 w7 w8 w9))∧gM ds':=by
  obtain⟨A,t,B,hs,hA⟩:∃A t B,W.ties=A++t::B∧A.length=i:=⟨W.ties.take i,W.ties[i],W.ties.drop (i+1),by rw [List.getElem_cons_drop,List.take_append_drop],by rw [List.length_take];lia⟩
  subst hA
  have o:=ok.ties t (by rw [hs];simp)
  have u0:=o.c0;have u1:=o.c1;have v0:=o.b0;have v1:=o.b1
  obtain⟨n,d1,t1,n0,n1,hd1⟩:=iq hd
  obtain⟨a,b,tf,ch,nl⟩:=xR (n:=n) (u:=t.top) (v:=t.bot) ⟨n0,n1⟩ u0 u1 v0 v1
  have at1:=jb (xs:=A.map ay) (ys:=B.map ay) (y:=ay t)
  rw [List.length_map] at at1
  have g1':=Aj (W:=W)
  rw [show W.ties.map ay=A.map ay++ay t::B.map ay by rw [hs,List.map_append,List.map_cons]] at g1'
  have dT:ay t=.tuple [.int t.one,.int t.other,.tuple [.int t.top,.int t.bot],.int t.worth]:=rfl
  rw [dT] at at1 g1'
  generalize A.map ay++PyData.tuple [.int t.one,.int t.other,.tuple [.int t.top,.int t.bot],.int t.worth]::B.map ay=TT at*
  have rt:=fun(x y:Int) (hc:gn x y) (hn:¬x*t.bot < t.top*y)=>uS ok hs hc hn
  obtain⟨e2,h2,⟨w8,he2⟩⟩:=cX (own:=[]) (g:=aj 8) (f:=zK) (fun _ e=>∃w8,e=dZ ns d1 v2 W (some (.d (.int (A.length:Int)))) (some (.d (.tuple [.int t.top,.int t.bot]))) (some (.d (.int n))) w8 v9) [.tuple [.int a,.int b],.tuple [.int t.top,.int t.bot],.tuple [.int 1,.int 1]] 0 (dZ ns d1 v2 W (some (.d (.int (A.length:Int)))) (some (.d (.tuple [.int t.top,.int t.bot]))) (some (.d (.int n))) v8 v9) (fun j y e hy ⟨w8,he⟩=>by
    subst he
    obtain⟨x1,x2,rfl,c1,c2⟩:∃x1 x2:Int,y=.tuple [.int x1,.int x2]∧gn x1 x2∧¬x1*t.bot < t.top*x2:=by
      have hy:=List.mem_of_getElem? hy
      simp only [List.mem_cons,List.not_mem_nil,or_false] at hy
      rcases hy with rfl | rfl | rfl
      · exact⟨a,b,rfl,ch,nl⟩
      · exact⟨_,_,rfl,⟨u0,u1,v0,v1,o.cop⟩,by lia⟩
      · exact⟨1,1,rfl,by unfold gn;decide,by lia⟩
    have r:=rt x1 x2 c1 c2
    refine⟨dZ ns d1 v2 W (some (.d (.int (A.length:Int)))) (some (.d (.tuple [.int t.top,.int t.bot]))) (some (.d (.int n))) (some (.d (.tuple [.int x1,.int x2]))) v9,dZ ns d1 v2 W (some (.d (.int (A.length:Int)))) (some (.d (.tuple [.int t.top,.int t.bot]))) (some (.d (.int n))) (some (.d (.tuple [.int x1,.int x2]))) v9,rfl,?_,cL,_,rfl⟩
    simp only [dZ]
    generalize bj W=WW at*
    generalize (A.length:Int)=k at*
    simp? [zK,r]) ⟨v8,rfl⟩
  subst he2
  have hi1:AW (dZ ns d1 v2 W (some (.d (.int (A.length:Int)))) (some (.d (.tuple [.int t.top,.int t.bot]))) (some (.d (.int n))) v8 v9)=some ([.tuple [.int a,.int b],.tuple [.int t.top,.int t.bot],.tuple [.int 1,.int 1]],[],dZ ns d1 v2 W (some (.d (.int (A.length:Int)))) (some (.d (.tuple [.int t.top,.int t.bot]))) (some (.d (.int n))) v8 v9):=by
    refine wk ?_
    simp only [dZ]
    generalize bj W=WW at*
    simp? [tf]
  have hF:=fun Wl=>eE (W:=Wl) (g:=aj 8) (f:=zK) hi1
  rw [h2] at hF
  have g50:∀e:En,aU e (.d (.int n)) (.d (.int 50))=some (.d (.int (n % 50))):=fun e=>aJ (by decide)
  have q0:=o5 (n:=n) (k:=50) (by decide);have q1:=o6 (n:=n) (k:=50) (by decide)
  generalize n % 50=r at*
  have gm:∀e:En,dz e (.d (.int t.top)) (.d (.int r))=some (.d (.int (t.top*r))):=fun e=>cA (eU (by lia) (by lia))
  have m0:0≤t.top*r:=Int.mul_nonneg u0 q0
  have m1:t.top*r≤t.top*50:=Int.mul_le_mul_of_nonneg_left (by lia) u0
  have f50:∀e:En,bX e (.d (.int (t.top*r))) (.d (.int 50))=some (.d (.int (t.top*r / 50))):=fun e=>cn (by decide) (eO (by decide) (by decide))
  have z0:0≤t.top*r / 50∧t.top*r / 50≤t.bot:=by lia
  generalize t.top*r=tr at*
  generalize tr / 50=y at*
  have tl:=oO y t.bot (by lia) (oi (by lia) (by lia) (by decide))
  have lc:=qT (t:=y) (b:=t.bot) (by lia) z0.1 z0.2 v1
  generalize (a_ y t.bot).1=l1 at*
  generalize (a_ y t.bot).2=l2 at*
  have ll:=pR (a:=l1) (b:=l2) (c:=t.top) (d:=t.bot) (by have:=lc.1;have:=lc.2.1;have:=lc.2.2.2.1;lia) (by lia)
  refine⟨d1,some (.d (.tuple [.int t.top,.int t.bot])),some (.d (.int n)),w8,some (.d (.tuple [.int l1,.int l2])),?_,hd1⟩
  by_cases c:l1*t.bot < t.top*l2
  · have rf:=pS ok hs lc c
    rw [decide_eq_true c] at ll
    simp only [dZ] at hF ⊢
    generalize bj W=WW at*
    generalize (A.length:Int)=k at*
    simp? [x9,g1',at1,t1,hF,g50,gm,f50,tl,ll,rf,f_,ey,ez]
  · rw [decide_eq_false c] at ll
    simp only [dZ] at hF ⊢
    generalize bj W=WW at*
    generalize (A.length:Int)=k at*
    simp? [x9,g1',at1,t1,hF,g50,gm,f50,tl,ll,f_,ey,ez]
theorem qR(ns:List Int)(hl:ns.length≤63):∃as',jK [.d (.list (ns.map .int))]=some (.d (.bool true),as'):=by
  obtain⟨ds,td,hd⟩:=uR ns hl
  obtain⟨e2,h1,hI⟩:=cX (own:=[]) (g:=aj 2) (f:=zL) (fun _=>LI ns) (bv 0 5) 0 [some (.d (.list (ns.map .int))),some (.l (ds.map .int)),none,none,none,none,none,none,none,none] (fun i x e hx hI=>by
    obtain⟨hd⟩:=hI
    rename_i ds v2 v3 v4 v5 v6 v7 v8 v9
    obtain⟨W,d1,tw,hd1,ok,_,_⟩:=zC ds 12 16 hd (by decide) (by decide) (by decide) (by decide)
    have len:=ok.len
    obtain⟨e3,h3,⟨d3,w5,w6,w7,w8,w9,he3,hd3⟩⟩:=cX (own:=[]) (g:=aj 5) (f:=x9) (fun _ e=>∃ds w5 w6 w7 w8 w9,e=dZ ns ds (some (.d x)) W w5 w6 w7 w8 w9∧gM ds) (bv 0 W.ties.length) 0 (dZ ns d1 (some (.d x)) W v5 v6 v7 v8 v9) (fun j y e hy ⟨ds,w5,w6,w7,w8,w9,he,hd⟩=>by
      subst he
      obtain⟨rfl,hj⟩:=dC hy
      rw [Int.zero_add]
      obtain⟨ds',u6,u7,u8,u9,q,hd'⟩:=tP (ns:=ns) hd (v2:=some (.d x)) ok (v6:=w6) (v7:=w7) (v8:=w8) (v9:=w9) hj
      exact⟨_,_,rfl,q,cL,ds',_,_,_,_,_,rfl,hd'⟩) ⟨d1,_,_,_,_,_,rfl,hd1⟩
    subst he3
    have g1':=Aj (W:=W)
    have hi3:AX (dZ ns d1 (some (.d x)) W v5 v6 v7 v8 v9)=some (bv 0 W.ties.length,[],dZ ns d1 (some (.d x)) W v5 v6 v7 v8 v9):=by
      have:=cK (n:=((W.ties.map ay).length:Int)) (fs:=aa (be (g1 iC) (aa (aB dQ (ae 3) (vC (.int 1))) am)) am) (e:=dZ ns d1 (some (.d x)) W v5 v6 v7 v8 v9) (e1:=dZ ns d1 (some (.d x)) W v5 v6 v7 v8 v9) (by
        simp only [dZ]
        generalize W.ties.map ay=TT at*
        generalize bj W=WW at*
        simp? [g1']) (by lia) (by rw [List.length_map];lia)
      rw [List.length_map,Int.toNat_natCast] at this
      exact this
    have hF:=fun Wl=>eE (W:=Wl) (g:=aj 5) (f:=x9) hi3
    rw [h3] at hF
    have sm:=mQ ok
    have gt:∀e:En,g1 dA e [.d (bj W)]=some (.d (bj W)):=fun e=>rfl
    refine⟨[some (.d (.list (ns.map .int))),some (.l (ds.map .int)),some (.d x),v3,v4,v5,v6,v7,v8,v9],dZ ns d3 (some (.d x)) W w5 w6 w7 w8 w9,rfl,?_,cL,.mk hd3⟩
    simp only [dZ] at hF ⊢
    generalize bj W=WW at*
    simp? [zL,tw,gt,hF,sm]) (.mk hd)
  obtain⟨hd2⟩:=hI
  rename_i ds2 v2 v3 v4 v5 v6 v7 v8 v9
  have hi:AY [some (.d (.list (ns.map .int))),some (.l (ds.map .int)),none,none,none,none,none,none,none,none]=some (bv 0 5,[],[some (.d (.list (ns.map .int))),some (.l (ds.map .int)),none,none,none,none,none,none,none,none]):=cK (n:=5) (by simp? [List.replicate]) (by lia) (by lia)
  have hfor:=fun Wl=>eE (W:=Wl) (g:=aj 2) (f:=zL) hi
  rw [h1] at hfor
  simp? [jK,vk,td,hfor]
def kL(n:Str)(bs mro:List Value)(ns:Addr)(sub:List Value)(sl:Array (Option Value)):Obj:=⟨.type "type",none,.cls {name:=n,bases:=bs,mro:=mro,ns:=ns,qualname:=n,hasDict:=true,slotNames:=[],subclasses:=sub,abstract:=false,collection:=none,hasDel:=false},sl⟩
def kE(P:Params)(k:Str)(t:Tok)(v:Value):DictEntry:=⟨PyData.keyHash P k,.str k t,v⟩
def kF(n:Str)(s:Stmt)(doc pm:Value)(c:Addr):Obj:=⟨.type "function",none,.func (W.fnOf n n (cy s) (bG s) (ah s) .none .none doc pm none (.ref c) .none),#[]⟩
def kI(n:Int):Value:=.int n 0
def kC(n:Str)(a:Nat)(l:List Value)(z:Nat):Obj:=⟨.type "code",none,.fields (Value.str n a::Value.str n (a+1)::Value.str "/claim/cut.py" (a+2)::l++[Value.str "/claim/cut.py" z]).toArray,#[]⟩
def x_:Value:=.str "askedpairs.fractions" 271
def vx:Value:=.str "askedpairs.forms" 298
def sQ:Value:=.str "askedpairs.webs" 333
def AZ:Value:=.str "askedpairs.led" 391
def eQ:Value:=.str "law_askedpairs_k77_chances_raised" 410
def kK(P:Params):W.Frag:=[(3,⟨.type "dict",none,.dict (List.toArray [kE P "__name__" 165 (.str "law_askedpairs_k77_chances_raised" 410),kE P "__doc__" 166 (.none),kE P "__package__" 167 (.none),kE P "__loader__" 168 (.builtin "__main__.__loader__#opaque"),kE P "__spec__" 169 (.none),kE P "__annotations__" 170 (.ref 6),kE P "__builtins__" 171 (.ref 4),kE P "__file__" 173 (.str "/claim/cut.py" 172),kE P "__cached__" 174 (.none),kE P "PairsError" 206 (.ref 24),kE P "TooMany" 222 (.ref 37),kE P "NoRise" 238 (.ref 49),kE P "NotTwoSided" 254 (.ref 61),kE P "NoText" 270 (.ref 73),kE P "common_divisor" 280 (.ref 82),kE P "lowest" 289 (.ref 89),kE P "less" 297 (.ref 96),kE P "is_number" 306 (.ref 103),kE P "is_number_within" 315 (.ref 110),kE P "is_row_of" 323 (.ref 117),kE P "is_fraction" 332 (.ref 124),kE P "MOST_THINGS" 336 (.int (12) 335),kE P "MOST_TIES" 338 (.int (16) 337),kE P "MOST_BOTTOM" 340 (.int (100) 339),kE P "MOST_WORTH" 342 (.int (1000) 341),kE P "MOST_PATIENCE" 344 (.int (20) 343),kE P "MOST_ASKS" 346 (.int (40) 345),kE P "is_chance" 355 (.ref 131),kE P "is_tie_row" 367 (.ref 138),kE P "is_ties" 373 (.ref 143),kE P "is_patience" 379 (.ref 148),kE P "is_web" 390 (.ref 155),kE P "raised" 409 (.ref 162),kE P "_law_mixed" 420 (.ref 169),kE P "_law_draws" 431 (.ref 176),kE P "_law_next" 438 (.ref 183),kE P "_law_gcd" 446 (.ref 190),kE P "_law_low" 455 (.ref 197),kE P "_law_less" 463 (.ref 204),kE P "_law_same" 471 (.ref 211),kE P "_law_chance" 480 (.ref 218),kE P "_law_worth" 488 (.ref 225),kE P "_law_ties" 507 (.ref 232),kE P "_law_web" 523 (.ref 239),kE P "_law_put" 532 (.ref 246),kE P "_law_refusal" 540 (.ref 253),kE P "_law_chance_from" 550 (.ref 260),kE P "_law_refused" 561 (.ref 267),kE P "_law_right" 576 (.ref 274),kE P "law" 592 (.ref 281)]) 50,#[]⟩),
  (82,kF "common_divisor" bx (.none) x_ 81),
  (81,kC "common_divisor" 273 [kI 13,kI 2,kI 0,kI 0,kI 3,.ref 76,.bool true,kI 181,.ref 77,.none,.ref 78,.ref 79,.ref 80,kI 278,kI 13] 279),
  (89,kF "lowest" fg (.none) x_ 88),
  (88,kC "lowest" 281 [kI 17,kI 2,kI 0,kI 0,kI 3,.ref 83,.bool true,kI 181,.ref 84,.none,.ref 85,.ref 86,.ref 87,kI 287,kI 17] 288),
  (96,kF "less" iQ (.none) x_ 95),
  (95,kC "less" 290 [kI 22,kI 2,kI 0,kI 0,kI 3,.ref 90,.bool true,kI 181,.ref 91,.none,.ref 92,.ref 93,.ref 94,kI 295,kI 22] 296),
  (103,kF "is_number" cq (.none) vx 102),
  (102,kC "is_number" 300 [kI 25,kI 1,kI 0,kI 0,kI 3,.ref 97,.bool true,kI 181,.ref 98,.none,.ref 99,.ref 100,.ref 101,kI 304,kI 25] 305),
  (110,kF "is_number_within" aO (.none) vx 109),
  (109,kC "is_number_within" 307 [kI 27,kI 3,kI 0,kI 0,kI 3,.ref 104,.bool true,kI 181,.ref 105,.none,.ref 106,.ref 107,.ref 108,kI 313,kI 27] 314),
  (117,kF "is_row_of" bD (.none) vx 116),
  (116,kC "is_row_of" 316 [kI 29,kI 2,kI 0,kI 0,kI 3,.ref 111,.bool true,kI 181,.ref 112,.none,.ref 113,.ref 114,.ref 115,kI 321,kI 29] 322),
  (124,kF "is_fraction" b_ (.none) vx 123),
  (123,kC "is_fraction" 324 [kI 31,kI 1,kI 0,kI 0,kI 3,.ref 118,.bool true,kI 181,.ref 119,.none,.ref 120,.ref 121,.ref 122,kI 330,kI 31] 331),
  (131,kF "is_chance" c9 (.none) sQ 130),
  (130,kC "is_chance" 347 [kI 45,kI 1,kI 0,kI 0,kI 3,.ref 125,.bool true,kI 181,.ref 126,.none,.ref 127,.ref 128,.ref 129,kI 353,kI 45] 354),
  (138,kF "is_tie_row" cF (.none) sQ 137),
  (137,kC "is_tie_row" 356 [kI 50,kI 2,kI 0,kI 0,kI 3,.ref 132,.bool true,kI 181,.ref 133,.none,.ref 134,.ref 135,.ref 136,kI 365,kI 50] 366),
  (143,kF "is_ties" du (.none) sQ 142),
  (142,kC "is_ties" 368 [kI 57,kI 2,kI 0,kI 0,kI 3,.ref 139,.bool true,kI 181,.ref 140,.none,.none,.none,.ref 141,kI 371,kI 57] 372),
  (148,kF "is_patience" bM (.none) sQ 147),
  (147,kC "is_patience" 374 [kI 61,kI 2,kI 0,kI 0,kI 3,.ref 144,.bool true,kI 181,.ref 145,.none,.none,.none,.ref 146,kI 377,kI 61] 378),
  (155,kF "is_web" ff (.none) sQ 154),
  (154,kC "is_web" 380 [kI 65,kI 1,kI 0,kI 0,kI 3,.ref 149,.bool true,kI 181,.ref 150,.none,.ref 151,.ref 152,.ref 153,kI 388,kI 65] 389),
  (162,kF "raised" dD (.none) AZ 161),
  (161,kC "raised" 393 [kI 73,kI 3,kI 0,kI 0,kI 3,.ref 156,.bool true,kI 181,.ref 157,.none,.ref 158,.ref 159,.ref 160,kI 407,kI 73] 408),
  (169,kF "_law_mixed" ia (.none) eQ 168),
  (168,kC "_law_mixed" 412 [kI 80,kI 2,kI 0,kI 0,kI 3,.ref 163,.bool true,kI 181,.ref 164,.none,.ref 165,.ref 166,.ref 167,kI 418,kI 80] 419),
  (176,kF "_law_draws" h_ (.none) eQ 175),
  (175,kC "_law_draws" 421 [kI 83,kI 1,kI 0,kI 0,kI 3,.ref 170,.bool true,kI 181,.ref 171,.none,.ref 172,.ref 173,.ref 174,kI 429,kI 83] 430),
  (183,kF "_law_next" gF (.none) eQ 182),
  (182,kC "_law_next" 432 [kI 96,kI 1,kI 0,kI 0,kI 3,.ref 177,.bool true,kI 181,.ref 178,.none,.ref 179,.ref 180,.ref 181,kI 436,kI 96] 437),
  (190,kF "_law_gcd" mC (.none) eQ 189),
  (189,kC "_law_gcd" 439 [kI 100,kI 2,kI 0,kI 0,kI 3,.ref 184,.bool true,kI 181,.ref 185,.none,.ref 186,.ref 187,.ref 188,kI 444,kI 100] 445),
  (197,kF "_law_low" j1 (.none) eQ 196),
  (196,kC "_law_low" 447 [kI 104,kI 2,kI 0,kI 0,kI 3,.ref 191,.bool true,kI 181,.ref 192,.none,.ref 193,.ref 194,.ref 195,kI 453,kI 104] 454),
  (204,kF "_law_less" j0 (.none) eQ 203),
  (203,kC "_law_less" 456 [kI 107,kI 2,kI 0,kI 0,kI 3,.ref 198,.bool true,kI 181,.ref 199,.none,.ref 200,.ref 201,.ref 202,kI 461,kI 107] 462),
  (211,kF "_law_same" iP (.none) eQ 210),
  (210,kC "_law_same" 464 [kI 109,kI 2,kI 0,kI 0,kI 3,.ref 205,.bool true,kI 181,.ref 206,.none,.ref 207,.ref 208,.ref 209,kI 469,kI 109] 470),
  (218,kF "_law_chance" e_ (.none) eQ 217),
  (217,kC "_law_chance" 472 [kI 111,kI 2,kI 0,kI 0,kI 3,.ref 212,.bool true,kI 181,.ref 213,.none,.ref 214,.ref 215,.ref 216,kI 478,kI 111] 479),
  (225,kF "_law_worth" ie (.none) eQ 224),
  (224,kC "_law_worth" 481 [kI 121,kI 2,kI 0,kI 0,kI 3,.ref 219,.bool true,kI 181,.ref 220,.none,.ref 221,.ref 222,.ref 223,kI 486,kI 121] 487),
  (232,kF "_law_ties" j2 (.none) eQ 231),
  (231,kC "_law_ties" 489 [kI 123,kI 3,kI 0,kI 0,kI 3,.ref 226,.bool true,kI 181,.ref 227,.none,.ref 228,.ref 229,.ref 230,kI 505,kI 123] 506),
  (239,kF "_law_web" mE (.none) eQ 238),
  (238,kC "_law_web" 508 [kI 138,kI 3,kI 0,kI 0,kI 3,.ref 233,.bool true,kI 181,.ref 234,.none,.ref 235,.ref 236,.ref 237,kI 521,kI 138] 522),
  (246,kF "_law_put" mD (.none) eQ 245),
  (245,kC "_law_put" 524 [kI 148,kI 3,kI 0,kI 0,kI 3,.ref 240,.bool true,kI 181,.ref 241,.none,.ref 242,.ref 243,.ref 244,kI 530,kI 148] 531),
  (253,kF "_law_refusal" em (.none) eQ 252),
  (252,kC "_law_refusal" 533 [kI 150,kI 1,kI 0,kI 0,kI 3,.ref 247,.bool true,kI 181,.ref 248,.none,.ref 249,.ref 250,.ref 251,kI 538,kI 150] 539),
  (260,kF "_law_chance_from" b7 (.none) eQ 259),
  (259,kC "_law_chance_from" 541 [kI 153,kI 2,kI 0,kI 0,kI 3,.ref 254,.bool true,kI 181,.ref 255,.none,.ref 256,.ref 257,.ref 258,kI 548,kI 153] 549),
  (267,kF "_law_refused" en (.none) eQ 266),
  (266,kC "_law_refused" 551 [kI 159,kI 3,kI 0,kI 0,kI 3,.ref 261,.bool true,kI 181,.ref 262,.none,.ref 263,.ref 264,.ref 265,kI 559,kI 159] 560),
  (274,kF "_law_right" ic (.none) eQ 273),
  (273,kC "_law_right" 562 [kI 166,kI 3,kI 0,kI 0,kI 3,.ref 268,.bool true,kI 181,.ref 269,.none,.ref 270,.ref 271,.ref 272,kI 574,kI 166] 575),
  (281,kF "law" j3 (.none) eQ 280),
  (280,kC "law" 577 [kI 171,kI 1,kI 0,kI 0,kI 3,.ref 275,.bool true,kI 181,.ref 276,.none,.ref 277,.ref 278,.ref 279,kI 590,kI 171] 591),
  (24,kL "PairsError" [.type "ValueError"] [.ref 24,.type "ValueError",.type "Exception",.type "BaseException",.type "object"] 23 [.ref 37,.ref 49,.ref 61,.ref 73] #[some (.ref 15),none,some (.str "PairsError" 189),some (.str "PairsError" 197),some (.builtin "ValueError.__new__"),some (.bool true)]),
  (23,⟨.type "dict",none,.dict (List.toArray [kE P "__module__" 196 (.str "askedpairs.errors" 187),kE P "__firstlineno__" 200 (.int (2) 199),kE P "__static_attributes__" 201 (.ref 22),kE P "__weakref__" 203 (.ref 25),kE P "__doc__" 204 (.none)]) 3,#[]⟩),
  (37,kL "TooMany" [.ref 24] [.ref 37,.ref 24,.type "ValueError",.type "Exception",.type "BaseException",.type "object"] 36 [] #[some (.ref 28),none,some (.str "TooMany" 207),some (.str "TooMany" 215),some (.builtin "ValueError.__new__"),some (.bool true)]),
  (36,⟨.type "dict",none,.dict (List.toArray [kE P "__module__" 214 (.str "askedpairs.errors" 187),kE P "__firstlineno__" 218 (.int (4) 217),kE P "__static_attributes__" 219 (.ref 35),kE P "__doc__" 220 (.none)]) 2,#[]⟩),
  (49,kL "NoRise" [.ref 24] [.ref 49,.ref 24,.type "ValueError",.type "Exception",.type "BaseException",.type "object"] 48 [] #[some (.ref 40),none,some (.str "NoRise" 223),some (.str "NoRise" 231),some (.builtin "ValueError.__new__"),some (.bool true)]),
  (48,⟨.type "dict",none,.dict (List.toArray [kE P "__module__" 230 (.str "askedpairs.errors" 187),kE P "__firstlineno__" 234 (.int (6) 233),kE P "__static_attributes__" 235 (.ref 47),kE P "__doc__" 236 (.none)]) 2,#[]⟩),
  (61,kL "NotTwoSided" [.ref 24] [.ref 61,.ref 24,.type "ValueError",.type "Exception",.type "BaseException",.type "object"] 60 [] #[some (.ref 52),none,some (.str "NotTwoSided" 239),some (.str "NotTwoSided" 247),some (.builtin "ValueError.__new__"),some (.bool true)]),
  (60,⟨.type "dict",none,.dict (List.toArray [kE P "__module__" 246 (.str "askedpairs.errors" 187),kE P "__firstlineno__" 250 (.int (8) 249),kE P "__static_attributes__" 251 (.ref 59),kE P "__doc__" 252 (.none)]) 2,#[]⟩),
  (73,kL "NoText" [.ref 24] [.ref 73,.ref 24,.type "ValueError",.type "Exception",.type "BaseException",.type "object"] 72 [] #[some (.ref 64),none,some (.str "NoText" 255),some (.str "NoText" 263),some (.builtin "ValueError.__new__"),some (.bool true)]),
  (72,⟨.type "dict",none,.dict (List.toArray [kE P "__module__" 262 (.str "askedpairs.errors" 187),kE P "__firstlineno__" 266 (.int (10) 265),kE P "__static_attributes__" 267 (.ref 71),kE P "__doc__" 268 (.none)]) 2,#[]⟩)]
def kA:List Addr:=[3,82,81,89,88,96,95,103,102,110,109,117,116,124,123,131,130,138,137,143,142,148,147,155,154,162,161,169,168,176,175,183,182,190,189,197,196,204,203,211,210,218,217,225,224,232,231,239,238,246,245,253,252,260,259,267,266,274,273,281,280,24,23,37,36,49,48,61,60,73,72]
def kq:Program:={PySem.Challenge.pw_askedpairs_k77_chances_raised with main:={PySem.Challenge.pw_askedpairs_k77_chances_raised.main with body:=[top 1,top 2,top 3,top 4,top 5,top 7,top 8,top 9,top 11,top 12,top 13,top 14,top 16,top 17,top 18,top 19,top 20,top 21,top 22,top 23,top 24,top 25,top 26,top 28,top 30,top 31,top 32,top 33,top 34,top 35,top 36,top 37,top 38,top 39,top 40,top 41,top 42,top 43,top 44,top 45,top 46]}}
def kH:W.Hook:=W.kHook kK kA (fun _=>by kernel_rfl)
theorem left:W.LeftO PySem.Challenge.pw_askedpairs_k77_chances_raised kq [] (fun s=>W.xlAt kq [] s&&W.recOk (W.RowW.records (W.OpenRow.toRowW (W.OpenLaw.row PySem.Challenge.rw_askedpairs_k77_chances_raised))) s) (W.Hook.obs kH) (W.Hook.val kH) 4330:=fun w=>by kernel_rfl
theorem vA{P:List Value→Prop}(h:∀a0,P [a0]):∀us:List Value,us.length=1→P us:=fun us e=>match us,e with | [a0],_=>h a0
theorem nG{P:List Value→Prop}(h:∀a0 a1,P [a0,a1]):∀us:List Value,us.length=2→P us:=fun us e=>match us,e with | [a0,a1],_=>h a0 a1
theorem wy{P:List Value→Prop}(h:∀a0 a1 a2,P [a0,a1,a2]):∀us:List Value,us.length=3→P us:=fun us e=>match us,e with | [a0,a1,a2],_=>h a0 a1 a2
theorem hm{w:World}{h:Heap}{mg:Str→Option Value}{n:Str}{s:Stmt}{a:Addr}{ps:List Str}(c:Addr)(d p:Value)(X:(kK w.params).In h)(G:h.Ns mainGlobals mg)
    (e:(W.nsIn (kK w.params) mainGlobals n,List.lookup a (kK w.params),W.codeIn (kK w.params) (.ref c) n,W.keepIn (kK w.params) (.ref a))=(some (some (.ref a)),some (kF n s d p c),true,true))
    (b:∀(kV doc pm:Value) (an:Option Addr) (cdv ct:Value) (us:List Value),us.length=ps.length→bindArgs (W.fnOf n n (cy s) (bG s) (ah s) .none kV doc pm an cdv ct) ⟨us,[]⟩=pure (ps.zip us)):
    aV (kK w.params) mg n s a (W.fnOf n n (cy s) (bG s) (ah s) .none .none d p none (.ref c) .none) ps:=wj X G (congrArg (·.1) e) (congrArg (·.2.1) e) (congrArg (·.2.2.1) e) (congrArg (·.2.2.2) e) b
theorem all_mk{l:W.OpenLaw}{w:World}{h:Heap}{mg:Str→Option Value}{fa:Addr}(X:(kK w.params).In h)(G:h.Ns mainGlobals mg)(hfa:mg "law"=some (.ref fa)):
    ∃fd:FuncData,(∀(s:Shared) (v:Value),BindsTo s fd ⟨[v],[]⟩ [("_law_script",v)])∧∀base:Heap,(kK w.params).In base→base.Ns mainGlobals mg→az l.prog w (kK w.params) mg base bz 9 fa fd ["_law_script"] (bI (kK w.params) 1 jK):=by
  have e:=hfa.symm.trans (W.mg_of X G (show W.nsIn (kK w.params) mainGlobals "law"=some (some (.ref 281)) by kernel_rfl))
  cases e
  have T:fZ mg:=⟨W.mg_none_of X G (show W.nsIn (kK w.params) mainGlobals "abs"=some none by kernel_rfl),W.mg_none_of X G (show W.nsIn (kK w.params) mainGlobals "len"=some none by kernel_rfl),W.mg_none_of X G (show W.nsIn (kK w.params) mainGlobals "min"=some none by kernel_rfl),W.mg_none_of X G (show W.nsIn (kK w.params) mainGlobals "max"=some none by kernel_rfl),W.mg_none_of X G (show W.nsIn (kK w.params) mainGlobals "range"=some none by kernel_rfl),W.mg_none_of X G (show W.nsIn (kK w.params) mainGlobals "repr"=some none by kernel_rfl),W.mg_none_of X G (show W.nsIn (kK w.params) mainGlobals "tuple"=some none by kernel_rfl),W.mg_none_of X G (show W.nsIn (kK w.params) mainGlobals "int"=some none by kernel_rfl),W.mg_none_of X G (show W.nsIn (kK w.params) mainGlobals "isinstance"=some none by kernel_rfl),W.mg_none_of X G (show W.nsIn (kK w.params) mainGlobals "bool"=some none by kernel_rfl),W.mg_none_of X G (show W.nsIn (kK w.params) mainGlobals "all"=some none by kernel_rfl),W.mg_none_of X G (show W.nsIn (kK w.params) mainGlobals "ValueError"=some none by kernel_rfl)⟩
  have h_common_divisor:aV (kK w.params) mg "common_divisor" bx 82 _ ["one","other"]:=hm 81 (.none) x_ X G (by kernel_rfl) fun _ _ _ _ _ _=>nG fun _ _=>rfl
  have h_lowest:aV (kK w.params) mg "lowest" fg 89 _ ["top","bottom"]:=hm 88 (.none) x_ X G (by kernel_rfl) fun _ _ _ _ _ _=>nG fun _ _=>rfl
  have h_less:aV (kK w.params) mg "less" iQ 96 _ ["one","other"]:=hm 95 (.none) x_ X G (by kernel_rfl) fun _ _ _ _ _ _=>nG fun _ _=>rfl
  have h_is_number:aV (kK w.params) mg "is_number" cq 103 _ ["thing"]:=hm 102 (.none) vx X G (by kernel_rfl) fun _ _ _ _ _ _=>vA fun _=>rfl
  have h_is_number_within:aV (kK w.params) mg "is_number_within" aO 110 _ ["thing","low","high"]:=hm 109 (.none) vx X G (by kernel_rfl) fun _ _ _ _ _ _=>wy fun _ _ _=>rfl
  have h_is_row_of:aV (kK w.params) mg "is_row_of" bD 117 _ ["thing","many"]:=hm 116 (.none) vx X G (by kernel_rfl) fun _ _ _ _ _ _=>nG fun _ _=>rfl
  have h_is_fraction:aV (kK w.params) mg "is_fraction" b_ 124 _ ["thing"]:=hm 123 (.none) vx X G (by kernel_rfl) fun _ _ _ _ _ _=>vA fun _=>rfl
  have h_is_chance:aV (kK w.params) mg "is_chance" c9 131 _ ["thing"]:=hm 130 (.none) sQ X G (by kernel_rfl) fun _ _ _ _ _ _=>vA fun _=>rfl
  have h_is_tie_row:aV (kK w.params) mg "is_tie_row" cF 138 _ ["thing","things"]:=hm 137 (.none) sQ X G (by kernel_rfl) fun _ _ _ _ _ _=>nG fun _ _=>rfl
  have h_is_ties:aV (kK w.params) mg "is_ties" du 143 _ ["thing","things"]:=hm 142 (.none) sQ X G (by kernel_rfl) fun _ _ _ _ _ _=>nG fun _ _=>rfl
  have h_is_patience:aV (kK w.params) mg "is_patience" bM 148 _ ["thing","things"]:=hm 147 (.none) sQ X G (by kernel_rfl) fun _ _ _ _ _ _=>nG fun _ _=>rfl
  have h_is_web:aV (kK w.params) mg "is_web" ff 155 _ ["thing"]:=hm 154 (.none) sQ X G (by kernel_rfl) fun _ _ _ _ _ _=>vA fun _=>rfl
  have h_raised:aV (kK w.params) mg "raised" dD 162 _ ["web","tie","chance"]:=hm 161 (.none) AZ X G (by kernel_rfl) fun _ _ _ _ _ _=>wy fun _ _ _=>rfl
  have hLmixed:aV (kK w.params) mg "_law_mixed" ia 169 _ ["_law_cell","_law_k"]:=hm 168 (.none) eQ X G (by kernel_rfl) fun _ _ _ _ _ _=>nG fun _ _=>rfl
  have hLdraws:aV (kK w.params) mg "_law_draws" h_ 176 _ ["_law_script"]:=hm 175 (.none) eQ X G (by kernel_rfl) fun _ _ _ _ _ _=>vA fun _=>rfl
  have hLnext:aV (kK w.params) mg "_law_next" gF 183 _ ["_law_drawn"]:=hm 182 (.none) eQ X G (by kernel_rfl) fun _ _ _ _ _ _=>vA fun _=>rfl
  have hLgcd:aV (kK w.params) mg "_law_gcd" mC 190 _ ["_law_one","_law_other"]:=hm 189 (.none) eQ X G (by kernel_rfl) fun _ _ _ _ _ _=>nG fun _ _=>rfl
  have hLlow:aV (kK w.params) mg "_law_low" j1 197 _ ["_law_top","_law_bottom"]:=hm 196 (.none) eQ X G (by kernel_rfl) fun _ _ _ _ _ _=>nG fun _ _=>rfl
  have hLless:aV (kK w.params) mg "_law_less" j0 204 _ ["_law_one","_law_other"]:=hm 203 (.none) eQ X G (by kernel_rfl) fun _ _ _ _ _ _=>nG fun _ _=>rfl
  have hLsame:aV (kK w.params) mg "_law_same" iP 211 _ ["_law_found","_law_due"]:=hm 210 (.none) eQ X G (by kernel_rfl) fun _ _ _ _ _ _=>nG fun _ _=>rfl
  have hLchance:aV (kK w.params) mg "_law_chance" e_ 218 _ ["_law_number","_law_kind"]:=hm 217 (.none) eQ X G (by kernel_rfl) fun _ _ _ _ _ _=>nG fun _ _=>rfl
  have hLworth:aV (kK w.params) mg "_law_worth" ie 225 _ ["_law_number","_law_kind"]:=hm 224 (.none) eQ X G (by kernel_rfl) fun _ _ _ _ _ _=>nG fun _ _=>rfl
  have hLties:aV (kK w.params) mg "_law_ties" j2 232 _ ["_law_drawn","_law_things","_law_many"]:=hm 231 (.none) eQ X G (by kernel_rfl) fun _ _ _ _ _ _=>wy fun _ _ _=>rfl
  have hLweb:aV (kK w.params) mg "_law_web" mE 239 _ ["_law_drawn","_law_most","_law_ties_here"]:=hm 238 (.none) eQ X G (by kernel_rfl) fun _ _ _ _ _ _=>wy fun _ _ _=>rfl
  have hLput:aV (kK w.params) mg "_law_put" mD 246 _ ["_law_row","_law_at","_law_thing"]:=hm 245 (.none) eQ X G (by kernel_rfl) fun _ _ _ _ _ _=>wy fun _ _ _=>rfl
  have hLrefusal:aV (kK w.params) mg "_law_refusal" em 253 _ ["_law_kept"]:=hm 252 (.none) eQ X G (by kernel_rfl) fun _ _ _ _ _ _=>vA fun _=>rfl
  have hLchance_from:aV (kK w.params) mg "_law_chance_from" b7 260 _ ["_law_number","_law_own"]:=hm 259 (.none) eQ X G (by kernel_rfl) fun _ _ _ _ _ _=>nG fun _ _=>rfl
  have hLrefused:aV (kK w.params) mg "_law_refused" en 267 _ ["_law_web_here","_law_tie","_law_chance_here"]:=hm 266 (.none) eQ X G (by kernel_rfl) fun _ _ _ _ _ _=>wy fun _ _ _=>rfl
  have hLright:aV (kK w.params) mg "_law_right" ic 274 _ ["_law_web_here","_law_tie","_law_chance_here"]:=hm 273 (.none) eQ X G (by kernel_rfl) fun _ _ _ _ _ _=>wy fun _ _ _=>rfl
  have h_law:aV (kK w.params) mg "law" j3 281 _ ["_law_script"]:=hm 280 (.none) eQ X G (by kernel_rfl) fun _ _ _ _ _ _=>vA fun _=>rfl
  have m_MOST_THINGS:=W.mg_of X G (show W.nsIn (kK w.params) mainGlobals "MOST_THINGS"=some (some (.int (12) 335)) by kernel_rfl)
  have m_MOST_TIES:=W.mg_of X G (show W.nsIn (kK w.params) mainGlobals "MOST_TIES"=some (some (.int (16) 337)) by kernel_rfl)
  have m_MOST_BOTTOM:=W.mg_of X G (show W.nsIn (kK w.params) mainGlobals "MOST_BOTTOM"=some (some (.int (100) 339)) by kernel_rfl)
  have m_MOST_WORTH:=W.mg_of X G (show W.nsIn (kK w.params) mainGlobals "MOST_WORTH"=some (some (.int (1000) 341)) by kernel_rfl)
  have m_MOST_PATIENCE:=W.mg_of X G (show W.nsIn (kK w.params) mainGlobals "MOST_PATIENCE"=some (some (.int (20) 343)) by kernel_rfl)
  have m_MOST_ASKS:=W.mg_of X G (show W.nsIn (kK w.params) mainGlobals "MOST_ASKS"=some (some (.int (40) 345)) by kernel_rfl)
  have m_NoRise:=W.mg_of X G (show W.nsIn (kK w.params) mainGlobals "NoRise"=some (some (.ref 49)) by kernel_rfl)
  have m_NoText:=W.mg_of X G (show W.nsIn (kK w.params) mainGlobals "NoText"=some (some (.ref 73)) by kernel_rfl)
  have m_NotTwoSided:=W.mg_of X G (show W.nsIn (kK w.params) mainGlobals "NotTwoSided"=some (some (.ref 61)) by kernel_rfl)
  have m_PairsError:=W.mg_of X G (show W.nsIn (kK w.params) mainGlobals "PairsError"=some (some (.ref 24)) by kernel_rfl)
  have m_TooMany:=W.mg_of X G (show W.nsIn (kK w.params) mainGlobals "TooMany"=some (some (.ref 37)) by kernel_rfl)
  have x_NoRise:W.excIn (kK w.params) 49 sE "ValueError.__new__"=true:=by kernel_rfl
  have Z_NoRise:l7 (kK w.params) 49:=⟨by kernel_rfl,by kernel_rfl,by kernel_rfl,by kernel_rfl,by kernel_rfl,by kernel_rfl⟩
  have k_PairsError:W.kitOne (kK w.params) (.ref 49) (.ref 24)=some true:=by kernel_rfl
  have k_ValueError:W.kitOne (kK w.params) (.ref 49) (.type "ValueError")=some true:=by kernel_rfl
  have k_TooMany:W.kitOne (kK w.params) (.ref 49) (.ref 37)=some false:=by kernel_rfl
  have k_NoRise:W.kitOne (kK w.params) (.ref 49) (.ref 49)=some true:=by kernel_rfl
  have k_NotTwoSided:W.kitOne (kK w.params) (.ref 49) (.ref 61)=some false:=by kernel_rfl
  have k_NoText:W.kitOne (kK w.params) (.ref 49) (.ref 73)=some false:=by kernel_rfl
  have x2_PairsError:W.exmOne (kK w.params) (.ref 49) (.ref 24)=some true:=by kernel_rfl
  refine⟨W.fnOf "law" "law" (cy j3) (bG j3) (ah j3) .none .none (.none) eQ none (.ref 280) .none,fun s v=>.of_eq rfl,fun base _ _=>?_⟩
  have G_common_divisor:=hR (P:=l.prog) (w:=w) (base:=base) h_common_divisor T
  have G_lowest:=pC (P:=l.prog) (w:=w) (base:=base) h_lowest T h_common_divisor G_common_divisor
  have G_less:=t9 (P:=l.prog) (w:=w) (base:=base) h_less T
  have G_is_number:=lU (P:=l.prog) (w:=w) (base:=base) h_is_number T
  have G_is_number_within:=fX (P:=l.prog) (w:=w) (base:=base) h_is_number_within T h_is_number G_is_number
  have G_is_row_of:=lV (P:=l.prog) (w:=w) (base:=base) h_is_row_of T
  have G_is_fraction:=jQ (P:=l.prog) (w:=w) (base:=base) h_is_fraction T h_is_row_of G_is_row_of h_lowest G_lowest h_is_number G_is_number
  have G_is_chance:=lT (P:=l.prog) (w:=w) (base:=base) h_is_chance T h_is_fraction G_is_fraction m_MOST_BOTTOM
  have G_is_tie_row:=kj (P:=l.prog) (w:=w) (base:=base) h_is_tie_row T h_is_row_of G_is_row_of h_is_chance G_is_chance h_is_number_within G_is_number_within m_MOST_WORTH
  have G_is_ties:=nJ (P:=l.prog) (w:=w) (base:=base) h_is_ties T h_is_tie_row G_is_tie_row m_MOST_TIES
  have G_is_patience:=jR (P:=l.prog) (w:=w) (base:=base) h_is_patience T h_is_row_of G_is_row_of h_is_number_within G_is_number_within m_MOST_PATIENCE
  have G_is_web:=pB (P:=l.prog) (w:=w) (base:=base) h_is_web T h_is_row_of G_is_row_of h_is_ties G_is_ties h_is_patience G_is_patience h_is_number_within G_is_number_within m_MOST_THINGS m_MOST_ASKS
  have G_raised:=pD (P:=l.prog) (w:=w) (base:=base) h_raised T h_less G_less
  have R_raised:=nK (P:=l.prog) (w:=w) (base:=base) h_raised T h_less G_less m_NoRise x_NoRise
  have GLmixed:=rc (P:=l.prog) (w:=w) (base:=base) hLmixed T
  have GLdraws:=q_ (P:=l.prog) (w:=w) (base:=base) hLdraws T hLmixed GLmixed
  have GLnext:=tY (P:=l.prog) (w:=w) (base:=base) hLnext T
  have GLgcd:=wG (P:=l.prog) (w:=w) (base:=base) hLgcd T
  have GLlow:=wH (P:=l.prog) (w:=w) (base:=base) hLlow T hLgcd GLgcd
  have GLless:=tX (P:=l.prog) (w:=w) (base:=base) hLless T
  have GLsame:=tZ (P:=l.prog) (w:=w) (base:=base) hLsame T
  have GLchance:=pA (P:=l.prog) (w:=w) (base:=base) hLchance T hLlow GLlow
  have GLworth:=rh (P:=l.prog) (w:=w) (base:=base) hLworth T
  have GLties:=t5 (P:=l.prog) (w:=w) (base:=base) hLties T hLnext GLnext hLchance GLchance hLworth GLworth
  have GLweb:=wK (P:=l.prog) (w:=w) (base:=base) hLweb T hLties GLties hLnext GLnext
  have GLput:=wJ (P:=l.prog) (w:=w) (base:=base) hLput T
  have GLrefusal:=nH (P:=l.prog) (w:=w) (base:=base) hLrefusal T Z_NoRise m_PairsError k_PairsError k_ValueError m_TooMany k_TooMany m_NoRise k_NoRise m_NotTwoSided k_NotTwoSided m_NoText k_NoText
  have GLchance_from:=jP (P:=l.prog) (w:=w) (base:=base) hLchance_from T hLlow GLlow
  have GLrefused:=nI (P:=l.prog) (w:=w) (base:=base) hLrefused T h_raised R_raised hLrefusal GLrefusal m_PairsError x2_PairsError
  have GLright:=rg (P:=l.prog) (w:=w) (base:=base) hLright T h_raised G_raised hLput GLput hLsame GLsame h_is_web G_is_web
  have G_law:=wL (P:=l.prog) (w:=w) (base:=base) h_law T hLdraws GLdraws hLweb GLweb hLnext GLnext hLlow GLlow hLsame GLsame hLchance_from GLchance_from hLless GLless hLright GLright hLrefused GLrefused
  exact G_law
def zl(K:W.Frag):Sp:=fun vs H Q _=>∃(a:Addr) (ns:List Int),vs=[.ref a]∧eM K H a (ns.map V.int)∧ns.length≤63∧∀H',Q (.bl true) H'
theorem wx{K:W.Frag}{vs:List V}{H:Hp}{Q:VK}{E:XK}(h:zl K vs H Q E):bI K 1 jK vs H Q E:=by
  obtain⟨a,ns,rfl,hS,hl,q⟩:=h
  obtain⟨as',hm⟩:=qR ns hl
  exact nS hS hm q
theorem walk{l:W.OpenLaw}{q:Program}{loose:List Str}{XP:(Str→Option Value)→Heap→Prop}{YP:World→Heap→Prop}{d:DefRec}{K:Params→W.Frag}(hn:l.most=some 63)(hdf:d.params.defaults=[])
    (hY:∀(w:World) (h:Heap),YP w h→(K w.params).In h)
    (F:∀(w:World) (mg:Str→Option Value) (fa:Addr) (h:Heap),(K w.params).In h→h.Ns mainGlobals mg→mg d.name=some (.ref fa)→
      ∃fd:FuncData,(∀(s:Shared) (u:Value),BindsTo s fd ⟨[u],[]⟩ [("_law_script",u)])∧∀base:Heap,(K w.params).In base→base.Ns mainGlobals mg→az l.prog w (K w.params) mg base bz 9 fa fd ["_law_script"] (bI (K w.params) 1 jK)):
    W.WalkO q loose XP YP l.row.toRowW d [] (fun f vs=>PySem.call f vs):=
  L2.walk_of (n:=63) (k:=9) (x:="_law_script") (CX:=fun _=>bz) (sp:=fun w=>bI (K w.params) 1 jK) hn (by decide) hdf ⟨rfl,by decide,by decide,rfl⟩ hY F (fun _ _ a ns hl _ hS=>wx ⟨a,ns,rfl,hS,hl,fun _=>rfl⟩) fun _ _ _ _ _ z=>z
end V77
open PySem PySem.W PyProof.Rows
set_option maxRecDepth 100000 in
set_option maxHeartbeats 0 in
theorem PySem.Challenge.cw_askedpairs_k77_chances_raised_holds : PySem.Challenge.rw_askedpairs_k77_chances_raised.Holds := by
  w_on;o_law
  refine holds_open (q:=V77.kq) (loose:=[]) (Xt:=fun s=>xlAt V77.kq [] s&&recOk (RowW.records (OpenRow.toRowW (OpenLaw.row PySem.Challenge.rw_askedpairs_k77_chances_raised))) s) (XP:=XL V77.kq []) (Yf:=Hook.obs V77.kH) (Ya:=Hook.val V77.kH) (YP:=Hook.says V77.kH) (N:=4330) V77.left (Hook.of V77.kH) (Hook.keeps V77.kH) (fun s e=>xl_of s (Bool.and_eq_true_iff.mp e).1) XL.keeps (by rfl) (by rfl) (by rfl) (fun s e=>recFacts_of (Bool.and_eq_true_iff.mp e).2) (by rfl) (by assumption) (by decide+kernel) ⟨rfl,rfl,rfl,rfl,rfl,by decide+kernel⟩ ?hw ?hc
  case hw=>w_witness2
  case hc=>exact V77.walk (l:=PySem.Challenge.rw_askedpairs_k77_chances_raised) rfl rfl (fun w h Y=>kIn_of Y) (fun w mg fa h KX G hmg=>V77.all_mk KX G hmg)
