import PyProof.Rows.All
import Wide.All
import OpenK.AllK
import Wide.FinOn
import Lean
import PyProof.EqAt
import PyProof.EqKinds
import PyProof.TupleCall
import PyProof.ReprRoads
import PyProof.IsInstance
import PyProof.IsInstanceH
import PyProof.FitsBits
import PyProof.CompFree
import PyProof.Rows.SumAny
import PyProof.Rows.SortShell
import PyProof.Rows.TupAdd
import PyProof.NeKinds
import PyProof.ConsumeWalk
import PyProof.ZipIter
import PyProof.TupleIter
import PyProof.LayNew
import PyProof.CollectWalk
import PyProof.ListNew
import PyProof.Draws
import PyProof.EnumFor
import PyProof.EnumMake
import PyProof.ListRange
import PyProof.CollectIter
import KE.KRevIter
import PyProof.ListMulRoad
import PyProof.TupleOps
import PyProof.TupleOfStr
import PyProof.WalksMore
import PyProof.FactsAll.range_iterator
import PyProof.IsRules
import PyProof.CompUse
import PyProof.P3In
import PyProof.EqLayable
import KE.KIsAll
import PyProof.Rows.FactsN_isinstance
import PyProof.CallStr
import PyProof.Rows.StrWeight2
import PyProof.Rows.FStr
import PyProof.StrLawsRepr
import PyProof.Rows.SetFrom
import KE.KIntText
import KE.KRevSl
import PyProof.Rows.SeqMore2
import PySem.Challenge.RW_askedpairs_k56_asks_enough
set_option Elab.async false
set_option linter.all false
set_option maxRecDepth 100000
namespace L2
open PySem PySem.Spec PyProof.Rows
abbrev gT:=Sum Int Str
def oy:gT→Value→Bool
  | .inl k,v=>Value.isInt k v
  | .inr x,v=>Value.isStrOf x v
def yv(w:World):gT→Int
  | .inl k=>hashInt k
  | .inr x=>hashStr w x
theorem aP:∀{k:gT} {v:Value},oy k v=true→(∃i t,k=Sum.inl i∧v=Value.int i t)∨(∃x t,k=Sum.inr x∧v=Value.str x t)
  | .inl i,v,h=>by
    obtain⟨t,e⟩:=Value.isInt_shape (k:=i) (v:=v) h
    exact .inl ⟨i,t,rfl,e⟩
  | .inr x,v,h=>by
    obtain⟨t,e⟩:=Value.isStrOf_shape (x:=x) (v:=v) h
    exact .inr ⟨x,t,rfl,e⟩
theorem tP(a b:Int):decide ((Sum.inl a:gT)=Sum.inl b)=(a==b):=by
  by_cases e:a=b
  · subst e;simp
  · have h:¬(Sum.inl a:gT)=Sum.inl b:=fun q=>e (Sum.inl.inj q)
    rw [decide_eq_false h]
    exact(beq_eq_false_iff_ne.mpr e).symm
theorem tS(a b:Str):decide ((Sum.inr a:gT)=Sum.inr b)=decide (a=b):=by
  by_cases e:a=b
  · subst e;simp
  · have h:¬(Sum.inr a:gT)=Sum.inr b:=fun q=>e (Sum.inr.inj q)
    rw [decide_eq_false h,decide_eq_false e]
theorem tQ(a:Int)(b:Str):decide ((Sum.inl a:gT)=Sum.inr b)=false:=decide_eq_false (fun q=>nomatch q)
theorem tR(a:Str)(b:Int):decide ((Sum.inr a:gT)=Sum.inl b)=false:=decide_eq_false (fun q=>nomatch q)
def jI(prog:Program)(w:World):PySem.KeyKind prog w gT where
  is:=oy
  hash:=yv w
  inj:=fun v a b ha hb=>by
    rcases aP ha with ⟨i,t,rfl,rfl⟩ | ⟨x,t,rfl,rfl⟩
    · rcases aP hb with ⟨j,u,rfl,e⟩ | ⟨y,u,rfl,e⟩
      · injection e with e1 _;rw [e1]
      · exact nomatch e
    · rcases aP hb with ⟨j,u,rfl,e⟩ | ⟨y,u,rfl,e⟩
      · exact nomatch e
      · injection e with e1 _;rw [e1]
  byValue:=fun k v h=>by
    rcases aP h with ⟨i,t,rfl,rfl⟩ | ⟨x,t,rfl,rfl⟩<;>rfl
  pyHash:=fun hv h=>by
    rcases aP hv with ⟨i,t,rfl,rfl⟩ | ⟨x,t,rfl,rfl⟩
    · exact wpAny_pyHash_int h
    · exact wpAny_pyHash_str h
  eqBool:=fun hu hv h=>by
    rcases aP hu with ⟨i,t,rfl,rfl⟩ | ⟨x,t,rfl,rfl⟩
    · rcases aP hv with ⟨j,u,rfl,rfl⟩ | ⟨y,u,rfl,rfl⟩
      · rw [tP] at h;exact wpAny_eqBool_int h
      · rw [tQ] at h;exact SeqAt.EqAt.int_str i t y u _ _ _ _ h
    · rcases aP hv with ⟨j,u,rfl,rfl⟩ | ⟨y,u,rfl,rfl⟩
      · rw [tR] at h;exact SeqAt.EqAt.str_int x t j u _ _ _ _ h
      · rw [tS] at h;exact wpAny_eqBool_str h
  «strs»:=fun k x t v h=>by
    rcases aP h with ⟨i,u,rfl,e⟩ | ⟨y,u,rfl,e⟩
    · exact nomatch e
    · injection e with e1 _
      subst e1
      cases v<;>rfl
end L2
namespace L2
open PySem PySem.Spec PyProof.Rows
inductive V where
  | non | bl (b:Bool) | int (i:Int) | str (x:Str) | byt (b:Array UInt8) | flt (b:UInt64) | ref (a:Addr) | ty (n:String)
  deriving DecidableEq
def aZ:V→Value→Prop
  | .non,u=>u=Value.none
  | .bl b,u=>u=Value.bool b
  | .int i,u=>∃t,u=Value.int i t
  | .str x,u=>∃t,u=Value.str x t
  | .byt b,u=>∃t,u=Value.bytes b t
  | .flt b,u=>∃t,u=Value.float b t
  | .ref a,u=>u=Value.ref a
  | .ty n,u=>u=Value.type n
abbrev ay:List V→List Value→Prop:=Paired aZ
theorem ay.length{xs:List V}{us:List Value}(r:ay xs us):xs.length=us.length:=Paired.length r
theorem ay.get:∀{xs:List V} {us:List Value} {i:Nat} {x:V},ay xs us→xs[i]?=some x→∃u,us[i]?=some u∧aZ x u
  | _,_,_,_,.nil,e=>by simp at e
  | _,_,0,_,.cons r _,e=>by simp at e;subst e;exact⟨_,rfl,r⟩
  | _,_,i+1,x,.cons _ t,e=>by
    obtain⟨u,h1,h2⟩:=ay.get (i:=i) (x:=x) t (by simpa using e)
    exact⟨u,by simpa using h1,h2⟩
theorem ay.append:∀{xs ys:List V} {us ws:List Value},ay xs us→ay ys ws→ay (xs++ys) (us++ws)
  | _,_,_,_,.nil,s=>s
  | _,_,_,_,.cons r t,s=>.cons r (ay.append t s)
theorem ay.take:∀{xs:List V} {us:List Value} (n:Nat),ay xs us→ay (xs.take n) (us.take n)
  | _,_,0,_=>.nil
  | _,_,_+1,.nil=>.nil
  | _,_,n+1,.cons r t=>.cons r (ay.take n t)
theorem ay.drop:∀{xs:List V} {us:List Value} (n:Nat),ay xs us→ay (xs.drop n) (us.drop n)
  | _,_,0,r=>r
  | _,_,_+1,.nil=>.nil
  | _,_,n+1,.cons _ t=>ay.drop n t
def vM:Option V→Option Value→Prop
  | some v,some u=>aZ v u
  | none,none=>True
  | _,_=>False
def KV{κ:Type}:List (κ × V)→List (κ × Value)→Prop:=Paired fun(p:κ × V) (q:κ × Value)=>p.1=q.1∧aZ p.2 q.2
def kV:gT→V
  | .inl i=>.int i
  | .inr x=>.str x
inductive HO where
  /-- a list -/
  | lst (xs:List V)
  /-- a tuple (never changes) -/
  | tup (xs:List V)
  /-- a dict whose keys are ints and texts; one whose keys are tuples of ints and texts (the empty one is both) -/
  | dK (kvs:List (gT × V)) | dT (kvs:List (List gT × V))
  /-- a set of ints: its members, its size -/
  | set (S:Int→Bool) (n:Nat)
  /-- an instance of the class at C, its dict at dx, its attributes -/
  | ins (C dx:Addr) (fs:List (Str × V))
  /-- the dict of the instance at x -/
  | own (x:Addr)
  /-- the dict of an exception -/
  | xd (fs:List (Str × V))
  /-- a bound method, f of x -/
  | met (f x:Addr)
  /-- a range object lo, lo + 1, .. below hi -/
  | rng (lo hi:Int)
  /-- a thing that is known to the object (the script; a dict while a loop walks it): read, never written while it is so -/
  | frz (o:Obj) (u:HO)
  /-- a code object's table -/
  | tbl (ps:Array Value)
  /-- any other thing, by what is true of its one object (a def of one's own: SetO a S n := HO.ext fun h => ..) -/
  | ext (φ:Heap→Prop)
abbrev Hp:=Addr→Option HO
def aF(H:Hp)(a:Addr)(o:HO):Hp:=fun b=>if b=a then some o else H b
theorem aq{H:Hp}{a:Addr}{o:HO}:aF H a o a=some o:=by unfold aF;rw [if_pos rfl]
theorem av{H:Hp}{a b:Addr}{o:HO}(h:b≠a):aF H a o b=H b:=by unfold aF;rw [if_neg h]
theorem b7{H:Hp}{a b:Addr}{o:HO}(h:H a=some o)(h':H b=none):a≠b:=by
  intro e;subst e;rw [h] at h';cases h'
def gS(h:Heap)(a:Addr)(items:Array Value):Prop:=∃o,h.get? a=some o∧o.cls=.type "tuple"∧∃n,o.data=.seq items n∧o.dict=none
theorem gS.tup{h:Heap}{a:Addr}{items:Array Value}(x:gS h a items):IsTup h a items:=let ⟨o,ho,hc,n,hd,_⟩:=x;⟨o,ho,hc,n,hd⟩
theorem gS.new(h:Heap)(items:Array Value):gS (h.push {cls:=.type "tuple",data:=.seq items}) h.objs.size items:=⟨_,Heap.get?_push_size _ rfl,rfl,_,rfl,rfl⟩
section
variable(P:Program)(w:World)
def cU(H:Hp)(h:Heap)(a:Addr):HO→Prop
  | .lst xs=>xs.length≤sizeLine∧∃(its:List Value) (n:Nat),ay xs its∧h.get? a=some {cls:=.type "list",data:=.seq its.toArray n}
  | .tup xs=>xs.length≤sizeLine∧∃its:List Value,ay xs its∧gS h a its.toArray
  | .dK kvs=>kvs.length≤sizeLine∧(a==sysModules)=false∧∃vs,KV kvs vs∧h.DictOf (jI P w) a vs
  | .dT kvs=>kvs.length≤sizeLine∧(a==sysModules)=false∧∃xs:List (List gT × Addr × Value),
      Paired (fun(p:List gT × V) (q:List gT × Addr × Value)=>p.1=q.1∧H q.2.1=some (.tup (p.1.map kV))∧aZ p.2 q.2.2) kvs xs∧
      ∃o es ep,h.get? a=some o∧o.ExactDict∧o.data=.dict es ep∧es.toList=xs.map (entryOfKey (tupleKind (jI P w)))∧(xs.map (·.1)).Nodup
  | .set S n=>h.SetOf (intKind P w) a S n
  | .ins C dx fs=>H dx=some (.own a)∧fs.length≤1000∧dx≠a∧h.get? a=some (PySem.W.instObj C dx)∧
      ∃mA,h.Ns1 dx mA∧(∀f,vM (fs.lookup f) (mA f))∧PySem.Within mA (fs.map (·.1))
  | .own _=>∃o,h.get? a=some o
  | .xd fs=>∃mA,h.Ns1 a mA∧∀f,vM (fs.lookup f) (mA f)
  | .rng lo hi=>∃t u v,h.get? a=some {cls:=.type "range",data:=.fields #[.int lo t,.int hi u,.int 1 v]}
  | .frz o u=>h.get? a=some o∧cU H h a u
  | .tbl ps=>h.get? a=some {cls:=.none,data:=.fields ps}
  | .met f x=>h.get? a=some (PySem.W.methodObj (.ref f) (.ref x))
  | .ext φ=>φ h∧(∃o,h.get? a=some o)∧∀h1 h2:Heap,φ h1→(∀o,h1.get? a=some o→h2.get? a=some o)→φ h2
def gR(H:Hp)(h:Heap):Prop:=∀a o,H a=some o→cU P w H h a o
end
section
variable{P:Program}{w:World}{H H':Hp}{h h':Heap}{a:Addr}{o:HO}
theorem cU.lt(x:cU P w H h a o):a < h.objs.size:=by
  cases o with
  | lst xs=>obtain⟨_,_,_,_,e⟩:=x;exact Heap.lt_size e
  | tup xs=>obtain⟨_,_,_,p⟩:=x;exact p.tup.lt
  | dK kvs=>obtain⟨_,_,_,_,o,_,_,e,_⟩:=x;exact Heap.lt_size e
  | dT kvs=>obtain⟨_,_,_,_,o,_,_,e,_⟩:=x;exact Heap.lt_size e
  | set S n=>obtain⟨o,_,_,_,e,_⟩:=x;exact Heap.lt_size e
  | ins C dx fs=>obtain⟨_,_,_,e,_⟩:=x;exact Heap.lt_size e
  | own y=>obtain⟨_,e⟩:=x;exact Heap.lt_size e
  | xd fs=>obtain⟨_,⟨_,_,_,e,_⟩,_⟩:=x;exact Heap.lt_size e
  | rng lo hi=>obtain⟨_,_,_,e⟩:=x;exact Heap.lt_size e
  | frz ob u=>obtain⟨e,_⟩:=x;exact Heap.lt_size e
  | tbl ps=>exact Heap.lt_size (show h.get? a=some _ from x)
  | met f y=>exact Heap.lt_size (show h.get? a=some _ from x)
  | ext φ=>obtain⟨_,⟨_,e⟩,_⟩:=x;exact Heap.lt_size e
theorem Paired.mapP{α β:Type}{F G:α→β→Prop}:∀{l₁:List α} {l₂:List β},Paired F l₁ l₂→(∀a b,F a b→G a b)→Paired G l₁ l₂
  | _,_,.nil,_=>.nil
  | _,_,.cons r t,f=>.cons (f _ _ r) (Paired.mapP t f)
theorem cU.stay(x:cU P w H h a o)(k:∀b u,(b=a∨H b=some (.own a))→h.get? b=some u→h'.get? b=some u)
    (ho:∀b,H b=some (.own a)→H' b=some (.own a))(ht:∀b xs,H b=some (.tup xs)→H' b=some (.tup xs)):cU P w H' h' a o:=by
  induction o with
  | lst xs=>obtain⟨z,its,n,r,e⟩:=x;exact⟨z,its,n,r,k _ _ (.inl rfl) e⟩
  | tup xs=>obtain⟨z,its,r,ob,e,c⟩:=x;exact⟨z,its,r,ob,k _ _ (.inl rfl) e,c⟩
  | dK kvs=>obtain⟨z,y,vs,r,ob,es,ep,e,c⟩:=x;exact⟨z,y,vs,r,ob,es,ep,k _ _ (.inl rfl) e,c⟩
  | dT kvs=>
    obtain⟨z,y,xs,r,ob,es,ep,e,c⟩:=x
    exact⟨z,y,xs,Paired.mapP r fun p q z=>⟨z.1,ht _ _ z.2.1,z.2.2⟩,ob,es,ep,k _ _ (.inl rfl) e,c⟩
  | set S n=>obtain⟨ob,es,ep,t,e,c⟩:=x;exact⟨ob,es,ep,t,k _ _ (.inl rfl) e,c⟩
  | ins C dx fs=>
    obtain⟨d,z,ne,e,mA,⟨od,es,ep,e2,c⟩,r⟩:=x
    exact⟨ho _ d,z,ne,k _ _ (.inl rfl) e,mA,⟨od,es,ep,k _ _ (.inr d) e2,c⟩,r⟩
  | own y=>obtain⟨ob,e⟩:=x;exact⟨ob,k _ _ (.inl rfl) e⟩
  | xd fs=>obtain⟨mA,⟨od,es,ep,e,c⟩,r⟩:=x;exact⟨mA,⟨od,es,ep,k _ _ (.inl rfl) e,c⟩,r⟩
  | rng lo hi=>obtain⟨t,u,v,e⟩:=x;exact⟨t,u,v,k _ _ (.inl rfl) e⟩
  | frz ob u ih=>obtain⟨e,q⟩:=x;exact⟨k _ _ (.inl rfl) e,ih q⟩
  | tbl ps=>
    have e:h.get? a=some {cls:=.none,data:=.fields ps}:=x
    show h'.get? a=some {cls:=.none,data:=.fields ps}
    exact k a _ (.inl rfl) e
  | met f y=>
    have e:h.get? a=some (PySem.W.methodObj (.ref f) (.ref y)):=x
    show h'.get? a=some (PySem.W.methodObj (.ref f) (.ref y))
    exact k a _ (.inl rfl) e
  | ext φ=>obtain⟨p,⟨o,e⟩,st⟩:=x;exact⟨st _ _ p fun o q=>k _ _ (.inl rfl) q,⟨o,k _ _ (.inl rfl) e⟩,st⟩
theorem gR.lt(x:gR P w H h)(e:H a=some o):a < h.objs.size:=(x a o e).lt
theorem gR.fresh(x:gR P w H h)(e:h.objs.size≤a):H a=none:=by
  cases q:H a with
  | none=>rfl
  | some u=>exact absurd (Nat.lt_of_lt_of_le (x.lt q) e) (Nat.lt_irrefl _)
theorem gR.kept(x:gR P w H h)(k:∀b u,h.get? b=some u→h'.get? b=some u):gR P w H h':=fun a o e=>
  (x a o e).stay (fun b u _ q=>k b u q) (fun _ q=>q) fun _ _ q=>q
theorem gR.laid(x:gR P w H h)(k:∀b u,h.get? b=some u→h'.get? b=some u)(hp:h.objs.size≤a)(new:cU P w (aF H a o) h' a o):gR P w (aF H a o) h':=fun b u e=>by
  have hn:=x.fresh hp
  by_cases hb:b=a
  · subst hb;rw [aq] at e;cases e;exact new
  · rw [av hb] at e
    exact(x b u e).stay (fun c v _ q=>k c v q) (fun c q=>by rw [av (b7 q hn)];exact q) fun c xs q=>by rw [av (b7 q hn)];exact q
end
def Rd(H:Hp)(a:Addr)(u:HO):Prop:=H a=some u∨∃o,H a=some (.frz o u)
theorem Rd.ok{P:Program}{w:World}{H:Hp}{h:Heap}{a:Addr}{u:HO}(r:Rd H a u)(x:gR P w H h):cU P w H h a u:=by
  rcases r with r | ⟨o,r⟩
  · exact x a u r
  · obtain⟨_,q⟩:=x a _ r
    exact q
def xQ:Option HO→Prop
  | some (.lst _)=>True
  | some (.dK _)=>True
  | some (.dT _)=>True
  | some (.set _ _)=>True
  | some (.ins _ _ _)=>True
  | some (.ext _)=>True
  | _=>False
section
variable{P:Program}{w:World}{H:Hp}{h h':Heap}{x e:Addr}{o':HO}
theorem gR.write(ok:gR P w H h)(mu:xQ (H x))(he:e=x∨H e=some (.own x))(k:∀b u,b≠e→h.get? b=some u→h'.get? b=some u)(heo:∃u,h'.get? e=some u)
    (new:cU P w (aF H x o') h' x o'):gR P w (aF H x o') h':=fun b u q=>by
  have nown:∀c y,H c=some (.own y)→c≠x:=fun c y r z=>by subst z;rw [r] at mu;exact mu
  have ntup:∀c xs,H c=some (.tup xs)→c≠x:=fun c xs r z=>by subst z;rw [r] at mu;exact mu
  by_cases hb:b=x
  · subst hb;rw [aq] at q;cases q;exact new
  · rw [av hb] at q
    by_cases hbe:b=e
    · have q':H b=some (.own x):=by
        rcases he with z | z
        · exact absurd (hbe.trans z) hb
        · rw [hbe];exact z
      rw [q] at q';cases q'
      obtain⟨v,hv⟩:=heo
      exact⟨v,by rw [hbe];exact hv⟩
    · refine(ok b u q).stay (fun c v hc r=>k c v ?_ r) (fun c r=>by rw [av (nown c b r)];exact r) fun c xs r=>by rw [av (ntup c xs r)];exact r
      rcases hc with rfl | hc
      · exact hbe
      · rintro rfl
        rcases he with z | z
        · exact nown c b hc z
        · rw [hc] at z;cases z;exact hb rfl
end
structure Un (fs ex:List Addr) (H H':Hp) (h h':Heap):Prop where
  keep:∀b o,h.get? b=some o→H b=none→b∉fs→b∉ex→h'.get? b=some o
  slot:∀b o,h.get? b=some o→H b=none→b∈fs→b∉ex→∃sl,h'.get? b=some {o with slots:=sl}
  free:∀b o,h.get? b=some o→H b=none→b∉ex→H' b=none
  there:∀b o,h.get? b=some o→b∉ex→∃o',h'.get? b=some o'
  tups:∀b xs,H b=some (.tup xs)→H' b=some (.tup xs)
  frzs:∀b o u,H b=some (.frz o u)→H' b=some (.frz o u)
  tbls:∀b ps,H b=some (.tbl ps)→∃more,H' b=some (.tbl (ps++more))
section
variable{fs fs' ex ex':List Addr}{H H1 H2:Hp}{h h1 h2 h':Heap}{a x e:Addr}{o:HO}
theorem Un.any(u:Un fs ex H H1 h h1){b:Addr}{ob:Obj}(q:h.get? b=some ob)(n:H b=none)(hx:b∉ex):∃sl,h1.get? b=some {ob with slots:=sl}:=by
  by_cases hb:b∈fs
  · exact u.slot b ob q n hb hx
  · exact⟨ob.slots,u.keep b ob q n hb hx⟩
theorem Un.kept(k:∀b u,h.get? b=some u→h'.get? b=some u):Un fs ex H H h h':=
  ⟨fun b ob q _ _ _=>k b ob q,fun b ob q _ _ _=>⟨ob.slots,k b ob q⟩,fun _ _ _ n _=>n,fun b ob q _=>⟨ob,k b ob q⟩,fun _ _ q=>q,fun _ _ _ q=>q,fun _ ps q=>⟨#[],by rw [q];simp⟩⟩
theorem Un.refl:Un fs ex H H h h:=Un.kept fun _ _ q=>q
theorem Un.laid(k:∀b u,h.get? b=some u→h'.get? b=some u)(hp:h.objs.size≤a)(hn:H a=none):Un fs ex H (aF H a o) h h' where
  keep:=fun b u q _ _ _=>k b u q
  slot:=fun b u q _ _ _=>⟨u.slots,k b u q⟩
  free:=fun b u q n _=>by rw [av (Nat.ne_of_lt (Nat.lt_of_lt_of_le (Heap.lt_size q) hp))];exact n
  there:=fun b u q _=>⟨u,k b u q⟩
  tups:=fun b xs q=>by rw [av (b7 q hn)];exact q
  frzs:=fun b u xs q=>by rw [av (b7 q hn)];exact q
  tbls:=fun b ps q=>⟨#[],by rw [av (b7 q hn),q];simp⟩
theorem Un.write(mu:xQ (H x))(he:e=x∨H e=some (.own x))(k:∀b u,b≠e→h.get? b=some u→h'.get? b=some u)(heo:∃u,h'.get? e=some u):Un fs ex H (aF H x o) h h':=by
  have hx:∀b,H b=none→b≠x:=fun b n z=>by subst z;rw [n] at mu;exact mu
  have hb:∀b,H b=none→b≠e:=fun b n z=>by
    subst z
    rcases he with r | r
    · exact hx b n r
    · rw [n] at r;cases r
  have hm:∀b u,H b=some u→¬xQ (some u)→b≠x:=fun b u q nm z=>by subst z;rw [q] at mu;exact nm mu
  refine⟨fun b u q n _ _=>k b u (hb b n) q,fun b u q n _ _=>⟨u.slots,k b u (hb b n) q⟩,fun b u q n _=>by rw [av (hx b n)];exact n,fun b u q _=>?_,
    fun b xs q=>by rw [av (hm b _ q fun z=>z)];exact q,fun b u xs q=>by rw [av (hm b _ q fun z=>z)];exact q,fun b ps q=>⟨#[],by rw [av (hm b _ q fun z=>z),q];simp⟩⟩
  by_cases hbe:b=e
  · subst hbe;exact heo
  · exact⟨u,k b u hbe q⟩
end
def x5(h:Heap)(H:Hp):List Addr:=(List.range h.objs.size).filter fun a=>(H a).isSome
def jD(h:Heap)(H:Hp):Heap:=PySem.W.hideAll h (x5 h H)
theorem mT(h:Heap)(H:Hp):(jD h H).objs.size=h.objs.size:=PySem.W.hideAll_size _ _
theorem oo{h:Heap}{H:Hp}{b:Addr}{o:Obj}(e:h.get? b=some o)(n:H b=none):(jD h H).get? b=some o:=
  PySem.W.hideAll_get _ e fun hm=>by
    have q:(H b).isSome=true:=(List.mem_filter.mp hm).2
    rw [n] at q;simp at q
theorem qB{h:Heap}{H:Hp}{b:Addr}{o:Obj}(e:(jD h H).get? b=some o):h.get? b=some o∧H b=none:=by
  have e':h.get? b=some o:=PySem.W.of_hideAll (x5 h H) e
  refine⟨e',?_⟩
  cases q:H b with
  | none=>rfl
  | some x=>
    have hm:b∈x5 h H:=List.mem_filter.mpr ⟨List.mem_range.mpr (Heap.lt_size e'),by simp [q]⟩
    have z:(jD h H).get? b=none:=PySem.W.hideAll_none (x5 h H) hm
    rw [z] at e;cases e
def js(g h:Heap)(L:Addr):List (Addr × Obj):=(List.range h.objs.size).filterMap fun a=>if a=L∨(g.get? a).isSome=true then none else(h.get? a).map fun o=>(a,o)
theorem ie{g h:Heap}{L:Addr}{p:Addr × Obj}(hp:p∈js g h L):p.1≠L∧g.get? p.1=none∧h.get? p.1=some p.2:=by
  obtain⟨b,_,e⟩:=List.mem_filterMap.mp hp
  split at e
  · cases e
  · rename_i hn
    cases q:h.get? b with
    | none=>rw [q] at e;simp at e
    | some u=>
      rw [q] at e
      simp only [Option.map_some,Option.some.injEq] at e
      subst e
      refine⟨fun z=>hn (.inl z),?_,q⟩
      show g.get? b=none
      cases r:g.get? b with
      | none=>rfl
      | some v=>exact(hn (.inr (by simp [r]))).elim
def c7(g h:Heap)(L d:Addr):List (Addr × Obj):=(js g h L).filter fun p=>decide (p.1≠d)
theorem oJ{g h:Heap}{L:Addr}:News g L h (js g h L):=fun p hp=>let ⟨a,b,c⟩:=ie hp;⟨c,a,b⟩
end L2
namespace L2
open PySem PySem.Spec PyProof.Rows
structure Mod (K:PySem.W.Frag) (mg:Str→Option Value) (base:Heap):Prop where
  kin:K.In base
  glob:base.Ns mainGlobals mg
  blt:∃mb,base.Ns builtinsNs mb∧∀x:Str,x≠"__name__"→mb x=bootBuiltins x
  nolimit:base.NoLimit
structure Cx where
  prog:Program
  w:World
  K:PySem.W.Frag
  mg:Str→Option Value
  base:Heap
  A:Around
  N:List Str
  s₀:Shared
  H₀:Hp
  env:Env
  outer:List Env
  stack:List Env
  ex:List Addr
  fn:Str→Bool
  calm:Bool
  pn:List (Addr × Obj)
  xe:Value→Shared→Prop
def nS(l:List Env):List Addr:=l.filterMap (·.frame)
abbrev Cx.fs(X:Cx):List Addr:=nS X.outer
def vP(sc:Scope)(x:Str):Prop:=sc.names.lookup x=some .local∨sc.names.lookup x=some .cell∨sc.names.lookup x=some .free
def vB(sc:Scope)(x:Str):Prop:=sc.names.lookup x=some .local∨sc.names.lookup x=some .cell
def ya(env:Env)(h:Heap)(m:Str→Option Value)(x:Str)(u:Value):Prop:=
  (env.kindOf x=some .local∧m x=some u)∨((env.kindOf x=some .cell∨env.kindOf x=some .free)∧∃c,env.cells.lookup x=some c∧h.IsCell c (some u))
structure Cx.Ok (X:Cx):Prop where
  mod:Mod X.K X.mg X.base
  kind:X.env.scope.kind=.function
  glob:X.env.globals=mainGlobals
  blt:X.env.builtins=builtinsNs
  above:X.s₀.heap.objs.size≤X.env.locals
  inj:∀x y c,X.env.cells.lookup x=some c→X.env.cells.lookup y=some c→x=y
  has:∀x,(X.env.kindOf x=some .cell∨X.env.kindOf x=some .free)→∃c,X.env.cells.lookup x=some c
  cab:∀x c,X.fn x=true→X.env.cells.lookup x=some c→X.s₀.heap.objs.size≤c
  hd:X.calm=true→X.A.handled=none
  frames:X.A.frames=some X.stack
  stk:X.stack=X.outer∨(X.stack=X.env::X.outer∧X.env.frame=some X.env.locals)
  exf:∀b∈X.ex,b≠X.env.locals∧∀x c,X.env.cells.lookup x=some c→c≠b
  bs:∀b o,X.base.get? b=some o→X.s₀.heap.get? b=some o∧X.H₀ b=none
  bsz:X.base.objs.size≤X.s₀.heap.objs.size
  noex:∀b o,X.base.get? b=some o→b∉X.ex
  exfs:∀b∈X.ex,b∉X.fs
  funs:X.s₀.heap.FunFrames X.base X.outer
  frf:∀b∈X.fs,X.H₀ b=none
structure ao (X:Cx) (pins:List (Addr × Obj)) (σ:List (Option V)) (H:Hp) (s:Shared):Prop where
  ok:X.Ok
  os:s.os=X.s₀.os
  bare:AllBare s.gens
  base:Un X.fs X.ex X.H₀ H X.s₀.heap s.heap
  loc:∃m,s.heap.Ns X.env.locals m∧∀(i:Nat) (x:Str) (v:V),X.N[i]?=some x→σ[i]?=some (some v)→vP X.env.scope x→∃u,aZ v u∧ya X.env s.heap m x u
  cell:∀x c,X.env.cells.lookup x=some c→∃v,s.heap.IsCell c v
  free:H X.env.locals=none
  freeC:∀x c,X.env.cells.lookup x=some c→H c=none
  pin:∀p∈X.pn++pins,s.heap.get? p.1=some p.2∧H p.1=none∧p.1≠X.env.locals∧p.1∉X.fs∧∀v,p.2.data≠.cell v
  hok:gR X.prog X.w H s.heap
  len:σ.length=X.N.length
section
variable{X:Cx}{pins:List (Addr × Obj)}{σ:List (Option V)}{H H':Hp}{s:Shared}{h':Heap}
theorem Cx.Ok.nofr(ok:X.Ok){b:Addr}{o:Obj}(e:X.base.get? b=some o):b∉X.fs:=fun hb=>by
  have:=(ok.funs.mem hb).1
  rw [e] at this;cases this
theorem ao.bs(I:ao X pins σ H s):∀b o,X.base.get? b=some o→s.heap.get? b=some o∧H b=none:=fun b o e=>
  ⟨I.base.keep b o (I.ok.bs b o e).1 (I.ok.bs b o e).2 (I.ok.nofr e) (I.ok.noex b o e),I.base.free b o (I.ok.bs b o e).1 (I.ok.bs b o e).2 (I.ok.noex b o e)⟩
theorem ao.bk(I:ao X pins σ H s):∀b o,X.base.get? b=some o→s.heap.get? b=some o:=fun b o e=>(I.bs b o e).1
theorem ao.mod(I:ao X pins σ H s):Mod X.K X.mg X.base:=I.ok.mod
theorem ao.kIn(I:ao X pins σ H s):X.K.In s.heap:=I.ok.mod.kin.keeps I.bk
theorem ao.fr(I:ao X pins σ H s):∃m,Fr X.base X.env.locals s.heap m:=
  let ⟨m,hn,_⟩:=I.loc
  ⟨m,hn,I.bk,Nat.le_trans I.ok.bsz I.ok.above⟩
theorem ao.lt(I:ao X pins σ H s):X.env.locals < s.heap.objs.size:=let ⟨_,hn,_⟩:=I.loc;hn.lt
theorem ao.sz(I:ao X pins σ H s):X.s₀.heap.objs.size≤s.heap.objs.size:=Nat.le_trans I.ok.above (Nat.le_of_lt I.lt)
theorem ao.nofs(I:ao X pins σ H s){a:Addr}(h:s.heap.objs.size≤a):a∉X.fs:=fun hb=>by
  obtain⟨_,o,ho,_⟩:=I.ok.funs.mem hb
  exact absurd (Nat.lt_of_lt_of_le (Heap.lt_size ho) (Nat.le_trans I.sz h)) (Nat.lt_irrefl _)
theorem ao.cne(I:ao X pins σ H s):∀x c,X.env.cells.lookup x=some c→c≠X.env.locals:=fun x c e z=>by
  obtain⟨v,o,ho,hd⟩:=I.cell x c e
  obtain⟨m,⟨o',es,ep,ho',hd',_⟩,_⟩:=I.loc
  rw [z,ho'] at ho;cases ho;rw [hd'] at hd;cases hd
theorem ao.funs(I:ao X pins σ H s):s.heap.FunFrames X.base X.outer:=by
  have all:∀(l:List Env),(∀b∈nS l,b∈X.fs)→X.s₀.heap.FunFrames X.base l→s.heap.FunFrames X.base l:=by
    intro l
    induction l with
    | nil=>intro _ _;trivial
    | cons env r ih=>
      intro hs hl
      obtain⟨hk,⟨L,o,hf,hn,ho,hd⟩,hr⟩:=hl
      have hL:L∈X.fs:=hs L (by unfold nS;rw [List.filterMap_cons,hf];exact List.mem_cons_self)
      obtain⟨sl,e⟩:=I.base.slot L o ho (I.ok.frf L hL) hL fun z=>I.ok.exfs L z hL
      exact⟨hk,⟨L,_,hf,hn,e,hd⟩,ih (fun b hb=>hs b (by unfold nS;rw [List.filterMap_cons,hf];exact List.mem_cons_of_mem _ hb)) hr⟩
  exact all X.outer (fun _ hb=>hb) I.ok.funs
theorem ao.stack(I:ao X pins σ H s):s.heap.FunFrames X.base X.stack:=by
  rcases I.ok.stk with e | ⟨e,hf⟩
  · rw [e];exact I.funs
  · rw [e]
    obtain⟨m,hn,_⟩:=I.loc
    refine .cons (by rw [I.ok.kind];decide) hf hn ?_ I.funs
    exact Heap.get?_none_of_le (Nat.le_trans I.ok.bsz I.ok.above)
theorem ao.stkSub(I:ao X pins σ H s):∀b∈nS X.stack,b∈X.env.locals::X.fs:=fun b hb=>by
  rcases I.ok.stk with e | ⟨e,hf⟩
  · rw [e] at hb;exact List.mem_cons_of_mem _ hb
  · rw [e] at hb
    unfold nS at hb
    rw [List.filterMap_cons,hf] at hb
    exact hb
theorem ao.stkFree(I:ao X pins σ H s):∀b∈nS X.stack,H b=none:=fun b hb=>by
  rcases List.mem_cons.mp (I.stkSub b hb) with e | hb
  · rw [e];exact I.free
  · obtain⟨_,o,ho,_⟩:=I.ok.funs.mem hb
    exact I.base.free b o ho (I.ok.frf b hb) fun z=>I.ok.exfs b z hb
theorem ao.step{g':Array GenState}{t':Nat}{d':Drawn}{ch:List Addr}(I:ao X pins σ H s)
    (hch:∀b∈ch,(b∈X.ex∨X.s₀.heap.objs.size≤b)∧b≠X.env.locals∧(∀x c,X.env.cells.lookup x=some c→c≠b)∧∀p∈X.pn++pins,p.1≠b)
    (keep:∀b o,b≠X.env.locals→b∉X.fs→b∉ch→s.heap.get? b=some o→H b=none→h'.get? b=some o)
    (slot:∀b o,b≠X.env.locals→b∈X.fs→b∉ch→s.heap.get? b=some o→H b=none→∃sl,h'.get? b=some {o with slots:=sl})(free:∀b o,b∉ch→s.heap.get? b=some o→H b=none→H' b=none)
    (there:∀b o,b∉ch→s.heap.get? b=some o→∃o',h'.get? b=some o')
    (tups:∀b xs,H b=some (.tup xs)→H' b=some (.tup xs))(frzs:∀b o u,H b=some (.frz o u)→H' b=some (.frz o u))(tbls:∀b ps,H b=some (.tbl ps)→∃more,H' b=some (.tbl (ps++more)))
    (ns:∀m,s.heap.Ns X.env.locals m→h'.Ns X.env.locals m)(hok:gR X.prog X.w H' h')(hg:AllBare g'):
    ao X pins σ H' {s with heap:=h',gens:=g',drawn:=d',toks:=t'}:=by
  have neL:∀b o,X.s₀.heap.get? b=some o→b≠X.env.locals:=fun b o e=>Nat.ne_of_lt (Nat.lt_of_lt_of_le (Heap.lt_size e) I.ok.above)
  have neC:∀b o,X.s₀.heap.get? b=some o→b∉X.ex→b∉ch:=fun b o e hx hb=>by
    rcases(hch b hb).1 with z | z
    · exact hx z
    · exact absurd (Nat.lt_of_lt_of_le (Heap.lt_size e) z) (Nat.lt_irrefl _)
  have cellK:∀x c,X.env.cells.lookup x=some c→∀v,s.heap.IsCell c v→h'.IsCell c v:=fun x c e v ⟨o,ho,hd⟩=>by
    have nch:c∉ch:=fun z=>(hch c z).2.2.1 x c e rfl
    by_cases hc:c∈X.fs
    · obtain⟨sl,q⟩:=slot c o (I.cne x c e) hc nch ho (I.freeC x c e)
      exact⟨_,q,hd⟩
    · exact⟨o,keep c o (I.cne x c e) hc nch ho (I.freeC x c e),hd⟩
  refine⟨I.ok,I.os,hg,⟨fun b o e n hb hx=>?_,fun b o e n hb hx=>?_,fun b o e n hx=>?_,fun b o e hx=>?_,fun b xs e=>tups b xs (I.base.tups b xs e),fun b o xs e=>frzs b o xs (I.base.frzs b o xs e),fun b ps e=>?_⟩,?_,fun x c e=>?_,?_,fun x c e=>?_,fun p hp=>?_,hok,I.len⟩
  · exact keep b o (neL b o e) hb (neC b o e hx) (I.base.keep b o e n hb hx) (I.base.free b o e n hx)
  · obtain⟨sl,e1⟩:=I.base.slot b o e n hb hx
    obtain⟨sl',e2⟩:=slot b _ (neL b o e) hb (neC b o e hx) e1 (I.base.free b o e n hx)
    exact⟨sl',e2⟩
  · obtain⟨o',e1⟩:=I.base.there b o e hx
    exact free b o' (neC b o e hx) e1 (I.base.free b o e n hx)
  · obtain⟨o',e1⟩:=I.base.there b o e hx
    exact there b o' (neC b o e hx) e1
  · obtain⟨m1,e1⟩:=I.base.tbls b ps e
    obtain⟨m2,e2⟩:=tbls b _ e1
    exact⟨m1++m2,by rw [e2,Array.append_assoc]⟩
  · obtain⟨m,hn,hl⟩:=I.loc
    refine⟨m,ns m hn,fun i x v e1 e2 e3=>?_⟩
    obtain⟨u,r,l⟩:=hl i x v e1 e2 e3
    refine⟨u,r,?_⟩
    rcases l with l | ⟨k,c,e,z⟩
    · exact .inl l
    · exact .inr ⟨k,c,e,cellK x c e _ z⟩
  · obtain⟨v,z⟩:=I.cell x c e
    exact⟨v,cellK x c e v z⟩
  · obtain⟨m,⟨o,_,_,ho,_⟩,_⟩:=I.loc
    exact free _ o (fun z=>(hch _ z).2.1 rfl) ho I.free
  · obtain⟨v,o,ho,hd⟩:=I.cell x c e
    exact free c o (fun z=>(hch c z).2.2.1 x c e rfl) ho (I.freeC x c e)
  · obtain⟨e,n,ne,nf,d⟩:=I.pin p hp
    have nch:p.1∉ch:=fun z=>(hch p.1 z).2.2.2 p hp rfl
    exact⟨keep p.1 p.2 ne nf nch e n,free p.1 p.2 nch e n,ne,nf,d⟩
theorem ao.un{t':Nat}(I:ao X pins σ H s)(u:Un X.fs [] H H' s.heap h')(hok:gR X.prog X.w H' h'):ao X pins σ H' {s with heap:=h',toks:=t'}:=by
  obtain⟨m,⟨o,es,ep,ho,r⟩,_⟩:=id I.loc
  obtain⟨sl,hL⟩:=u.any ho I.free (by simp)
  exact I.step (g':=s.gens) (d':=s.drawn) (ch:=[]) (fun _ z=>nomatch z) (fun b o _ hb _ e n=>u.keep b o e n hb (by simp)) (fun b o _ hb _ e n=>u.slot b o e n hb (by simp)) (fun b o _ e n=>u.free b o e n (by simp)) (fun b o _ e=>u.there b o e (by simp)) u.tups u.frzs u.tbls (fun m' hm=>by
    obtain⟨o',es',ep',ho',r'⟩:=hm
    rw [ho] at ho';cases ho'
    exact⟨_,es',ep',hL,r'⟩) hok I.bare
theorem ao.call{g':Array GenState}{t':Nat}{d':Drawn}{ch:List Addr}(I:ao X pins σ H s)(u:Un (nS X.stack) ch H H' s.heap h')(hok:gR X.prog X.w H' h')(hg:AllBare g')
    (hch:∀b∈ch,(b∈X.ex∨X.s₀.heap.objs.size≤b)∧b≠X.env.locals∧(∀x c,X.env.cells.lookup x=some c→c≠b)∧∀p∈X.pn++pins,p.1≠b):
    ao X pins σ H' {s with heap:=h',gens:=g',drawn:=d',toks:=t'}:=by
  obtain⟨m,⟨o,es,ep,ho,r⟩,_⟩:=id I.loc
  obtain⟨sl,hL⟩:=u.any ho I.free fun z=>(hch _ z).2.1 rfl
  exact I.step (ch:=ch) hch (fun b o hL hb hc e n=>u.keep b o e n (fun z=>(List.mem_cons.mp (I.stkSub b z)).elim hL hb) hc) (fun b o _ _ hc e n=>u.any e n hc) (fun b o hc e n=>u.free b o e n hc) (fun b o hc e=>u.there b o e hc) u.tups u.frzs u.tbls (fun m' hm=>by
    obtain⟨o',es',ep',ho',r'⟩:=hm
    rw [ho] at ho';cases ho'
    exact⟨_,es',ep',hL,r'⟩) hok hg
theorem ao.turned{t':Nat}{it:Addr}(I:ao X pins σ H s)(k:∀b o,b≠it→s.heap.get? b=some o→h'.get? b=some o)(hn:H it=none)(hL:it≠X.env.locals)
    (h1:it∈X.ex∨X.s₀.heap.objs.size≤it)(h2:∀x c,X.env.cells.lookup x=some c→c≠it)(h3:∀p∈X.pn++pins,p.1≠it):ao X pins σ H {s with heap:=h',toks:=t'}:=by
  have nit:∀b u,H b=some u→b≠it:=fun b u e z=>by rw [z,hn] at e;cases e
  refine I.step (g':=s.gens) (d':=s.drawn) (ch:=[it]) (fun b hb=>?_) (fun b o _ _ hc e _=>k b o (fun z=>hc (by simp [z])) e) (fun b o _ _ hc e _=>⟨o.slots,k b o (fun z=>hc (by simp [z])) e⟩) (fun _ _ _ _ n=>n)
    (fun b o hc e=>⟨o,k b o (fun z=>hc (by simp [z])) e⟩) (fun _ _ e=>e) (fun _ _ _ e=>e) (fun b ps e=>⟨#[],by rw [e];simp⟩) (fun m hm=>?_) (fun b u e=>?_) I.bare
  · have e:b=it:=by simpa using hb
    subst e
    exact⟨h1,hL,h2,h3⟩
  · obtain⟨o,es,ep,ho,r⟩:=hm
    exact⟨o,es,ep,k _ o (Ne.symm hL) ho,r⟩
  · refine(I.hok b u e).stay (fun c v hc q=>k c v ?_ q) (fun _ q=>q) fun _ _ q=>q
    rcases hc with z | z
    · rw [z];exact nit b u e
    · exact nit c _ z
theorem ao.tok(I:ao X pins σ H s)(t:Nat):ao X pins σ H {s with toks:=t}:=I.un (h':=s.heap) (t':=t) Un.refl I.hok
theorem ao.kept{t':Nat}(I:ao X pins σ H s)(k:∀b u,s.heap.get? b=some u→h'.get? b=some u):ao X pins σ H {s with heap:=h',toks:=t'}:=I.un (Un.kept k) (I.hok.kept k)
theorem ao.laid{a:Addr}{o:HO}{t':Nat}(I:ao X pins σ H s)(k:∀b u,s.heap.get? b=some u→h'.get? b=some u)(hp:s.heap.objs.size≤a)(new:cU X.prog X.w (aF H a o) h' a o):
    ao X pins σ (aF H a o) {s with heap:=h',toks:=t'}:=I.un (Un.laid k hp (I.hok.fresh hp)) (I.hok.laid k hp new)
theorem ao.write{x e:Addr}{o:HO}{t':Nat}(I:ao X pins σ H s)(mu:xQ (H x))(he:e=x∨H e=some (.own x))(k:∀b u,b≠e→s.heap.get? b=some u→h'.get? b=some u)(heo:∃u,h'.get? e=some u)
    (new:cU X.prog X.w (aF H x o) h' x o):ao X pins σ (aF H x o) {s with heap:=h',toks:=t'}:=I.un (Un.write mu he k heo) (I.hok.write mu he k heo new)
theorem ao.pins_of{pins':List (Addr × Obj)}(I:ao X pins σ H s)(h:∀p∈pins',s.heap.get? p.1=some p.2∧H p.1=none∧p.1≠X.env.locals∧p.1∉X.fs∧∀v,p.2.data≠.cell v):ao X pins' σ H s:=
  ⟨I.ok,I.os,I.bare,I.base,I.loc,I.cell,I.free,I.freeC,fun p hp=>(List.mem_append.mp hp).elim (fun z=>I.pin p (List.mem_append_left _ z)) (h p),I.hok,I.len⟩
theorem ku{N:List Str}(hN:N.Nodup){i j:Nat}{x:Str}(a:N[i]?=some x)(b:N[j]?=some x):i=j:=by
  obtain⟨h1,e1⟩:=List.getElem?_eq_some_iff.mp a
  obtain⟨h2,e2⟩:=List.getElem?_eq_some_iff.mp b
  exact(List.getElem_inj hN).mp (e1.trans e2.symm)
theorem ji{M:Model}{A:Around}{E:Value→Shared→Prop}{i:Nat}{x:Str}{v:V}{u:Value}{Q:Unit→Shared→Prop}(I:ao X pins σ H s)(hN:X.N.Nodup)(hi:X.N[i]?=some x)(hx:vB X.env.scope x)(r:aZ v u)
    (h:∀s',ao X pins (σ.set i (some v)) H s'→(∃a,Heap.SameBut a s.heap s'.heap∧(a=X.env.locals∨X.env.cells.lookup x=some a))→Q () s')(hf:X.fn x=true∨X.env.scope.names.lookup x=some .local:=by first | exact .inl rfl | exact .inr rfl | assumption):wpAny M A (storeName X.env x u) Q E s:=by
  obtain⟨m,hn,hl⟩:=id I.loc
  have hcls:(X.env.scope.kind==.class || (X.env.scope.kind==.module&&X.env.locals != X.env.globals))=false:=by rw [I.ok.kind];rfl
  have hiσ:i < σ.length:=by rw [I.len];exact(List.getElem?_eq_some_iff.mp hi).1
  have cne:=I.cne
  have tracked:∀{a:Addr} {h':Heap},(∃o,s.heap.get? a=some o∧H a=none)→Heap.SameBut a s.heap h'→gR X.prog X.w H h':=fun{a h'} ha hs b ob e=>by
    obtain⟨_,_,hfree⟩:=ha
    refine(I.hok b ob e).stay (fun c w' hc q=>(hs.2 c ?_).trans q) (fun _ q=>q) fun _ _ q=>q
    rintro rfl
    rcases hc with rfl | hc
    · rw [hfree] at e;cases e
    · rw [hfree] at hc;cases hc
  rcases hx with hk | hk
  · refine wpAny_storeName_local hk hn (fun h' hn' hs=>?_) hcls
    obtain⟨oL,_,_,hoL,_⟩:=id hn
    refine h _ ⟨I.ok,I.os,I.bare,⟨fun b o e n hb hx=>?_,fun b o e n hb hx=>?_,I.base.free,fun b o e hx=>?_,I.base.tups,I.base.frzs,I.base.tbls⟩,⟨_,hn',fun j y v' e1 e2 e3=>?_⟩,fun y c e=>?_,I.free,I.freeC,fun p hp=>?_,tracked ⟨oL,hoL,I.free⟩ hs,by simpa using I.len⟩ ⟨_,hs,.inl rfl⟩
    · exact(hs.2 b (Nat.ne_of_lt (Nat.lt_of_lt_of_le (Heap.lt_size e) I.ok.above))).trans (I.base.keep b o e n hb hx)
    · obtain⟨sl,e1⟩:=I.base.slot b o e n hb hx
      exact⟨sl,(hs.2 b (Nat.ne_of_lt (Nat.lt_of_lt_of_le (Heap.lt_size e) I.ok.above))).trans e1⟩
    · obtain⟨o',e1⟩:=I.base.there b o e hx
      exact⟨o',(hs.2 b (Nat.ne_of_lt (Nat.lt_of_lt_of_le (Heap.lt_size e) I.ok.above))).trans e1⟩
    · by_cases hj:j=i
      · subst hj
        rw [hi] at e1;cases e1
        rw [List.getElem?_set_self hiσ] at e2
        cases e2
        exact⟨u,r,.inl ⟨hk,by simp⟩⟩
      · rw [List.getElem?_set_ne (Ne.symm hj)] at e2
        obtain⟨u',r',q⟩:=hl j y v' e1 e2 e3
        refine⟨u',r',?_⟩
        rcases q with ⟨k,e⟩ | ⟨k,c,e,z⟩
        · refine .inl ⟨k,?_⟩
          have:y≠x:=fun e=>hj (ku hN e1 (e ▸ hi))
          simp [this,e]
        · exact .inr ⟨k,c,e,z.sameBut hs (cne y c e)⟩
    · obtain⟨w',z⟩:=I.cell y c e
      exact⟨w',z.sameBut hs (cne y c e)⟩
    · obtain⟨e,n,ne,nf,d⟩:=I.pin p hp
      exact⟨(hs.2 p.1 ne).trans e,n,ne,nf,d⟩
  · have hfn:X.fn x=true:=by
      rcases hf with z | z
      · exact z
      · rw [z] at hk;cases hk
    obtain⟨c,hc⟩:=I.ok.has x (.inl hk)
    obtain⟨w',z⟩:=I.cell x c hc
    refine wpAny_storeName_cell I.ok.kind hk hc z (fun h' hc' hs=>?_)
    obtain⟨oc,hoc,hocd⟩:=id z
    refine h {s with heap:=h'} ⟨I.ok,I.os,I.bare,⟨fun b o e n hb hx=>?_,fun b o e n hb hx=>?_,I.base.free,fun b o e hx=>?_,I.base.tups,I.base.frzs,I.base.tbls⟩,⟨m,hn.sameBut hs (Ne.symm (cne x c hc)),fun j y v' e1 e2 e3=>?_⟩,fun y c' e=>?_,I.free,I.freeC,fun p hp=>?_,tracked ⟨oc,hoc,I.freeC x c hc⟩ hs,by simpa using I.len⟩ ⟨c,hs,.inr hc⟩
    · exact(hs.2 b (Nat.ne_of_lt (Nat.lt_of_lt_of_le (Heap.lt_size e) (I.ok.cab x c hfn hc)))).trans (I.base.keep b o e n hb hx)
    · obtain⟨sl,e1⟩:=I.base.slot b o e n hb hx
      exact⟨sl,(hs.2 b (Nat.ne_of_lt (Nat.lt_of_lt_of_le (Heap.lt_size e) (I.ok.cab x c hfn hc)))).trans e1⟩
    · obtain⟨o',e1⟩:=I.base.there b o e hx
      exact⟨o',(hs.2 b (Nat.ne_of_lt (Nat.lt_of_lt_of_le (Heap.lt_size e) (I.ok.cab x c hfn hc)))).trans e1⟩
    · by_cases hj:j=i
      · subst hj
        rw [hi] at e1;cases e1
        rw [List.getElem?_set_self hiσ] at e2
        cases e2
        exact⟨u,r,.inr ⟨.inl hk,c,hc,hc'⟩⟩
      · rw [List.getElem?_set_ne (Ne.symm hj)] at e2
        obtain⟨u',r',q⟩:=hl j y v' e1 e2 e3
        refine⟨u',r',?_⟩
        rcases q with q | ⟨k,c',e,z'⟩
        · exact .inl q
        · refine .inr ⟨k,c',e,z'.sameBut hs ?_⟩
          rintro rfl
          exact hj (ku hN e1 (I.ok.inj _ _ _ e hc ▸ hi))
    · by_cases hcc:c'=c
      · subst hcc;exact⟨_,hc'⟩
      · obtain⟨w2,z2⟩:=I.cell y c' e
        exact⟨w2,z2.sameBut hs hcc⟩
    · obtain⟨e,n,ne,nf,d⟩:=I.pin p hp
      refine⟨(hs.2 p.1 ?_).trans e,n,ne,nf,d⟩
      intro q
      rw [q,hoc] at e
      have q':oc=p.2:=Option.some.inj e
      exact d w' (by rw [←q'];exact hocd)
theorem fU{M:Model}{A:Around}{E:Value→Shared→Prop}{i:Nat}{x:Str}{v:V}{u:Value}{Q:Unit→Shared→Prop}(I:ao X pins σ H s)(hN:X.N.Nodup)(hi:X.N[i]?=some x)(hx:vB X.env.scope x)(r:aZ v u)
    (h:∀s',ao X pins (σ.set i (some v)) H s'→Q () s')(hf:X.fn x=true∨X.env.scope.names.lookup x=some .local:=by first | exact .inl rfl | exact .inr rfl | assumption):wpAny M A (storeName X.env x u) Q E s:=
  ji I hN hi hx r (fun s' I' _=>h s' I') hf
theorem ao.call'{s':Shared}{ch:List Addr}(I:ao X pins σ H s)(ho:s'.os=s.os)(u:Un (nS X.stack) ch H H' s.heap s'.heap)(hok:gR X.prog X.w H' s'.heap)(hg:AllBare s'.gens)
    (hch:∀b∈ch,(b∈X.ex∨X.s₀.heap.objs.size≤b)∧b≠X.env.locals∧(∀x c,X.env.cells.lookup x=some c→c≠b)∧∀p∈X.pn++pins,p.1≠b):ao X pins σ H' s':=by
  obtain⟨h',g',d',t',o'⟩:=s'
  have e:o'=s.os:=ho
  subst e
  exact I.call (g':=g') (t':=t') (d':=d') u hok hg hch
end
abbrev XK:=Value→Option Addr→Hp→Prop
abbrev St:=List (Option V)
abbrev VK:=V→Hp→Prop
abbrev TE:=St→Hp→VK→Prop
abbrev TT:=St→Hp→(Bool→Hp→Prop)→Prop
abbrev TA:=St→Hp→(List V→Hp→Prop)→Prop
structure lb where
  nx:St→Hp→Prop
  rt:VK
  bk:St→Hp→Prop:=fun _ _=>False
  ct:St→Hp→Prop:=fun _ _=>False
abbrev TS:=lb→St→Hp→Prop
def EP(X:Cx)(pins:List (Addr × Obj))(σ:St)(Q:VK)(u:Value)(s':Shared):Prop:=∃v H',ao X pins σ H' s'∧aZ v u∧Q v H'
def TP(X:Cx)(pins:List (Addr × Obj))(σ:St)(Q:Bool→Hp→Prop)(b:Bool)(s':Shared):Prop:=∃H',ao X pins σ H' s'∧Q b H'
def AP(X:Cx)(pins:List (Addr × Obj))(σ:St)(Q:List V→Hp→Prop)(us:List Value)(s':Shared):Prop:=∃vs H',ao X pins σ H' s'∧ay vs us∧Q vs H'
def SP(X:Cx)(pins:List (Addr × Obj))(D:lb)(f:Flow)(s':Shared):Prop:=
  match f with
  | .next=>∃σ' H',ao X pins σ' H' s'∧D.nx σ' H'
  | .brk=>∃σ' H',ao X pins σ' H' s'∧D.bk σ' H'
  | .cont=>∃σ' H',ao X pins σ' H' s'∧D.ct σ' H'
  | .ret u=>∃v σ' H',ao X pins σ' H' s'∧aZ v u∧D.rt v H'
def PE(X:Cx)(e:Expr)(t:TE):Prop:=
  ∀(pins:List (Addr × Obj)) (s:Shared) (σ:St) (H:Hp) (Q:VK),ao X pins σ H s→t σ H Q→wpAny (model X.prog X.w) X.A (eval e X.env) (EP X pins σ Q) X.xe s
def PT(X:Cx)(e:Expr)(t:TT):Prop:=
  ∀(pins:List (Addr × Obj)) (s:Shared) (σ:St) (H:Hp) (Q:Bool→Hp→Prop),ao X pins σ H s→t σ H Q→wpAny (model X.prog X.w) X.A (isTrue e X.env (eval e X.env)) (TP X pins σ Q) X.xe s
def PW(X:Cx)(e:Expr)(t:TT):Prop:=
  ∀(whole:Sem Value) (pins:List (Addr × Obj)) (s:Shared) (σ:St) (H:Hp) (Q:Bool→Hp→Prop),ao X pins σ H s→t σ H Q→wpAny (model X.prog X.w) X.A (isTrue e X.env whole) (TP X pins σ Q) X.xe s
theorem PW.pt{X:Cx}{e:Expr}{t:TT}(h:PW X e t):PT X e t:=h _
def PA(X:Cx)(es:List Expr)(t:TA):Prop:=
  ∀(pos:Pos) (pins:List (Addr × Obj)) (s:Shared) (σ:St) (H:Hp) (Q:List V→Hp→Prop),ao X pins σ H s→t σ H Q→wpAny (model X.prog X.w) X.A (spliced (backTo pos (starEach es X.env))) (AP X pins σ Q) X.xe s
def PS(X:Cx)(st:Stmt)(t:TS):Prop:=
  ∀(pins:List (Addr × Obj)) (s:Shared) (σ:St) (H:Hp) (D:lb),ao X pins σ H s→t D σ H→wpAny (model X.prog X.w) X.A (exec st X.env) (SP X pins D) X.xe s
def gE(X:Cx)(st:List Stmt)(t:TS):Prop:=
  ∀(pins:List (Addr × Obj)) (s:Shared) (σ:St) (H:Hp) (D:lb),ao X pins σ H s→t D σ H→wpAny (model X.prog X.w) X.A (execs st X.env) (SP X pins D) X.xe s
theorem bf{α:Type}{t:Sem α}{Q Q':α→Shared→Prop}{M:Model}{A:Around}{E:Value→Shared→Prop}{s:Shared}(h:wpAny M A t Q E s)(hQ:∀a s,Q a s→Q' a s):wpAny M A t Q' E s:=wpAny_mono h hQ fun _ _ x=>x
end L2
namespace L2
open PySem PySem.Spec PyProof.Rows
section
variable{X:Cx}
def xG(i:Nat):TE:=fun σ H Q=>∃v,σ[i]?=some (some v)∧Q v H
def tC(v:V):TE:=fun _ H Q=>Q v H
theorem uD{i:Nat}{x:Str}{pos:Pos}(hN:X.N[i]?=some x)(hv:vP X.env.scope x)(hd:(x==("__debug__":Str))=false:=by decide)(hcd:(x==("__classdict__":Str))=false:=by decide):PE X (.Name x pos) (xG i):=by
  intro pins s σ H Q I h
  obtain⟨v,e,h⟩:=h
  obtain⟨m,hn,hl⟩:=I.loc
  obtain⟨u,r,l⟩:=hl i x v hN e hv
  have fin:EP X pins σ Q u s:=⟨v,H,I,r,h⟩
  rcases l with ⟨hk,hm⟩ | ⟨hk,c,hc,hcell⟩
  · exact wpAny_Name (wpAny_loadName_local I.ok.kind hk hn hm fin) hd
  · rcases hk with hk | hk
    · exact wpAny_Name (wpAny_loadName_cell I.ok.kind hk hc hcell fin) hd
    · exact wpAny_Name (wpAny_loadName_free I.ok.kind hk hc hcell fin hcd) hd
theorem uy{i j pos}:PE X (.Constant (.int i) j pos) (tC (.int i)):=fun _ _ _ H _ I h=>wpAny_Constant_int ⟨.int i,H,I.tok _,⟨_,rfl⟩,h⟩
theorem wO{b j pos}:PE X (.Constant (.bool b) j pos) (tC (.bl b)):=fun _ _ _ H _ I h=>Constant_bool ⟨.bl b,H,I,rfl,h⟩
def Gl(X:Cx)(x:Str):Prop:=X.env.kindOf x=some .globalImplicit
theorem qt{E:Value→Shared→Prop}{pins:List (Addr × Obj)}{s:Shared}{σ:St}{H:Hp}{x:Str}{u:Value}{pos:Pos}{Q:Value→Shared→Prop}(I:ao X pins σ H s)(hg:Gl X x)(hm:X.mg x=some u)(h:Q u s)
    (hd:(x==("__debug__":Str))=false:=by decide):wpAny (model X.prog X.w) X.A (eval (.Name x pos) X.env) Q E s:=
  Calls.Name_function_global I.ok.kind hg (Calls.loadGlobal_global (by rw [I.ok.glob];exact I.mod.glob.keeps I.bk) hm h) hd
theorem eO{E:Value→Shared→Prop}{pins:List (Addr × Obj)}{s:Shared}{σ:St}{H:Hp}{x:Str}{u:Value}{pos:Pos}{Q:Value→Shared→Prop}(I:ao X pins σ H s)(hg:Gl X x)(hm:X.mg x=none)(hv:bootBuiltins x=some u)(h:Q u s)
    (hn:x≠"__name__":=by decide)(hd:(x==("__debug__":Str))=false:=by decide):wpAny (model X.prog X.w) X.A (eval (.Name x pos) X.env) Q E s:=by
  obtain⟨mb,h1,h2⟩:=I.mod.blt
  exact Calls.Name_function_global I.ok.kind hg (Calls.loadGlobal_builtin (by rw [I.ok.glob];exact I.mod.glob.keeps I.bk) hm (by rw [I.ok.blt];exact h1.keeps I.bk) ((h2 x hn).trans hv) h) hd
variable{a b:Expr}{ta tb:TE}{pos:Pos}
def tB(t:TE):TT:=fun σ H Q=>t σ H fun x H1=>∃c,x=.bl c∧Q c H1
theorem uM{e:Expr}{t:TE}(h:PE X e t)(he:∀whole,isTrue e X.env whole=(do let v ←whole;standAt e.pos;holding [v] (truthy v)):=by intro _;rfl):PT X e (tB t):=by
  intro pins s σ H Q I hw
  refine isTrue_plain (bf (h pins s σ H _ I hw) fun v s1 ⟨x,H1,I1,r1,q1⟩=>?_) (he _)
  obtain⟨d,rfl,q⟩:=q1
  cases r1
  exact wpAny_truthy_bool ⟨H1,I1,q⟩
variable{tA tB':TT}{c7:List Expr}
def xu(t u:TT):TT:=fun σ H Q=>t σ H fun c H1=>if c=true then u σ H1 Q else Q false H1
def y6(t u:TT):TT:=fun σ H Q=>t σ H fun c H1=>if c=true then Q true H1 else u σ H1 Q
def xB(t:TT):TT:=fun σ H Q=>t σ H fun c H1=>Q (!c) H1
theorem rm(ha:PT X a tA):PW X (.BoolOp .And [a] pos) tA:=by
  intro wh pins s σ H Q I h
  refine isTrue_and (bf (ha pins s σ H Q I h) fun c s1 e=>?_)
  cases c with
  | true=>exact isTrue_and_nil e
  | false=>exact e
theorem uP(ha:PT X a tA):PW X (.BoolOp .Or [a] pos) tA:=by
  intro wh pins s σ H Q I h
  refine isTrue_or (bf (ha pins s σ H Q I h) fun c s1 e=>?_)
  cases c with
  | false=>exact isTrue_or_nil e
  | true=>exact e
theorem uO(ha:PT X a tA)(hb:PW X (.BoolOp .And (b::c7) pos) tB'):PW X (.BoolOp .And (a::b::c7) pos) (xu tA tB'):=by
  intro wh pins s σ H Q I h
  refine isTrue_and (bf (ha pins s σ H _ I h) fun c s1 ⟨H1,I1,q1⟩=>?_)
  cases c with
  | true=>exact hb wh pins s1 σ H1 Q I1 q1
  | false=>exact⟨H1,I1,q1⟩
theorem wY(ha:PT X a tA)(hb:PW X (.BoolOp .Or (b::c7) pos) tB'):PW X (.BoolOp .Or (a::b::c7) pos) (y6 tA tB'):=by
  intro wh pins s σ H Q I h
  refine isTrue_or (bf (ha pins s σ H _ I h) fun c s1 ⟨H1,I1,q1⟩=>?_)
  cases c with
  | true=>exact⟨H1,I1,q1⟩
  | false=>exact hb wh pins s1 σ H1 Q I1 q1
theorem uL(ha:PT X a tA):PT X (.UnaryOp .Not a pos) (xB tA):=by
  intro pins s σ H Q I h
  exact isTrue_not (ha pins s σ H (fun c H1=>Q (!c) H1) I h)
def xw(ta tb:TE):TE:=fun σ H Q=>ta σ H fun x H1=>∃c,x=.bl c∧if c=true then tb σ H1 Q else Q (.bl false) H1
theorem uB{op}{t:TE}(h:PE X a t):PE X (.BoolOp op [a] pos) t:=fun pins s σ H Q I hw=>BoolOp_one (h pins s σ H Q I hw)
theorem uw(ha:PE X a ta)(hb:PE X (.BoolOp .And (b::c7) pos) tb):PE X (.BoolOp .And (a::b::c7) pos) (xw ta tb):=by
  intro pins s σ H Q I h
  refine BoolOp_and (bf (ha pins s σ H _ I h) fun v s1 ⟨x,H1,I1,r1,q1⟩=>?_)
  obtain⟨c,rfl,q1⟩:=q1
  cases r1
  refine wpAny_truthy_bool ?_
  cases c with
  | true=>exact hb pins s1 σ H1 Q I1 q1
  | false=>exact⟨.bl false,H1,I1,rfl,q1⟩
end
end L2
namespace L2
open PySem PySem.Spec PyProof.Rows
def dj(K:PySem.W.Frag)(H:Hp)(a:Addr)(xs:List V):Prop:=
  Rd H a (.lst xs)∨
    ∃(o:Obj) (its:Array Value) (n:Nat),K.lookup a=some o∧o.cls=.type "list"∧o.dict=none∧o.data=.seq its n∧its.size≤sizeLine∧ay xs its.toList
def bY(K:PySem.W.Frag)(H:Hp)(a:Addr)(xs:List V):Prop:=
  Rd H a (.tup xs)∨
    ∃(o:Obj) (its:Array Value) (n:Nat),K.lookup a=some o∧o.cls=.type "tuple"∧o.dict=none∧o.data=.seq its n∧its.size≤sizeLine∧ay xs its.toList
def yf:Value→Option V
  | .none=>some .non
  | .bool b=>some (.bl b)
  | .int i _=>some (.int i)
  | .str x _=>some (.str x)
  | .bytes b _=>some (.byt b)
  | .float b _=>some (.flt b)
  | .ref a=>some (.ref a)
  | .type n=>some (.ty n)
  | _=>none
theorem aZ.abs{x:V}{u:Value}(r:aZ x u):yf u=some x:=by
  cases x with
  | non=>cases r;rfl
  | bl _=>cases r;rfl
  | int _=>obtain⟨t,rfl⟩:=r;rfl
  | str _=>obtain⟨t,rfl⟩:=r;rfl
  | byt _=>obtain⟨t,rfl⟩:=r;rfl
  | flt _=>obtain⟨t,rfl⟩:=r;rfl
  | ref _=>cases r;rfl
  | ty _=>cases r;rfl
theorem aZ.inj{x y:V}{u:Value}(r:aZ x u)(q:aZ y u):x=y:=Option.some.inj (r.abs.symm.trans q.abs)
theorem ay.inj:∀{xs ys:List V} {us:List Value},ay xs us→ay ys us→xs=ys
  | _,_,_,.nil,.nil=>rfl
  | _,_,_,.cons r t,.cons r' t'=>by rw [r.inj r',ay.inj t t']
section
variable{X:Cx}{pins:List (Addr × Obj)}{σ:St}{H:Hp}{s:Shared}{a:Addr}{xs ys:List V}
theorem bY.of{K:PySem.W.Frag}(h:H a=some (.tup xs)):bY K H a xs:=.inl (.inl h)
theorem ao.list(I:ao X pins σ H s)(h:dj X.K H a xs):∃its:List Value,ay xs its∧PlainL s.heap a its.toArray∧xs.length≤sizeLine:=by
  rcases h with h | ⟨o,its,n,hk,hc,hd,hs,hz,r⟩
  · obtain⟨z,its,n,r,e⟩:=h.ok I.hok
    exact⟨its,r,⟨_,n,e,rfl,rfl,rfl⟩,z⟩
  · refine⟨its.toList,r,⟨o,n,I.kIn a o hk,hc,hd,by simpa using hs⟩,?_⟩
    have e:=r.length
    simp only [Array.length_toList] at e
    lia
theorem ao.tuple(I:ao X pins σ H s)(h:bY X.K H a xs):∃its:List Value,ay xs its∧IsTup s.heap a its.toArray∧xs.length≤sizeLine:=by
  rcases h with h | ⟨o,its,n,hk,hc,_,hs,hz,r⟩
  · obtain⟨z,its,r,p⟩:=h.ok I.hok
    exact⟨its,r,p.tup,z⟩
  · refine⟨its.toList,r,⟨o,I.kIn a o hk,hc,n,by simpa using hs⟩,?_⟩
    have e:=r.length
    simp only [Array.length_toList] at e
    lia
theorem ao.list_inj(I:ao X pins σ H s)(h:dj X.K H a xs)(h':dj X.K H a ys):xs=ys:=by
  obtain⟨its,r,⟨o,n,e,_,_,d⟩,_⟩:=I.list h
  obtain⟨its',r',⟨o',n',e',_,_,d'⟩,_⟩:=I.list h'
  rw [e] at e';cases e'
  rw [d] at d'
  injection d' with d1 _
  have:its=its':=by simpa using congrArg Array.toList d1
  subst this
  exact r.inj r'
theorem ao.tuple_inj(I:ao X pins σ H s)(h:bY X.K H a xs)(h':bY X.K H a ys):xs=ys:=by
  obtain⟨its,r,⟨o,e,_,n,d⟩,_⟩:=I.tuple h
  obtain⟨its',r',⟨o',e',_,n',d'⟩,_⟩:=I.tuple h'
  rw [e] at e';cases e'
  rw [d] at d'
  injection d' with d1 _
  have:its=its':=by simpa using congrArg Array.toList d1
  subst this
  exact r.inj r'
end
abbrev Cx.wish(X:Cx)(E:Value→Shared→Prop):Cx:={X with xe:=E}
abbrev Cx.nox(X:Cx):Cx:=X.wish fun _ _=>False
theorem Cx.Ok.wish{X:Cx}(ok:X.Ok)(E:Value→Shared→Prop):(X.wish E).Ok:=
  ⟨ok.mod,ok.kind,ok.glob,ok.blt,ok.above,ok.inj,ok.has,ok.cab,ok.hd,ok.frames,ok.stk,ok.exf,ok.bs,ok.bsz,ok.noex,ok.exfs,ok.funs,ok.frf⟩
theorem Cx.Ok.unwish{X:Cx}{E:Value→Shared→Prop}(ok:(X.wish E).Ok):X.Ok:=
  ⟨ok.mod,ok.kind,ok.glob,ok.blt,ok.above,ok.inj,ok.has,ok.cab,ok.hd,ok.frames,ok.stk,ok.exf,ok.bs,ok.bsz,ok.noex,ok.exfs,ok.funs,ok.frf⟩
section
variable{X:Cx}{pins:List (Addr × Obj)}{σ:St}{H:Hp}{s:Shared}{E:Value→Shared→Prop}
theorem ao.wish(I:ao X pins σ H s)(E:Value→Shared→Prop):ao (X.wish E) pins σ H s:=⟨I.ok.wish E,I.os,I.bare,I.base,I.loc,I.cell,I.free,I.freeC,I.pin,I.hok,I.len⟩
theorem ao.unwish(I:ao (X.wish E) pins σ H s):ao X pins σ H s:=⟨I.ok.unwish,I.os,I.bare,I.base,I.loc,I.cell,I.free,I.freeC,I.pin,I.hok,I.len⟩
theorem SP.unwish{D:lb}{f:Flow}{s':Shared}(h:SP (X.wish E) pins D f s'):SP X pins D f s':=by
  cases f with
  | next=>obtain⟨σ',H',I,q⟩:=h;exact⟨σ',H',I.unwish,q⟩
  | brk=>obtain⟨σ',H',I,q⟩:=h;exact⟨σ',H',I.unwish,q⟩
  | cont=>obtain⟨σ',H',I,q⟩:=h;exact⟨σ',H',I.unwish,q⟩
  | ret u=>obtain⟨v,σ',H',I,r,q⟩:=h;exact⟨v,σ',H',I.unwish,r,q⟩
theorem gE.nox{st:List Stmt}{t:TS}(h:gE X.nox st t):gE X st t:=fun pins s σ H D I hw=>
  wpAny_mono (h pins s σ H D (I.wish _) hw) (fun _ _ q=>q.unwish) fun _ _ z=>False.elim z
end
section
variable{X:Cx}{st:Stmt}{c7:List Stmt}{t u:TS}{e:Expr}{te:TE}{pos:Pos}
def xA:TS:=fun D σ H=>D.nx σ H
def yN(t u:TS):TS:=fun D σ H=>t {D with nx:=u D} σ H
theorem rf:gE X [] xA:=fun _ _ σ H _ I h=>wpAny_execs_nil ⟨σ,H,I,h⟩
theorem pb(h1:PS X st t)(h2:gE X c7 u):gE X (st::c7) (yN t u):=by
  intro pins s σ H D I h
  refine wpAny_execs_cons (bf (h1 pins s σ H {D with nx:=u D} I h) fun f s1 q=>?_)
  cases f with
  | next=>
    obtain⟨σ',H',I',q⟩:=q
    exact h2 pins s1 σ' H' D I' q
  | ret v=>exact q
  | brk=>exact q
  | cont=>exact q
theorem rg(h1:PS X st t):gE X [st] t:=by
  intro pins s σ H D I h
  refine wpAny_execs_cons (bf (h1 pins s σ H D I h) fun f s1 q=>?_)
  cases f with
  | next=>exact wpAny_execs_nil q
  | ret v=>exact q
  | brk=>exact q
  | cont=>exact q
theorem ao.quiet{pins:List (Addr × Obj)}{σ:St}{H:Hp}{s:Shared}(I:ao X pins σ H s):interactive X.env=false:=by simp [interactive,I.ok.kind]
def xx(te:TE):TS:=fun D σ H=>te σ H fun _ H1=>D.nx σ H1
theorem rc(he:PE X e te)(hs:swapsWith e none pos.line X.env=pure false:=by rfl):PS X (.Expr e pos) (xx te):=by
  intro pins s σ H D I h
  exact wpAny_Expr_any (bf (he pins s σ H _ I h) fun v s1 ⟨x,H1,I1,r1,q1⟩=>⟨σ,H1,I1,q1⟩) I.quiet hs
def yM(te:TE):TS:=fun D σ H=>te σ H D.rt
theorem uJ(he:PE X e te):PS X (.Return (some e) pos) (yM te):=by
  intro pins s σ H D I h
  exact wpAny_Return_some (bf (he pins s σ H _ I h) fun v s1 ⟨x,H1,I1,r1,q1⟩=>⟨x,σ,H1,I1,r1,q1⟩)
def yI(c:TT)(t u:TS):TS:=fun D σ H=>c σ H fun b H1=>if b=true then t D σ H1 else u D σ H1
theorem wX{c:Expr}{a b:List Stmt}{tc:TT}(hc:PT X c tc)(ha:gE X a t)(hb:gE X b u):PS X (.If c a b pos) (yI tc t u):=by
  intro pins s σ H D I h
  refine wpAny_If (bf (hc pins s σ H _ I h) fun d s1 ⟨H1,I1,q1⟩=>?_)
  cases d with
  | true=>exact ha pins s1 σ H1 D I1 q1
  | false=>exact hb pins s1 σ H1 D I1 q1
end
abbrev TG:=V→St→Hp→(St→Hp→Prop)→Prop
abbrev pW:=List V→St→Hp→(St→Hp→Prop)→Prop
def PG(X:Cx)(target:Expr)(t:TG):Prop:=
  ∀(pins:List (Addr × Obj)) (s:Shared) (σ:St) (H:Hp) (v:V) (u:Value) (Q:St→Hp→Prop),ao X pins σ H s→aZ v u→t v σ H Q→
    wpAny (model X.prog X.w) X.A (assign target X.env u) (fun _ s'=>∃σ' H',ao X pins σ' H' s'∧Q σ' H') X.xe s
def nv(X:Cx)(ts:List Expr)(t:pW):Prop:=
  ∀(pins:List (Addr × Obj)) (s:Shared) (σ:St) (H:Hp) (vs:List V) (us:List Value) (Q:St→Hp→Prop),ao X pins σ H s→ay vs us→t vs σ H Q→
    wpAny (model X.prog X.w) X.A (assignInOrder ((assignEach ts X.env).map (·.2)) us) (fun _ s'=>∃σ' H',ao X pins σ' H' s'∧Q σ' H') X.xe s
section
variable{X:Cx}{pos:Pos}
def og(i:Nat):TG:=fun v σ H Q=>Q (σ.set i (some v)) H
theorem qU{i:Nat}{x:Str}(hN:X.N.Nodup)(hi:X.N[i]?=some x)(hx:vB X.env.scope x)(hf:X.fn x=true∨X.env.scope.names.lookup x=some .local:=by first | exact .inl rfl | exact .inr rfl | assumption):PG X (.Name x pos) (og i):=by
  intro pins s σ H v u Q I r h
  exact wpAny_assign_Name (fU I hN hi hx r (fun s' I'=>⟨_,H,I',h⟩) hf)
def yi:pW:=fun vs σ H Q=>vs=[]∧Q σ H
def wc(t:TG)(u:pW):pW:=fun vs σ H Q=>∃v r,vs=v::r∧t v σ H fun σ' H'=>u r σ' H' Q
theorem qW:nv X [] yi:=by
  intro pins s σ H vs us Q I r h
  obtain⟨e,h⟩:=h
  subst e
  cases r
  exact assignInOrder_nil ⟨σ,H,I,h⟩
theorem oW{e:Expr}{es:List Expr}{t:TG}{u:pW}(h1:PG X e t)(h2:nv X es u)
    (hs:(assignEach (e::es) X.env).map (·.2)=assign e X.env::(assignEach es X.env).map (·.2):=by rfl):nv X (e::es) (wc t u):=by
  intro pins s σ H vs us Q I r h
  obtain⟨v,vr,e1,h⟩:=h
  subst e1
  cases r with
  | cons r rr=>
    rw [hs]
    refine assignInOrder_cons (bf (h1 pins s σ H _ _ _ I r h) fun _ s1 ⟨σ1,H1,I1,q1⟩=>?_)
    exact h2 pins s1 σ1 H1 _ _ Q I1 rr q1
def we(K:PySem.W.Frag)(n:Nat)(t:pW):TG:=fun v σ H Q=>∃a xs,v=.ref a∧bY K H a xs∧xs.length=n∧t xs σ H Q
theorem uE{es:List Expr}{k:Nat}{t:pW}{n:Nat}(hc:X.calm=true)(h:nv X es t)
    (hn:(assignEach es X.env).length=n:=by rfl)(hst:(assignEach es X.env).findIdx? (·.1)=none:=by rfl):PG X (.Tuple es k pos) (we X.K n t):=by
  intro pins s σ H v u Q I r hw
  obtain⟨a,xs,e1,hq,hl,hw⟩:=hw
  subst e1
  cases r
  obtain⟨its,rv,ht,hz⟩:=I.tuple hq
  refine assign_Tuple_tuple (I.ok.hd hc) ht (by simp [hn,←hl,rv.length]) hst fun h' hx=>?_
  have I1:ao X pins σ H {s with heap:=h'}:=I.kept (t':=s.toks) fun b o e=>hx b o (Nat.ne_of_lt (Heap.lt_size e)) e
  exact h pins _ σ H xs _ Q I1 (by simpa using rv) hw
def vf(te:TE)(g:TG):TS:=fun D σ H=>te σ H fun x H1=>g x σ H1 D.nx
theorem uG{tg e:Expr}{te:TE}{g:TG}(he:PE X e te)(hg:PG X tg g)(hs:swapsWithSole [tg] e pos.line X.env=pure false:=by rfl)(hw:swappedStores [tg] e X.env=pure none:=by rfl)
    (h1:(assignEach [tg] X.env).map (·.2)=[assign tg X.env]:=by rfl):PS X (.Assign [tg] e pos) (vf te g):=by
  intro pins s σ H D I h
  refine wpAny_Assign_stores (bf (he pins s σ H _ I h) fun v s1 ⟨x,H1,I1,r1,q1⟩=>?_) hs hw
  rw [h1]
  exact bf (hg pins s1 σ H1 x v _ I1 r1 q1) fun _ s2 q=>q
theorem uK{i:Nat}{x:Str}{e:Expr}{te:TE}{pos':Pos}(hN:X.N.Nodup)(hi:X.N[i]?=some x)(hx:vB X.env.scope x)(he:PE X e te)(hs:swapsWith e (some (.Name x pos')) pos.line X.env=pure false:=by rfl)(hf:X.fn x=true∨X.env.scope.names.lookup x=some .local:=by first | exact .inl rfl | exact .inr rfl | assumption):
    PS X (.Assign [.Name x pos'] e pos) (vf te (og i)):=by
  intro pins s σ H D I h
  refine wpAny_Assign_Name (bf (he pins s σ H _ I h) fun v s1 ⟨y,H1,I1,r1,q1⟩=>?_) hs
  exact fU I1 hN hi hx r1 (fun s2 I2=>⟨_,H1,I2,q1⟩) hf
def yL(i j:Nat)(ta:TA):TS:=fun D σ H=>ta σ H fun vs H1=>∃v w,vs=[v,w]∧D.nx ((σ.set i (some v)).set j (some w)) H1
theorem uI{i j:Nat}{x y:Str}{a b:Expr}{ta:TA}{px py pt:Pos}{kt k2 pt2}(hc:X.calm=true)(hN:X.N.Nodup)(hi:X.N[i]?=some x)(hj:X.N[j]?=some y)(hij:i≠j)
    (hx:X.env.scope.names.lookup x=some .local)(hy:X.env.scope.names.lookup y=some .local)(ha:PA X [a,b] ta)
    (hw:swappedStores [.Tuple [.Name x px,.Name y py] kt pt] (.Tuple [a,b] k2 pt2) X.env=pure (some [x,y]))
    (hs:swapsWithSole [.Tuple [.Name x px,.Name y py] kt pt] (.Tuple [a,b] k2 pt2) pos.line X.env=pure false:=by rfl):
    PS X (.Assign [.Tuple [.Name x px,.Name y py] kt pt] (.Tuple [a,b] k2 pt2) pos) (yL i j ta):=by
  intro pins s σ H D I h
  rw [exec_Assign_arm]
  refine wpAny_bind (wpAny_standAt ?_)
  rw [hs]
  refine wpAny_bind (wpAny_pure ?_)
  rw [if_neg (by decide)]
  refine wpAny_bind (Tuple_ (bf (ha _ pins s σ H _ I h) fun us s1 ⟨vs,H1,I1,r1,q1⟩=>?_))
  obtain⟨v,w,e1,q1⟩:=q1
  subst e1
  obtain⟨u1,u2,rfl,rv,rw'⟩:∃u1 u2,us=[u1,u2]∧aZ v u1∧aZ w u2:=by
    cases r1 with
    | cons p q=>
      cases q with
      | cons p' q'=>
        cases q'
        exact⟨_,_,rfl,p,p'⟩
  refine wpAny_newObj_type ?_ (by show 2≤sizeLine;decide)
  have I2:ao X pins σ H1 {s1 with heap:=s1.heap.push {cls:=.type "tuple",data:=.seq [u1,u2].toArray}}:=I1.kept (t':=s1.toks) fun b o e=>Heap.get?_push_of_some _ e
  rw [hw]
  refine wpAny_bind (wpAny_pure ?_)
  show wpAny (model X.prog X.w) X.A (do rule "assign.swapped-stores";let items ←unpackItems (.ref s1.heap.objs.size) 2 none;assignInOrder [fun v=>bindName X.env y v,fun v=>bindName X.env x v] items.reverse;pure Flow.next) _ _ _
  refine wpAny_bind (wpAny_rule (wpAny_bind (unpackItems_tuple (items:=#[u1,u2]) (I.ok.hd hc) (IsTup.new s1.heap _) fun h' hx'=>?_)))
  have I3:=I2.kept (h':=h') (t':=s1.toks) fun b o e=>hx' b o (Nat.ne_of_lt (Heap.lt_size e)) e
  show wpAny _ _ (assignInOrder [fun v=>bindName X.env y v,fun v=>bindName X.env x v] [u2,u1] >>= fun _=>pure Flow.next) _ _ _
  refine wpAny_bind (assignInOrder_cons (wpAny_bindName (fU I3 hN hj (.inl hy) rw' (fun s2 I4=>?_) (.inr hy))))
  refine assignInOrder_cons (wpAny_bindName (fU I4 hN hi (.inl hx) rv (fun s3 I5=>assignInOrder_nil (wpAny_pure ?_)) (.inr hx)))
  rw [List.set_comm _ _ (Ne.symm hij)] at I5
  exact⟨_,H1,I5,q1⟩
end
section
variable{X:Cx}{pos:Pos}
def vi(c:TT)(tb:TS):TS:=fun D σ H=>∃W:Nat→St→Hp→Prop,(∃m,W m σ H)∧∀m σ H,W m σ H→
  c σ H fun b H1=>if b=true then ∃N:St→Hp→Prop,(∀σ' H',N σ' H'→∃m',m' < m∧W m' σ' H')∧tb {D with nx:=N,ct:=N,bk:=D.nx} σ H1 else D.nx σ H1
theorem o_{c:Expr}{body:List Stmt}{tc:TT}{tb:TS}(hp:PassesOwn (model X.prog X.w) X.A X.env X.xe)(hc:PT X c tc)(hb:gE X body tb):PS X (.While c body [] pos) (vi tc tb):=by
  intro pins s σ H D I h
  obtain⟨W,⟨m0,w0⟩,turn⟩:=h
  refine wpAny_While (codeAny_whileLoop (fun n s'=>∃σ' H',ao X pins σ' H' s'∧W n σ' H') ?_ m0 ⟨σ,H,I,w0⟩)
  rintro n s1 ⟨σ1,H1,I1,w1⟩
  refine wpAny_passesOwn hp (bf (hc pins s1 σ1 H1 _ I1 (turn n σ1 H1 w1)) fun b s2 ⟨H2,I2,q2⟩=>?_)
  cases b with
  | true=>
    obtain⟨N,hN,q2⟩:=q2
    rw [if_pos rfl]
    refine wpAny_passesOwn hp (bf (hb pins s2 σ1 H2 _ I2 q2) fun f s3 q3=>?_)
    cases f with
    | next=>
      obtain⟨σ3,H3,I3,n3⟩:=q3
      obtain⟨m',hm,w3⟩:=hN σ3 H3 n3
      exact⟨m',hm,σ3,H3,I3,w3⟩
    | cont=>
      obtain⟨σ3,H3,I3,n3⟩:=q3
      obtain⟨m',hm,w3⟩:=hN σ3 H3 n3
      exact⟨m',hm,σ3,H3,I3,w3⟩
    | brk=>exact q3
    | ret v=>exact q3
  | false=>
    rw [if_neg Bool.false_ne_true]
    exact wpAny_execs_nil ⟨σ1,H2,I2,q2⟩
end
structure It where
  go:Nat→Hp→Prop
  yld:Nat→Hp→V→Hp→Prop
  stop:Nat→Hp→Prop
def d9(X:Cx)(pins:List (Addr × Obj))(H:Hp)(b:Addr):Prop:=
  H b=none∧b≠X.env.locals∧b∉X.fs∧(b∈X.ex∨X.s₀.heap.objs.size≤b)∧(∀x c,X.env.cells.lookup x=some c→c≠b)∧∀p∈X.pn++pins,p.1≠b
theorem ao.fpOk{X:Cx}{pins:List (Addr × Obj)}{σ:St}{H H':Hp}{s:Shared}{b:Addr}(I:ao X pins σ H s)(hb:s.heap.objs.size≤b)(hn:H' b=none):d9 X pins H' b:=by
  refine⟨hn,Nat.ne_of_gt (Nat.lt_of_lt_of_le I.lt hb),I.nofs hb,.inr (Nat.le_trans I.sz hb),fun x c e z=>?_,fun p hp z=>?_⟩
  · obtain⟨v,q⟩:=I.cell x c e
    exact absurd (Nat.lt_of_lt_of_le q.lt (by rw [z];exact hb)) (Nat.lt_irrefl _)
  · exact absurd (Nat.lt_of_lt_of_le (Heap.lt_size (I.pin p hp).1) (by rw [z];exact hb)) (Nat.lt_irrefl _)
structure mG (P:Program) (w:World) (K:PySem.W.Frag) (tg:Expr) (J:It) (fp:List Addr) (it:Addr) (tn:Nat→Heap→Prop):Prop where
  mem:it∈fp
  obj:∀i h,tn i h→∀b∈fp,∃o,h.get? b=some o∧∀v,o.data≠.cell v
  keep:∀i h h',tn i h→(∀b∈fp,∀o,h.get? b=some o→h'.get? b=some o)→tn i h'
  item:∀(X:Cx),X.prog=P→X.w=w→X.K=K→X.calm=true→∀(i:Nat) (pins:List (Addr × Obj)) (s:Shared) (σ:St) (H:Hp) (E:Value→Shared→Prop),ao X pins σ H s→(∀b∈fp,d9 X pins H b)→tn i s.heap→J.go i H→
    wpAny (model P w) X.A (pyNext (.ref it)) (fun r s1=>∃u,r=some u∧
      wpAny (model P w) X.A (letOwnedTupleGo tg (.ref it) u) (fun _ s2=>∃x H',ao X pins σ H' s2∧aZ x u∧J.yld i H x H'∧tn (i+1) s2.heap∧∀b∈fp,H' b=none) E s1) E s
  done:∀(X:Cx),X.prog=P→X.w=w→X.K=K→X.calm=true→∀(i:Nat) (pins:List (Addr × Obj)) (s:Shared) (σ:St) (H:Hp) (E:Value→Shared→Prop),ao X pins σ H s→(∀b∈fp,d9 X pins H b)→tn i s.heap→J.stop i H→
    wpAny (model P w) X.A (pyNext (.ref it)) (fun r s1=>r=none∧ao X pins σ H s1) E s
  self:∀(A:Around) (i:Nat) (s:Shared) (Q:Value→Shared→Prop) (E:Value→Shared→Prop),tn i s.heap→Q (.ref it) s→wpAny (model P w) A (pyIter (.ref it)) Q E s
abbrev TI:=St→Hp→(It→Hp→Prop)→Prop
def yU(X:Cx)(pins:List (Addr × Obj))(σ:St)(tg:Expr)(R:It→Hp→Prop)(itv:Value)(s2:Shared):Prop:=
  ∃(it:Addr) (fp:List Addr) (tn:Nat→Heap→Prop) (J:It) (H':Hp),itv=.ref it∧ao X pins σ H' s2∧mG X.prog X.w X.K tg J fp it tn∧tn 0 s2.heap∧(∀b∈fp,d9 X pins H' b)∧R J H'
def PI(X:Cx)(tg iter:Expr)(wi:TI):Prop:=
  ∀(pins:List (Addr × Obj)) (s:Shared) (σ:St) (H:Hp) (R:It→Hp→Prop),ao X pins σ H s→wi σ H R→
    wpAny (model X.prog X.w) X.A (eval iter X.env) (fun v s1=>wpAny (model X.prog X.w) X.A (pyIter v) (yU X pins σ tg R) X.xe s1) X.xe s
theorem om{M:Model}{A:Around}{E:Value→Shared→Prop}{s:Shared}{tg:Expr}{it:Addr}{u:Value}{o:Obj}{n:String}{vs:Array Value}{Q:Unit→Shared→Prop}(ho:s.heap.get? it=some o)(hc:o.cls=.type n)(hd:o.data=.fields vs)
    (hn:["enumerate","zip","dict_itemiterator","dict_reverseitemiterator","odict_iterator","itertools.zip_longest","itertools.pairwise"].contains n=false)(hQ:Q () s):wpAny M A (letOwnedTupleGo tg (.ref it) u) Q E s:=by
  unfold letOwnedTupleGo
  cases tg<;>first
    | exact wpAny_pure hQ
    | (cases u<;>first
        | exact wpAny_pure hQ
        | (refine wpAny_bind (wpAny_load ho ?_)
           rw [hc,hd]
           show wpAny M A (if (["enumerate","zip","dict_itemiterator","dict_reverseitemiterator","odict_iterator","itertools.zip_longest","itertools.pairwise"].contains n&&vs[0]?==some (rawInt _))=true then _ else _) Q E s
           rw [if_neg (by intro h;rw [hn,Bool.false_and] at h;cases h)]
           exact wpAny_pure hQ))
def x8(K:PySem.W.Frag)(a:Addr):It:=
  ⟨fun i H=>∃xs x,dj K H a xs∧xs[i]?=some x,fun i H x H'=>H'=H∧∀xs,dj K H a xs→xs[i]?=some x,fun i H=>∃xs,dj K H a xs∧xs.length≤i⟩
def x9(K:PySem.W.Frag)(a:Addr):It:=
  ⟨fun i H=>∃xs x,bY K H a xs∧xs[i]?=some x,fun i H x H'=>H'=H∧∀xs,bY K H a xs→xs[i]?=some x,fun i H=>∃xs,bY K H a xs∧xs.length≤i⟩
def xP(lo:Int)(n:Nat):It:=⟨fun i _=>i < n,fun i H x H'=>H'=H∧x=.int (lo+i),fun i _=>n≤i⟩
theorem ni{P:Program}{w:World}{K:PySem.W.Frag}{tg:Expr}(a it:Addr):mG P w K tg (x8 K a) [it] it (fun i h=>h.IsListIter it a i) where
  mem:=by simp
  obj:=fun i h st b hb=>by
    have e:b=it:=by simpa using hb
    subst e
    obtain⟨o,e,c,d⟩:=st
    exact⟨o,e,fun v z=>by rw [d] at z;cases z⟩
  keep:=fun i h h' st k=>st.at fun o e=>k it (by simp) o e
  item:=by
    intro X hP hw hK hc i pins s σ H E I hf st hg
    subst hP hw hK
    obtain⟨xs,x,hq,hx⟩:=hg
    obtain⟨its,rv,p,hz⟩:=I.list hq
    obtain⟨u,hu,ru⟩:=rv.get hx
    obtain⟨f0,f1,f2,f3,f4,f5⟩:=hf it (by simp)
    refine wpAny_pyNext_list_item st p.isList (x:=u) (by simpa using hu) fun h' st' sb=>?_
    have I1:ao X pins σ H {s with heap:=h'}:=I.turned (t':=s.toks) (fun b o hb e=>(sb.2 b hb).trans e) f0 f1 f3 f4 f5
    obtain⟨o,e,c,d⟩:=id st'
    exact⟨u,rfl,om (s:={s with heap:=h'}) e c d (by decide) ⟨x,H,I1,ru,⟨rfl,fun ys hy=>by rw [I.list_inj hy hq];exact hx⟩,st',fun b hb=>(hf b hb).1⟩⟩
  done:=by
    intro X hP hw hK hc i pins s σ H E I hf st hg
    subst hP hw hK
    obtain⟨xs,hq,hx⟩:=hg
    obtain⟨its,rv,p,hz⟩:=I.list hq
    obtain⟨f0,f1,f2,f3,f4,f5⟩:=hf it (by simp)
    have hl:=rv.length
    exact wpAny_pyNext_list_end (I.ok.hd hc) st p.isList (by simp;lia) fun h' eb=>⟨rfl,I.turned (t':=s.toks) (fun b o hb e=>eb b o hb e) f0 f1 f3 f4 f5⟩
  self:=fun _ _ _ _ _ st h=>wpAny_pyIter_listiter st h
theorem lQ{P:Program}{w:World}{K:PySem.W.Frag}{tg:Expr}(a it:Addr):mG P w K tg (x9 K a) [it] it (fun i h=>h.IsTupleIter it a i) where
  mem:=by simp
  obj:=fun i h st b hb=>by
    have e:b=it:=by simpa using hb
    subst e
    obtain⟨o,e,c,d⟩:=st
    exact⟨o,e,fun v z=>by rw [d] at z;cases z⟩
  keep:=fun i h h' st k=>st.at fun o e=>k it (by simp) o e
  item:=by
    intro X hP hw hK hc i pins s σ H E I hf st hg
    subst hP hw hK
    obtain⟨xs,x,hq,hx⟩:=hg
    obtain⟨its,rv,p,hz⟩:=I.tuple hq
    obtain⟨u,hu,ru⟩:=rv.get hx
    obtain⟨f0,f1,f2,f3,f4,f5⟩:=hf it (by simp)
    refine wpAny_pyNext_tuple_item st (show s.heap.IsTuple a its.toArray from p) (x:=u) (by simpa using hu) fun h' st' sb=>?_
    have I1:ao X pins σ H {s with heap:=h'}:=I.turned (t':=s.toks) (fun b o hb e=>(sb.2 b hb).trans e) f0 f1 f3 f4 f5
    obtain⟨o,e,c,d⟩:=id st'
    exact⟨u,rfl,om (s:={s with heap:=h'}) e c d (by decide) ⟨x,H,I1,ru,⟨rfl,fun ys hy=>by rw [I.tuple_inj hy hq];exact hx⟩,st',fun b hb=>(hf b hb).1⟩⟩
  done:=by
    intro X hP hw hK hc i pins s σ H E I hf st hg
    subst hP hw hK
    obtain⟨xs,hq,hx⟩:=hg
    obtain⟨its,rv,p,hz⟩:=I.tuple hq
    obtain⟨f0,f1,f2,f3,f4,f5⟩:=hf it (by simp)
    have hl:=rv.length
    exact wpAny_pyNext_tuple_end (I.ok.hd hc) st (show s.heap.IsTuple a its.toArray from p) (by simp;lia) fun h' eb=>⟨rfl,I.turned (t':=s.toks) (fun b o hb e=>eb b o hb e) f0 f1 f3 f4 f5⟩
  self:=fun _ _ _ _ _ st h=>wpAny_pyIter_tupleiter st h
theorem lP{P:Program}{w:World}{K:PySem.W.Frag}{tg:Expr}(it:Addr)(lo:Int)(n:Nat):mG P w K tg (xP lo n) [it] it (fun i h=>IsRangeIter h it (lo+(i:Nat)*1) ((n:Int) - (i:Nat)) 1) where
  mem:=by simp
  obj:=fun i h st b hb=>by
    have e:b=it:=by simpa using hb
    subst e
    exact⟨_,st,fun v z=>by
      have z':Data.fields _=Data.cell v:=z
      cases z'⟩
  keep:=fun i h h' st k=>k it (by simp) _ st
  item:=by
    intro X hP hw hK hc i pins s σ H E I hf st hg
    subst hP hw hK
    obtain⟨f0,f1,f2,f3,f4,f5⟩:=hf it (by simp)
    have W:=Walks.range (prog:=X.prog) (w:=X.w) (I.ok.hd hc) it lo 1 n
    refine W.item i s _ _ hg st fun v h' tk hv st' kk=>?_
    obtain⟨t,rfl⟩:=hv
    have I1:ao X pins σ H {s with heap:=h',toks:=tk}:=I.turned (fun b o hb e=>kk b o (by simpa using hb) e) f0 f1 f3 f4 f5
    refine⟨_,rfl,om (s:={s with heap:=h',toks:=tk}) (n:="range_iterator") st' rfl rfl (by decide) ⟨.int (lo+i),H,I1,⟨t,?_⟩,⟨rfl,rfl⟩,st',fun b hb=>(hf b hb).1⟩⟩
    rw [Int.mul_one]
  done:=by
    intro X hP hw hK hc i pins s σ H E I hf st hg
    subst hP hw hK
    obtain⟨f0,f1,f2,f3,f4,f5⟩:=hf it (by simp)
    exact wpAny_pyNext_range_end (I.ok.hd hc) st (by have:n≤i:=hg;lia) fun h' eb=>⟨rfl,I.turned (t':=s.toks) (fun b o hb e=>eb b o hb e) f0 f1 f3 f4 f5⟩
  self:=fun _ _ _ _ _ st h=>wpAny_pyIter_rangeiter st h
end L2
namespace L2
open PySem PySem.Spec PyProof.Rows
section
variable{X:Cx}{tg:Expr}
def sD(K:PySem.W.Frag)(tl:TE):TI:=fun σ H R=>tl σ H fun x H1=>∃a,x=.ref a∧(∃xs,dj K H1 a xs)∧R (x8 K a) H1
def wj(K:PySem.W.Frag)(tl:TE):TI:=fun σ H R=>tl σ H fun x H1=>∃a,x=.ref a∧(∃xs,bY K H1 a xs)∧R (x9 K a) H1
theorem qX{l:Expr}{tl:TE}(hl:PE X l tl):PI X tg l (sD X.K tl):=by
  intro pins s σ H R I h
  refine bf (hl pins s σ H _ I h) fun v s1 ⟨x,H1,I1,r1,q1⟩=>?_
  obtain⟨a,e,⟨xs,hq⟩,q⟩:=q1
  subst e
  cases r1
  obtain⟨its,rv,p,hz⟩:=I1.list hq
  refine wpAny_pyIter_list p.isList ?_
  refine⟨s1.heap.objs.size,[s1.heap.objs.size],_,_,H1,rfl,I1.kept (t':=s1.toks) fun b o e=>Heap.get?_push_of_some _ e,ni a _,⟨_,Heap.get?_push_size _ rfl,rfl,rfl⟩,fun b hb=>?_,q⟩
  have e:b=s1.heap.objs.size:=by simpa using hb
  subst e
  exact I1.fpOk (Nat.le_refl _) (I1.hok.fresh (Nat.le_refl _))
theorem uF{l:Expr}{tl:TE}(hl:PE X l tl):PI X tg l (wj X.K tl):=by
  intro pins s σ H R I h
  refine bf (hl pins s σ H _ I h) fun v s1 ⟨x,H1,I1,r1,q1⟩=>?_
  obtain⟨a,e,⟨xs,hq⟩,q⟩:=q1
  subst e
  cases r1
  obtain⟨its,rv,p,hz⟩:=I1.tuple hq
  refine wpAny_pyIter_tuple (show s1.heap.IsTuple a its.toArray from p) ?_
  refine⟨s1.heap.objs.size,[s1.heap.objs.size],_,_,H1,rfl,I1.kept (t':=s1.toks) fun b o e=>Heap.get?_push_of_some _ e,lQ a _,⟨_,Heap.get?_push_size _ rfl,rfl,rfl⟩,fun b hb=>?_,q⟩
  have e:b=s1.heap.objs.size:=by simpa using hb
  subst e
  exact I1.fpOk (Nat.le_refl _) (I1.hok.fresh (Nat.le_refl _))
theorem pA{pins:List (Addr × Obj)}{σ:St}{H:Hp}{s:Shared}{R:It→Hp→Prop}{E:Value→Shared→Prop}{lo hi:Int}{t u v:Tok}{tk:Nat}(I:ao X pins σ H s)(h1: -(2 ^ 62)≤lo)(h2:lo < 2 ^ 62)(h3: -(2 ^ 62)≤hi)(h4:hi < 2 ^ 62)
    (q:R (xP lo (hi - lo).toNat) H):wpAny (model X.prog X.w) X.A (pyIter (.ref s.heap.objs.size)) (yU X pins σ tg R) E {s with heap:=s.heap.push {cls:=.type "range",data:=.fields #[.int lo t,.int hi u,.int 1 v]},toks:=tk}:=by
  refine wpAny_pyIter_range (IsRange.new ..) (small_one h1 h2 h3 h4) ?_
  have I1:ao X pins σ H {s with heap:=s.heap.push {cls:=.type "range",data:=.fields #[.int lo t,.int hi u,.int 1 v]},toks:=tk}:=I.kept fun b o e=>Heap.get?_push_of_some _ e
  refine⟨(s.heap.push {cls:=.type "range",data:=.fields #[.int lo t,.int hi u,.int 1 v]}).objs.size,[(s.heap.push {cls:=.type "range",data:=.fields #[.int lo t,.int hi u,.int 1 v]}).objs.size],_,_,H,rfl,
    I1.kept (t':=tk) fun b o e=>Heap.get?_push_of_some _ e,lP _ lo (hi - lo).toNat,?_,fun b hb=>?_,q⟩
  · have e1:lo+((0:Nat):Int)*1=lo:=by simp
    have e2:(((hi - lo).toNat:Nat):Int) - ((0:Nat):Int)=Builtin.Range.rangeSize lo hi 1:=by rw [rangeSize_one];split<;>lia
    show IsRangeIter _ _ (lo+((0:Nat):Int)*1) ((((hi - lo).toNat:Nat):Int) - ((0:Nat):Int)) 1
    rw [e1,e2]
    exact Heap.get?_push_size _ rfl
  · have e:b=(s.heap.push {cls:=.type "range",data:=.fields #[.int lo t,.int hi u,.int 1 v]}).objs.size:=by simpa using hb
    subst e
    exact I1.fpOk (Nat.le_refl _) (I1.hok.fresh (Nat.le_refl _))
def wg(ta:TA):TI:=fun σ H R=>ta σ H fun vs H1=>∃j:Int,vs=[.int j]∧ -(2 ^ 62)≤j∧j < 2 ^ 62∧R (xP 0 j.toNat) H1
theorem m6{a:Expr}{ta:TA}{p pos:Pos}(hg:Gl X "range")(hm:X.mg "range"=none)(ha:PA X [a] ta)(hs:starEach [a] X.env=[(false,eval a X.env)]:=by rfl):PI X tg (.Call (.Name "range" p) [a] [] pos) (wg ta):=by
  intro pins s σ H R I h
  refine Call_ (eO I hg hm boot_range (PyProof.Rows.callWith_type1 (bf (ha pos pins s σ H _ I h) fun us s1 ⟨vs,H1,I1,r1,q1⟩=>?_) hs rfl))
  obtain⟨j,e,q1,q2,q⟩:=q1
  subst e
  cases r1 with
  | cons r rr=>
    cases rr
    obtain⟨t,rfl⟩:=r
    exact call_range_1 (pA I1 (by lia) (by lia) q1 q2 (by simpa using q))
def yH(wi:TI)(g:TG)(tb:TS):TS:=fun D σ H=>wi σ H fun J H1=>∃W:Nat→Nat→St→Hp→Prop,(∃m,W 0 m σ H1)∧∀i m σ H,W i m σ H→
  (J.stop i H∧D.nx σ H)∨(J.go i H∧∃N:St→Hp→Prop,(∀σ' H',N σ' H'→∃m',m' < m∧W (i+1) m' σ' H')∧∀x H',J.yld i H x H'→g x σ H' fun σ2 H2=>tb {D with nx:=N,ct:=N,bk:=D.nx} σ2 H2)
def eP(fp:List Addr)(h:Heap):List (Addr × Obj):=fp.filterMap fun b=>(h.get? b).map fun o=>(b,o)
theorem bi{fp:List Addr}{h:Heap}{b:Addr}{o:Obj}(hb:b∈fp)(e:h.get? b=some o):(b,o)∈eP fp h:=List.mem_filterMap.mpr ⟨b,hb,by rw [e];rfl⟩
theorem mX{fp:List Addr}{h:Heap}{p:Addr × Obj}(hp:p∈eP fp h):p.1∈fp∧h.get? p.1=some p.2:=by
  obtain⟨b,hb,e⟩:=List.mem_filterMap.mp hp
  cases q:h.get? b with
  | none=>rw [q] at e;cases e
  | some o=>
    rw [q] at e
    have e':(b,o)=p:=Option.some.inj e
    subst e'
    exact⟨hb,q⟩
theorem ao.pinned{pins:List (Addr × Obj)}{σ:St}{H:Hp}{s:Shared}{fp:List Addr}(I:ao X pins σ H s)(hf:∀b∈fp,d9 X pins H b)(ho:∀b∈fp,∃o,s.heap.get? b=some o∧∀v,o.data≠.cell v):ao X (pins++eP fp s.heap) σ H s:=
  I.pins_of fun p hp=>(List.mem_append.mp hp).elim (fun z=>I.pin p (List.mem_append_right _ z)) fun z=>by
    obtain⟨hb,e⟩:=mX z
    obtain⟨f0,f1,f2,_⟩:=hf p.1 hb
    obtain⟨o,e',d⟩:=ho p.1 hb
    rw [e] at e';cases e'
    exact⟨e,f0,f1,f2,d⟩
theorem ao.unpinned{pins pl:List (Addr × Obj)}{σ:St}{H:Hp}{s:Shared}(I:ao X (pins++pl) σ H s):ao X pins σ H s:=I.pins_of fun p hp=>I.pin p (List.mem_append_right _ (List.mem_append_left _ hp))
theorem uH{iter:Expr}{body:List Stmt}{wi:TI}{g:TG}{tb:TS}{pos:Pos}(hp:PassesOwn (model X.prog X.w) X.A X.env X.xe)(hc:X.calm=true)(hi:PI X tg iter wi)(hg:PG X tg g)(hb:gE X body tb)
    (hs:∀x,foldedSetIterable iter X.env x=pure x:=by intro _;rfl):PS X (.For tg iter body [] pos) (yH wi g tb):=by
  intro pins s σ H D I h
  refine wpAny_For (bf (hi pins s σ H _ I h) fun v s1 h1=>bf h1 fun itv s2 h2=>?_) hs
  obtain⟨it,fp,tn,J,H2,e,I2,T,st2,f2,W,⟨m0,w0⟩,turn⟩:=h2
  subst e
  have stat:∀{H':Hp},(∀b∈fp,H' b=none)→∀b∈fp,d9 X pins H' b:=fun hn b hb=>⟨hn b hb,(f2 b hb).2⟩
  refine codeAny_forLoop_any (fun n s'=>∃i σ' H',ao X pins σ' H' s'∧tn i s'.heap∧(∀b∈fp,H' b=none)∧W i n σ' H') ?_ m0 ⟨0,σ,H2,I2,st2,fun b hb=>(f2 b hb).1,w0⟩
  rintro n s3 ⟨i,σ3,H3,I3,st3,fr3,w3⟩
  rcases turn i n σ3 H3 w3 with ⟨stop,qn⟩ | ⟨go,N,hN,step⟩
  · refine wpAny_passesOwn hp (bf (T.done X rfl rfl rfl hc i pins s3 σ3 H3 X.xe I3 (stat fr3) st3 stop) fun r s4 ⟨hr,I4⟩=>?_)
    subst hr
    exact wpAny_execs_nil ⟨σ3,H3,I4,qn⟩
  · refine wpAny_passesOwn hp (bf (T.item X rfl rfl rfl hc i pins s3 σ3 H3 X.xe I3 (stat fr3) st3 go) fun r s4 ⟨u,hr,h4⟩=>?_)
    subst hr
    refine wpAny_passesOwn hp (bf h4 fun _ s5 ⟨x,H5,I5,r5,y5,st5,fr5⟩=>?_)
    have I5':=I5.pinned (stat fr5) (T.obj _ _ st5)
    refine wpAny_passesOwn hp (bf (hg _ s5 σ3 H5 x u _ I5' r5 (step x H5 y5)) fun _ s6 ⟨σ6,H6,I6,q6⟩=>?_)
    refine wpAny_passesOwn hp (bf (hb _ s6 σ6 H6 _ I6 q6) fun f s7 q7=>?_)
    have again:∀{σ7:St} {H7:Hp},ao X (pins++eP fp s5.heap) σ7 H7 s7→N σ7 H7→∃m,m < n∧∃i σ' H',ao X pins σ' H' s7∧tn i s7.heap∧(∀b∈fp,H' b=none)∧W i m σ' H':=fun{σ7 H7} I7 n7=>by
      obtain⟨m',hm,w7⟩:=hN σ7 H7 n7
      refine⟨m',hm,i+1,σ7,H7,I7.unpinned,T.keep _ _ _ st5 fun b hb o e=>(I7.pin (b,o) (List.mem_append_right _ (List.mem_append_right _ (bi hb e)))).1,fun b hb=>?_,w7⟩
      obtain⟨o,e,d⟩:=T.obj _ _ st5 b hb
      exact(I7.pin (b,o) (List.mem_append_right _ (List.mem_append_right _ (bi hb e)))).2.1
    cases f with
    | next=>obtain⟨σ7,H7,I7,n7⟩:=q7;exact again I7 n7
    | cont=>obtain⟨σ7,H7,I7,n7⟩:=q7;exact again I7 n7
    | brk=>obtain⟨σ7,H7,I7,q7⟩:=q7;exact⟨σ7,H7,I7.unpinned,q7⟩
    | ret v=>obtain⟨x7,σ7,H7,I7,r7,q7⟩:=q7;exact⟨x7,σ7,H7,I7.unpinned,r7,q7⟩
end
end L2
namespace L2
open PySem PySem.Spec PyProof.Rows
abbrev R2:=V→V→Hp→VK→Prop
def c9(X:Cx)(f:Value→Value→Sem Value)(r:R2):Prop:=
  ∀(pins:List (Addr × Obj)) (s:Shared) (σ:St) (H:Hp) (x y:V) (v u:Value) (Q:VK),ao X pins σ H s→aZ x v→aZ y u→r x y H Q→
    wpAny (model X.prog X.w) X.A (f v u) (EP X pins σ Q) X.xe s
def xU(X:Cx)(f:Value→Sem Value)(r:V→Hp→VK→Prop):Prop:=
  ∀(pins:List (Addr × Obj)) (s:Shared) (σ:St) (H:Hp) (x:V) (v:Value) (Q:VK),ao X pins σ H s→aZ x v→r x H Q→
    wpAny (model X.prog X.w) X.A (f v) (EP X pins σ Q) X.xe s
def cT(X:Cx)(f:Value)(r:List V→Hp→VK→Prop):Prop:=
  ∀(pins:List (Addr × Obj)) (s:Shared) (σ:St) (H:Hp) (xs:List V) (us:List Value) (Q:VK),ao X pins σ H s→ay xs us→r xs H Q→
    wpAny (model X.prog X.w) X.A (call f us) (EP X pins σ Q) X.xe s
def xC(r:R2)(ta tb:TE):TE:=fun σ H Q=>ta σ H fun x H1=>tb σ H1 fun y H2=>r x y H2 Q
def y8(r:V→Hp→VK→Prop)(ta:TE):TE:=fun σ H Q=>ta σ H fun x H1=>r x H1 Q
def rI(C:Int→Int→Prop)(g:Int→Int→V):R2:=fun x y H Q=>∃i j,x=.int i∧y=.int j∧C i j∧Q (g i j) H
def lL(g:Int→Int→V):R2:=fun x y H Q=>∃i j,x=.int i∧y=.int j∧Q (g i j) H
def rU(g:Int→V):V→Hp→VK→Prop:=fun x H Q=>∃i,x=.int i∧Q (g i) H
section
variable{X:Cx}{a b c:Expr}{ta tb tc:TE}{pos:Pos}
theorem tf(ha:PE X a ta)(hb:PE X b tb){pins:List (Addr × Obj)}{s:Shared}{σ:St}{H:Hp}{R:V→V→Hp→Prop}(I:ao X pins σ H s)
    (h:ta σ H fun x H1=>tb σ H1 fun y H2=>R x y H2){Q:Value→Shared→Prop}{f:Value→Value→Sem Value}
    (hf:∀v u s2 x y H2,ao X pins σ H2 s2→aZ x v→aZ y u→R x y H2→wpAny (model X.prog X.w) X.A (f v u) Q X.xe s2):
    wpAny (model X.prog X.w) X.A (eval a X.env) (fun v s₁=>wpAny (model X.prog X.w) X.A (eval b X.env) (fun u s₂=>wpAny (model X.prog X.w) X.A (f v u) Q X.xe s₂) X.xe s₁) X.xe s:=by
  refine bf (ha pins s σ H _ I h) fun v s1 ⟨x,H1,I1,r1,q1⟩=>?_
  refine bf (hb pins s1 σ H1 _ I1 q1) fun u s2 ⟨y,H2,I2,r2,q2⟩=>?_
  exact hf v u s2 x y H2 I2 r1 r2 q2
theorem wU{op:Operator}{r:R2}(ho:c9 X (binaryOp op) r)(ha:PE X a ta)(hb:PE X b tb):PE X (.BinOp a op b pos) (xC r ta tb):=by
  intro pins s σ H Q I h
  exact wpAny_BinOp (tf ha hb I h fun v u s2 x y H2 I2 rx ry q=>ho pins s2 σ H2 x y v u Q I2 rx ry q)
theorem wV{op:UnaryOp}{r:V→Hp→VK→Prop}(ho:xU X (unaryOp op) r)(ha:PE X a ta):PE X (.UnaryOp op a pos) (y8 r ta):=by
  intro pins s σ H Q I h
  exact UnaryOp_ (bf (ha pins s σ H _ I h) fun v s1 ⟨x,H1,I1,r1,q1⟩=>ho pins s1 σ H1 x v Q I1 r1 q1)
theorem wG{f:Value→Value→Sem Value}{C:Int→Int→Prop}{g:Int→Int→Int}
    (rule:∀(i j:Int) (t u:Tok) (s:Shared) (Q:Value→Shared→Prop) (E:Value→Shared→Prop),C i j→Q (.int (g i j) s.toks) {s with toks:=s.toks+1}→wpAny (model X.prog X.w) X.A (f (.int i t) (.int j u)) Q E s):
    c9 X f (rI C fun i j=>.int (g i j)):=by
  intro pins s σ H x y v u Q I rx ry h
  obtain⟨i,j,rfl,rfl,hc,q⟩:=h
  obtain⟨t,rfl⟩:=rx
  obtain⟨t',rfl⟩:=ry
  exact rule i j t t' s _ _ hc ⟨.int (g i j),H,I.tok _,⟨_,rfl⟩,q⟩
theorem wH{f:Value→Value→Sem Value}{g:Int→Int→Int}
    (rule:∀(i j:Int) (t u:Tok) (s:Shared) (Q:Value→Shared→Prop) (E:Value→Shared→Prop),Q (.int (g i j) s.toks) {s with toks:=s.toks+1}→wpAny (model X.prog X.w) X.A (f (.int i t) (.int j u)) Q E s):
    c9 X f (lL fun i j=>.int (g i j)):=by
  intro pins s σ H x y v u Q I rx ry h
  obtain⟨i,j,rfl,rfl,q⟩:=h
  obtain⟨t,rfl⟩:=rx
  obtain⟨t',rfl⟩:=ry
  exact rule i j t t' s _ _ ⟨.int (g i j),H,I.tok _,⟨_,rfl⟩,q⟩
theorem qG{f:Value→Value→Sem Value}{g:Int→Int→Bool}
    (rule:∀(i j:Int) (t u:Tok) (s:Shared) (Q:Value→Shared→Prop) (E:Value→Shared→Prop),Q (.bool (g i j)) s→wpAny (model X.prog X.w) X.A (f (.int i t) (.int j u)) Q E s):
    c9 X f (lL fun i j=>.bl (g i j)):=by
  intro pins s σ H x y v u Q I rx ry h
  obtain⟨i,j,rfl,rfl,q⟩:=h
  obtain⟨t,rfl⟩:=rx
  obtain⟨t',rfl⟩:=ry
  exact rule i j t t' s _ _ ⟨.bl (g i j),H,I,rfl,q⟩
def sV(i j:Int):Prop:=0≤j∧j≤1000000∧i.natAbs < 2 ^ 64
def p5(i j:Int):Prop:=(-(2 ^ 64) < i∧i < 2 ^ 64)∨(-(2 ^ 64) < j∧j < 2 ^ 64)
theorem p5.ok{i j:Int}(h:p5 i j):IntMulOk i j:=by
  rcases h with ⟨h1,h2⟩ | ⟨h1,h2⟩
  · exact .of_left (intBits_le_64 h1 h2)
  · exact .of_right (intBits_le_64 h1 h2)
theorem ud:c9 X (binaryOp .Add) (lL fun i j=>.int (i+j)):=wH fun _ _ _ _ _ _ _ q=>add_int q
theorem ut:c9 X (binaryOp .Sub) (lL fun i j=>.int (i - j)):=wH fun _ _ _ _ _ _ _ q=>sub_int q
theorem um:c9 X (binaryOp .Mult) (rI p5 fun i j=>.int (i*j)):=wG fun _ _ _ _ _ _ _ hc q=>mul_int q hc.ok
theorem qK:c9 X (binaryOp .Mod) (rI (fun _ j=>j≠0) fun i j=>.int (i.fmod j)):=wG fun _ _ _ _ _ _ _ hc q=>mod_int' hc q
theorem uq:c9 X (binaryOp .Pow) (rI sV fun i j=>.int (i ^ j.toNat)):=wG fun _ _ _ _ _ _ _ hc q=>pow_int_small hc.1 hc.2.1 hc.2.2 q
theorem zv{f:Value→Sem Value}{g:Int→Int}
    (rule:∀(i:Int) (t:Tok) (s:Shared) (Q:Value→Shared→Prop) (E:Value→Shared→Prop),Q (.int (g i) s.toks) {s with toks:=s.toks+1}→wpAny (model X.prog X.w) X.A (f (.int i t)) Q E s):
    xU X f (rU fun i=>.int (g i)):=by
  intro pins s σ H x v Q I rx h
  obtain⟨i,rfl,q⟩:=h
  obtain⟨t,rfl⟩:=rx
  exact rule i t s _ _ ⟨.int (g i),H,I.tok _,⟨_,rfl⟩,q⟩
theorem vo:xU X (unaryOp .USub) (rU fun i=>.int (-i)):=zv fun _ _ _ _ _ q=>neg_int q
end
section
variable{X:Cx}{a b c:Expr}{ta tb tc:TE}{pos:Pos}
theorem nR{pins:List (Addr × Obj)}{σ:St}{H:Hp}{s:Shared}{Q:VK}{k k':Bool}(I:ao X pins σ H s)(q:Q (.bl k) H)(e:k=k'):EP X pins σ Q (.bool k') s:=by
  subst e
  exact⟨.bl k,H,I,rfl,q⟩
theorem wM:c9 X (compareOp .Lt) (lL fun i j=>.bl (decide (i < j))):=qG fun _ _ _ _ _ _ _ q=>lt_int q
theorem wL:c9 X (compareOp .LtE) (lL fun i j=>.bl (decide (i≤j))):=qG fun _ _ _ _ _ _ _ q=>le_int q
theorem wK:c9 X (compareOp .Gt) (lL fun i j=>.bl (decide (j < i))):=qG fun _ _ _ _ _ _ _ q=>gt_int q
theorem wJ:c9 X (compareOp .GtE) (lL fun i j=>.bl (decide (j≤i))):=qG fun _ _ _ _ _ _ _ q=>ge_int q
theorem ul:c9 X (compareOp .Is) (fun x y H Q=>y=.non∧Q (.bl (decide (x=.non))) H):=by
  intro pins s σ H x y v u Q I rx ry h
  obtain⟨rfl,q⟩:=h
  cases ry
  refine is_none_gen (nR I q ?_)
  cases x<;>first
    | (cases rx;rfl)
    | (obtain⟨t,rfl⟩:=rx;rfl)
theorem qO:c9 X (compareOp .IsNot) (fun x y H Q=>y=.non∧Q (.bl (!decide (x=.non))) H):=by
  intro pins s σ H x y v u Q I rx ry h
  obtain⟨rfl,q⟩:=h
  cases ry
  refine isnot_none_gen (nR I q ?_)
  cases x<;>first
    | (cases rx;rfl)
    | (obtain⟨t,rfl⟩:=rx;rfl)
theorem c9.or{f:Value→Value→Sem Value}{r r':R2}(h:c9 X f r)(h':c9 X f r'):c9 X f (fun x y H Q=>r x y H Q∨r' x y H Q):=by
  intro pins s σ H x y v u Q I rx ry q
  rcases q with q | q
  · exact h pins s σ H x y v u Q I rx ry q
  · exact h' pins s σ H x y v u Q I rx ry q
theorem aS(b:Expr){op:CmpOp}(h:op≠.In:=by decide)(h2:op≠.NotIn:=by decide):behindInMarks op b=false:=by
  have e1:(op==CmpOp.In)=false:=by cases op<;>first | rfl | exact absurd rfl h
  have e2:(op==CmpOp.NotIn)=false:=by cases op<;>first | rfl | exact absurd rfl h2
  cases b<;>simp [behindInMarks,e1,e2]
theorem qS{op:CmpOp}{r:R2}(ho:c9 X (compareOp op) r)(ha:PE X a ta)(hb:PE X b tb)(hm:behindInMarks op b=false):PE X (.Compare a [op] [b] pos) (xC r ta tb):=by
  intro pins s σ H Q I h
  exact wpAny_Compare1 (tf ha hb I h fun v u s2 x y H2 I2 rx ry q=>ho pins s2 σ H2 x y v u Q I2 rx ry q) hm
def xE(t:TE):TT:=fun σ H Q=>t σ H fun x H'=>∃k,x=.bl k∧Q k H'
theorem rh{op:CmpOp}{r:R2}(ho:c9 X (compareOp op) r)(ha:PE X a ta)(hb:PE X b tb)(hm:behindInMarks op b=false):PT X (.Compare a [op] [b] pos) (xE (xC r ta tb)):=by
  intro pins s σ H Q I h
  refine wpAny_isTrue_Compare1 (bf (ha pins s σ H _ I h) fun v s1 ⟨x,H1,I1,r1,q1⟩=>bf (hb pins s1 σ H1 _ I1 q1) fun u s2 ⟨y,H2,I2,r2,q2⟩=>
    bf (ho pins s2 σ H2 x y v u _ I2 r1 r2 q2) fun c s3 ⟨z,H3,I3,r3,k,e,q3⟩=>?_) hm
  subst e
  cases r3
  exact wpAny_truthy_bool ⟨H3,I3,q3⟩
theorem lD:(sizeLine:Nat) < 2 ^ 63:=by rw [sizeLine_eq];decide
theorem jm{x:V}{us:List Value}(r:ay [x] us):∃u,us=[u]∧aZ x u:=by
  cases r with
  | cons r1 r2=>cases r2;exact⟨_,rfl,r1⟩
theorem sU{x y:V}{us:List Value}(r:ay [x,y] us):∃u w',us=[u,w']∧aZ x u∧aZ y w':=by
  cases r with
  | cons r1 r2=>
    cases r2 with
    | cons r3 r4=>cases r4;exact⟨_,_,rfl,r1,r3⟩
theorem nI:cT X (.builtin "abs") (fun xs H Q=>∃i,xs=[.int i]∧Q (.int (if i < 0 then -i else i)) H):=by
  intro pins s σ H xs us Q I r h
  obtain⟨i,rfl,q⟩:=h
  obtain⟨u,rfl,t,rfl⟩:=jm r
  exact call_abs_int fun u tk=>⟨.int (if i < 0 then -i else i),H,I.tok _,⟨_,rfl⟩,q⟩
theorem mJ(hc:X.calm=true):cT X (.builtin "max") (fun xs H Q=>∃i j,xs=[.int i,.int j]∧Q (.int (if j > i then j else i)) H):=by
  intro pins s σ H xs us Q I r h
  obtain⟨i,j,rfl,q⟩:=h
  obtain⟨u,w',rfl,⟨t,rfl⟩,⟨t',rfl⟩⟩:=sU r
  refine max_two_ints (I.ok.hd hc) fun h' tk k=>⟨_,H,I.kept k,?_,q⟩
  by_cases hj:j > i
  · rw [if_pos hj,if_pos hj];exact⟨_,rfl⟩
  · rw [if_neg hj,if_neg hj];exact⟨_,rfl⟩
theorem mK(hc:X.calm=true):cT X (.builtin "min") (fun xs H Q=>∃i j,xs=[.int i,.int j]∧Q (.int (if j < i then j else i)) H):=by
  intro pins s σ H xs us Q I r h
  obtain⟨i,j,rfl,q⟩:=h
  obtain⟨u,w',rfl,⟨t,rfl⟩,⟨t',rfl⟩⟩:=sU r
  refine min_two_ints (I.ok.hd hc) fun h' tk k=>⟨_,H,I.kept k,?_,q⟩
  by_cases hj:j < i
  · rw [if_pos hj,if_pos hj];exact⟨_,rfl⟩
  · rw [if_neg hj,if_neg hj];exact⟨_,rfl⟩
theorem mI:cT X (.type "int") (fun xs H Q=>(∃i,xs=[.int i]∧Q (.int i) H)∨∃k,xs=[.bl k]∧Q (.int (if k then 1 else 0)) H):=by
  intro pins s σ H xs us Q I r h
  rcases h with ⟨i,rfl,q⟩ | ⟨k,rfl,q⟩
  · obtain⟨u,rfl,t,rfl⟩:=jm r
    exact call_int_int ⟨.int i,H,I,⟨_,rfl⟩,q⟩
  · obtain⟨u,rfl,r1⟩:=jm r
    cases r1
    exact call_int_bool ⟨.int (if k then 1 else 0),H,I.tok _,⟨_,rfl⟩,q⟩
end
end L2
namespace L2
open PySem PySem.Spec PyProof.Rows
structure zh (h:Heap) (x dx C:Addr) (mA:Str→Option Value):Prop where
  obj:h.get? x=some (PySem.W.instObj C dx)
  ns:h.Ns1 dx mA
  ne:dx≠x
section
variable{prog:Program}{w:World}{A:Around}{E:Value→Shared→Prop}{s:Shared}{K:PySem.W.Frag}{x dx C f:Addr}{mA:Str→Option Value}{name:Str}{v:Value}
end
section
variable{P:Program}{w:World}{H H':Hp}{h h':Heap}{a C dx:Addr}{fs fs':List (Str × V)}
end
structure za (K:PySem.W.Frag) (C:Addr):Prop where
  pg:PySem.W.plainGet K C Str.empty=true
  hd:PySem.W.hasDictIn K C=true
  po:PySem.W.plainOver K C=true
  sa:PySem.W.findIn K (.ref C) "__setattr__"=some (some (.builtin "object.__setattr__"))
structure zw (K:PySem.W.Frag) (C:Addr) (f:Str) (v:V) (u:Value):Prop where
  at_:PySem.W.findIn K (.ref C) f=some (some u)
  rel:aZ v u
  get:PySem.W.specialIn K u "__get__"=some none
  cp:PySem.W.copiedNames.contains f=false
structure zg (K:PySem.W.Frag) (C:Addr) (m:Str) (f:Addr):Prop where
  at_:PySem.W.findIn K (.ref C) m=some (some (.ref f))
  fn:PySem.W.isFn K (.ref f)=true
  kp:PySem.W.keepIn K (.ref f)=true
section
variable{X:Cx}{pins:List (Addr × Obj)}{σ:St}{H:Hp}{s:Shared}{a C dx:Addr}{fs:List (Str × V)}{f:Str}{v:V}{A:Around}{E:Value→Shared→Prop}
end
section
variable{X:Cx}{o e value:Expr}{f:Str}{pos pos' tpos:Pos}{ta tv:TE}
end
section
variable{X:Cx}{pins:List (Addr × Obj)}{σ:St}{H:Hp}{s:Shared}{A:Around}{E:Value→Shared→Prop}{Q:Value→Shared→Prop}{c:Value}{b:Bool}
inductive gU (K:PySem.W.Frag) (H:Hp):V→Value→Prop where
  | non:gU K H .non (.type "NoneType")
  | bl (x:Bool):gU K H (.bl x) (.type "bool")
  | int (i:Int):gU K H (.int i) (.type "int")
  | str (x:Str):gU K H (.str x) (.type "str")
  | flt (x:UInt64):gU K H (.flt x) (.type "float")
  | lst {a:Addr} {xs:List V} (e:H a=some (.lst xs)):gU K H (.ref a) (.type "list")
  | frz {a:Addr} {o:Obj} {xs:List V} (e:H a=some (.frz o (.lst xs))):gU K H (.ref a) (.type "list")
  | tup {a:Addr} {xs:List V} (e:H a=some (.tup xs)):gU K H (.ref a) (.type "tuple")
  | dK {a:Addr} {kvs:List (gT × V)} (e:H a=some (.dK kvs)):gU K H (.ref a) (.type "dict")
  | dT {a:Addr} {kvs:List (List gT × V)} (e:H a=some (.dT kvs)):gU K H (.ref a) (.type "dict")
  | ins {a C dx:Addr} {fs:List (Str × V)} (e:H a=some (.ins C dx fs)) (cl:za K C) (ha:PySem.W.findIn K (.ref C) "__class__"=some (some (.builtin "object.__class__")))
      (hn:PySem.W.specialIn K (.builtin "object.__class__") "__get__"=some (some (.builtin "getset_descriptor.__get__"))) (htk:PySem.W.takesIn K (.builtin "object.__class__")=some true)
      (hm:PySem.W.mroIn K C (.type "object")=some true):gU K H (.ref a) (.ref C)
end
end L2
namespace L2
open PySem PySem.Spec PyProof.Rows
structure bu (k:Nat) (A:Around):Prop where
  hd:A.handled=none
  dp:A.depth+3*k+5 < recursionLimit
  un:A.units+16*k+200 < cLine
  gd:A.guards=some []
theorem bu.mono{j k:Nat}{A:Around}(r:bu k A)(h:j≤k):bu j A:=⟨r.hd,by have:=r.dp;lia,by have:=r.un;lia,r.gd⟩
theorem bu.deeper{k:Nat}{A:Around}(r:bu (k+1) A)(env:Env):bu k (A.deeper env):=
  ⟨r.hd,by have:=r.dp;show A.depth+1+3*k+5 < _;lia,by have:=r.un;show A.units+3+16*k+200 < _;lia,r.gd⟩
theorem bu.depth{k:Nat}{A:Around}(r:bu k A):A.depth < recursionLimit:=by have:=r.dp;lia
theorem bu.units{k:Nat}{A:Around}(r:bu k A):A.units+64 < cLine:=by have:=r.un;lia
theorem bu.units0{k:Nat}{A:Around}(r:bu k A):A.units < cLine:=by have:=r.un;lia
def vh:TA:=fun _ H Q=>Q [] H
def kY(ta:TE)(tr:TA):TA:=fun σ H Q=>ta σ H fun x H1=>tr σ H1 fun xs H2=>Q (x::xs) H2
section
variable{X:Cx}{e:Expr}{es:List Expr}{te:TE}{t:TA}{pos:Pos}
theorem uu:PA X [] vh:=fun _ _ _ _ H Q I h=>Calls.spliced_nil ⟨[],H,I,.nil,h⟩
theorem qQ(ha:PE X e te)(hr:PA X es t)(hs:starEach (e::es) X.env=(false,eval e X.env)::starEach es X.env:=by rfl):PA X (e::es) (kY te t):=by
  intro pos pins s σ H Q I h
  rw [hs]
  show wpAny _ _ (spliced ((false,eval e X.env)::backTo pos (starEach es X.env))) _ _ s
  refine Calls.spliced_cons (bf (ha pins s σ H _ I h) fun u s1 ⟨x,H1,I1,r1,q1⟩=>?_)
  exact bf (hr pos pins s1 σ H1 _ I1 q1) fun us s2 ⟨xs,H2,I2,r2,q2⟩=>⟨x::xs,H2,I2,.cons r1 r2,q2⟩
def xF(t:TA):TE:=fun σ H Q=>t σ H fun xs H1=>xs.length≤sizeLine∧∀p,H1 p=none→Q (.ref p) (aF H1 p (.tup xs))
def yJ(t:TA):TE:=fun σ H Q=>t σ H fun xs H1=>xs.length≤sizeLine∧∀p,H1 p=none→Q (.ref p) (aF H1 p (.lst xs))
theorem uC{x1}(h:PA X es t):PE X (.Tuple es x1 pos) (xF t):=by
  intro pins s σ H Q I hq
  refine wpAny_Tuple_spliced (bf (h pos pins s σ H _ I hq) fun us s1 ⟨xs,H1,I1,r,z,q⟩=>⟨by rw [←r.length];exact z,?_⟩)
  have hf:H1 s1.heap.objs.size=none:=I1.hok.fresh (Nat.le_refl _)
  refine⟨.ref s1.heap.objs.size,aF H1 s1.heap.objs.size (.tup xs),I1.laid (t':=s1.toks) (fun b u e=>Heap.get?_push_of_some _ e) (Nat.le_refl _) ?_,rfl,q _ hf⟩
  exact⟨z,us,r,⟨_,Heap.get?_push_size _ rfl,rfl,_,rfl,rfl⟩⟩
theorem uA(h:PA X es t):PE X (.List es pos) (yJ t):=by
  intro pins s σ H Q I hq
  refine wpAny_List_spliced (bf (h pos pins s σ H _ I hq) fun us s1 ⟨xs,H1,I1,r,z,q⟩=>⟨by rw [←r.length];exact z,?_⟩)
  have hf:H1 s1.heap.objs.size=none:=I1.hok.fresh (Nat.le_refl _)
  refine⟨.ref s1.heap.objs.size,aF H1 s1.heap.objs.size (.lst xs),I1.laid (t':=s1.toks) (fun b u e=>Heap.get?_push_of_some _ e) (Nat.le_refl _) ?_,rfl,q _ hf⟩
  exact⟨z,us,0,r,Heap.get?_push_size _ rfl⟩
end
abbrev Sp:=List V→Hp→VK→XK→Prop
abbrev mD:=List Env→Hp→Shared→XK→Value→Shared→Prop
structure p6 (P:Program) (w:World) (K:PySem.W.Frag) (mg:Str→Option Value) (base:Heap) (A:Around) (outer:List Env) (s:Shared) (H:Hp):Prop where
  frames:A.frames=some outer
  mod:Mod K mg base
  bs:∀b o,base.get? b=some o→s.heap.get? b=some o∧H b=none
  bsz:base.objs.size≤s.heap.objs.size
  funs:s.heap.FunFrames base outer
  frf:∀b∈nS outer,H b=none
  hok:gR P w H s.heap
  bare:AllBare s.gens
def CE(outer:List Env)(P:Program)(w:World)(H:Hp)(s:Shared)(Q:VK)(u:Value)(s':Shared):Prop:=
  ∃v H',s'.os=s.os∧AllBare s'.gens∧Un (nS outer) [] H H' s.heap s'.heap∧gR P w H' s'.heap∧aZ v u∧Q v H'
def CR(CX:mD)(outer:List Env)(P:Program)(w:World)(H:Hp)(s:Shared)(Q:VK)(E:XK)(r:Result)(s':Shared):Prop:=
  match r with
  | .ok (.ret u)=>CE outer P w H s Q u s'
  | .ok _=>False
  | .error e=>CX outer H s E e s'
structure aL (P:Program) (w:World) (K:PySem.W.Frag) (mg:Str→Option Value) (base:Heap) (CX:mD) (k:Nat) (f:Addr) (fd:FuncData) (ps:List Str) (sp:Sp):Prop where
  len:∀vs H Q E,sp vs H Q E→vs.length=ps.length
  run:∀(A:Around) (outer:List Env) (s:Shared) (H:Hp) (args:Args) (us:List Value) (vs:List V) (Q:VK) (E:XK),bu k A→p6 P w K mg base A outer s H→BindsTo s fd args (ps.zip us)→ay vs us→sp vs H Q E→
    codeAny (model P w) A (.call (.ref f) args) (CR CX outer P w H s Q E) s
section
variable{X:Cx}{pins:List (Addr × Obj)}{σ:St}{H:Hp}{s s':Shared}
theorem ao.env0(I:ao X pins σ H s):p6 X.prog X.w X.K X.mg X.base X.A X.stack s H:=
  ⟨I.ok.frames,I.ok.mod,I.bs,Nat.le_trans I.ok.bsz I.sz,I.stack,I.stkFree,I.hok,I.bare⟩
theorem ao.after{Q:VK}{u:Value}(I:ao X pins σ H s)(h:CE X.stack X.prog X.w H s Q u s'):EP X pins σ Q u s':=by
  obtain⟨v,H',os,bare,un,hok,r,q⟩:=h
  obtain⟨hh,g,d,t,os'⟩:=s'
  obtain rfl:os'=s.os:=os
  exact⟨v,H',I.call (h':=hh) (g':=g) (d':=d) (t':=t) (ch:=[]) un hok bare (fun b z=>absurd z (by simp)),r,q⟩
end
def pO(sp:Sp)(dvs:List V)(E:XK)(t:TA):TE:=fun σ H Q=>t σ H fun vs H1=>sp (vs++dvs) H1 Q E
def iN(K:PySem.W.Frag)(fd:FuncData)(ps:List Str)(ds:List Value):Prop:=
  ∀(s:Shared) (us:List Value),K.In s.heap→(us++ds).length=ps.length→BindsTo s fd ⟨us,[]⟩ (ps.zip (us++ds))
theorem iN.all{K:PySem.W.Frag}{fd:FuncData}{ps:List Str}(h:∀us:List Value,us.length=ps.length→bindArgs fd ⟨us,[]⟩=pure (ps.zip us)):iN K fd ps []:=fun s us _ hl=>by
  rw [List.append_nil] at hl ⊢
  exact .of_eq (h us hl)
def lc(CX:mD)(X:Cx)(E:XK):Prop:=∀(pins:List (Addr × Obj)) (σ:St) (H:Hp) (s:Shared) (e:Value) (s':Shared),ao X pins σ H s→CX X.stack H s E e s'→X.xe e s'
section
variable{X:Cx}{CX:mD}{k:Nat}{f C:Addr}{fd:FuncData}{ps:List Str}{sp:Sp}{dvs:List V}{ds:List Value}{E:XK}{x m:Str}{p pos apos:Pos}{e o:Expr}{es:List Expr}{ta:TE}{t:TA}
theorem vb{pins:List (Addr × Obj)}{σ:St}{H:Hp}{s:Shared}{Q:VK}{us:List Value}{vs:List V}(F:aL X.prog X.w X.K X.mg X.base CX k f fd ps sp)(hr:bu k X.A)(hb:iN X.K fd ps ds)(hd:ay dvs ds)(hx:lc CX X E)
    (I:ao X pins σ H s)(r:ay vs us)(h:sp (vs++dvs) H Q E):wpAny (model X.prog X.w) X.A (call (.ref f) us) (EP X pins σ Q) X.xe s:=by
  have r2:ay (vs++dvs) (us++ds):=r.append hd
  have hl:(us++ds).length=ps.length:=by rw [←r2.length];exact F.len _ _ _ _ h
  refine wpAny_call (codeAny_mono (F.run X.A X.stack s H ⟨us,[]⟩ (us++ds) (vs++dvs) Q E hr I.env0 (hb s us I.kIn hl) r2 h) fun r s' hq=>?_)
  cases r with
  | error e=>exact hx pins σ H s e s' I hq
  | ok fl=>
    cases fl with
    | ret u=>exact I.after hq
    | next=>exact False.elim hq
    | brk=>exact False.elim hq
    | cont=>exact False.elim hq
theorem qR(F:aL X.prog X.w X.K X.mg X.base CX k f fd ps sp)(hr:bu k X.A)(hg:Gl X x)(hm:X.mg x=some (.ref f))(hk:PySem.W.keepIn X.K (.ref f)=true)(hb:iN X.K fd ps ds)(hd:ay dvs ds)(hx:lc CX X E)
    (ha:PA X (e::es) t)(hdb:(x==("__debug__":Str))=false:=by decide)(he:starEach (e::es) X.env=(false,eval e X.env)::starEach es X.env:=by rfl)(hpl:(backTo pos (starEach es X.env)).any (·.1)=false:=by rfl):
    PE X (.Call (.Name x p) (e::es) [] pos) (pO sp dvs E t):=by
  intro pins s σ H Q I h
  refine wpAny_Call_Name_kw (qt I hg hm ?_ hdb)
  refine PySem.W.callWith_K (h₀:=X.base) I.ok.mod.kin hk (bf (ha pos pins s σ H _ I h) fun us s1 ⟨vs,H1,I1,r,q⟩=>⟨I1.kIn,?_⟩) he hpl
  exact vb F hr hb hd hx I1 r q
structure Mk (K:PySem.W.Frag) (C f:Addr):Prop where
  makes:PySem.W.makesIn K C=true
  init:PySem.W.findIn K (.ref C) "__init__"=some (some (.ref f))
  fn:PySem.W.isFn K (.ref f)=true
  kp:PySem.W.keepIn K (.ref C)=true
end
section
variable{X:Cx}{CX:mD}{k:Nat}{f C:Addr}{fd:FuncData}{ps ks:List Str}{sp:Sp}{E:XK}{x m:Str}{p pos apos kpos:Pos}{e o:Expr}{es:List Expr}{kws:List Keyword}{te ta:TE}{t tk:TA}{nm:Option Str}
structure x_ (K:PySem.W.Frag) (fd:FuncData) (ps ks:List Str) (g:List Value→List Value→List Value) (gV:List V→List V→List V):Prop where
  to:∀(s:Shared) (us ws:List Value),K.In s.heap→(g us ws).length=ps.length→BindsTo s fd ⟨us,ks.zip ws⟩ (ps.zip (g us ws))
  rel:∀{vs:List V} {us:List Value} {zs:List V} {ws:List Value},ay vs us→ay zs ws→ay (gV vs zs) (g us ws)
variable{g:List Value→List Value→List Value}{gV:List V→List V→List V}
end
structure aE (N P:List Str) (sc:Scope):Prop where
  kind:sc.kind=.function
  co:sc.isCoroutine=false
  gen:sc.isGenerator=false
  nd:N.Nodup
  pre:N.take P.length=P
  par:∀x∈P,sc.names.lookup x=some .local∨sc.names.lookup x=some .cell
  nofree:∀y∈sc.names,y.2≠.free
theorem iS{kindOf:Str→Option NameKind}{x:Str}:∀{binds:List (Str × Value)} {m:Str→Option Value},(∀v,(x,v)∉binds)→bindL kindOf binds m x=m x
  | [],_,_=>rfl
  | (n,v)::r,m,h=>by
    unfold bindL
    rw [iS fun w hw=>h w (List.mem_cons_of_mem _ hw)]
    split
    · have:x≠n:=by rintro rfl;exact h v List.mem_cons_self
      simp [this]
    · rfl
theorem iQ{kindOf:Str→Option NameKind}{x:Str}:∀{binds:List (Str × Value)} {m:Str→Option Value},(∀v,(x,v)∉binds)→bindC kindOf binds m x=m x
  | [],_,_=>rfl
  | (n,v)::r,m,h=>by
    unfold bindC
    rw [iQ fun w hw=>h w (List.mem_cons_of_mem _ hw)]
    split
    · rfl
    · have:x≠n:=by rintro rfl;exact h v List.mem_cons_self
      simp [this]
theorem iR{kindOf:Str→Option NameKind}{x:Str}{v:Value}:∀{P:List Str} {vs:List Value} {i:Nat} {m:Str→Option Value},P.Nodup→P[i]?=some x→vs[i]?=some v→kindOf x=some .local→
    bindL kindOf (P.zip vs) m x=some v
  | [],_,_,_,_,h,_,_=>by simp at h
  | _::_,[],_,_,_,_,h,_=>by simp at h
  | p::P,w::vs,0,m,nd,h1,h2,hk=>by
    simp at h1 h2;subst h1;subst h2
    show bindL kindOf ((p,w)::P.zip vs) m p=_
    unfold bindL
    rw [iS fun v hv=>(List.nodup_cons.mp nd).1 (List.of_mem_zip hv).1,if_pos hk]
    simp
  | p::P,w::vs,i+1,m,nd,h1,h2,hk=>by
    show bindL kindOf ((p,w)::P.zip vs) m x=_
    unfold bindL
    exact iR (i:=i) (List.nodup_cons.mp nd).2 (by simpa using h1) (by simpa using h2) hk
theorem iP{kindOf:Str→Option NameKind}{x:Str}{v:Value}:∀{P:List Str} {vs:List Value} {i:Nat} {m:Str→Option Value},P.Nodup→P[i]?=some x→vs[i]?=some v→kindOf x≠some .local→
    bindC kindOf (P.zip vs) m x=some v
  | [],_,_,_,_,h,_,_=>by simp at h
  | _::_,[],_,_,_,_,h,_=>by simp at h
  | p::P,w::vs,0,m,nd,h1,h2,hk=>by
    simp at h1 h2;subst h1;subst h2
    show bindC kindOf ((p,w)::P.zip vs) m p=_
    unfold bindC
    rw [iQ fun v hv=>(List.nodup_cons.mp nd).1 (List.of_mem_zip hv).1,if_neg hk]
    simp
  | p::P,w::vs,i+1,m,nd,h1,h2,hk=>by
    show bindC kindOf ((p,w)::P.zip vs) m x=_
    unfold bindC
    exact iP (i:=i) (List.nodup_cons.mp nd).2 (by simpa using h1) (by simpa using h2) hk
def dZ(N:List Str)(vs:List V):St:=vs.map some++List.replicate (N.length - vs.length) none
def lw(CX:mD)(P:Program)(w:World)(K:PySem.W.Frag)(mg:Str→Option Value)(base:Heap)(N:List Str)(qual:Str)(scope:Scope)(f:Addr)(cd:Value)(A:Around)(outer:List Env)(s:Shared)(H:Hp)(E:XK):Cx where
  prog:=P
  w:=w
  K:=K
  mg:=mg
  base:=base
  A:=A.deeper (envOfC qual scope s.heap.objs.size f cd)
  N:=N
  s₀:=s
  H₀:=H
  env:=envOfC qual scope s.heap.objs.size f cd
  outer:=outer
  stack:=envOfC qual scope s.heap.objs.size f cd::outer
  ex:=[]
  calm:=true
  fn:=fun _=>true
  pn:=[]
  xe:=fun e s'=>wpAny (model P w) (A.deeper (envOfC qual scope s.heap.objs.size f cd)) (leaving (envOfC qual scope s.heap.objs.size f cd) e) (fun _ s''=>CX outer H s E e s'') (fun e' s''=>CX outer H s E e' s'') s'
theorem j9{sc:Scope}{n:Nat}{x:Str}(h:sc.names.lookup x=some .cell):∃c,(cellsFrom n sc.names []).lookup x=some c:=by
  have q:=PySem.W.cellsFrom_some sc.names n [] (.inl h)
  exact Option.isSome_iff_exists.mp q
theorem mU{CX:mD}{P:Program}{w:World}{K:PySem.W.Frag}{mg:Str→Option Value}{base:Heap}{N ps:List Str}{qual:Str}{scope:Scope}{f:Addr}{cd:Value}{A:Around}{outer:List Env}{s s1:Shared}{H:Hp}{E:XK}{us:List Value}{vs:List V}
    (S:aE N ps scope)(hd:A.handled=none)(e0:p6 P w K mg base A outer s H)(hl:vs.length=ps.length)(r:ay vs us)
    (x:InCallC s s.heap.objs.size (bindL (envOfC qual scope s.heap.objs.size f cd).kindOf (ps.zip us) fun _=>none) (cellsFrom (s.heap.objs.size+1) scope.names []) (bindC (envOfC qual scope s.heap.objs.size f cd).kindOf (ps.zip us) fun _=>none) s1):
    ao (lw CX P w K mg base N qual scope f cd A outer s H E) [] (dZ N vs) H s1:=by
  have hpl:ps.length≤N.length:=by have:=congrArg List.length S.pre;rw [List.length_take] at this;lia
  obtain⟨h1,tk,rfl,hk⟩:=x.done
  have noA:∀b:Addr,b∉(lw CX P w K mg base N qual scope f cd A outer s H E).ex:=fun b z=>absurd (show b∈([]:List Addr) from z) (by simp)
  refine⟨⟨e0.mod,S.kind,rfl,rfl,Nat.le_refl _,fun y z c h1 h2=>?_,fun y hy=>?_,fun y c _ h=>?_,fun _=>hd,Around.frames_deeper e0.frames,.inr ⟨rfl,rfl⟩,fun b z=>absurd z (noA b),e0.bs,e0.bsz,fun b _ _=>noA b,fun b z=>absurd z (noA b),e0.funs,e0.frf⟩,
    rfl,e0.bare,Un.kept hk,⟨_,x.toInCall.ns,fun i y v h1 h2 h3=>?_⟩,fun y c h=>⟨_,x.cell y c h⟩,e0.hok.fresh (Nat.le_refl _),fun y c h=>?_,fun p hp=>absurd (show p∈([]:List (Addr × Obj)) from hp) (by simp),e0.hok.kept hk,?_⟩
  · exact name_of_addr x.apart (PySem.mem_of_lookup h1) (PySem.mem_of_lookup h2)
  · have hy:scope.names.lookup y=some .cell∨scope.names.lookup y=some .free:=hy
    rcases hy with hy | hy
    · exact j9 hy
    · exact absurd rfl (S.nofree _ (PySem.mem_of_lookup hy))
  · exact Nat.le_of_lt (x.above y c (PySem.mem_of_lookup h))
  · have hi:i < vs.length:=by
      unfold dZ at h2
      by_cases hi:i < vs.length
      · exact hi
      · rw [List.getElem?_append_right (by simpa using hi)] at h2
        rw [List.getElem?_replicate] at h2
        split at h2<;>cases h2
    have ha:vs[i]?=some v:=by
      unfold dZ at h2
      rw [List.getElem?_append_left (by simpa using hi),List.getElem?_map] at h2
      cases e:vs[i]? with
      | none=>rw [e] at h2;cases h2
      | some a=>rw [e] at h2;cases h2;rfl
    obtain⟨u,hu,rv⟩:=r.get ha
    have hp:ps[i]?=some y:=by
      rw [←S.pre,List.getElem?_take_of_lt (by lia)];exact h1
    have ndP:ps.Nodup:=by rw [←S.pre];exact S.nd.sublist (List.take_sublist _ _)
    refine⟨u,rv,?_⟩
    rcases S.par y (List.mem_of_getElem? hp) with k | k
    · exact .inl ⟨k,iR ndP hp hu k⟩
    · obtain⟨c,e⟩:=j9 (n:=s.heap.objs.size+1) k
      refine .inr ⟨.inl k,c,e,?_⟩
      have q:=x.cell y c e
      rw [iP ndP hp hu (by show scope.names.lookup y≠_;rw [k];decide)] at q
      exact q
  · exact e0.hok.fresh (Nat.le_of_lt (x.above y c (PySem.mem_of_lookup h)))
  · unfold dZ
    show _=N.length
    rw [List.length_append,List.length_map,List.length_replicate]
    lia
theorem wb{CX:mD}{P:Program}{w:World}{K:PySem.W.Frag}{mg:Str→Option Value}{base:Heap}{k:Nat}{f:Addr}{name qual:Str}{params:Arguments}{body:List Stmt}{scope:Scope}{dV kV doc pm cdv ct oc:Value}{an od:Option Addr}
    {osl:Array (Option Value)}{N ps:List Str}{sp:Sp}(lk:K.lookup f=some ⟨oc,od,.func (PySem.W.fnOf name qual params body scope dV kV doc pm an cdv ct),osl⟩)(hcd:PySem.W.codeIn K cdv qual=true)(S:aE N ps scope)
    (len:∀vs H Q E,sp vs H Q E→vs.length=ps.length)
    (hbody:∀(A:Around) (outer:List Env) (s:Shared) (H:Hp) (vs:List V) (Q:VK) (E:XK),bu k (A.deeper (envOfC qual scope s.heap.objs.size f cdv))→sp vs H Q E→
      ∃t,gE (lw CX P w K mg base N qual scope f cdv A outer s H E) body t∧t {nx:=fun _ H'=>Q .non H',rt:=Q} (dZ N vs) H):
    aL P w K mg base CX (k+1) f (PySem.W.fnOf name qual params body scope dV kV doc pm an cdv ct) ps sp:=by
  refine⟨len,fun A outer s H args us vs Q E hr e0 hb r hsp=>?_⟩
  have hl:=len _ _ _ _ hsp
  have KX:K.In s.heap:=e0.mod.kin.keeps fun b o e=>(e0.bs b o e).1
  have lim:s.heap.NoLimit:=e0.mod.nolimit.keeps fun b o e=>(e0.bs b o e).1
  have hkind:∀y∈ps.zip us,scope.names.lookup y.1=some .local∨(scope.names.lookup y.1=some .cell∧((cellsFrom (s.heap.objs.size+1) scope.names []).lookup y.1).isSome=true):=fun⟨n,v⟩ hy=>by
    rcases S.par n (List.of_mem_zip hy).1 with q | q
    · exact .inl q
    · exact .inr ⟨q,PySem.W.cellsFrom_some _ _ _ (.inl q)⟩
  refine codeAny_call_function hr.depth (KX _ _ lk) rfl S.co S.gen rfl (PySem.W.codeRec_of KX hcd) (hb _ _ _ _ ?_)
  refine wpAny_newFunctionEnv_cells S.kind hkind fun env he s1 x=>?_
  subst he
  refine⟨lim.keeps x.toInCall.keep,codeAny_func ?_⟩
  obtain⟨t,ht,hq⟩:=hbody A outer s H vs Q E (hr.deeper _) hsp
  have I:ao (lw CX P w K mg base N qual scope f cdv A outer s H E) [] (dZ N vs) H s1:=mU S hr.hd e0 hl r x
  refine wpAny_mono (ht [] s1 (dZ N vs) H _ I hq) (fun fl s' hs=>?_) fun e s' hs=>hs
  have fin:∀{σ':St} {H':Hp} {v:V} {u:Value},ao (lw CX P w K mg base N qual scope f cdv A outer s H E) [] σ' H' s'→aZ v u→Q v H'→CE outer P w H s Q u s':=
    fun{σ' H' v u} J rv q=>⟨v,H',J.os,J.bare,J.base,J.hok,rv,q⟩
  cases fl with
  | ret u=>
    obtain⟨v,σ',H',J,rv,q⟩:=hs
    exact fin J rv q
  | next=>
    obtain⟨σ',H',J,q⟩:=hs
    exact fin (v:=V.non) (u:=Value.none) J rfl q
  | brk=>
    obtain⟨_,_,_,q⟩:=hs
    exact False.elim q
  | cont=>
    obtain⟨_,_,_,q⟩:=hs
    exact False.elim q
end L2
namespace L2
open PySem PySem.Spec PyProof.Rows
section
variable{X:Cx}{x:Str}{p pos:Pos}{e:Expr}{es:List Expr}{t:TA}{id T:String}{r:List V→Hp→VK→Prop}
def yF(r:List V→Hp→VK→Prop)(t:TA):TE:=fun σ H Q=>t σ H fun vs H1=>r vs H1 Q
theorem oT(hc:cT X (.builtin id) r)(hg:Gl X x)(hm:X.mg x=none)(hv:bootBuiltins x=some (.builtin id))(ha:PA X (e::es) t)(hn:x≠"__name__":=by decide)(hdb:(x==("__debug__":Str))=false:=by decide)
    (he:starEach (e::es) X.env=(false,eval e X.env)::starEach es X.env:=by rfl)(hpl:(backTo pos (starEach es X.env)).any (·.1)=false:=by rfl):PE X (.Call (.Name x p) (e::es) [] pos) (yF r t):=by
  intro pins s σ H Q I h
  refine wpAny_Call_Name_kw (eO I hg hm hv ?_ hn hdb)
  exact PyProof.Rows.callWith_builtin1 (bf (ha pos pins s σ H _ I h) fun us s1 ⟨vs,H1,I1,r1,q1⟩=>hc pins s1 σ H1 vs us Q I1 r1 q1) he hpl
theorem m5(hc:cT X (.type T) r)(hg:Gl X x)(hm:X.mg x=none)(hv:bootBuiltins x=some (.type T))(ha:PA X (e::es) t)(hn:x≠"__name__":=by decide)(hdb:(x==("__debug__":Str))=false:=by decide)
    (he:starEach (e::es) X.env=(false,eval e X.env)::starEach es X.env:=by rfl)(hpl:(backTo pos (starEach es X.env)).any (·.1)=false:=by rfl):PE X (.Call (.Name x p) (e::es) [] pos) (yF r t):=by
  intro pins s σ H Q I h
  refine wpAny_Call_Name_kw (eO I hg hm hv ?_ hn hdb)
  exact PyProof.Rows.callWith_type1 (bf (ha pos pins s σ H _ I h) fun us s1 ⟨vs,H1,I1,r1,q1⟩=>hc pins s1 σ H1 vs us Q I1 r1 q1) he hpl
end
end L2
namespace HT
open PySem PyProof.Rows
section
open PySem.SeqAt
open PySem.AutoSeq1 (wpAny_loadPart')
open PySem.MeetsSeq PySem.MeetsSeq2 PySem.MeetsSeq3
end
section
variable{prog:Program}{w:World}{A:Around}{E:Value→Shared→Prop}{s:Shared}
theorem cat_tup{t b:Addr}{vs ws:List Value}{Q:Value→Shared→Prop}(ht:IsTup s.heap t vs.toArray)(hb:IsTup s.heap b ws.toArray)(hv:vs≠[])
    (h1:ws=[]→Q (.ref t) s)(h2:ws≠[]→Q (.ref s.heap.objs.size) {s with heap:=s.heap.push {cls:=.type "tuple",data:=.seq (vs++ws).toArray}})
    (hsz:vs.length+ws.length≤sizeLine):wpAny (model prog w) A (binaryOp .Add (.ref t) (.ref b)) Q E s:=by
  obtain⟨⟨cls,dd,data,sl⟩,ho,hc,n,hd⟩:=id ht
  obtain⟨⟨cls2,dd2,data2,sl2⟩,ho2,hc2,n2,hd2⟩:=id hb
  simp only at hc hd hc2 hd2
  subst hc hd hc2 hd2
  have e:vs.toArray++ws.toArray=(vs++ws).toArray:=by simp
  by_cases hw:ws=[]
  · exact concat_meets ⟨_,ho,rfl⟩ ⟨_,ho2,rfl⟩ noFill_tuple_add seq_tuple_add PySem.F.slot_tuple_add PySem.F.entry_tuple_add (PySem.F.args_tuple_add_2 _ _)
      (tuple_addW1 t b vs.toArray ws.toArray n n2 dd dd2 sl sl2 (by simpa using hv) (by simp [hw])) ⟨ho,ho2,h1 hw⟩
  · refine concat_meets ⟨_,ho,rfl⟩ ⟨_,ho2,rfl⟩ noFill_tuple_add seq_tuple_add PySem.F.slot_tuple_add PySem.F.entry_tuple_add (PySem.F.args_tuple_add_2 _ _)
      (tuple_addW2 t b vs.toArray ws.toArray n n2 dd dd2 sl sl2 (by simpa using hv) (by simpa using hw) (by rw [List.size_toArray,List.size_toArray];exact hsz)) ⟨ho,ho2,?_⟩
    rw [e]
    exact h2 hw
def sIx(n d:Nat):Option Int→Nat
  | none=>d
  | some v=>if v < 0 then(v+(n:Int)).toNat else min v.toNat n
theorem vc(n d:Nat)(hd:d≤n)(o:Option Int):sIx n d o≤n:=by
  cases o with
  | none=>exact hd
  | some v=>
    show(if v < 0 then(v+(n:Int)).toNat else min v.toNat n)≤n
    by_cases hv:v < 0
    · rw [if_pos hv];lia
    · rw [if_neg hv];exact Nat.min_le_right _ _
theorem lZ(v:Int)(n d:Nat):(if v < 0 then max (v+(n:Int)) 0 else min v (n:Int))=((sIx n d (some v):Nat):Int):=by
  show(if v < 0 then max (v+(n:Int)) 0 else min v (n:Int))=(((if v < 0 then(v+(n:Int)).toNat else min v.toNat n):Nat):Int)
  by_cases hv:v < 0
  · simp only [if_pos hv];lia
  · simp only [if_neg hv];lia
theorem lg(lo hi:Option Int)(n:Nat):Builtin.Slice.sliceAdjust lo hi 1 (n:Int)=(((sIx n 0 lo:Nat):Int),((sIx n n hi:Nat):Int)):=by
  have h1:¬((1:Int) < 0):=by lia
  unfold Builtin.Slice.sliceAdjust
  simp only [h1,if_false]
  refine Prod.ext ?_ ?_
  · cases lo with
    | none=>rfl
    | some v=>exact lZ v n 0
  · cases hi with
    | none=>rfl
    | some v=>exact lZ v n n
theorem lG(i j:Nat):Builtin.Slice.slicePlaces (i:Int) (j:Int) 1=j - i:=by
  unfold Builtin.Slice.slicePlaces
  have h1:(1:Int) > 0:=by lia
  simp only [h1,if_true,Int.ediv_one]
  split<;>lia
theorem iw{v:Value}{o:Option Int}{Q:Option Int→Shared→Prop}(p:IsPart v o)(h:Q o s):wpAny (model prog w) A (Builtin.Slice.slicePartIndex v) Q E s:=by
  cases p with
  | none=>exact slicePart_none h
  | int i t=>exact slicePart_int h
theorem dD{sl:Addr}{vl vu:Value}{lo hi:Option Int}{n:Nat}{Q:Int × Int × Nat→Shared→Prop}(hs:s.heap.IsSliceOf sl vl vu .none)(pl:IsPart vl lo)(pu:IsPart vu hi)
    (h:Q (((sIx n 0 lo:Nat):Int),1,sIx n n hi - sIx n 0 lo) s):wpAny (model prog w) A (Builtin.Slice.sliceApplied (.ref sl) (pure (n:Int))) Q E s:=by
  obtain⟨os,hos,hcs,hds⟩:=id hs
  unfold Builtin.Slice.sliceApplied Builtin.Slice.sliceFields
  refine wpAny_bind (wpAny_bind (wpAny_field hos hds (x:=vl) rfl (wpAny_bind (wpAny_field hos hds (x:=vu) rfl (wpAny_bind (wpAny_field hos hds (x:=.none) rfl (wpAny_pure ?_)))))))
  refine wpAny_bind (slicePart_none ?_)
  show wpAny _ _ (if ((1:Int)==0)=true then _ else _) _ _ s
  rw [if_neg (by decide)]
  refine wpAny_bind (iw pl (wpAny_bind (iw pu (wpAny_bind (wpAny_pure ?_)))))
  show wpAny _ _ (match Builtin.Slice.sliceAdjust lo hi 1 (n:Int) with | (lo,hi)=>pure (lo,(1:Int),Builtin.Slice.slicePlaces lo hi 1)) _ _ s
  rw [lg lo hi n]
  show wpAny _ _ (pure (((sIx n 0 lo:Nat):Int),(1:Int),Builtin.Slice.slicePlaces ((sIx n 0 lo:Nat):Int) ((sIx n n hi:Nat):Int) 1)) _ _ s
  rw [lG]
  exact wpAny_pure h
theorem o5(xs:Array Value)(i k:Nat):((List.range k).filterMap fun(m:Nat)=>xs[((i:Int)+(m:Int)*1).toNat]?).toArray=((xs.toList.drop i).take k).toArray:=by
  have e:(fun(m:Nat)=>xs[((i:Int)+(m:Int)*1).toNat]?)=fun m=>xs[i+m]?:=by
    funext m
    have:((i:Int)+(m:Int)*1).toNat=i+m:=by lia
    rw [this]
  rw [e]
  have:=pick_run xs i k
  rw [List.filterMap_map] at this
  have e2:((fun x=>xs[x]?) ∘ fun x=>i+x)=fun m=>xs[i+m]?:=rfl
  rw [e2] at this
  rw [this]
theorem getItem_tuple_cut{t sl:Addr}{items:Array Value}{vl vu:Value}{lo hi:Option Int}{Q:Value→Shared→Prop}(ht:IsTup s.heap t items)(hs:s.heap.IsSliceOf sl vl vu .none)(pl:IsPart vl lo)(pu:IsPart vu hi)
    (hw:¬(sIx items.size 0 lo=0∧sIx items.size items.size hi=items.size))
    (h:Q (.ref s.heap.objs.size) {s with heap:=s.heap.push {cls:=.type "tuple",data:=.seq ((items.toList.drop (sIx items.size 0 lo)).take (sIx items.size items.size hi - sIx items.size 0 lo)).toArray}})
    (hsz:items.size≤sizeLine):wpAny (model prog w) A (getItem (.ref t) (.ref sl)) Q E s:=by
  have htake:sizeOk (.seq ((items.toList.drop (sIx items.size 0 lo)).take (sIx items.size items.size hi - sIx items.size 0 lo)).toArray):=by
    show((items.toList.drop (sIx items.size 0 lo)).take (sIx items.size items.size hi - sIx items.size 0 lo)).toArray.size≤sizeLine
    rw [List.size_toArray,List.length_take,List.length_drop,Array.length_toList]
    lia
  have hj:sIx items.size items.size hi≤items.size:=vc _ _ (Nat.le_refl _) hi
  obtain⟨os,hos,hcs,hds⟩:=id hs
  have hTs:s.TypeIs (.ref sl) "slice":=⟨os,hos,hcs⟩
  unfold getItem
  try with_reducible refine wpAny_holding ?_
  first | refine wpAny_bind (wpAny_pure ?_) | skip
  refine wpAny_bind (wpAny_sequenceKey ht.typeIs (by decide) ?_)
  refine wpAny_bind (wpAny_callSpecial?_slot (name:=Str.ofString "__getitem__") ht.typeIs PyProof.Rows.slot_tuple_getitem
    (wpAny_call_entry PyProof.Rows.slot_tuple_getitem ht.typeIs entry_tuple_getitem ?_ (args_tuple_getitem _ _)))
  show wpAny _ _ (Builtin.Tuple.tupleItemsOf (.ref t) >>= _) _ _ s
  refine wpAny_bind (tupleItemsOf_ ht ?_)
  refine wpAny_bind (wpAny_typeOf hTs ?_)
  rw [if_pos (by decide)]
  refine wpAny_bind (dD hs pl pu ?_)
  have hno:¬((((sIx items.size 0 lo:Nat):Int)==0&&(1:Int)==1&&(sIx items.size items.size hi - sIx items.size 0 lo)==items.size)=true):=by
    intro q
    rw [Bool.and_eq_true,Bool.and_eq_true] at q
    have q1:((sIx items.size 0 lo:Nat):Int)=0:=eq_of_beq q.1.1
    have q2:sIx items.size items.size hi - sIx items.size 0 lo=items.size:=eq_of_beq q.2
    exact hw ⟨by lia,by lia⟩
  show wpAny _ _ (if (((sIx items.size 0 lo:Nat):Int)==0&&(1:Int)==1&&(sIx items.size items.size hi - sIx items.size 0 lo)==items.size)=true then _ else _) _ _ s
  rw [if_neg hno,o5]
  first
    | exact wpAny_bind (m:=Builtin.Tuple.tupleExact _) (wpAny_newObj_type (wpAny_pure ⟨_,rfl,wpAny_pure h⟩) htake)
    | exact wpAny_bind (m:=Builtin.Tuple.tupleExact _) (wpAny_newObj_type (wpAny_bind (wpAny_pure (wpAny_pure ⟨_,rfl,wpAny_pure h⟩))) htake)
    | exact wpAny_bind (wpAny_bind (m:=Builtin.Tuple.tupleExact _) (wpAny_newObj_type (wpAny_pure (wpAny_pure ⟨_,rfl,wpAny_pure h⟩)) htake))
    | exact wpAny_bind (wpAny_bind (m:=Builtin.Tuple.tupleExact _) (wpAny_newObj_type (wpAny_pure ⟨_,rfl,wpAny_pure h⟩) htake))
end
end HT
namespace L2
open PySem PySem.Spec PyProof.Rows
abbrev TO:=St→Hp→(Option Int→Hp→Prop)→Prop
def PO(X:Cx)(e:Option Expr)(t:TO):Prop:=
  ∀(pins:List (Addr × Obj)) (s:Shared) (σ:St) (H:Hp) (Q:Option Int→Hp→Prop),ao X pins σ H s→t σ H Q→
    wpAny (model X.prog X.w) X.A (evalPart e X.env) (fun u s'=>∃o H',ao X pins σ H' s'∧IsPart u o∧Q o H') X.xe s
def rD:TO:=fun _ H Q=>Q none H
def xD(t:TE):TO:=fun σ H Q=>t σ H fun x H1=>∃i,x=.int i∧Q (some i) H1
section
variable{X:Cx}{e:Expr}{te:TE}{lo hi:Option Expr}{tl th:TO}{pos p2:Pos}
theorem qZ:PO X none rD:=by
  intro pins s σ H Q I h
  rw [evalPart_none]
  exact wpAny_pure ⟨none,H,I,.none,h⟩
theorem q4(h:PE X e te):PO X (some e) (xD te):=by
  intro pins s σ H Q I hw
  rw [evalPart_some]
  refine bf (h pins s σ H _ I hw) fun u s1 ⟨x,H1,I1,r1,q1⟩=>?_
  obtain⟨i,rfl,q⟩:=q1
  obtain⟨t,rfl⟩:=r1
  exact⟨some i,H1,I1,.int i t,q⟩
def p8(X:Cx)(r:V→Option Int→Option Int→Hp→VK→Prop):Prop:=
  ∀(pins:List (Addr × Obj)) (s:Shared) (σ:St) (H:Hp) (x:V) (v vl vu:Value) (lo hi:Option Int) (sl:Addr) (Q:VK),ao X pins σ H s→aZ x v→s.heap.IsSliceOf sl vl vu .none→IsPart vl lo→IsPart vu hi→r x lo hi H Q→
    ∃T id,typeLookup (.type T) "__getitem__"=pure (some (.builtin id))∧s.TypeIs v T∧wpAny (model X.prog X.w) X.A (getItem v (.ref sl)) (EP X pins σ Q) X.xe s
theorem p8.or{r r':V→Option Int→Option Int→Hp→VK→Prop}(h:p8 X r)(h':p8 X r'):p8 X (fun x lo hi H Q=>r x lo hi H Q∨r' x lo hi H Q):=by
  intro pins s σ H x v vl vu lo hi sl Q I rx hs pl pu q
  rcases q with q | q
  · exact h pins s σ H x v vl vu lo hi sl Q I rx hs pl pu q
  · exact h' pins s σ H x v vl vu lo hi sl Q I rx hs pl pu q
def zu(r:V→Option Int→Option Int→Hp→VK→Prop)(te:TE)(tl th:TO):TE:=fun σ H Q=>te σ H fun x H1=>tl σ H1 fun l H2=>th σ H2 fun u H3=>r x l u H3 Q
theorem oV{r:V→Option Int→Option Int→Hp→VK→Prop}(hr:p8 X r)(he:PE X e te)(hl:PO X lo tl)(hu:PO X hi th):PE X (.Subscript e (.Slice lo hi none p2) pos) (zu r te tl th):=by
  intro pins s σ H Q I h
  refine Subscript_ (bf (he pins s σ H _ I h) fun v s1 ⟨x,H1,I1,r1,q1⟩=>?_)
  refine wpAny_Slice (bf (hl pins s1 σ H1 _ I1 q1) fun vl s2 ⟨l,H2,I2,pl,q2⟩=>bf (hu pins s2 σ H2 _ I2 q2) fun vu s3 ⟨u,H3,I3,pu,q3⟩=>?_)
  rw [evalPart_none]
  refine wpAny_pure ?_
  have I4:ao X pins σ H3 {s3 with heap:=s3.heap.push {cls:=.type "slice",data:=.fields #[vl,vu,.none]}}:=I3.kept (t':=s3.toks) fun b ob q=>Heap.get?_push_of_some _ q
  obtain⟨T,id,hT,ht,hg⟩:=hr pins {s3 with heap:=s3.heap.push {cls:=.type "slice",data:=.fields #[vl,vu,.none]}} σ H3 x v vl vu l u s3.heap.objs.size Q I4 r1 (Heap.IsSliceOf.new ..) pl pu q3
  show wpAny (model X.prog X.w) X.A (subscriptTail e (.Slice lo hi none p2) v (.ref s3.heap.objs.size)) (EP X pins σ Q) X.xe {s3 with heap:=s3.heap.push {cls:=.type "slice",data:=.fields #[vl,vu,.none]}}
  exact tail_any (ops:=[.ref s3.heap.objs.size,v]) ht hT hg (by with_unfolding_all rfl)
def iK(xs:List V)(lo hi:Option Int):List V:=(xs.drop (HT.sIx xs.length 0 lo)).take (HT.sIx xs.length xs.length hi - HT.sIx xs.length 0 lo)
theorem gv(xs:List V)(lo hi:Option Int):(iK xs lo hi).length≤xs.length:=by
  unfold iK
  rw [List.length_take,List.length_drop]
  lia
def xm(K:PySem.W.Frag):V→Option Int→Option Int→Hp→VK→Prop:=fun x lo hi H Q=>∃a xs,x=.ref a∧bY K H a xs∧
  ¬(HT.sIx xs.length 0 lo=0∧HT.sIx xs.length xs.length hi=xs.length)∧∀p,H p=none→Q (.ref p) (aF H p (.tup (iK xs lo hi)))
theorem ve:p8 X (xm X.K):=by
  intro pins s σ H x v vl vu lo hi sl Q I rx hs pl pu h
  obtain⟨a,xs,rfl,hx,hw,q⟩:=h
  cases rx
  obtain⟨its,r,ht,hz⟩:=I.tuple hx
  have hlen:its.toArray.size=xs.length:=by rw [List.size_toArray];exact r.length.symm
  refine⟨"tuple",_,PyProof.Rows.slot_tuple_getitem.lookup,ht.typeIs,?_⟩
  refine HT.getItem_tuple_cut ht hs pl pu (by rw [hlen];exact hw) ?_ (by rw [hlen];exact hz)
  rw [hlen]
  refine⟨.ref s.heap.objs.size,_,I.laid (t':=s.toks) (o:=.tup (iK xs lo hi)) (fun b ob q=>Heap.get?_push_of_some _ q) (Nat.le_refl _) ?_,rfl,q _ (I.hok.fresh (Nat.le_refl _))⟩
  exact⟨Nat.le_trans (gv xs lo hi) hz,_,(r.drop (HT.sIx xs.length 0 lo)).take (HT.sIx xs.length xs.length hi - HT.sIx xs.length 0 lo),gS.new _ _⟩
def xc(K:PySem.W.Frag):R2:=fun x y H Q=>∃a b xs ys,x=.ref a∧y=.ref b∧bY K H a xs∧bY K H b ys∧xs≠[]∧xs.length+ys.length≤sizeLine∧
  (ys=[]→Q (.ref a) H)∧(ys≠[]→∀p,H p=none→Q (.ref p) (aF H p (.tup (xs++ys))))
theorem ay.nil_iff{xs:List V}{us:List Value}(r:ay xs us):us=[]↔ xs=[]:=by
  cases r with
  | nil=>simp
  | cons _ _=>simp
theorem qJ:c9 X (binaryOp .Add) (xc X.K):=by
  intro pins s σ H x y v u Q I rx ry h
  obtain⟨a,b,xs,ys,rfl,rfl,ha,hb,hx,hz,q1,q2⟩:=h
  cases rx
  cases ry
  obtain⟨its,r1,p1,_⟩:=I.tuple ha
  obtain⟨its2,r2,p2,_⟩:=I.tuple hb
  refine HT.cat_tup p1 p2 (fun z=>hx (r1.nil_iff.mp z)) (fun z=>⟨.ref a,H,I,rfl,q1 (r2.nil_iff.mp z)⟩) (fun z=>?_) (by rw [←r1.length,←r2.length];exact hz)
  refine⟨.ref s.heap.objs.size,_,I.laid (t':=s.toks) (o:=.tup (xs++ys)) (fun b ob q=>Heap.get?_push_of_some _ q) (Nat.le_refl _) ?_,rfl,q2 (fun w=>z (r2.nil_iff.mpr w)) _ (I.hok.fresh (Nat.le_refl _))⟩
  exact⟨by rw [List.length_append];exact hz,_,r1.append r2,gS.new _ _⟩
end
end L2
namespace L2
open PySem PySem.Spec PyProof.Rows
def wu(n:Nat)(i:Int):Option Nat:=if 0≤i then(if i < n then some i.toNat else none) else if -(n:Int)≤i then some (i+n).toNat else none
def atI{α:Type}(xs:List α)(i:Int):Option α:=(wu xs.length i).bind fun j=>xs[j]?
theorem qq{n:Nat}{i:Int}{j:Nat}(h:wu n i=some j):seqIndex? i n=some j∧j < n∧ -(n:Int)≤i∧i < n:=by
  unfold wu at h
  by_cases h0:0≤i
  · rw [if_pos h0] at h
    by_cases h1:i < n
    · rw [if_pos h1] at h
      have e:i.toNat=j:=Option.some.inj h
      exact⟨by rw [seqIndex_of h0 h1,e],by lia,by lia,h1⟩
    · rw [if_neg h1] at h;cases h
  · rw [if_neg h0] at h
    by_cases h1: -(n:Int)≤i
    · rw [if_pos h1] at h
      have e:(i+n).toNat=j:=Option.some.inj h
      exact⟨by rw [seqIndex_neg (by lia) h1,e],by lia,h1,by lia⟩
    · rw [if_neg h1] at h;cases h
theorem lT{α:Type}{xs:List α}{i:Int}{v:α}(h:atI xs i=some v):∃j,seqIndex? i xs.length=some j∧xs[j]?=some v∧j < xs.length∧ -(xs.length:Int)≤i∧i < xs.length:=by
  unfold atI at h
  cases e:wu xs.length i with
  | none=>rw [e] at h;cases h
  | some j=>
    rw [e] at h
    obtain⟨h1,h2,h3,h4⟩:=qq e
    exact⟨j,h1,h,h2,h3,h4⟩
def jp(b:Expr):Prop:=∀o i,subscripted b false o i=operate [o,i] (getItem o i)
def p7(X:Cx)(r:R2):Prop:=
  ∀(value slice:Expr) (pins:List (Addr × Obj)) (s:Shared) (σ:St) (H:Hp) (x y:V) (v u:Value) (Q:VK),ao X pins σ H s→aZ x v→aZ y u→r x y H Q→
    subscripted slice false v u=operate [v,u] (getItem v u)→wpAny (model X.prog X.w) X.A (subscriptTail value slice v u) (EP X pins σ Q) X.xe s
def yS(X:Cx)(id:String)(r:V→List V→Hp→VK→Prop):Prop:=
  ∀(pins:List (Addr × Obj)) (s:Shared) (σ:St) (H:Hp) (x:V) (xs:List V) (v:Value) (us:List Value) (Q:VK),ao X pins σ H s→aZ x v→ay xs us→r x xs H Q→
    wpAny (model X.prog X.w) X.A (call (.builtin id) (v::us)) (EP X pins σ Q) X.xe s
section
variable{X:Cx}{a b:Expr}{ta tb:TE}{pos:Pos}
theorem p7.or{r r':R2}(h:p7 X r)(h':p7 X r'):p7 X (fun x y H Q=>r x y H Q∨r' x y H Q):=by
  intro value slice pins s σ H x y v u Q I rx ry q hs
  rcases q with q | q
  · exact h value slice pins s σ H x y v u Q I rx ry q hs
  · exact h' value slice pins s σ H x y v u Q I rx ry q hs
theorem wR{r:R2}(hr:p7 X r)(ha:PE X a ta)(hb:PE X b tb)(hs:jp b):PE X (.Subscript a b pos) (xC r ta tb):=by
  intro pins s σ H Q I h
  exact Subscript_ (tf ha hb I h fun v u s2 x y H2 I2 rx ry q=>hr a b pins s2 σ H2 x y v u Q I2 rx ry q (hs _ _))
def xj(K:PySem.W.Frag):R2:=fun x y H Q=>∃p xs i v,x=.ref p∧y=.int i∧dj K H p xs∧atI xs i=some v∧Q v H
def xk(K:PySem.W.Frag):R2:=fun x y H Q=>∃p xs i v,x=.ref p∧y=.int i∧bY K H p xs∧atI xs i=some v∧Q v H
theorem qr:p7 X (xj X.K):=by
  intro value slice pins s σ H x y v u Q I rx ry h hs
  obtain⟨p,xs,i,z,rfl,rfl,hq,he,q⟩:=h
  cases rx
  obtain⟨t,rfl⟩:=ry
  obtain⟨its,r,pl,hz⟩:=I.list hq
  obtain⟨j,h1,h2,h3,h4,h5⟩:=lT he
  obtain⟨w,ew,rw'⟩:=r.get h2
  have hl:=r.length
  have hn:=lD
  have fin:EP X pins σ Q w s:=⟨z,H,I,rw',q⟩
  by_cases h0:0≤i
  · have hj:i.toNat=j:=by
      rw [seqIndex_of h0 h5] at h1
      exact Option.some.inj h1
    exact item_listR pl.isList h0 (by lia) (by rw [hj];simpa using ew) fin hs
  · have hj:(i+(its.toArray.size:Int)).toNat=j:=by
      rw [seqIndex_neg (by lia) h4] at h1
      rw [List.size_toArray,←hl]
      exact Option.some.inj h1
    exact subscriptTail_builtinR (x:=w) pl.isList.typeIs slot_list_getitem.lookup
      (wpAny_getItem_list_neg (Q:=fun r s'=>r=w∧EP X pins σ Q r s') pl.isList (by lia) (by rw [List.size_toArray]<;>lia) (by lia) (by rw [hj];simpa using ew) ⟨rfl,fin⟩) hs
theorem tO:p7 X (xk X.K):=by
  intro value slice pins s σ H x y v u Q I rx ry h hs
  obtain⟨p,xs,i,z,rfl,rfl,hq,he,q⟩:=h
  cases rx
  obtain⟨t,rfl⟩:=ry
  obtain⟨its,r,pl,hz⟩:=I.tuple hq
  obtain⟨j,h1,h2,h3,h4,h5⟩:=lT he
  obtain⟨w,ew,rw'⟩:=r.get h2
  have hl:=r.length
  have hn:=lD
  have fin:EP X pins σ Q w s:=⟨z,H,I,rw',q⟩
  exact subscriptTail_builtinR (x:=w) pl.typeIs slot_tuple_getitem.lookup
    (getItem_tuple (j:=j) (Q:=fun r s'=>r=w∧EP X pins σ Q r s') pl (by lia) (by lia) (by rw [List.size_toArray,←hl];exact h1) (by simpa using ew) ⟨rfl,fin⟩) hs
theorem jW(lo hi:Option Int)(n:Nat):(sliceBounds lo hi none n).1=((HT.sIx n 0 lo:Nat):Int)∧(sliceBounds lo hi none n).2.1=((HT.sIx n n hi:Nat):Int)∧(sliceBounds lo hi none n).2.2=1:=by
  refine⟨?_,?_,rfl⟩
  · cases lo with
    | none=>simp [sliceBounds,HT.sIx]
    | some i=>
      simp only [sliceBounds,HT.sIx,Option.getD_none,show(1:Int) > 0 by decide,if_true]
      by_cases h:i < 0
      · simp only [h,if_true]<;>lia
      · simp only [h,if_false]<;>lia
  · cases hi with
    | none=>simp [sliceBounds,HT.sIx]
    | some i=>
      simp only [sliceBounds,HT.sIx,Option.getD_none,show(1:Int) > 0 by decide,if_true]
      by_cases h:i < 0
      · simp only [h,if_true]<;>lia
      · simp only [h,if_false]<;>lia
theorem iM(its:List Value)(lo hi:Option Int):slicePick its.toArray lo hi none=((its.drop (HT.sIx its.length 0 lo)).take (HT.sIx its.length its.length hi - HT.sIx its.length 0 lo)).toArray:=by
  obtain⟨h1,h2,h3⟩:=jW lo hi its.toArray.size
  unfold slicePick
  rw [h1,h2,h3]
  simp only [sliceRange_one,pick_run,List.size_toArray]<;>rfl
def xl(K:PySem.W.Frag):V→Option Int→Option Int→Hp→VK→Prop:=fun x lo hi H Q=>∃a xs,x=.ref a∧dj K H a xs∧∀p,H p=none→Q (.ref p) (aF H p (.lst (iK xs lo hi)))
theorem rB:p8 X (xl X.K):=by
  intro pins s σ H x v vl vu lo hi sl Q I rx hs pl pu h
  obtain⟨a,xs,rfl,hx,q⟩:=h
  cases rx
  obtain⟨its,r,ht,hz⟩:=I.list hx
  have hlen:=r.length
  refine⟨"list",_,slot_list_getitem.lookup,ht.isList.typeIs,?_⟩
  refine wpAny_getItem_list_slice ht.isList hs pl pu .none (by simp) ?_ (by rw [List.size_toArray]<;>lia)
  rw [iM,←hlen]
  refine⟨.ref s.heap.objs.size,_,I.laid (t':=s.toks) (o:=.lst (iK xs lo hi)) (fun b ob q=>Heap.get?_push_of_some _ q) (Nat.le_refl _) ?_,rfl,q _ (I.hok.fresh (Nat.le_refl _))⟩
  exact⟨Nat.le_trans (gv xs lo hi) hz,_,0,(r.drop (HT.sIx xs.length 0 lo)).take (HT.sIx xs.length xs.length hi - HT.sIx xs.length 0 lo),Heap.get?_push_size _ rfl⟩
theorem jw:cT X (.builtin "len") (fun xs H Q=>∃p ys,xs=[.ref p]∧(dj X.K H p ys∨bY X.K H p ys)∧Q (.int ys.length) H):=by
  intro pins s σ H xs us Q I r h
  obtain⟨p,ys,rfl,hq,q⟩:=h
  obtain⟨u,rfl,rx⟩:=jm r
  cases rx
  have hn:=lD
  rcases hq with hq | hq
  · obtain⟨its,r',pl,hz⟩:=I.list hq
    have hlen:=r'.length
    exact Calls.call_len_list pl.isList (by simp only [List.size_toArray]<;>lia) ⟨.int ys.length,H,I.tok _,⟨s.toks+1,by rw [List.size_toArray,hlen]⟩,q⟩
  · obtain⟨its,r',pl,hz⟩:=I.tuple hq
    have hlen:=r'.length
    exact len_tuple pl (by simp only [List.size_toArray]<;>lia) ⟨.int ys.length,H,I.tok _,⟨s.toks+1,by rw [List.size_toArray,hlen]⟩,q⟩
theorem jx:cT X (.type "list") (fun xs H Q=>∃p ys,xs=[.ref p]∧(dj X.K H p ys∨bY X.K H p ys)∧∀l,H l=none→Q (.ref l) (aF H l (.lst ys))):=by
  intro pins s σ H xs us Q I r h
  obtain⟨p,ys,rfl,hq,q⟩:=h
  obtain⟨u,rfl,rx⟩:=jm r
  cases rx
  have fin:∀(its:List Value),ay ys its→ys.length≤sizeLine→∀(h':Heap) (c':Nat),(∀b o',s.heap.get? b=some o'→h'.get? b=some o')→
      h'.get? s.heap.objs.size=some {cls:=.type "list",dict:=none,data:=.seq its.toArray c',slots:=#[]}→EP X pins σ Q (.ref s.heap.objs.size) {s with heap:=h'}:=fun its r' hz h' c' kp e=>
    ⟨.ref s.heap.objs.size,_,I.laid (t':=s.toks) kp (Nat.le_refl _) (show cU X.prog X.w _ h' _ (.lst ys) from⟨hz,its,c',r',e⟩),rfl,q _ (I.hok.fresh (Nat.le_refl _))⟩
  rcases hq with hq | hq
  · obtain⟨its,r',pl,hz⟩:=I.list hq
    have hlen:=r'.length
    obtain⟨o,ho,hc,n,hd⟩:=pl.isList
    exact call_list_seq p (.inl rfl) ho hc hd (fun h' c' kp e=>fin its r' hz h' c' kp e) (by simp only [List.size_toArray]<;>lia)
  · obtain⟨its,r',pl,hz⟩:=I.tuple hq
    have hlen:=r'.length
    obtain⟨o,ho,hc,n,hd⟩:=pl
    exact call_list_seq p (.inr rfl) ho hc hd (fun h' c' kp e=>fin its r' hz h' c' kp e) (by simp only [List.size_toArray]<;>lia)
theorem iI:cT X (.type "tuple") (fun xs H Q=>∃p ys,xs=[.ref p]∧((dj X.K H p ys∧∀l,H l=none→Q (.ref l) (aF H l (.tup ys)))∨(bY X.K H p ys∧Q (.ref p) H))):=by
  intro pins s σ H xs us Q I r h
  obtain⟨p,ys,rfl,h⟩:=h
  obtain⟨u,rfl,rx⟩:=jm r
  cases rx
  rcases h with ⟨hq,q⟩ | ⟨hq,q⟩
  · obtain⟨its,r',pl,hz⟩:=I.list hq
    have hlen:=r'.length
    refine call_tuple_list pl.isList (fun h' kp=>?_) (by simp only [List.size_toArray]<;>lia)
    have I1:ao X pins σ H {s with heap:=h'}:=I.kept (t':=s.toks) kp
    have I2:ao X pins σ (aF H h'.objs.size (.tup ys)) {s with heap:=h'.push {cls:=.type "tuple",data:=.seq its.toArray}}:=
      I1.laid (t':=s.toks) (fun b o e=>Heap.get?_push_of_some _ e) (Nat.le_refl _) (show cU X.prog X.w _ _ _ (.tup ys) from⟨hz,its,r',gS.new _ _⟩)
    exact⟨.ref h'.objs.size,_,I2,rfl,q _ (I1.hok.fresh (Nat.le_refl _))⟩
  · obtain⟨its,r',pl,hz⟩:=I.tuple hq
    exact call_tuple_same pl ⟨.ref p,H,I,rfl,q⟩
def y9(K:PySem.W.Frag)(T:String)(x:V)(H:Hp):Prop:=match x with
  | .str _=>T="str"
  | .int _=>T="int"
  | .ref p=>(T="list"∧∃xs,dj K H p xs)∨(T="tuple"∧∃o,K.lookup p=some o∧o.cls=.type "tuple"∧o.dict=none)∨
      (T="dict"∧((∃kvs,H p=some (.dK kvs))∨∃kvs,H p=some (.dT kvs)))∨(T="set"∧∃S n,H p=some (.set S n))
  | _=>False
theorem vn{pins:List (Addr × Obj)}{σ:St}{H:Hp}{s:Shared}{T:String}{x:V}{v:Value}(I:ao X pins σ H s)(r:aZ x v)(ty:y9 X.K T x H):
    s.TypeIs v T∧∀a,v=.ref a→∃ob,s.heap.get? a=some ob∧ob.dict=none:=by
  cases x with
  | str z=>
    obtain⟨t,rfl⟩:=r
    cases (show T="str" from ty)
    exact⟨typeIs_str s z t,fun _ e=>nomatch e⟩
  | int i=>
    obtain⟨t,rfl⟩:=r
    cases (show T="int" from ty)
    exact⟨typeIs_int s i t,fun _ e=>nomatch e⟩
  | ref p=>
    cases r
    rcases ty with ⟨rfl,xs,hq⟩ | ⟨rfl,o,hk,hc,hd⟩ | ⟨rfl,hk⟩ | ⟨rfl,S,n,hk⟩
    · obtain⟨its,_,pl,_⟩:=I.list hq
      refine⟨pl.isList.typeIs,fun a e=>?_⟩
      cases e
      obtain⟨o,n,e,c,hd,_⟩:=pl
      exact⟨o,e,hd⟩
    · refine⟨⟨o,I.kIn p o hk,hc⟩,fun a e=>?_⟩
      cases e
      exact⟨o,I.kIn _ o hk,hd⟩
    · have z:∃o,s.heap.get? p=some o∧o.ExactDict:=by
        rcases hk with ⟨kvs,hk⟩ | ⟨kvs,hk⟩
        · obtain⟨_,_,_,_,o,_,_,e,ex,_⟩:=I.hok p _ hk
          exact⟨o,e,ex⟩
        · obtain⟨_,_,_,_,o,_,_,e,ex,_⟩:=I.hok p _ hk
          exact⟨o,e,ex⟩
      obtain⟨o,e,ex⟩:=z
      refine⟨⟨o,e,ex.1⟩,fun a e2=>?_⟩
      cases e2
      exact⟨o,e,ex.2.1⟩
    · obtain⟨o,_,_,_,e,ex,_⟩:=I.hok p _ hk
      refine⟨⟨o,e,ex.1⟩,fun a e2=>?_⟩
      cases e2
      exact⟨o,e,ex.2.1⟩
  | _=>exact False.elim ty
def y4(K:PySem.W.Frag)(T:String)(r:V→List V→Hp→VK→Prop)(to:TE)(t:TA):TE:=fun σ H Q=>to σ H fun x H1=>y9 K T x H1∧t σ H1 fun xs H2=>r x xs H2 Q
variable{o e:Expr}{es:List Expr}{to:TE}{t:TA}{name:Str}{apos cpos:Pos}{T id:String}{r:V→List V→Hp→VK→Prop}
theorem wQ(pa:PlainAttrs T)(slot:Slot T name id)(hty:typeOf (.builtin id)=pure (.type "method_descriptor"))(hm:yS X id r)(ho:PE X o to)(ha:PA X (e::es) t)
    (hbase:attributeBase o name X.env (eval o X.env)=eval o X.env:=by rfl)
    (hfew:((backTo cpos (starEach (e::es) X.env)).all (fun x=> !x.1)&&(backToKw cpos (keywordEach [] X.env)).all (fun x=>x.1.isSome)
      &&decide ((e::es).length+([]:List Keyword).length+(if ([]:List Keyword).isEmpty then 0 else 1) < 30))=true:=by rfl)
    (hline:(apos.endLine==cpos.line)=true:=by rfl)(hs:starEach (e::es) X.env=(false,eval e X.env)::starEach es X.env:=by rfl)(hplain:(backTo cpos (starEach es X.env)).any (·.1)=false:=by rfl):
    PE X (.Call (.Attribute o name apos) (e::es) [] cpos) (y4 X.K T r to t):=by
  intro pins s σ H Q I h
  refine wpAny_Call_method_late hbase hfew hline rfl (bf (ho pins s σ H _ I h) fun v s1 ⟨x,H1,I1,r1,ty,q1⟩=>?_)
  obtain⟨h1,h2⟩:=vn I1 r1 ty
  refine⟨T,id,pa,slot,hty,h1,h2,?_⟩
  have hA:=ha cpos pins s1 σ H1 _ I1 q1
  rw [hs] at hA ⊢
  refine Calls.callWith_builtin (by show(false || (backTo cpos (starEach es X.env)).any (·.1))=false;rw [hplain]<;>rfl) (Calls.evalArgs_plain ?_)
  exact bf hA fun us s2 ⟨vs,H2,I2,r2,q2⟩=>hm pins s2 σ H2 x vs v us Q I2 r1 r2 q2
end
end L2
namespace L2
open PySem PySem.Spec PyProof.Rows
def yR(X:Cx)(id:String)(r:V→List V→Hp→VK→Prop):Prop:=
  ∀(pins:List (Addr × Obj)) (s:Shared) (σ:St) (H:Hp) (x:V) (xs:List V) (v:Value) (us:List Value) (Q:VK),ao X pins σ H s→aZ x v→ay xs us→r x xs H Q→
    wpAny (model X.prog X.w) X.A (call (.builtin id) (v::us)) (EP X pins σ Q) X.xe s
theorem ay.one:∀{x:V} {us:List Value},ay [x] us→∃u,us=[u]∧aZ x u
  | _,_,.cons r .nil=>⟨_,rfl,r⟩
theorem ay.eraseIdx:∀{xs:List V} {us:List Value} (i:Nat),ay xs us→ay (xs.eraseIdx i) (us.eraseIdx i)
  | _,_,_,.nil=>.nil
  | _,_,0,.cons _ t=>t
  | _,_,i+1,.cons r t=>.cons r (ay.eraseIdx i t)
theorem ay.rep{xs:List V}{us:List Value}(h:ay xs us):∀k:Nat,ay (List.replicate k xs).flatten (List.replicate k us).flatten
  | 0=>.nil
  | k+1=>by
    rw [List.replicate_succ,List.replicate_succ,List.flatten_cons,List.flatten_cons]
    exact ay.append h (ay.rep h k)
theorem i6{α:Type}:∀(l:List α) (i:Nat),(l.eraseIdx i).length≤l.length
  | [],_=>Nat.le_refl _
  | _::_,0=>Nat.le_succ _
  | _::r,i+1=>Nat.succ_le_succ (i6 r i)
theorem i0(its:List Value):∀(k:Nat) (acc:List Value),
    List.foldl (fun x1 x2=>x1++x2) acc.toArray (List.replicate k its.toArray)=(acc++(List.replicate k its).flatten).toArray
  | 0,acc=>by simp
  | k+1,acc=>by
    have e:acc.toArray++its.toArray=(acc++its).toArray:=by simp
    have e2:(acc++its)++(List.replicate k its).flatten=acc++(List.replicate (k+1) its).flatten:=by
      rw [List.replicate_succ,List.flatten_cons,List.append_assoc]
    rw [←e2,←i0 its k (acc++its),←e,List.replicate_succ,List.foldl_cons]
section
variable{X:Cx}{pins:List (Addr × Obj)}{σ:St}{H:Hp}{s:Shared}{l b:Addr}{xs ys zs:List V}
theorem ao.lset{its its':List Value}{n:Nat}{f:Array Value→Array Value}{t':Nat}(I:ao X pins σ H s)(hH:H l=some (.lst xs))
    (e:s.heap.get? l=some {cls:=.type "list",data:=.seq its.toArray n})(hf:f its.toArray=its'.toArray)(hv:ay ys its')(hz:ys.length≤sizeLine):
    ao X pins σ (aF H l (.lst ys)) {s with heap:=s.heap.update l (Obj.mapSeq f),toks:=t'}:=by
  have q:=PySem.IsL.update e f
  rw [hf] at q
  refine I.write (x:=l) (e:=l) (by rw [hH];exact trivial) (.inl rfl) (fun b' u hb hu=>(Heap.get?_update_other s.heap (Obj.mapSeq f) (Ne.symm hb)).trans hu) ⟨_,q⟩ ?_
  exact⟨hz,its',_,hv,q⟩
theorem ao.lnew{its:List Value}{t':Nat}(I:ao X pins σ H s)(hv:ay ys its)(hz:ys.length≤sizeLine):
    ao X pins σ (aF H s.heap.objs.size (.lst ys)) {s with heap:=s.heap.push {cls:=.type "list",data:=.seq its.toArray},toks:=t'}:=
  I.laid (fun _ _ q=>Heap.get?_push_of_some _ q) (Nat.le_refl _) ⟨hz,its,0,hv,Heap.get?_push_size _ rfl⟩
theorem ao.fresh(I:ao X pins σ H s):H s.heap.objs.size=none:=I.hok.fresh (Nat.le_refl _)
theorem ao.lstM(I:ao X pins σ H s)(hH:H l=some (.lst xs)):xs.length≤sizeLine∧∃(its:List Value) (n:Nat),ay xs its∧xs.length=its.length∧s.heap.get? l=some {cls:=.type "list",data:=.seq its.toArray n}:=by
  obtain⟨z,its,n,r,e⟩:=I.hok l _ hH
  exact⟨z,its,n,r,r.length,e⟩
theorem oK{n:Nat}(h:n≤sizeLine):Builtin.List.listTooLong n=false:=by
  unfold Builtin.List.listTooLong
  exact decide_eq_false (by lia)
end
section
variable{X:Cx}
def ml:V→List V→Hp→VK→Prop:=fun x vs H Q=>∃l xs y,x=.ref l∧vs=[y]∧H l=some (.lst xs)∧xs.length < sizeLine∧Q .non (aF H l (.lst (xs++[y])))
theorem eF:yR X "list.append" ml:=by
  intro pins s σ H x vs v us Q I rx rv h
  obtain⟨l,xs,y,rfl,rfl,hH,hz,q⟩:=h
  cases rx
  obtain⟨u,rfl,ru⟩:=rv.one
  obtain⟨z,its,n,r,hl,e⟩:=I.lstM hH
  refine call_meets F.slot_list_append ⟨_,e,rfl⟩ F.entry_list_append (F.args_list_append_2 _ _) (PySem.list_append l its.toArray n u (by rw [List.size_toArray];lia)) ⟨e,?_⟩
  refine⟨.non,_,I.lset (its':=its++[u]) hH e (by simp) (r.append (.cons ru .nil)) ?_,rfl,q⟩
  rw [List.length_append,List.length_singleton]
  lia
def pv:V→List V→Hp→VK→Prop:=fun x vs H Q=>∃l xs i k y,x=.ref l∧vs=[.int i]∧H l=some (.lst xs)∧ -(2 ^ 63)≤i∧i < 2 ^ 63∧seqIndex? i xs.length=some k∧xs[k]?=some y∧Q y (aF H l (.lst (xs.eraseIdx k)))
theorem oG:yR X "list.pop" pv:=by
  intro pins s σ H x vs v us Q I rx rv h
  obtain⟨l,xs,i,k,y,rfl,rfl,hH,h1,h2,hk,hy,q⟩:=h
  cases rx
  obtain⟨u,rfl,ru⟩:=rv.one
  obtain⟨t,rfl⟩:=ru
  obtain⟨z,its,n,r,hl,e⟩:=I.lstM hH
  obtain⟨w,hw,rw'⟩:=r.get hy
  refine call_meets F.slot_list_pop ⟨_,e,rfl⟩ F.entry_list_pop (F.args_list_pop_2 _ _)
    (MeetsSeq.list_pop_at l its.toArray n i t k w (fitsIndex_both h1 h2) (by rw [List.size_toArray,←hl];exact hk) (by rw [←Array.getElem?_toList];exact hw) (by rw [List.size_toArray];lia)) ⟨e,?_⟩
  refine⟨y,_,I.lset (its':=its.eraseIdx k) hH e ?_ (r.eraseIdx k) ?_,rw',q⟩
  · show its.toArray.eraseIdxIfInBounds k=(its.eraseIdx k).toArray
    rw [List.eraseIdxIfInBounds_toArray]
  · have:=i6 xs k
    lia
def uW:R2:=fun x y H Q=>∃l b xs zs,x=.ref l∧y=.ref b∧H l=some (.lst xs)∧H b=some (.lst zs)∧xs.length+zs.length≤sizeLine∧∀p,H p=none→Q (.ref p) (aF H p (.lst (xs++zs)))
theorem ue:c9 X (binaryOp .Add) uW:=by
  intro pins s σ H x y v u Q I rx ry h
  obtain⟨l,b,xs,zs,rfl,rfl,hH,hB,hz,q⟩:=h
  cases rx
  cases ry
  obtain⟨z,its,n,r,hl,e⟩:=I.lstM hH
  obtain⟨z2,its2,n2,r2,hl2,e2⟩:=I.lstM hB
  refine PySem.P.add_list e e2 ?_ (by rw [List.size_toArray,List.size_toArray];lia)
  have ea:its.toArray++its2.toArray=(its++its2).toArray:=by simp
  rw [ea]
  exact⟨.ref _,_,I.lnew (t':=s.toks) (r.append r2) (by rw [List.length_append];lia),rfl,q _ I.fresh⟩
def uY:R2:=fun x y H Q=>∃l k xs,x=.ref l∧y=.int k∧H l=some (.lst xs)∧ -(2 ^ 63)≤k∧k < 2 ^ 63∧xs.length*k.toNat≤sizeLine∧
  ∀p,H p=none→Q (.ref p) (aF H p (.lst (List.replicate k.toNat xs).flatten))
theorem qu{α:Type}(xs:List α)(k:Nat):(List.replicate k xs).flatten.length=k*xs.length:=by
  induction k with
  | zero=>simp
  | succ k ih=>rw [List.replicate_succ,List.flatten_cons,List.length_append,ih,Nat.succ_mul,Nat.add_comm]
theorem ur:c9 X (binaryOp .Mult) uY:=by
  intro pins s σ H x y v u Q I rx ry h
  obtain⟨l,k,xs,rfl,rfl,hH,h1,h2,hz,q⟩:=h
  cases rx
  obtain⟨t,rfl⟩:=ry
  obtain⟨z,its,n,r,hl,e⟩:=I.lstM hH
  have hlen:its.toArray.size*k.toNat≤sizeLine:=by rw [List.size_toArray,←hl];exact hz
  have hcap:¬its.toArray.size*k.toNat > (2 ^ 63 - 1) / 8:=by
    have:(sizeLine:Nat)≤(2 ^ 63 - 1) / 8:=by decide
    lia
  have hfit:¬(!Builtin.List.listFitsIndex k)=true:=by
    rw [fitsIndex_both h1 h2]
    exact Bool.false_ne_true
  have hlong:¬Builtin.List.listTooLong (its.toArray.size*k.toNat)=true:=by
    rw [oK hlen]
    exact Bool.false_ne_true
  have hnew:List.foldl (fun x1 x2=>x1++x2) #[] (List.replicate (if its.toArray.isEmpty=true then 0 else k.toNat) its.toArray)=(List.replicate k.toNat its).flatten.toArray:=by
    have f0:∀m:Nat,List.foldl (fun x1 x2=>x1++x2) #[] (List.replicate m its.toArray)=(List.replicate m its).flatten.toArray:=fun m=>by
      have:=i0 its m []
      rw [List.nil_append] at this
      exact this
    rw [f0]
    cases its with
    | nil=>simp
    | cons a r'=>rw [if_neg (by simp)]
  refine wpAny_binaryOp_repeat_ref (T:="list") (U:="int") (by decide) ⟨_,e,rfl⟩ (fun s'=>typeIs_int s' k t) noFill_list_mul F.fills_int_mul F.slot_int_rmul repeat_list F.slot_int_index.lookup
    (call_meets F.slot_int_rmul (typeIs_int s k t) F.entry_int_rmul (F.args_int_rmul_2 _ _) (int___rmul___int_list k t l its.toArray n)
      ⟨e,rfl,⟨_,e,rfl⟩,call_meets F.slot_list_mul ⟨_,e,rfl⟩ F.entry_list_mul (F.args_list_mul_2 _ _) (AutoListH.list___mul___list_int_3 l its.toArray n k t hfit hcap hlong) ⟨e,?_⟩⟩)
  rw [hnew]
  exact⟨.ref _,_,I.lnew (t':=s.toks) (r.rep k.toNat) (by rw [qu,Nat.mul_comm];exact hz),rfl,q _ I.fresh⟩
end
section
variable{prog:Program}{w:World}{A:Around}{E:Value→Shared→Prop}{s:Shared}
end
section
variable{X:Cx}
end
end L2
namespace Att
open PySem PySem.W PySem.Calls PyProof.Rows
theorem gG{P:Params}{h:Heap}:∀(ns:List Int) (vs:List Value),WellAll P h vs (ns.map WData.int)→IntsAre vs ns:=by
  intro ns
  induction ns with
  | nil=>
    intro vs w
    rw [List.map_nil] at w
    cases w
    exact .nil
  | cons n ns ih=>
    intro vs w
    rw [List.map_cons] at w
    cases w with
    | cons a b=>
      cases a
      exact .cons _ _ (ih _ b)
theorem m_{l:OpenLaw}{n:Nat}(hn:l.most=some n){P:Params}{h:Heap}{args:List WData}{vals:List Value}
    (hpre:l.row.toRowW.claim.pre args=true)(hwl:WellAll P h vals args):
    ∃a vs ns,vals=[Value.ref a]∧args=[WData.list (ns.map WData.int)]∧h.get? a=some {cls:=.type "list",data:=.seq vs.toArray}∧IntsAre vs ns∧ns.length≤n:=by
  have hsh:WShape.hasAll [] args [.list .int]=true:=(pre_splitW hpre).1
  have hc:l.pre.holds [] {args:=args}=true:=(pre_splitW hpre).2
  obtain⟨d,r,rfl,h1,h2⟩:=hasAllW_cons hsh
  obtain rfl:=hasAllW_nil h2
  obtain⟨xs,rfl,h3⟩:=hasW_list h1
  obtain⟨ns,rfl⟩:=items_int h3
  have hlen:ns.length≤n:=by
    unfold OpenLaw.pre at hc
    have h4:(WTm.not (.lt (.lit (.int (n:Int))) (.len (.arg 0)))).holds [] {args:=[.list (ns.map .int)]}=true:=by
      have h4:=(holds_andW hc).1
      rw [hn] at h4
      exact h4
    have h5:=condW_of h4 (w_not (w_lt w_lit (w_len_list (w_arg rfl))))
    rw [List.length_map] at h5
    refine Nat.le_of_not_lt fun q=>?_
    have q':(n:Int) < ((ns.length:Nat):Int):=by lia
    first
      | (rw [decide_eq_true q'] at h5;exact absurd h5 (by decide))
      | (simp at h5;lia)
  cases hwl with
  | cons w1 w2=>
    cases w2
    cases w1 with
    | list ho hall=>exact⟨_,_,ns,rfl,rfl,ho,gG ns _ hall,hlen⟩
theorem m7(l:OpenLaw)(args:List WData):l.row.toRowW.claim.post args (.bool true) args=true:=
  postW_of (r:=l.row.toRowW) (X:=(true==true))
    (show WShape.has [] (.bool true) .bool=true by first | rfl | decide | simp [WShape.has,WShape.arms,WShape.armsAll])
    (show(WTm.eq .res (.lit (.bool true))).value [] {args:=args,res:=some (.bool true),after:=args}=some (.bool (true==true)) from w_eq_bool (w_res rfl) w_lit) rfl
theorem attach_call{l:OpenLaw}{n:Nat}{q:Program}{loose:List Str}{XP:(Str→Option Value)→Heap→Prop}{YP:World→Heap→Prop}{d:DefRec}
    (hn:l.most=some n)(hdf:d.params.defaults=[])
    (call:∀(w:World) (s₀ s₁:Shared) (mg mb:Str→Option Value) (fa:Addr) (o:Obj) (pm cd doc:Value) (a:Addr) (vs:List Value) (ns:List Int),
      Ground q loose [] XP w s₀ mg mb s₁.heap→YP w s₁.heap→
      s₁.heap.get? fa=some o→o.data=.func (docDef d.name d.params d.body d.scope pm cd doc)→s₁.heap.CodeRec cd d.name→mg d.name=some (.ref fa)→
      s₁.heap.get? a=some {cls:=.type "list",data:=.seq vs.toArray}→IntsAre vs ns→ns.length≤n→s₁.gens=#[]→
      codeAny (model l.prog w) callerA (.call (.ref fa) ⟨[.ref a],[]⟩) (fun r s'=>r=.ok (.ret (.bool true))∧OldK s₁.heap s'.heap∧s'.os=s₁.os∧AllBare s'.gens) s₁):
    WalkO q loose XP YP l.row.toRowW d [] (fun f vs=>PySem.call f vs):=by
  intro w s₀ s₁ mg mb G Y fa o pm cd doc dV kV ho hd hcd hD hmg hg args vals as hpre hlay hrd hwl hlo
  obtain rfl:dV=.none:=Dflts.none hD hdf
  obtain rfl:kV=.none:=Dflts.noKw hD
  obtain⟨a,vs,ns,rfl,rfl,hobj,hints,hlen⟩:=m_ hn hpre hwl
  refine enter_call (codeAny_mono (call w s₀ s₁ mg mb fa o pm cd doc a vs ns G Y ho (fd_plain hd) hcd hmg hobj hints hlen hg) fun r s' hq=>?_)
  obtain⟨rfl,h2,h3,h4⟩:=hq
  exact⟨.inl ⟨.bool true,.bool true,[],rfl,fun _=>rfl,.bool true,m7 l _,fun _=>⟨List.Pairwise.nil,fun _ hm=>(nomatch hm)⟩⟩,h2,h3,h4⟩
section
variable{prog:Program}{w:World}{A:Around}{E:Value→Shared→Prop}{s:Shared}{K:Frag}
end
end Att
namespace L2
open PySem PySem.Spec PyProof.Rows
theorem jn:∀{vs:List Value} {ns:List Int},IntsAre vs ns→ay (ns.map V.int) vs
  | _,_,.nil=>.nil
  | _,_,.cons n t h=>.cons ⟨t,rfl⟩ (jn h)
def sZ(H:Hp):Prop:=∀b,H b=none∨∃o xs,H b=some (.frz o (.lst xs))
theorem oz{P:Program}{w:World}{K:PySem.W.Frag}{mg mb:Str→Option Value}{CX:mD}{k:Nat}{fa a:Addr}{fd:FuncData}{x:Str}{sp:Sp}{s₁:Shared}{vs:List Value}{ns:List Int}
    (KX:K.In s₁.heap)(hns:s₁.heap.Ns mainGlobals mg)(hb:s₁.heap.Ns builtinsNs mb)(hbb:∀x:Str,x≠"__name__"→mb x=bootBuiltins x)(hlim:s₁.heap.NoLimit)(hg:s₁.gens=#[])
    (ha:s₁.heap.get? a=some {cls:=.type "list",data:=.seq vs.toArray})(hi:IntsAre vs ns)(hl:ns.length≤sizeLine)(hr:bu k callerA)
    (F:∀base:Heap,K.In base→base.Ns mainGlobals mg→aL P w K mg base CX k fa fd [x] sp)(hbind:∀(s:Shared) (u:Value),BindsTo s fd ⟨[u],[]⟩ [(x,u)])
    (hsp:∀H:Hp,sZ H→dj K H a (ns.map V.int)→sp [.ref a] H (fun v _=>v=.bl true) fun _ _ _=>False)
    (hCX:∀H e s',CX [] H s₁ (fun _ _ _=>False) e s'→False):
    codeAny (model P w) callerA (.call (.ref fa) ⟨[.ref a],[]⟩) (fun r s'=>r=.ok (.ret (.bool true))∧OldK s₁.heap s'.heap∧s'.os=s₁.os∧AllBare s'.gens) s₁:=by
  have rv:=jn hi
  have lenV:=hi.length
  have core:∀H:Hp,sZ H→dj K H a (ns.map V.int)→gR P w H s₁.heap→(∀b,H b≠none→b=a)→(H a≠none→K.lookup a=none)→
      codeAny (model P w) callerA (.call (.ref fa) ⟨[.ref a],[]⟩) (fun r s'=>r=.ok (.ret (.bool true))∧OldK s₁.heap s'.heap∧s'.os=s₁.os∧AllBare s'.gens) s₁:=by
    intro H hO hS hok hA hK
    have base_of:∀{b:Addr} {o:Obj},s₁.heap.get? b=some o→H b=none→(jD s₁.heap H).get? b=some o:=fun e n=>oo e n
    have noA:∀{b:Addr} {o:Obj} {es:Array DictEntry} {ep:Nat},s₁.heap.get? b=some o→o.data=.dict es ep→H b=none:=fun{b o es ep} e d=>by
      cases q:H b with
      | none=>rfl
      | some u=>
        have e':b=a:=hA b (by rw [q];simp)
        subst e'
        rw [ha] at e;cases e
        have d':Data.seq vs.toArray _=Data.dict es ep:=d
        cases d'
    have nsK:∀{b:Addr} {m:Str→Option Value},s₁.heap.Ns b m→(jD s₁.heap H).Ns b m:=fun{b m} ⟨o,es,ep,e,d,r⟩=>⟨o,es,ep,base_of e (noA e d),d,r⟩
    have hKb:K.In (jD s₁.heap H):=fun b o e=>base_of (KX b o e) (by
      cases q:H b with
      | none=>rfl
      | some u=>
        have e':b=a:=hA b (by rw [q];simp)
        subst e'
        rw [hK (by rw [q];simp)] at e;cases e)
    have hM:Mod K mg (jD s₁.heap H):=⟨hKb,nsK hns,⟨mb,nsK hb,hbb⟩,let ⟨mc,h1,h2⟩:=hlim;⟨mc,nsK h1,h2⟩⟩
    have e0:p6 P w K mg (jD s₁.heap H) callerA [] s₁ H:=⟨rfl,hM,fun b o e=>qB e,Nat.le_of_eq (mT _ _),trivial,fun b hb=>absurd (show b∈([]:List Addr) from hb) (by simp),hok,.of_eq hg⟩
    refine codeAny_mono ((F _ hKb (nsK hns)).run callerA [] s₁ H ⟨[.ref a],[]⟩ [.ref a] [.ref a] _ _ hr e0 (hbind s₁ (.ref a)) (.cons rfl .nil) (hsp H hO hS)) fun r s' h=>?_
    cases r with
    | error e=>exact(hCX H e s' h).elim
    | ok fl=>
      cases fl with
      | next=>exact False.elim h
      | brk=>exact False.elim h
      | cont=>exact False.elim h
      | ret u=>
        obtain⟨v,H',os,bare,un,hok',r',q⟩:=h
        have q':v=.bl true:=q
        subst q'
        obtain rfl:u=Value.bool true:=r'
        refine⟨rfl,OldK.of_keep fun b o e=>?_,os,bare⟩
        cases q:H b with
        | none=>exact un.keep b o e q (by intro z;exact absurd (show b∈([]:List Addr) from z) (by simp)) (by simp)
        | some u=>
          rcases hO b with z | ⟨ob,xs,z⟩
          · rw [q] at z;cases z
          · have z2:=un.frzs b ob _ z
            obtain⟨e1,_⟩:=hok b _ z
            obtain⟨e2,_⟩:=hok' b _ z2
            rw [e] at e1;cases e1
            exact e2
  cases hk:K.lookup a with
  | some o=>
    have e:=KX a o hk
    rw [ha] at e
    cases e
    refine core (fun _=>none) (fun _=>.inl rfl) (.inr ⟨_,vs.toArray,_,hk,rfl,rfl,rfl,by rw [List.size_toArray,lenV];exact hl,by simpa using rv⟩) (fun b u z=>by have z':(none:Option HO)=some u:=z;cases z') (fun b z=>absurd rfl z) fun z=>absurd rfl z
  | none=>
    refine core (fun b=>if b=a then some (.frz {cls:=.type "list",data:=.seq vs.toArray} (.lst (ns.map V.int))) else none) (fun b=>?_) (.inl (.inr ⟨{cls:=.type "list",data:=.seq vs.toArray},if_pos rfl⟩)) (fun b u z=>?_) (fun b z=>?_) fun _=>hk
    · by_cases hb:b=a
      · exact .inr ⟨_,_,if_pos hb⟩
      · exact .inl (if_neg hb)
    · by_cases hb:b=a
      · have z':=(if_pos hb).symm.trans z
        cases z'
        subst hb
        exact⟨ha,by rw [List.length_map];exact hl,vs,_,rv,ha⟩
      · have z':=(if_neg hb).symm.trans z
        cases z'
    · by_cases hb:b=a
      · exact hb
      · exact absurd (if_neg hb) z
end L2
namespace L2
open PySem PySem.Spec PyProof.Rows
theorem walk_of{l:PySem.W.OpenLaw}{n k:Nat}{q:Program}{loose:List Str}{XP:(Str→Option Value)→Heap→Prop}{YP:World→Heap→Prop}{d:DefRec}{K:Params→PySem.W.Frag}{CX:World→mD}{sp:World→Sp}{x:Str}
    (hn:l.most=some n)(hn2:n≤sizeLine)(hdf:d.params.defaults=[])(hr:bu k callerA)
    (hY:∀(w:World) (h:Heap),YP w h→(K w.params).In h)
    (F:∀(w:World) (mg:Str→Option Value) (fa:Addr) (h:Heap),(K w.params).In h→h.Ns mainGlobals mg→mg d.name=some (.ref fa)→
      ∃fd:FuncData,(∀(s:Shared) (u:Value),BindsTo s fd ⟨[u],[]⟩ [(x,u)])∧
        ∀base:Heap,(K w.params).In base→base.Ns mainGlobals mg→aL l.prog w (K w.params) mg base (CX w) k fa fd [x] (sp w))
    (hsp:∀(w:World) (H:Hp) (a:Addr) (ns:List Int),ns.length≤n→sZ H→dj (K w.params) H a (ns.map V.int)→sp w [.ref a] H (fun v _=>v=.bl true) fun _ _ _=>False)
    (hCX:∀(w:World) (H:Hp) (s:Shared) (e:Value) (s':Shared),CX w [] H s (fun _ _ _=>False) e s'→False):
    PySem.W.WalkO q loose XP YP l.row.toRowW d [] (fun f vs=>PySem.call f vs):=by
  refine Att.attach_call hn hdf fun w s₀ s₁ mg mb fa o pm cd doc a vs ns G Y ho hd hcd hmg hobj hints hlen hg=>?_
  have KX:=hY w _ Y
  obtain⟨fd,hb,hF⟩:=F w mg fa _ KX G.T.g hmg
  exact oz KX G.T.g G.T.b G.T.builtins G.T.nolimit hg hobj hints (Nat.le_trans hlen hn2) hr hF hb (fun H hO hS=>hsp w H a ns hlen hO hS) fun H e s'=>hCX w H s₁ e s'
end L2
namespace L2
open PySem PySem.Spec PyProof.Rows
def bO(s:Stmt):Arguments:=match s with
  | .FunctionDef _ a _ _ _ _ _ _ _ _=>a
  | _=>{posonlyargs:=[],args:=[],vararg:=none,kwonlyargs:=[],kw_defaults:=[],kwarg:=none,defaults:=[]}
def bo(s:Stmt):List Stmt:=match s with
  | .FunctionDef _ _ b _ _ _ _ _ _ _=>b
  | _=>[]
def ah(s:Stmt):Scope:=match s with
  | .FunctionDef _ _ _ _ _ _ sc _ _ _=>sc
  | _=>{kind:=.function,names:=[],isGenerator:=false,isCoroutine:=false}
abbrev cE:mD:=fun _ _ _ _ _ _=>False
abbrev E0:XK:=fun _ _ _=>False
theorem wN{X:Cx}:lc cE X E0:=fun _ _ _ _ _ _ _ h=>h.elim
structure vA (K:PySem.W.Frag) (x qual:Str) (st:Stmt) (f:Addr) (fd:FuncData):Prop where
  ex:∃(oc:Value) (od:Option Addr) (kV doc pm:Value) (an:Option Addr) (cdv ct:Value) (osl:Array (Option Value)),
    fd=PySem.W.fnOf x qual (bO st) (bo st) (ah st) .none kV doc pm an cdv ct∧K.lookup f=some ⟨oc,od,.func fd,osl⟩∧PySem.W.codeIn K cdv qual=true
  kp:PySem.W.keepIn K (.ref f)=true
section
variable{P:Program}{w:World}{K:PySem.W.Frag}{mg:Str→Option Value}{base:Heap}
theorem vA.ok{x qual:Str}{st:Stmt}{f:Addr}{fd:FuncData}{N ps:List Str}{k:Nat}{sp:Sp}(F:vA K x qual st f fd)(S:aE N ps (ah st))(len:∀vs H Q E,sp vs H Q E→vs.length=ps.length)
    (hbody:∀(cdv:Value) (A:Around) (outer:List Env) (s:Shared) (H:Hp) (vs:List V) (Q:VK) (E:XK),bu k (A.deeper (envOfC qual (ah st) s.heap.objs.size f cdv))→sp vs H Q E→
      ∃t,gE (lw cE P w K mg base N qual (ah st) f cdv A outer s H E).nox (bo st) t∧t {nx:=fun _ H'=>Q .non H',rt:=Q} (dZ N vs) H):aL P w K mg base cE (k+1) f fd ps sp:=by
  obtain⟨oc,od,kV,doc,pm,an,cdv,ct,osl,rfl,lk,hcd⟩:=F.ex
  refine wb lk hcd S len fun A outer s H vs Q E hr hsp=>?_
  obtain⟨t,h,q⟩:=hbody cdv A outer s H vs Q E hr hsp
  exact⟨t,h.nox,q⟩
theorem vA.binds{x qual:Str}{st:Stmt}{f:Addr}{fd:FuncData}{ps:List Str}(F:vA K x qual st f fd)
    (h:∀(kV doc pm:Value) (an:Option Addr) (cdv ct:Value) (us:List Value),us.length=ps.length→bindArgs (PySem.W.fnOf x qual (bO st) (bo st) (ah st) .none kV doc pm an cdv ct) ⟨us,[]⟩=pure (ps.zip us)):iN K fd ps []:=by
  obtain⟨oc,od,kV,doc,pm,an,cdv,ct,osl,rfl,lk,hcd⟩:=F.ex
  exact .all (h kV doc pm an cdv ct)
theorem nU{x qual:Str}{st:Stmt}{f:Addr}{oc:Value}{od an:Option Addr}{osl:Array (Option Value)}{kV doc pm cdv ct:Value}(l:K.lookup f=some ⟨oc,od,.func (PySem.W.fnOf x qual (bO st) (bo st) (ah st) .none kV doc pm an cdv ct),osl⟩)
    (c:PySem.W.codeIn K cdv qual=true)(k:PySem.W.keepIn K (.ref f)=true):vA K x qual st f (PySem.W.fnOf x qual (bO st) (bo st) (ah st) .none kV doc pm an cdv ct):=⟨⟨oc,od,kV,doc,pm,an,cdv,ct,osl,rfl,l,c⟩,k⟩
end
theorem jh{n:Nat}(h:n≤1000):n < sizeLine:=Nat.lt_of_le_of_lt h (by decide)
section
variable{X:Cx}
end
theorem wo{A B:Prop}(h:B):if false=true then A else B:=by
  rw [if_neg Bool.false_ne_true]
  exact h
theorem wq{A B:Prop}(h:A):if true=true then A else B:=by
  rw [if_pos rfl]
  exact h
def am(H H':Hp):Prop:=∀b o,H b=some o→H' b=some o
theorem am.refl(H:Hp):am H H:=fun _ _ h=>h
theorem am.trans{H H1 H2:Hp}(a:am H H1)(b:am H1 H2):am H H2:=fun c o h=>b c o (a c o h)
theorem am.free{H H':Hp}(e:am H H'){l:Addr}(h:H' l=Option.none):H l=Option.none:=by
  cases q:H l with
  | none=>rfl
  | some o=>
    rw [e l o q] at h
    cases h
theorem am.seq{K:PySem.W.Frag}{H H':Hp}{a:Addr}{xs:List V}(e:am H H')(h:dj K H a xs):dj K H' a xs:=by
  rcases h with (h | ⟨o,h⟩) | h
  · exact .inl (.inl (e _ _ h))
  · exact .inl (.inr ⟨o,e _ _ h⟩)
  · exact .inr h
end L2
set_option maxHeartbeats 4000000
namespace L2
open PySem PySem.Spec PyProof.Rows
def Bt(n:Nat)(i:Int):Prop:=i.natAbs < 2 ^ n
theorem Bt.mono{m n:Nat}{i:Int}(h:Bt m i)(hm:m≤n):Bt n i:=Nat.lt_of_lt_of_le h (Nat.pow_le_pow_right (by decide) hm)
theorem Bt.log{m:Nat}{i:Int}(h:Bt m i)(hm:0 < m):i.natAbs.log2 < m:=by
  unfold Bt at h
  rcases Nat.eq_zero_or_pos i.natAbs with h0 | hp
  · rw [h0];exact hm
  · exact(Nat.log2_lt (by lia)).mpr h
theorem Bt.bits{m:Nat}{i:Int}(h:Bt m i)(hm:0 < m):Builtin.Int.intBits i≤m:=by
  unfold Builtin.Int.intBits
  split
  · exact Nat.zero_le _
  · exact h.log hm
theorem Bt.of_le{m:Nat}{i:Int}{j:Int}(h:Bt m j)(e:i.natAbs≤j.natAbs):Bt m i:=Nat.lt_of_le_of_lt e h
section
variable{X:Cx}
def rP(i j:Int):Prop:=Bt 4000 i∧Bt 4000 j
theorem qN:c9 X (binaryOp .Mult) (rI rP fun i j=>.int (i*j)):=wG fun _ _ _ _ _ _ _ hc q=>
  mul_int q (.of_bits (Nat.le_trans (hc.1.bits (by decide)) (by decide)) (Nat.le_trans (hc.2.bits (by decide)) (by decide)))
def rO(i j:Int):Prop:=j≠0∧Bt 8000 j
theorem oR:c9 X (binaryOp .FloorDiv) (rI rO fun i j=>.int (i.fdiv j)):=wG fun _ _ _ _ _ _ _ hc q=>
  floordiv_int hc.1 q (.inl (PyProof.noPylong_of_log2 (Nat.lt_trans (hc.2.log (by decide)) (by decide))))
def yC(K:PySem.W.Frag):R2:=fun x y H Q=>∃a b xs,x=.ref a∧y=.ref b∧dj K H a xs∧dj K H b []∧Q (.bl xs.isEmpty) H
theorem ug(hu:X.A.units < cLine):c9 X (compareOp .Eq) (yC X.K):=by
  intro pins s σ H x y v u Q I rx ry h
  obtain⟨a,b,xs,rfl,rfl,ha,hb,q⟩:=h
  cases rx
  cases ry
  obtain⟨its,r,p,hz⟩:=I.list ha
  obtain⟨its2,r2,p2,hz2⟩:=I.list hb
  cases r2
  cases r with
  | nil=>
    refine SeqAt.eq_listAt (e:=fun _=>true) p.isList p2.isList rfl hu (fun j h1 h2=>by simp at h1) ?_
    exact⟨.bl true,H,I,rfl,q⟩
  | cons r rr=>
    refine SeqAt.eq_list_lengthsAt p.isList p2.isList (by simp) hu ?_
    exact⟨.bl false,H,I,rfl,q⟩
theorem uk:c9 X (compareOp .Is) (fun x y H Q=>∃b c,x=.bl b∧y=.bl c∧Q (.bl (b==c)) H):=by
  intro pins s σ H x y v u Q I rx ry h
  obtain⟨b,c,rfl,rfl,q⟩:=h
  cases rx;cases ry
  exact is_bool ⟨.bl _,H,I,rfl,q⟩
end
def gn(H H':Hp):Prop:=∀a o,H a=some o→(∀xs,o≠.lst xs)→(∀ob xs,o≠.frz ob (.lst xs))→H' a=some o
theorem gn.trans{H H1 H2:Hp}(a:gn H H1)(b:gn H1 H2):gn H H2:=fun c o h n m=>b c o (a c o h n m) n m
theorem am.ts{H H':Hp}(h:am H H'):gn H H':=fun a o e _ _=>h a o e
theorem gn.tup{K:PySem.W.Frag}{H H':Hp}(h:gn H H'){a:Addr}{xs:List V}(q:bY K H a xs):bY K H' a xs:=by
  rcases q with (q | ⟨o,q⟩) | q
  · exact .inl (.inl (h _ _ q (fun _ e=>nomatch e) (fun _ _ e=>nomatch e)))
  · exact .inl (.inr ⟨o,h _ _ q (fun _ e=>nomatch e) (fun _ _ e=>nomatch e)⟩)
  · exact .inr q
section
variable{X:Cx}
end
end L2
namespace L2
open PySem PySem.Spec PyProof.Rows
structure bE (K:PySem.W.Frag) (mg:Str→Option Value) (x:Str) (st:Stmt) (f:Addr) (fd:FuncData) (ps:List Str):Prop where
  F:vA K x x st f fd
  m:mg x=some (.ref f)
  b:iN K fd ps []
theorem tL{K:PySem.W.Frag}{mg:Str→Option Value}{h:Heap}{x:Str}{st:Stmt}{f:Addr}{ps:List Str}{oc:Value}{od an:Option Addr}{osl:Array (Option Value)}{kV doc pm cdv ct:Value}(X:K.In h)(G:h.Ns mainGlobals mg)(a:PySem.W.nsIn K mainGlobals x=some (some (.ref f)))
    (l:K.lookup f=some ⟨oc,od,.func (PySem.W.fnOf x x (bO st) (bo st) (ah st) .none kV doc pm an cdv ct),osl⟩)(c:PySem.W.codeIn K cdv x=true)(k:PySem.W.keepIn K (.ref f)=true)
    (hb:∀(kV doc pm:Value) (an:Option Addr) (cdv ct:Value) (us:List Value),us.length=ps.length→bindArgs (PySem.W.fnOf x x (bO st) (bo st) (ah st) .none kV doc pm an cdv ct) ⟨us,[]⟩=pure (ps.zip us)):
    bE K mg x st f (PySem.W.fnOf x x (bO st) (bo st) (ah st) .none kV doc pm an cdv ct) ps:=⟨nU l c k,PySem.W.mg_of X G a,(nU l c k).binds hb⟩
theorem yA{X:Cx}{x:Str}{st:Stmt}{f:Addr}{fd:FuncData}{ps:List Str}{k:Nat}{sp:Sp}{e:Expr}{es:List Expr}{t:TA}{p pos:Pos}(h:bE X.K X.mg x st f fd ps)(G:aL X.prog X.w X.K X.mg X.base cE k f fd ps sp)(hr:bu k X.A)(ha:PA X (e::es) t)
    (hg:Gl X x:=by rfl)(hdb:(x==("__debug__":Str))=false:=by decide)(he:starEach (e::es) X.env=(false,eval e X.env)::starEach es X.env:=by rfl)(hpl:(backTo pos (starEach es X.env)).any (·.1)=false:=by rfl):
    PE X (.Call (.Name x p) (e::es) [] pos) (pO sp [] E0 t):=qR G hr hg h.m h.F.kp h.b .nil wN ha hdb he hpl
theorem am.new{H:Hp}{p:Addr}{o:HO}(h:H p=none):am H (aF H p o):=fun b u e=>by
  rw [av (b7 e h)];exact e
theorem am.tup{K:PySem.W.Frag}{H H':Hp}{a:Addr}{xs:List V}(e:am H H')(h:bY K H a xs):bY K H' a xs:=e.ts.tup h
end L2
namespace L2
open PySem PySem.Spec PyProof.Rows
def cz(t b:Int):Int × Int:=if b < 0 then(t.fdiv (-(Int.gcd t b:Int)),b.fdiv (-(Int.gcd t b:Int))) else(t.fdiv (Int.gcd t b:Int),b.fdiv (Int.gcd t b:Int))
theorem ol(x y:Int):Int.gcd y (x.fmod y)=Int.gcd x y:=by
  rw [Int.fmod_def,Int.gcd_sub_mul_left_right,Int.gcd_comm]
theorem gy(x:Int){y:Int}(h:y≠0):(x.fmod y).natAbs < y.natAbs:=by
  rcases Int.lt_or_gt_of_ne h with h | h
  · have h1:x.fmod y= -((-x).fmod (-y)):=by
      have:=Int.neg_fmod_neg x y
      lia
    have h2:=Int.fmod_nonneg_of_pos (-x) (b:= -y) (by lia)
    have h3:=Int.fmod_lt_of_pos (-x) (b:= -y) (by lia)
    lia
  · have h2:=Int.fmod_nonneg_of_pos x h
    have h3:=Int.fmod_lt_of_pos x h
    lia
theorem l_{t b:Int}(h:b≠0):(0:Int) < Int.gcd t b:=by
  have:=Int.gcd_pos_of_ne_zero_right t h
  lia
theorem i7{t b:Int}(h:b≠0):∃d:Int,d.natAbs=Int.gcd t b∧d≠0∧(cz t b).1*d=t∧(cz t b).2*d=b∧0 < (cz t b).2:=by
  have hg:=l_ (t:=t) h
  have d1:(Int.gcd t b:Int) ∣ t:=Int.gcd_dvd_left ..
  have d2:(Int.gcd t b:Int) ∣ b:=Int.gcd_dvd_right ..
  unfold cz
  split
  · rename_i hb
    have e1:t.fdiv (-(Int.gcd t b:Int))*(-(Int.gcd t b:Int))=t:=Int.fdiv_mul_cancel (Int.neg_dvd.mpr d1)
    have e2:b.fdiv (-(Int.gcd t b:Int))*(-(Int.gcd t b:Int))=b:=Int.fdiv_mul_cancel (Int.neg_dvd.mpr d2)
    refine⟨-(Int.gcd t b:Int),by lia,by lia,e1,e2,?_⟩
    show 0 < b.fdiv (-(Int.gcd t b:Int))
    have h3:b.fdiv (-(Int.gcd t b:Int))*(Int.gcd t b:Int)= -b:=by rw [Int.mul_neg] at e2;lia
    exact Int.pos_of_mul_pos_left (by lia) (by lia) (b:=(Int.gcd t b:Int))
  · rename_i hb
    have e1:t.fdiv (Int.gcd t b:Int)*(Int.gcd t b:Int)=t:=Int.fdiv_mul_cancel d1
    have e2:b.fdiv (Int.gcd t b:Int)*(Int.gcd t b:Int)=b:=Int.fdiv_mul_cancel d2
    refine⟨(Int.gcd t b:Int),by lia,by lia,e1,e2,?_⟩
    show 0 < b.fdiv (Int.gcd t b:Int)
    exact Int.pos_of_mul_pos_left (by lia) (by lia) (b:=(Int.gcd t b:Int))
theorem oD{t b:Int}(h:b≠0):Int.gcd (cz t b).1 (cz t b).2=1:=by
  obtain⟨d,h1,h2,h3,h4,h5⟩:=i7 (t:=t) h
  have e:Int.gcd ((cz t b).1*d) ((cz t b).2*d)=Int.gcd (cz t b).1 (cz t b).2*d.natAbs:=Int.gcd_mul_right ..
  rw [h3,h4,←h1] at e
  have hd:0 < d.natAbs:=by lia
  exact(Nat.eq_of_mul_eq_mul_right hd (by rw [Nat.one_mul];exact e)).symm
theorem tJ{t b:Int}(h:b≠0){n:Nat}(hb:Bt n b):Bt n (Int.gcd t b:Int):=by
  refine hb.of_le ?_
  have h1:=Nat.le_of_dvd (show 0 < b.natAbs by lia) (Int.ofNat_dvd.mp (by rw [Int.dvd_natAbs];exact Int.gcd_dvd_right t b))
  lia
mutual
def cnt:PyData→Nat
  | .tuple ds=>1+eM ds
  | .str _=>0
  | _=>1
def eM:List PyData→Nat
  | []=>0
  | d::ds=>cnt d+eM ds
end
mutual
def ic:PyData→Bool
  | .tuple ds=>dz ds
  | .str _=>false
  | .list _=>false
  | .dict _=>false
  | _=>true
def dz:List PyData→Bool
  | []=>true
  | d::ds=>ic d&&dz ds
end
theorem iL{a:Int}(h:a.natAbs.log2 < 1920):(Str.ofString (toString a)).length≤1921:=by
  have e:=int_text_length_le (k:=1920) (by decide) h
  rw [PySem.ofString_length];lia
theorem dR(x:Str)(r:List Str):piled (x::r)=x.length+2+piled r:=by
  simp [piled]
theorem gj(ts:List Str):(tupleText ts).length≤piled ts+3:=by
  unfold tupleText
  rw [strLen_append,strLen_append]
  have h1:(("(":Str)).length=1:=by decide
  have h2:(Str.ofString (if (ts.length==1)=true then ",)" else ")")).length≤2:=by split<;>decide
  have h3:(Str.join ", " ts).length≤piled ts:=by
    cases ts with
    | nil=>show(Str.join ", " []).length≤0;decide
    | cons x r=>have:=join_length_add (x::r) (by simp);lia
  lia
mutual
theorem jg:∀{d:PyData},ic d=true→d.showable=true→d.shown.length+2≤2000*cnt d
  | .none,_,_=>by show(Str.ofString "None").length+2≤2000*1;decide
  | .bool b,_,_=>by
    cases b
    · show(Str.ofString "False").length+2≤2000*1;decide
    · show(Str.ofString "True").length+2≤2000*1;decide
  | .int i,_,hs=>by
    simp only [PyData.showable,decide_eq_true_eq] at hs
    have:=iL hs
    show(Str.ofString (toString i)).length+2≤2000*1
    lia
  | .tuple ds,hn,hs=>by
    simp only [PyData.showable] at hs
    simp only [ic] at hn
    have h1:=fR hn hs
    have h2:=gj (PyData.shownAll ds)
    simp only [PyData.shown,cnt]
    lia
  | .str _,hn,_=>by simp [ic] at hn
  | .list _,hn,_=>by simp [ic] at hn
  | .dict _,hn,_=>by simp [ic] at hn
theorem fR:∀{ds:List PyData},dz ds=true→PyData.showableAll ds=true→piled (PyData.shownAll ds)≤2000*eM ds
  | [],_,_=>by simp [PyData.shownAll,piled]
  | d::ds,hn,hs=>by
    simp only [dz,Bool.and_eq_true] at hn
    simp only [PyData.showableAll,Bool.and_eq_true] at hs
    have h1:=jg hn.1 hs.1
    have h2:=fR hn.2 hs.2
    simp only [PyData.shownAll,eM,dR]
    lia
end
end L2
namespace L2
open PySem PySem.Spec PyProof.Rows
def bJ(env:Env):List (Str × NameKind)→List (Str × Addr)→List (Str × Addr)
  | [],cs=>cs
  | (n,k)::r,cs=>bJ env r (if k==.free then(n,(env.cells.lookup n).getD 0)::cs else cs)
theorem e6{env:Env}:∀(names:List (Str × NameKind)) (cs:List (Str × Addr)),(∀y∈names,y.2=.free→∃c,env.cells.lookup y.1=some c)→
    (forIn names cs (fun(x:Str × NameKind) (r:List (Str × Addr))=>(if (x.2==NameKind.free)=true then do let a ←cellOf env x.1;pure (ForInStep.yield ((x.1,a)::r)) else pure (ForInStep.yield r):Sem (ForInStep (List (Str × Addr))))):Sem (List (Str × Addr)))=pure (bJ env names cs)
  | [],cs,_=>rfl
  | (n,k)::r,cs,h=>by
    rw [List.forIn_cons]
    have ih:=fun cs'=>e6 (env:=env) r cs' (fun y hy=>h y (List.mem_cons_of_mem _ hy))
    by_cases hk:(k==NameKind.free)=true
    · have hk':k=.free:=by simpa using hk
      obtain⟨c,hc⟩:=h (n,k) List.mem_cons_self hk'
      have e:cellOf env n=pure c:=by unfold cellOf;rw [hc]
      simp only [hk,if_true,e,pure_bind,bJ,hc,Option.getD_some]
      exact ih _
    · have hk':(k==NameKind.free)=false:=by simpa using hk
      simp only [hk',Bool.false_eq_true,if_false,pure_bind,bJ]
      exact ih _
theorem eL{scope:Scope}{env:Env}(h:∀y∈scope.names,y.2=.free→∃c,env.cells.lookup y.1=some c):closureFor scope env=pure (bJ env scope.names []):=by
  have e:=e6 (env:=env) scope.names [] h
  unfold closureFor
  simp only [pure_bind,bind_pure] at e ⊢
  exact e
theorem dM{env:Env}:∀(names:List (Str × NameKind)) (cs:List (Str × Addr)) (x:Str) (c:Addr),(∀y∈names,y.2=.free→∃c,env.cells.lookup y.1=some c)→(∀x c,cs.lookup x=some c→env.cells.lookup x=some c)→(bJ env names cs).lookup x=some c→env.cells.lookup x=some c
  | [],cs,x,c,_,hs,h=>hs x c h
  | (n,k)::r,cs,x,c,hn,hs,h=>by
    refine dM r _ x c (fun y hy=>hn y (List.mem_cons_of_mem _ hy)) (fun x' c' e=>?_) h
    by_cases hk:(k==NameKind.free)=true
    · rw [if_pos hk] at e
      obtain⟨c0,hc⟩:=hn (n,k) List.mem_cons_self (by simpa using hk)
      rw [List.lookup_cons] at e
      cases hx:x'==n with
      | true=>
        rw [hx] at e
        have e1:x'=n:=by simpa using hx
        subst e1
        simp only [hc,Option.getD_some,Option.some.injEq] at e
        rw [←e];exact hc
      | false=>rw [hx] at e;exact hs x' c' e
    · rw [if_neg hk] at e
      exact hs x' c' e
theorem eZ{env:Env}:∀(names:List (Str × NameKind)) (cs:List (Str × Addr)) (x:Str),((∃y∈names,y.1=x∧y.2=.free)∨∃c,cs.lookup x=some c)→∃c,(bJ env names cs).lookup x=some c
  | [],cs,x,h=>by
    rcases h with ⟨y,hy,_⟩ | h
    · cases hy
    · exact h
  | (n,k)::r,cs,x,h=>by
    refine eZ r _ x ?_
    by_cases hk:(k==NameKind.free)=true
    · rw [if_pos hk,List.lookup_cons]
      cases hx:x==n with
      | true=>exact .inr ⟨_,rfl⟩
      | false=>
        rcases h with ⟨y,hy,e1,e2⟩ | h
        · rcases List.mem_cons.mp hy with z | z
          · subst z;subst e1;simp at hx
          · exact .inl ⟨y,z,e1,e2⟩
        · exact .inr h
    · rw [if_neg hk]
      rcases h with ⟨y,hy,e1,e2⟩ | h
      · rcases List.mem_cons.mp hy with z | z
        · subst z;exact absurd (by simpa using e2) hk
        · exact .inl ⟨y,z,e1,e2⟩
      · exact .inr h
theorem bU{env:Env}:∀{names:List (Str × NameKind)} {x:Str},(∀y∈names,y.2≠.cell)→(names.map fun(n,k)=>if (k==NameKind.free&&env.scope.kind==.function&&env.kindOf n==some .cell) then(n,NameKind.cell) else(n,k)).lookup x=some .cell∨
    (names.map fun(n,k)=>if (k==NameKind.free&&env.scope.kind==.function&&env.kindOf n==some .cell) then(n,NameKind.cell) else(n,k)).lookup x=some .free→∃y∈names,y.1=x∧y.2=.free
  | [],x,_,h=>by simp at h
  | (n,k)::r,x,hc,h=>by
    have ih:=@bU env r x (fun y hy=>hc y (List.mem_cons_of_mem _ hy))
    have nc:k≠.cell:=hc (n,k) List.mem_cons_self
    rw [List.map_cons] at h
    cases hx:x==n with
    | true=>
      have e1:x=n:=by simpa using hx
      subst e1
      refine⟨(x,k),List.mem_cons_self,rfl,?_⟩
      by_cases q:(k==NameKind.free&&env.scope.kind==.function&&env.kindOf x==some .cell)=true
      · simp only [Bool.and_eq_true,beq_iff_eq] at q;exact q.1.1
      · simp only [q,Bool.false_eq_true,if_false,List.lookup_cons,beq_self_eq_true,Option.some.injEq] at h
        rcases h with h | h
        · exact absurd h nc
        · exact h
    | false=>
      have e2:∀(l:List (Str × NameKind)),((if (k==NameKind.free&&env.scope.kind==.function&&env.kindOf n==some .cell)=true then(n,NameKind.cell) else(n,k))::l).lookup x=l.lookup x:=fun l=>by
        split<;>simp [List.lookup_cons,hx]
      simp only [e2] at h
      obtain⟨y,hy,z⟩:=ih h
      exact⟨y,List.mem_cons_of_mem _ hy,z⟩
theorem bB{env:Env}:∀{names:List (Str × NameKind)} {x:Str},names.lookup x=some .free→
    (names.map fun(n,k)=>if (k==NameKind.free&&env.scope.kind==.function&&env.kindOf n==some .cell) then(n,NameKind.cell) else(n,k)).lookup x≠some .local
  | [],x,h=>by simp at h
  | (n,k)::r,x,h=>by
    rw [List.map_cons]
    cases hx:x==n with
    | true=>
      simp only [hx,List.lookup_cons] at h
      cases h
      show List.lookup x ((if (NameKind.free==NameKind.free&&env.scope.kind==.function&&env.kindOf n==some .cell)=true then(n,NameKind.cell) else(n,NameKind.free))::_)≠_
      split<;>simp [List.lookup_cons,hx]
    | false=>
      simp only [hx,List.lookup_cons] at h
      have ih:=@bB env r x h
      have e2:∀(l:List (Str × NameKind)),((if (k==NameKind.free&&env.scope.kind==.function&&env.kindOf n==some .cell)=true then(n,NameKind.cell) else(n,k))::l).lookup x=l.lookup x:=fun l=>by
        split<;>simp [List.lookup_cons,hx]
      simp only [e2]
      exact ih
def ax(X:Cx)(scope:Scope)(cp:List (Nat × Str))(tgN:List Str)(C:Addr)(s0:Shared)(H0:Hp)(fp:List Addr):Cx where
  prog:=X.prog
  w:=X.w
  K:=X.K
  mg:=X.mg
  base:=X.base
  A:=X.A
  N:=cp.map (·.2)++tgN
  s₀:=s0
  H₀:=H0
  env:=compEnvC scope (bJ X.env scope.names []) C X.env
  outer:=X.stack
  stack:=X.stack
  ex:=fp
  fn:=fun x=>scope.names.lookup x==some .local
  calm:=X.calm
  pn:=[]
  xe:=fun _ _=>False
def mF(X:Cx)(ifs:List Expr)(t:TT):Prop:=
  ∀(pins:List (Addr × Obj)) (s:Shared) (σ:L2.St) (H:Hp) (Q:Bool→Hp→Prop),ao X pins σ H s→t σ H Q→
    wpAny (model X.prog X.w) X.A (forIn ifs true fun c r=>if r=true then do let ok ←isTrue c X.env (eval c X.env);pure (ForInStep.yield ok) else pure (ForInStep.yield r)) (TP X pins σ Q) X.xe s
theorem ri{X:Cx}:mF X [] (fun _ H Q=>Q true H):=fun _ _ _ H _ I h=>wpAny_tests_nil ⟨H,I,h⟩
theorem rj{X:Cx}{c:Expr}{t:TT}(h:PT X c t):mF X [c] t:=fun pins s σ H Q I q=>wpAny_tests_one (h pins s σ H Q I q)
abbrev vH:Value→Shared→Prop:=fun _ _=>False
def tD(prog:Program)(w:World)(A:Around)(elt tg:Expr)(ifs:List Expr)(env:Env)(it acc:Value)(onward:Shared→Prop)(v:Value)(u:Shared):Prop:=
  wpAny (model prog w) A (letOwnedTupleGo tg it v) (fun _ u1=>wpAny (model prog w) A (assign tg env v) (fun _ u2=>wpAny (model prog w) A
    (forIn ifs true fun c r=>if r=true then do let ok ←isTrue c env (eval c env);pure (ForInStep.yield ok) else pure (ForInStep.yield r)) (fun ok u3=>if ok=true then wpAny (model prog w) A (eval elt env) (fun x u4=>wpAny (model prog w) A (call (.builtin "list.append") [acc,x]) (fun _ u5=>onward u5) vH u4) vH u3 else onward u3) vH u2) vH u1) vH u
theorem dO{prog:Program}{w:World}{A:Around}{R:Result→Shared→Prop}{elt tg iter:Expr}{ifs:List Expr}{scope:Scope}{pos:Pos}{it acc:Value}{env:Env}(J:Nat→Shared→Prop)
    (turn:∀n u,J n u→wpAny (model prog w) A (pyNext it) (fun r u1=>(r=none→R (.ok .next) u1)∧∀v,r=some v→tD prog w A elt tg ifs env it acc (fun u2=>∃m,m < n∧J m u2) v u1) vH u){n0:Nat}{u0:Shared}(dZ:J n0 u0):
    codeAny (model prog w) A (.compLoop (.ListComp elt [⟨tg,iter,ifs,0⟩] scope pos) 0 it acc env) R u0:=by
  refine codeAny_loop rfl J (fun n u ju=>?_) n0 dZ
  show wpAny _ A ((compTurn (.ListComp elt [⟨tg,iter,ifs,0⟩] scope pos) 0 it acc env).onRaise _) _ _ u;refine wpAny_noted ?_;rw [compTurn_list]
  refine wpAny_bind (wpAny_standAt (wpAny_bind (wpAny_mono (turn n u ju) (fun r u1 k1=>?_) fun _ _ z=>z.elim)))
  cases r with
  | none=>exact wpAny_pure (k1.1 rfl)
  | some v=>
    refine wpAny_bind (wpAny_mono (k1.2 v rfl) (fun _ u2 k2=>wpAny_bind (wpAny_mono k2 (fun _ u3 k3=>wpAny_bind (wpAny_mono k3 (fun ok u4 k4=>?_) fun _ _ z=>z.elim)) fun _ _ z=>z.elim)) fun _ _ z=>z.elim)
    cases ok with
    | false=>rw [if_neg Bool.false_ne_true] at k4;exact wpAny_pure ⟨rfl,k4⟩
    | true=>
      rw [if_pos rfl] at k4
      refine wpAny_bind (wpAny_bind (wpAny_mono k4 (fun x u5 k5=>wpAny_bind (wpAny_mono k5 (fun _ u6 k6=>?_) fun _ _ z=>z.elim)) fun _ _ z=>z.elim));exact wpAny_pure (wpAny_pure ⟨rfl,k6⟩)
def cN(cp:List (Nat × Str))(nT:Nat)(σ:L2.St):L2.St:=cp.map (fun p=>(σ[p.1]?).join)++List.replicate nT none
structure kX (cp:List (Nat × Str)) (nT:Nat) (wi:TI) (g:TG) (tc:TT) (te:TE) (σ:L2.St) (H:Hp) (Q:VK):Prop where
  go:wi σ H fun J H1=>∀l,H1 l=none→
  ∃W:Nat→Nat→L2.St→Hp→Prop,(∃m,W 0 m (cN cp nT σ) (aF H1 l (.lst [])))∧∀i m σ' H',W i m σ' H'→
    (J.stop i H'∧Q (.ref l) H')∨(J.go i H'∧∃N:L2.St→Hp→Prop,(∀σ2 H2,N σ2 H2→∃m',m' < m∧W (i+1) m' σ2 H2)∧
      ∀x H2,J.yld i H' x H2→g x σ' H2 fun σ2 H3=>tc σ2 H3 fun b H4=>if b=true then te σ2 H4 fun v H5=>∃ys,H5 l=some (.lst ys)∧ys.length < sizeLine∧N σ2 (aF H5 l (.lst (ys++[v]))) else N σ2 H4)
theorem qT{X:Cx}{elt iter tg:Expr}{ifs:List Expr}{scope:Scope}{pos:Pos}{wi:TI}{g:TG}{tc:TT}{te:TE}(sc0:Scope)(N0:List Str)(cp:List (Nat × Str))(tgN:List Str)
    (hc:X.calm=true)(hsc:X.env.scope=sc0)(hN0:X.N=N0)(hi:PI X tg iter wi)
    (hg:∀C s0 H0 fp,PG (ax X scope cp tgN C s0 H0 fp) tg g)
    (ht:∀C s0 H0 fp,mF (ax X scope cp tgN C s0 H0 fp) ifs tc)
    (he:∀C s0 H0 fp,PE (ax X scope cp tgN C s0 H0 fp) elt te)
    (hk:scope.kind=.function)(hcell:∀y∈scope.names,y.2≠.cell)(hnames:∀y∈scope.names,y.2=.local→scope.names.lookup y.1=some .local)
    (hfr:∀y∈scope.names,y.2=.free→scope.names.lookup y.1=some .free∧sc0.names.lookup y.1=some .cell)
    (hcp:∀p∈cp,N0[p.1]?=some p.2)(hcq:∀p∈cp,sc0.names.lookup p.2=some .cell∧scope.names.lookup p.2=some .free)
    (hs:∀x,foldedSetIterable iter X.env x=pure x:=by intro _;rfl):
    PE X (.ListComp elt [⟨tg,iter,ifs,0⟩] scope pos) (kX cp tgN.length wi g tc te):=by
  intro pins s σ H Q I h
  have hkind:∀x,X.env.kindOf x=sc0.names.lookup x:=fun x=>by unfold Env.kindOf;rw [hsc]
  have hfree:∀y∈scope.names,y.2=.free→∃c,X.env.cells.lookup y.1=some c:=fun y hy e=>I.ok.has y.1 (.inl (by rw [hkind];exact(hfr y hy e).2))
  rw [eval_ListComp]
  refine wpAny_comprehension_free (use:=none) rfl hs (eL hfree) hk hnames (wpAny_mono (hi pins s σ H _ I h.go) (fun xv s₁ h₁=>wpAny_mono h₁ (fun itv s₂ h₂=>?_) fun _ _ e=>e) fun _ _ e=>e)
  obtain⟨it,fp,tn,J,H2,rfl,I2,T,st2,f2,hq⟩:=h₂
  refine wpAny_newObj_type ?_
  have hlF:H2 s₂.heap.objs.size=none:=I2.hok.fresh (Nat.le_refl _)
  have I3:ao X pins σ (aF H2 s₂.heap.objs.size (.lst [])) {s₂ with heap:=s₂.heap.push {cls:=.type "list",data:=.seq ([]:List Value).toArray}}:=I2.lnew (t':=s₂.toks) .nil (Nat.zero_le _)
  obtain⟨W,⟨m0,w0⟩,turn⟩:=hq _ hlF
  have f3:∀b∈fp,d9 X pins (aF H2 s₂.heap.objs.size (.lst [])) b:=fun b hb=>by
    obtain⟨f0,fr⟩:=f2 b hb
    obtain⟨o,ho,_⟩:=T.obj _ _ st2 b hb
    exact⟨by rw [av (Nat.ne_of_lt (Heap.lt_size ho))];exact f0,fr⟩
  have st3:tn 0 (s₂.heap.push {cls:=.type "list",data:=.seq ([]:List Value).toArray}):=T.keep _ _ _ st2 fun b _ o e=>Heap.get?_push_of_some _ e
  generalize hD:s₂.heap.objs.size=D at*
  generalize hs3:({s₂ with heap:=s₂.heap.push {cls:=.type "list",data:=.seq ([]:List Value).toArray}}:Shared)=s₃ at*
  have hst3:tn 0 s₃.heap:=by rw [←hs3];exact st3
  refine wpAny_newFunctionEnv hcell (by intro y hy;simp at hy) (fun h₁ hns₁ hsb₁=>?_) hk
  generalize hC:s₃.heap.objs.size=C at*
  have old:∀b o,s₃.heap.get? b=some o→h₁.get? b=some o:=fun b o e=>hsb₁.extBut b o (by rw [←hC];exact Nat.ne_of_lt (Heap.lt_size e)) (Heap.get?_push_of_some _ e)
  have nC:∀b o,s₃.heap.get? b=some o→b≠C:=fun b o e=>by rw [←hC];exact Nat.ne_of_lt (Heap.lt_size e)
  have hHC:(aF H2 D (.lst [])) C=none:=I3.hok.fresh (by rw [hC];exact Nat.le_refl _)
  have clS:∀x c,(bJ X.env scope.names []).lookup x=some c→X.env.cells.lookup x=some c:=fun x c e=>dM _ _ x c hfree (fun _ _ z=>by simp at z) e
  have clH:∀x,(∃y∈scope.names,y.1=x∧y.2=.free)→∃c,(bJ X.env scope.names []).lookup x=some c:=fun x e=>eZ _ _ x (.inl e)
  have ok':(ax X scope cp tgN C s₃ (aF H2 D (.lst [])) fp).Ok:=by
    refine⟨I.ok.mod,hk,I.ok.glob,I.ok.blt,by rw [←hC];exact Nat.le_refl _,fun x y c e1 e2=>I.ok.inj x y c (clS _ _ e1) (clS _ _ e2),fun x e=>clH x (bU hcell e),fun x c e1 e2=>?_,I.ok.hd,I.ok.frames,.inl rfl,fun b hb=>?_,fun b o e=>I3.bs b o e,?_,fun b o e hb=>?_,fun b hb z=>?_,I3.stack,fun b hb=>I3.stkFree b hb⟩
    · exfalso
      have e1':scope.names.lookup x=some .local:=by simpa [ax] using e1
      have e2':=clS x c e2
      obtain⟨c',hc'⟩:∃y∈scope.names,y.1=x∧y.2=.free:=by
        by_cases q:∃y∈scope.names,y.1=x∧y.2=.free
        · exact q
        · exfalso
          have:∀(names:List (Str × NameKind)) (cs:List (Str × Addr)),(¬∃y∈names,y.1=x∧y.2=.free)→cs.lookup x=none→(bJ X.env names cs).lookup x=none:=by
            intro names
            induction names with
            | nil=>intro cs _ h;exact h
            | cons y r ih=>
              intro cs hn hcs
              obtain⟨n,k⟩:=y
              refine ih _ (fun⟨y,hy,z⟩=>hn ⟨y,List.mem_cons_of_mem _ hy,z⟩) ?_
              by_cases hk:(k==NameKind.free)=true
              · rw [if_pos hk,List.lookup_cons]
                cases hx:x==n with
                | true=>exact absurd ⟨(n,k),List.mem_cons_self,(by simpa using hx:x=n).symm,by simpa using hk⟩ hn
                | false=>exact hcs
              · rw [if_neg hk];exact hcs
          have z:=this scope.names [] q rfl
          have e2'':(bJ X.env scope.names []).lookup x=some c:=e2
          rw [z] at e2'';cases e2''
      have z:=(hfr c' hc'.1 hc'.2.2).1
      rw [hc'.2.1,e1'] at z;cases z
    · obtain⟨f0,f1,f4,f5,f6,f7⟩:=f3 b hb
      obtain⟨o,ho,_⟩:=T.obj _ _ hst3 b hb
      exact⟨nC b o ho,fun x c e=>f6 x c (clS x c e)⟩
    · exact Nat.le_trans I.ok.bsz I3.sz
    · obtain⟨f0,f1,f4,f5,f6,f7⟩:=f3 b hb
      rcases f5 with z | z
      · exact I.ok.noex b o e z
      · have:=(I.ok.bs b o e).1
        exact absurd (Nat.lt_of_lt_of_le (Heap.lt_size this) z) (Nat.lt_irrefl _)
    · obtain⟨f0,f1,f4,f5,f6,f7⟩:=f3 b hb
      rcases List.mem_cons.mp (I3.stkSub b z) with z | z
      · exact f1 z
      · exact f4 z
  have I4:ao (ax X scope cp tgN C s₃ (aF H2 D (.lst [])) fp) [] (cN cp tgN.length σ) (aF H2 D (.lst [])) {s₃ with heap:=h₁,toks:=s₃.toks+([]:List (Str × Value)).length}:=by
    refine⟨ok',rfl,I3.bare,Un.kept old,⟨_,hns₁,fun i x v e1 e2 e3=>?_⟩,fun x c e=>?_,hHC,fun x c e=>I3.freeC x c (clS x c e),fun p hp=>by simp [ax] at hp,I3.hok.kept old,by simp [cN,ax]⟩
    · have hlt:i < cp.length:=by
        by_cases q:i < cp.length
        · exact q
        · exfalso
          unfold cN at e2
          rw [List.getElem?_append_right (by simp;lia)] at e2
          rw [List.getElem?_replicate] at e2
          split at e2<;>cases e2
      have e1':(cp.map (·.2))[i]?=some x:=by
        have e1'':(cp.map (·.2)++tgN)[i]?=some x:=e1
        rwa [List.getElem?_append_left (by simp;exact hlt)] at e1''
      have e2':(cp.map (fun p=>(σ[p.1]?).join))[i]?=some (some v):=by
        unfold cN at e2
        rwa [List.getElem?_append_left (by simp;exact hlt)] at e2
      rw [List.getElem?_map,List.getElem?_eq_getElem hlt] at e1' e2'
      have ex:(cp[i]).2=x:=by simpa using e1'
      have ev:(σ[(cp[i]).1]?).join=some v:=by simpa using e2'
      have ev':σ[(cp[i]).1]?=some (some v):=by
        cases q:σ[(cp[i]).1]? with
        | none=>rw [q] at ev;cases ev
        | some z=>rw [q] at ev;simp only [Option.join_some] at ev;rw [ev]
      have hN:=hcp cp[i] (List.getElem_mem hlt)
      rw [←hN0] at hN
      obtain⟨hcl,hcf⟩:=hcq cp[i] (List.getElem_mem hlt)
      rw [ex] at hN hcl hcf
      obtain⟨m,hn,hl⟩:=I3.loc
      obtain⟨u,r,l⟩:=hl _ x v hN ev' (.inr (.inl (by rw [hsc];exact hcl)))
      refine⟨u,r,.inr ?_⟩
      rcases l with ⟨k1,_⟩ | ⟨k1,c,hcc,o,ho,hd⟩
      · rw [hkind,hcl] at k1;cases k1
      · have e3':(relabel scope X.env).names.lookup x=some .local∨(relabel scope X.env).names.lookup x=some .cell∨(relabel scope X.env).names.lookup x=some .free:=e3
        have nl:(relabel scope X.env).names.lookup x=some .cell∨(relabel scope X.env).names.lookup x=some .free:=by
          rcases e3' with z | z | z
          · exact absurd z (bB hcf)
          · exact .inl z
          · exact .inr z
        obtain⟨c',hc'⟩:=clH x (bU hcell nl)
        have:=clS x c' hc'
        rw [hcc] at this;cases this
        exact⟨nl,c,hc',o,old c o ho,hd⟩
    · obtain⟨v,o,ho,hd⟩:=I3.cell x c (clS x c e)
      exact⟨v,o,old c o ho,hd⟩
  have hst4:tn 0 h₁:=T.keep _ _ _ hst3 fun b _ o e=>old b o e
  have loop:codeAny (model X.prog X.w) X.A (.compLoop (.ListComp elt [⟨tg,iter,ifs,0⟩] scope pos) 0 (.ref it) (.ref D) (compEnvC scope (bJ X.env scope.names []) C X.env))
      (compPost (model X.prog X.w) X.A X.xe none (EP X pins σ Q) (.ref D) C) {s₃ with heap:=h₁,toks:=s₃.toks+([]:List (Str × Value)).length}:=by
    refine dO (fun n s'=>∃i σ' H',ao (ax X scope cp tgN C s₃ (aF H2 D (.lst [])) fp) [] σ' H' s'∧tn i s'.heap∧(∀b∈fp,H' b=none)∧W i n σ' H') ?_ (n0:=m0) ⟨0,_,_,I4,hst4,fun b hb=>(f3 b hb).1,w0⟩
    rintro n s5 ⟨i,σ5,H5,I5,st5,fr5,w5⟩
    have stat:∀{H':Hp},(∀b∈fp,H' b=none)→∀b∈fp,d9 (ax X scope cp tgN C s₃ (aF H2 D (.lst [])) fp) [] H' b:=fun hn b hb=>
      ⟨hn b hb,(ok'.exf b hb).1,ok'.exfs b hb,.inl hb,(ok'.exf b hb).2,fun p hp=>by simp [ax] at hp⟩
    rcases turn i n σ5 H5 w5 with ⟨stop,qn⟩ | ⟨go,N,hN,step⟩
    · refine bf (T.done (ax X scope cp tgN C s₃ (aF H2 D (.lst [])) fp) rfl rfl rfl hc i [] s5 σ5 H5 (fun _ _=>False) I5 (stat fr5) st5 stop) fun r s6 ⟨hr,I6⟩=>?_
      subst hr
      refine⟨fun _=>?_,fun v z=>by cases z⟩
      obtain⟨m,hn,_⟩:=I6.loc
      refine⟨m,hn,fun h' sb=>⟨.ref D,H5,?_,rfl,qn⟩⟩
      have ub:=I6.base
      have kp:∀b u,b≠C→s6.heap.get? b=some u→h'.get? b=some u:=fun b u ne e=>sb.extBut b u ne e
      have nit:∀b u,H5 b=some u→b≠C:=fun b u e z=>by
        have:=I6.free
        rw [z] at e
        rw [show H5 C=none from this] at e;cases e
      refine I3.call' (s':={s6 with heap:=h'}) (ch:=fp) I6.os ⟨fun b o e n hb hx=>kp b o (nC b o e) (ub.keep b o e n hb hx),fun b o e n hb hx=>?_,ub.free,fun b o e hx=>?_,ub.tups,ub.frzs,ub.tbls⟩ (fun b u e=>?_) I6.bare (fun b hb=>?_)
      · obtain⟨sl,q⟩:=ub.slot b o e n hb hx
        exact⟨sl,kp b _ (nC b o e) q⟩
      · obtain⟨o',q⟩:=ub.there b o e hx
        exact⟨o',kp b _ (nC b o e) q⟩
      · refine(I6.hok b u e).stay (fun c v hc q=>kp c v ?_ q) (fun _ q=>q) fun _ _ q=>q
        rcases hc with z | z
        · rw [z];exact nit b u e
        · exact nit c _ z
      · obtain⟨f0,f1,f4,f5,f6,f7⟩:=f3 b hb
        exact⟨f5,f1,f6,f7⟩
    · refine bf (T.item (ax X scope cp tgN C s₃ (aF H2 D (.lst [])) fp) rfl rfl rfl hc i [] s5 σ5 H5 (fun _ _=>False) I5 (stat fr5) st5 go) fun r s6 ⟨u,hr,h6⟩=>?_
      subst hr
      refine⟨fun z=>(by cases z),fun v z=>?_⟩
      cases z
      refine bf h6 fun _ s7 ⟨x,H7,I7,r7,y7,st7,fr7⟩=>?_
      have I7':=I7.pinned (stat fr7) (T.obj _ _ st7)
      have again:∀{σ8:L2.St} {H8:Hp} {s8:Shared},ao (ax X scope cp tgN C s₃ (aF H2 D (.lst [])) fp) ([]++eP fp s7.heap) σ8 H8 s8→N σ8 H8→∃m,m < n∧∃i σ' H',ao (ax X scope cp tgN C s₃ (aF H2 D (.lst [])) fp) [] σ' H' s8∧tn i s8.heap∧(∀b∈fp,H' b=none)∧W i m σ' H':=fun{σ8 H8 s8} I8 n8=>by
        obtain⟨m',hm,w8⟩:=hN σ8 H8 n8
        refine⟨m',hm,i+1,σ8,H8,I8.unpinned,T.keep _ _ _ st7 fun b hb o e=>(I8.pin (b,o) (List.mem_append_right _ (List.mem_append_right _ (bi hb e)))).1,fun b hb=>?_,w8⟩
        obtain⟨o,e,d⟩:=T.obj _ _ st7 b hb
        exact(I8.pin (b,o) (List.mem_append_right _ (List.mem_append_right _ (bi hb e)))).2.1
      refine bf (hg C s₃ (aF H2 D (.lst [])) fp _ s7 σ5 H7 x u _ I7' r7 (step x H7 y7)) fun _ s8 ⟨σ8,H8,I8,q8⟩=>?_
      refine bf (ht C s₃ (aF H2 D (.lst [])) fp _ s8 σ8 H8 _ I8 q8) fun ok s9 ⟨H9,I9,q9⟩=>?_
      cases ok with
      | false=>
        rw [if_neg Bool.false_ne_true] at q9 ⊢
        exact again I9 q9
      | true=>
        rw [if_pos rfl] at q9 ⊢
        refine bf (he C s₃ (aF H2 D (.lst [])) fp _ s9 σ8 H9 _ I9 q9) fun v s10 ⟨xv,H10,I10,r10,ys,hl,hz,n10⟩=>?_
        refine bf (eF _ s10 σ8 H10 (.ref D) [xv] (.ref D) [v] (fun _ H=>N σ8 H) I10 rfl (.cons r10 .nil) ⟨D,ys,xv,rfl,rfl,hl,hz,n10⟩) fun _ s11 ⟨_,H11,I11,_,q11⟩=>?_
        exact again I11 q11
  exact codeAny_compStart_list loop (T.self X.A 0 _ _ _ hst4 loop)
end L2
namespace L2
open PySem PySem.Spec PyProof.Rows
section
variable{X:Cx}
def pq(K:PySem.W.Frag):R2:=fun x y H Q=>∃a b xs ys,x=.ref a∧y=.ref b∧bY K H a xs∧bY K H b ys∧xs.length+ys.length≤sizeLine∧∀p H',am H H'→bY K H' p (xs++ys)→Q (.ref p) H'
theorem qI:c9 X (binaryOp .Add) (pq X.K):=by
  intro pins s σ H x y v u Q I rx ry h
  obtain⟨a,b,xs,ys,rfl,rfl,ha,hb,hz,q⟩:=h
  cases rx;cases ry
  by_cases hx:xs=[]
  · obtain⟨i1,r1,p1,_⟩:=I.tuple ha
    obtain⟨i2,r2,p2,_⟩:=I.tuple hb
    obtain⟨m,F⟩:=I.fr
    have e1:i1=[]:=by subst hx;cases r1;rfl
    refine add_tuples F (oJ (g:=X.base)) p1 p2 (fun _=>?_) (fun z1 _=>absurd e1 z1) (fun z1 _ _ _ _=>absurd e1 z1) (by rw [←r1.length,←r2.length];exact hz)
    exact⟨.ref b,H,I,rfl,q b H (am.refl H) (by rw [hx];exact hb)⟩
  · exact qJ pins s σ H (.ref a) (.ref b) _ _ Q I rfl rfl ⟨a,b,xs,ys,rfl,rfl,ha,hb,hx,hz,fun z=>q a H (am.refl H) (by rw [z,List.append_nil];exact ha),fun _ p hp=>q p _ (am.new hp) (bY.of aq)⟩
theorem jN{x:V}{us:List Value}(r:ay [x] us):∃u,us=[u]∧aZ x u:=by
  cases r with
  | cons p p'=>cases p';exact⟨_,rfl,p⟩
end
end L2
namespace L2
open PySem PySem.Spec PyProof.Rows
section
variable{X:Cx}
end
theorem ng{e:Expr}{es:List Expr}{env:Env}(h:PySem.W.isStarred e=false):starEach (e::es) env=(false,eval e env)::starEach es env:=by
  cases e<;>first | rfl | cases h
theorem yz{X:Cx}{e:Expr}{es:List Expr}{te:TE}{t:TA}(ha:PE X e te)(hr:PA X es t)(h:PySem.W.isStarred e=false:=by rfl):PA X (e::es) (kY te t):=qQ ha hr (ng h)
def my:List (Int × Int)→TA
  | []=>vh
  | p::r=>kY (xF (kY (tC (.int p.1)) (kY (tC (.int p.2)) vh))) (my r)
@[irreducible] def yK(ps:List (Int × Int)):TA:=my ps
structure k_ where
  one:Int
  other:Int
  top:Int
  bot:Int
  worth:Int
structure aR where
  things:Int
  ties:List k_
  pat:List Int
  asks:Int
structure k_.Ok (n:Int) (t:k_):Prop where
  o0:0≤t.one
  o1:t.one < t.other
  o2:t.other < n
  c0:0≤t.top
  c1:t.top≤t.bot
  b0:1≤t.bot
  b1:t.bot≤100
  w0:0≤t.worth
  w1:t.worth≤1000
  cop:Int.gcd t.top t.bot=1
structure aR.Ok (w:aR):Prop where
  t0:0≤w.things
  t1:w.things≤12
  ties:∀t∈w.ties,t.Ok w.things
  len:w.ties.length≤16
  pl:(w.pat.length:Int)=w.things
  pat:∀p∈w.pat,0≤p∧p≤20
  a0:0≤w.asks
  a1:w.asks≤40
def vO(K:PySem.W.Frag)(H:Hp)(v:V)(t:k_):Prop:=∃p q,v=.ref p∧bY K H p [.int t.one,.int t.other,.ref q,.int t.worth]∧bY K H q [.int t.top,.int t.bot]
inductive jq (K:PySem.W.Frag) (H:Hp):List V→List k_→Prop
  | nil:jq K H [] []
  | cons {v vs t ts}:vO K H v t→jq K H vs ts→jq K H (v::vs) (t::ts)
structure yX (K:PySem.W.Frag) (H:Hp) (v:V) (w:aR):Prop where
  ex:∃a b c ts,v=.ref a∧bY K H a [.int w.things,.ref b,.ref c,.int w.asks]∧bY K H b ts∧jq K H ts w.ties∧bY K H c (w.pat.map V.int)
section
variable{K:PySem.W.Frag}{H H':Hp}
end
theorem lE{t b:Int}(hb:0 < b)(h0:0≤t)(h1:t≤b)(h2:b≤100):0≤(cz t b).1∧(cz t b).1≤(cz t b).2∧1≤(cz t b).2∧(cz t b).2≤100:=by
  obtain⟨d,e1,e2,e3,e4,e5⟩:=i7 (t:=t) (b:=b) (by lia)
  generalize (cz t b).1=x at*
  generalize (cz t b).2=y at*
  have dp:0 < d:=by
    rcases Int.lt_or_gt_of_ne e2 with z | z
    · exfalso
      have:y*d < 0:=Int.mul_neg_of_pos_of_neg e5 z
      lia
    · exact z
  have x0:0≤x:=by
    rcases Int.lt_or_le x 0 with z | z
    · have:x*d < 0:=Int.mul_neg_of_neg_of_pos z dp
      lia
    · exact z
  have xy:x≤y:=by
    rcases Int.lt_or_le y x with z | z
    · have:y*d < x*d:=Int.mul_lt_mul_of_pos_right z dp
      lia
    · exact z
  have yb:y≤y*d:=by
    have:=Int.mul_le_mul_of_nonneg_left (show(1:Int)≤d by lia) (show 0≤y by lia)
    lia
  exact⟨x0,xy,by lia,by lia⟩
end L2
namespace L2
open PySem PySem.Spec PyProof.Rows
inductive iG {α β:Type} (R:α→β→Prop):List α→List β→Prop
  | nil:iG R [] []
  | cons {a b as bs}:R a b→iG R as bs→iG R (a::as) (b::bs)
namespace iG
variable{α β:Type}{R S:α→β→Prop}
theorem mono(h:∀a b,R a b→S a b):∀{as:List α} {bs:List β},iG R as bs→iG S as bs
  | _,_,.nil=>.nil
  | _,_,.cons x r=>.cons (h _ _ x) (mono h r)
theorem len:∀{as:List α} {bs:List β},iG R as bs→as.length=bs.length
  | _,_,.nil=>rfl
  | _,_,.cons _ r=>by simp [len r]
theorem get:∀{as:List α} {bs:List β} {i:Nat} {b:β},iG R as bs→bs[i]?=some b→∃a,as[i]?=some a∧R a b
  | _,_,_,_,.nil,e=>by simp at e
  | _,_,0,_,.cons x _,e=>by simp at e;subst e;exact⟨_,rfl,x⟩
  | _,_,i+1,b,.cons _ r,e=>by
    obtain⟨v,h1,h2⟩:=get (i:=i) (b:=b) r (by simpa using e)
    exact⟨v,by simpa using h1,h2⟩
end iG
section
variable{K:PySem.W.Frag}{a l:Addr}{xs:List V}{g:TG}{tc:TT}{te:TE}{Q:VK}{σ:L2.St}{H:Hp}{α β:Type}{us:List α}{cp:List (Nat × Str)}{nT:Nat}
def xR(aG:Hp→V→β→Prop)(SI:L2.St→Prop)(us:List α)(f:α→Option β)(H:Hp)(l:Addr)(i:Nat)(σ:L2.St)(H':Hp):Prop:=SI σ∧am H H'∧∃vs,H' l=some (.lst vs)∧vs.length≤i∧iG (aG H') vs ((us.take i).filterMap f)
end
def kU(ns:List Int):List Int:=ns.mergeSort
theorem iy(ns:List Int):(kU ns).Perm ns:=List.mergeSort_perm ns _
theorem vJ{ns:List Int}{x:Int}:x∈kU ns↔ x∈ns:=(iy ns).mem_iff
theorem vI(ns:List Int):(kU ns).length=ns.length:=(iy ns).length_eq
section
variable{X:Cx}{K:PySem.W.Frag}{pos:Pos}
theorem qV{es:List Expr}{k:Nat}{t:pW}{n:Nat}(hK:X.K=K)(hc:X.calm=true)(h:nv X es t)(hn:(assignEach es X.env).length=n:=by rfl)(hst:(assignEach es X.env).findIdx? (·.1)=none:=by rfl):PG X (.Tuple es k pos) (we K n t):=hK ▸ uE hc h hn hst
theorem qY{tg l:Expr}{tl:TE}(h:X.K=K)(hl:PE X l tl):PI X tg l (wj K tl):=h ▸ uF hl
theorem oZ{tg l:Expr}{tl:TE}(h:X.K=K)(hl:PE X l tl):PI X tg l (sD K tl):=h ▸ qX hl
end
instance:Inhabited k_:=⟨⟨0,1,1,1,0⟩⟩
def aR.tie(W:aR)(k:Int):k_:=W.ties.getD k.toNat default
def aR.has(W:aR)(k thing:Int):Bool:=(W.tie k).one==thing || (W.tie k).other==thing
def aR.many(W:aR)(asked:List Int)(thing:Int):Int:=((asked.filter fun k=>W.has k thing).length:Nat)
def aR.bears(W:aR)(asked taken:List Int)(thing:Int):Bool:= !taken.contains thing&&decide (W.many asked thing < W.pat.getD thing.toNat 0)
def aR.may(W:aR)(asked taken:List Int)(k:Int):Bool:= !(asked.contains k || decide (W.asks≤(asked.length:Int)))&&(W.bears asked taken (W.tie k).one&&W.bears asked taken (W.tie k).other)
def aR.askd(asked:List Int)(k:Int):List Int:=kU (asked++[k])
def aR.took(W:aR)(taken:List Int)(k:Int)(truth:Bool):List Int:=if truth then kU (taken++[(W.tie k).one,(W.tie k).other]) else taken
def aR.rng(W:aR):List Int:=(List.range W.ties.length).map Int.ofNat
def j3(W:aR)(k:Int):Prop:=0≤k∧k < (W.ties.length:Int)
theorem j3.get{W:aR}{k:Int}(h:j3 W k):W.ties[k.toNat]?=some (W.tie k):=by
  have hk:k.toNat < W.ties.length:=by have:=h.1;have:=h.2;lia
  unfold aR.tie
  rw [List.getD_eq_getElem?_getD,List.getElem?_eq_getElem hk];rfl
theorem j3.ok{W:aR}{k:Int}(h:j3 W k)(o:W.Ok):(W.tie k).Ok W.things:=o.ties _ (List.mem_of_getElem? h.get)
theorem x4{W:aR}{k:Int}:k∈W.rng↔ j3 W k:=by
  unfold aR.rng j3
  rw [List.mem_map]
  constructor
  · rintro⟨n,hn,rfl⟩
    have:=List.mem_range.mp hn
    exact⟨Int.natCast_nonneg n,by simp;lia⟩
  · rintro⟨h0,h1⟩
    exact⟨k.toNat,List.mem_range.mpr (by lia),by simp;lia⟩
def s_(K:PySem.W.Frag)(H:Hp)(v:V)(asked taken:List Int):Prop:=∃a b c,v=.ref a∧bY K H a [.ref b,.ref c]∧bY K H b (asked.map V.int)∧bY K H c (taken.map V.int)
theorem s_.ts{K:PySem.W.Frag}{H H':Hp}(s:gn H H'){v:V}{asked taken:List Int}(h:s_ K H v asked taken):s_ K H' v asked taken:=by
  obtain⟨a,b,c,e,h1,h2,h3⟩:=h
  exact⟨a,b,c,e,s.tup h1,s.tup h2,s.tup h3⟩
section
variable{K:PySem.W.Frag}{σ:L2.St}{H:Hp}{Q:VK}{i j:Nat}{vW:V}{W:aR}{k:Int}
end
def small(k:Int):Prop:= -1000000≤k∧k≤1000000
def Dk(n dep:Nat)(d:PyData):Prop:=d.showable=true∧ic d=true∧L2.cnt d≤n∧d.depth≤dep
theorem Dk.mono{n m dep e:Nat}{d:PyData}(h:Dk n dep d)(h1:n≤m)(h2:dep≤e):Dk m e d:=⟨h.1,h.2.1,Nat.le_trans h.2.2.1 h1,Nat.le_trans h.2.2.2 h2⟩
theorem Dk.int{k:Int}(h:small k):Dk 1 2 (.int k):=by
  refine⟨?_,rfl,Nat.le_refl _,by simp [PyData.depth]⟩
  show decide (k.natAbs.log2 < 1920)=true
  rw [decide_eq_true_eq]
  exact Nat.lt_trans ((show Bt 64 k by have:=h.1;have:=h.2;unfold Bt;lia).log (by decide)) (by decide)
theorem Dk.bool(b:Bool):Dk 1 2 (.bool b):=⟨rfl,rfl,Nat.le_refl _,by simp [PyData.depth]⟩
theorem Dk.none:Dk 1 2 .none:=⟨rfl,rfl,Nat.le_refl _,by simp [PyData.depth]⟩
theorem Dk.all{n dep:Nat}:∀{ds:List PyData},(∀d∈ds,Dk n dep d)→PyData.showableAll ds=true∧dz ds=true∧eM ds≤ds.length*n∧PyData.depthAll ds≤dep
  | [],_=>⟨rfl,rfl,by simp [eM],by simp [PyData.depthAll]⟩
  | d::r,h=>by
    obtain⟨a1,a2,a3,a4⟩:=h d (by simp)
    obtain⟨b1,b2,b3,b4⟩:=Dk.all (ds:=r) fun x hx=>h x (by simp [hx])
    refine⟨?_,?_,?_,?_⟩
    · simp only [PyData.showableAll,a1,b1,Bool.and_self]
    · simp only [dz,a2,b2,Bool.and_self]
    · simp only [eM,List.length_cons,Nat.succ_mul]
      lia
    · simp only [PyData.depthAll];lia
theorem Dk.tup{n dep m:Nat}{ds:List PyData}(h:∀d∈ds,Dk n dep d)(hl:ds.length≤m):Dk (1+m*n) (dep+2) (.tuple ds):=by
  obtain⟨b1,b2,b3,b4⟩:=Dk.all h
  refine⟨b1,b2,?_,?_⟩
  · simp only [L2.cnt]
    have:=Nat.mul_le_mul_right n hl
    lia
  · simp only [PyData.depth];lia
theorem Dk.ok{n dep:Nat}{d:PyData}(h:Dk n dep d)(h1:n≤8000)(h2:dep≤60):d.showable=true∧d.depth≤60∧d.shown.length≤sizeLine:=by
  have:=jg h.2.1 h.1
  have sl:sizeLine=16777216:=sizeLine_eq
  have:=h.2.2.1
  exact⟨h.1,Nat.le_trans h.2.2.2 h2,by lia⟩
theorem Dk.ints{ns:List Int}{m:Nat}(hl:ns.length≤m)(h:∀r∈ns,small r):Dk (1+m) 4 (.tuple (ns.map .int)):=by
  have:=Dk.tup (n:=1) (dep:=2) (m:=m) (ds:=ns.map PyData.int) (fun d hd=>by
    obtain⟨x,hx,rfl⟩:=List.mem_map.mp hd
    exact Dk.int (h x hx)) (by rw [List.length_map];exact hl)
  simpa using this
section
variable{K:PySem.W.Frag}{H:Hp}
theorem Dk.bools{ns:List Bool}{m:Nat}(hl:ns.length≤m):Dk (1+m) 4 (.tuple (ns.map .bool)):=by
  have:=Dk.tup (n:=1) (dep:=2) (m:=m) (ds:=ns.map PyData.bool) (fun d hd=>by
    obtain⟨x,hx,rfl⟩:=List.mem_map.mp hd
    exact Dk.bool x) (by rw [List.length_map];exact hl)
  simpa using this
def aQ(t:k_):PyData:=.tuple [.int t.one,.int t.other,.tuple [.int t.top,.int t.bot],.int t.worth]
def ap(W:aR):PyData:=.tuple [.int W.things,.tuple (W.ties.map aQ),.tuple (W.pat.map .int),.int W.asks]
def zC(asked taken:List Int):PyData:=.tuple [.tuple (asked.map .int),.tuple (taken.map .int)]
end
end L2
namespace L2
open PySem PySem.Spec PyProof.Rows
theorem nG:∀{bs:List Bool} {us:List Value} {i:Nat} {v:Value},ay (bs.map V.bl) us→us[i]?=some v→∃b,bs[i]?=some b∧v=.bool b
  | [],us,i,v,r,e=>by cases r;simp at e
  | b::bs,us,i,v,r,e=>by
    cases r with
    | cons p q=>
      cases i with
      | zero=>simp at e;subst e;cases p;exact⟨b,rfl,rfl⟩
      | succ i=>
        obtain⟨c,h1,h2⟩:=nG (bs:=bs) (i:=i) (v:=v) q (by simpa using e)
        exact⟨c,by simpa using h1,h2⟩
theorem rA(bs:List Bool):((List.range bs.length).all fun i=>(bs[i]?).getD true)=bs.all id:=by
  rw [Bool.eq_iff_iff,List.all_eq_true,List.all_eq_true]
  constructor
  · intro h b hb
    obtain⟨i,hi,rfl⟩:=List.getElem_of_mem hb
    have:=h i (List.mem_range.mpr hi)
    rw [List.getElem?_eq_getElem hi] at this
    exact this
  · intro h i hi
    have hi':=List.mem_range.mp hi
    rw [List.getElem?_eq_getElem hi']
    exact h _ (List.getElem_mem hi')
section
variable{X:Cx}
theorem nJ{k:Nat}{K:PySem.W.Frag}(hr:bu k X.A)(hK:X.K=K):cT X (.builtin "all") (fun xs H Q=>∃(l:Addr) (bs:List Bool),xs=[.ref l]∧dj K H l (bs.map V.bl)∧Q (.bl (bs.all id)) H):=by
  intro pins s σ H xs us Q I r h
  subst hK
  obtain⟨l,bs,rfl,hs,q⟩:=h
  obtain⟨u,rfl,ru⟩:=jN r
  cases ru
  obtain⟨its,rv,p,hz⟩:=I.list hs
  have hl:=p.isList
  have lt:l < s.heap.objs.size:=by obtain⟨_,e,_⟩:=hl;exact Heap.lt_size e
  refine PySem.call_all_walk (wpAny_pyIter_list hl ?_)
  refine⟨s.heap.objs.size,[s.heap.objs.size,l],[s.heap.objs.size],its.toArray.size,_,_,fun i=>(bs[i]?).getD true,rfl,Walks.list (A:=X.A.in1) hr.hd _ l (Nat.ne_of_lt lt) its.toArray,⟨⟨_,Heap.get?_push_size _ rfl,rfl,rfl⟩,hl.push _⟩,fun i v s' Q' E' hP hQ=>?_,fun h' tk hk=>?_⟩
  · obtain⟨b,e,rfl⟩:=nG rv (by simpa using hP)
    simp only [e,Option.getD_some] at hQ
    exact wpAny_truthy_bool hQ
  · have e:its.toArray.size=bs.length:=by have:=rv.length;rw [List.length_map] at this;simpa using this.symm
    rw [e,rA]
    refine⟨.bl (bs.all id),H,I.kept fun b x e=>hk b x (fun hm=>?_) (Heap.get?_push_of_some _ e),rfl,q⟩
    rw [List.mem_singleton.mp hm] at e
    exact Nat.lt_irrefl _ (Heap.lt_size e)
end
end L2
namespace L2
theorem nH:PySem.bootBuiltins "all"=some (.builtin "all"):=by decide+kernel
end L2
namespace L2
open PySem PySem.Spec PyProof.Rows
section
variable{prog:Program}{w:World}{A:Around}{E:Value→Shared→Prop}{s:Shared}
theorem pS{it t:Addr}{i:Nat}{ys}{x:Value}{Q:Value→Shared→Prop}(hi:s.heap.IsTupleIter it t i)(ht:s.heap.IsTuple t ys)(hx:ys[i]?=some x)
    (q:∀g,g.IsTupleIter it t (i+1)→Heap.SameBut it s.heap g→Q x {s with heap:=g}):wpAny (model prog w) A (Builtin.SmallTypes.nextOf (.ref it)) Q E s:=by
  obtain⟨o,ho,hc,hd⟩:=id hi;obtain⟨p,hp,_,n,hpd⟩:=ht;unfold Builtin.SmallTypes.nextOf
  refine wpAny_bind (wpAny_callSpecial?_slot (name:=Str.ofString "__next__") hi.typeIs F.slot_tuple_iterator_next (wpAny_call_entry F.slot_tuple_iterator_next hi.typeIs F.entry_tuple_iterator_next ?_ (F.args_tuple_iterator_next_1 _)))
  show wpAny _ _ (field (.ref it) 0 >>= _) _ _ s;refine wpAny_bind (wpAny_field ho hd (x:=.ref t) rfl ?_)
  show wpAny _ _ (if (Value.ref t==Value.none)=true then _ else _) _ _ s;rw [if_neg (show ¬((Value.ref t==Value.none)=true) from Bool.false_ne_true)]
  show wpAny _ _ (field (.ref it) 1 >>= _) _ _ s;refine wpAny_bind (wpAny_field ho hd (x:=.int i 0) rfl ?_)
  show wpAny _ _ (seqItems? (.ref t) >>= _) _ _ s;refine wpAny_bind (wpAny_seqItems hp hpd ?_)
  simp only [Int.toNat_natCast,hx];refine wpAny_bind (wpAny_setField ho hd (by simp) (wpAny_pure ⟨x,rfl,wpAny_pure (q _ ?_ (Heap.SameBut.update ..))⟩))
  refine⟨_,Heap.get?_update_self _ ho (Obj.isFreed_of_fields (Obj.data_mapFields hd _)),(Obj.cls_mapFields ..).trans hc,?_⟩;rw [Obj.data_mapFields hd];simp [rawInt]
theorem pR{it t:Addr}{i:Nat}{ys}{Q:Value→Shared→Prop}(hh:A.handled=none)(hi:s.heap.IsTupleIter it t i)(ht:s.heap.IsTuple t ys)(hx:ys[i]?=none)
    (q:∀g e,Heap.ExtBut it s.heap g→(∃o,g.get? e=some o∧o.cls=.type "StopIteration")→E (.ref e) {s with heap:=g}):wpAny (model prog w) A (Builtin.SmallTypes.nextOf (.ref it)) Q E s:=by
  obtain⟨o,ho,hc,hd⟩:=id hi;obtain⟨p,hp,_,n,hpd⟩:=ht;unfold Builtin.SmallTypes.nextOf
  refine wpAny_bind (wpAny_callSpecial?_slot (name:=Str.ofString "__next__") hi.typeIs F.slot_tuple_iterator_next (wpAny_call_entry F.slot_tuple_iterator_next hi.typeIs F.entry_tuple_iterator_next ?_ (F.args_tuple_iterator_next_1 _)))
  show wpAny _ _ (field (.ref it) 0 >>= _) _ _ s;refine wpAny_bind (wpAny_field ho hd (x:=.ref t) rfl ?_)
  show wpAny _ _ (if (Value.ref t==Value.none)=true then _ else _) _ _ s;rw [if_neg (show ¬((Value.ref t==Value.none)=true) from Bool.false_ne_true)]
  show wpAny _ _ (field (.ref it) 1 >>= _) _ _ s;refine wpAny_bind (wpAny_field ho hd (x:=.int i 0) rfl ?_)
  show wpAny _ _ (seqItems? (.ref t) >>= _) _ _ s;refine wpAny_bind (wpAny_seqItems hp hpd ?_)
  simp only [Int.toNat_natCast,hx];refine wpAny_bind (wpAny_rule (wpAny_bind (wpAny_setField ho hd (by simp) ?_)))
  show wpAny _ _ (newExc (.type "StopIteration") [] >>= _) _ _ _;refine wpAny_bind ?_;simp only [newExc,newTuple]
  refine wpAny_bind (wpAny_newObj_type ?_ (by size_fits));refine wpAny_bind (m:=firstArgMember _ _) (wpAny_of_eq (a:=Value.none) (by first | rfl | (simp only [firstArgMember];rfl)) ?_)
  refine wpAny_newObj_type ?_ (by size_fits);simp only [raiseNew];refine wpAny_bind (wpAny_handled ?_);first | rw [show A.in1.handled=none from hh] | rw [hh]
  refine wpAny_bind (wpAny_pure (wpAny_throw ?_));exact q _ _ (((Heap.SameBut.update ..).extBut.push _).push _) ⟨_,Heap.get?_push_size _ rfl,rfl⟩
end
structure Sc (prog:Program) (w:World) (it l:Addr) (St:Nat→Heap→Prop) (Sq:Heap→Array Value→Prop):Prop where
  stay:∀{k h h'},St k h→(∀o,h.get? it=some o→h'.get? it=some o)→St k h'
  live:∀{k h},St k h→∃o,h.get? it=some o∧∀v,o.data≠.cell v
  row:∀{h h' xs},Sq h xs→(∀o,h.get? l=some o→h'.get? l=some o)→Sq h' xs
  next:∀{A:Around} {s:Shared} {E:Value→Shared→Prop} {Q:Value→Shared→Prop} {k:Nat} {xs:Array Value} {x:Value},St k s.heap→Sq s.heap xs→xs[k]?=some x→(∀g,St (k+1) g→Heap.SameBut it s.heap g→Q x {s with heap:=g})→wpAny (model prog w) A (Builtin.SmallTypes.nextOf (.ref it)) Q E s
  last:∀{A:Around} {s:Shared} {E:Value→Shared→Prop} {Q:Value→Shared→Prop} {k:Nat} {xs:Array Value},A.handled=none→St k s.heap→Sq s.heap xs→xs[k]?=none→(∀g e,Heap.ExtBut it s.heap g→(∃o,g.get? e=some o∧o.cls=.type "StopIteration")→E (.ref e) {s with heap:=g})→wpAny (model prog w) A (Builtin.SmallTypes.nextOf (.ref it)) Q E s
theorem pL{prog:Program}{w:World}(it l:Addr):Sc prog w it l (fun k h=>h.IsTupleIter it l k) (fun h xs=>h.IsTuple l xs) where
  stay:=fun st k=>st.at fun o e=>k o e
  live:=fun st=>by
    obtain⟨o,e,c,d⟩:=st
    exact⟨o,e,fun v z=>by rw [d] at z;cases z⟩
  row:=fun q k=>by
    obtain⟨o,e,r⟩:=q
    exact⟨o,k o e,r⟩
  next:=fun st sq hx q=>pS st sq hx q
  last:=fun hh st sq hx q=>pR hh st sq hx q
theorem mx{prog:Program}{w:World}(it l:Addr):Sc prog w it l (fun k h=>h.IsListIter it l k) (fun h xs=>h.IsList l xs) where
  stay:=fun st k=>st.at fun o e=>k o e
  live:=fun st=>by
    obtain⟨o,e,c,d⟩:=st
    exact⟨o,e,fun v z=>by rw [d] at z;cases z⟩
  row:=fun q k=>by
    obtain⟨o,e,r⟩:=q
    exact⟨o,k o e,r⟩
  next:=fun st sq hx q=>wpAny_nextOf_list_item st sq hx q
  last:=fun hh st sq hx q=>wpAny_nextOf_list_end hh st sq hx q
structure yQ (z TI TO i1 i2 l1 l2:Addr):Prop where
  a1:TO≠z
  a2:i1≠z
  a3:i2≠z
  a4:TO≠i1
  a5:TO≠i2
  a6:i1≠i2
  b1:l1≠z
  b2:l1≠TO
  b3:l1≠i1
  b4:l1≠i2
  c1:l2≠z
  c2:l2≠TO
  c3:l2≠i1
  c4:l2≠i2
section
variable{prog:Program}{w:World}{A:Around}{E:Value→Shared→Prop}{s:Shared}{z TI TO i1 i2 l1 l2:Addr}{k:Nat}{xs ys:Array Value}{a b:Value}{S1 S2:Nat→Heap→Prop}{R1 R2:Heap→Array Value→Prop}
end
end L2
namespace L2
open PySem PySem.Spec PyProof.Rows
section
variable{X:Cx}{pins:List (Addr × Obj)}{σ:L2.St}{H:Hp}{s:Shared}{h':Heap}
theorem ao.turnedL{t':Nat}{fp:List Addr}(I:ao X pins σ H s)(hf:∀b∈fp,d9 X pins H b)(k:∀b o,b∉fp→s.heap.get? b=some o→h'.get? b=some o):ao X pins σ H {s with heap:=h',toks:=t'}:=by
  have hL:X.env.locals∉fp:=fun z=>(hf _ z).2.1 rfl
  have nit:∀b u,H b=some u→b∉fp:=fun b u e z=>by have:=(hf b z).1;rw [this] at e;cases e
  refine I.step (g':=s.gens) (d':=s.drawn) (ch:=fp) (fun b hb=>?_) (fun b o _ _ hc e _=>k b o hc e) (fun b o _ _ hc e _=>⟨o.slots,k b o hc e⟩) (fun _ _ _ _ n=>n) (fun b o hc e=>⟨o,k b o hc e⟩) (fun _ _ e=>e) (fun _ _ _ e=>e) (fun b ps e=>⟨#[],by rw [e];simp⟩) (fun m hm=>?_) (fun b u e=>?_) I.bare
  · obtain⟨f0,f1,f2,f3,f4,f5⟩:=hf b hb
    exact⟨f3,f1,f4,f5⟩
  · obtain⟨o,es,ep,ho,r⟩:=hm
    exact⟨o,es,ep,k _ o hL ho,r⟩
  · refine(I.hok b u e).stay (fun c v hc q=>k c v ?_ q) (fun _ q=>q) fun _ _ q=>q
    rcases hc with z | z
    · rw [z];exact nit b u e
    · exact nit c _ z
theorem j6(I:ao X pins σ H s){b l:Addr}{xs:List V}(f:d9 X pins H b)(q:bY X.K H l xs):l≠b:=by
  intro z
  subst z
  rcases q with (q | ⟨o,q⟩) | ⟨o,its,n,hk,_⟩
  · rw [f.1] at q;cases q
  · rw [f.1] at q;cases q
  · have hb:X.base.get? l=some o:=I.ok.mod.kin l o hk
    rcases f.2.2.2.1 with z | z
    · exact I.ok.noex l o hb z
    · exact absurd (Nat.lt_of_lt_of_le (Heap.lt_size (I.ok.bs l o hb).1) z) (Nat.lt_irrefl _)
end
section
variable{prog:Program}{w:World}{A:Around}{E:Value→Shared→Prop}{s:Shared}
end
end L2
namespace L2
open PySem PySem.Spec PyProof.Rows
def sW(h:Heap)(z TI TO:Addr)(a:Addr)(f:Bool):Prop:=h.get? z=some {cls:=.type "zip",data:=.fields #[rawInt a,.bool f,.bool false,.ref TI,.ref TO]}
section
variable{prog:Program}{w:World}{A:Around}{E:Value→Shared→Prop}{s:Shared}{z TI TO i1 i2 l1 l2:Addr}{k:Nat}{xs ys:Array Value}{a:Addr}{f:Bool}{S1 S2:Nat→Heap→Prop}{R1 R2:Heap→Array Value→Prop}
end
end L2
namespace L2
open PySem PySem.Spec PyProof.Rows
structure ZL (S z TI TO i1 i2 l1 l2:Addr) (xs ys:Array Value) (i:Nat) (h:Heap):Prop where
  pr:IsPair h TI (.ref i1) (.ref i2)
  t1:h.IsTupleIter i1 l1 i
  t2:h.IsTupleIter i2 l2 i
  s1:h.IsTuple l1 xs
  s2:h.IsTuple l2 ys
  ot:∃o,h.get? TO=some o
  zs:(IsZip h z TI TO .none∧∃a b,IsPair h TO a b)∨∃a f oa,sW h z TI TO a f∧h.get? a=some oa∧a≠S∧a≠z∧a≠i1∧a≠i2
structure yP (S z TO i1 i2:Addr) (xs ys:Array Value) (h:Heap) (acc:Array Value) (i:Nat):Prop where
  sz:acc.size=i
  at_:∀(j:Nat) (v:Value),acc[j]?=some v→∃(p:Addr) (x y:Value),v=.ref p∧xs[j]?=some x∧ys[j]?=some y∧IsPair h p x y∧p≠S∧p≠z∧p≠TO∧p≠i1∧p≠i2
  lo:∀(j:Nat) (p:Addr),acc[j]?=some (.ref p)→S < p
  zq:∀(i j:Nat) (p q:Addr),i < j→acc[i]?=some (.ref p)→acc[j]?=some (.ref q)→p < q
section
variable{prog:Program}{w:World}{A:Around}{R:Result→Shared→Prop}{S z TI TO i1 i2 l1 l2:Addr}{xs ys:Array Value}{n:Nat}
end
end L2
namespace L2
open PySem PySem.Spec PyProof.Rows
section
variable{X:Cx}{pins:List (Addr × Obj)}{σ:L2.St}{H H':Hp}{s:Shared}{h':Heap}
end
end L2
namespace L2
open PySem PySem.Spec PyProof.Rows
section
variable{prog:Program}{w:World}{A:Around}{E:Value→Shared→Prop}{s:Shared}{e it l:Addr}{k:Nat}{xs:Array Value}{S:Nat→Heap→Prop}{R:Heap→Array Value→Prop}
theorem kS(P1:Sc prog w it l S R)(hh:A.handled=none)(hne:l≠it)(xs:Array Value):Draws prog w A it [it,l] xs.size (fun i v=>xs[i]?=some v) (fun i h=>S i h∧R h xs) where
  live:=fun _ _ st=>let ⟨o,ho,_⟩:=P1.live st.1;⟨o,ho⟩
  frame:=fun _ _ _ st hk=>⟨P1.stay st.1 fun o e=>hk it (by simp) o e,P1.row st.2 fun o e=>hk l (by simp) o e⟩
  item:=fun i s Q E hi st hQ=>P1.next st.1 st.2 (x:=xs[i]) (by simp [hi]) fun g h1 h2=>hQ _ g s.toks (by simp [hi]) ⟨h1,P1.row st.2 fun o e=>h2.extBut _ _ hne e⟩ h2
  done:=fun s Q E st hE=>P1.last hh st.1 st.2 (by simp) hE
theorem iZ{i:Int}{old:Value}{Q:Option Value→Shared→Prop}(P1:Sc prog w it l S R)(hh:A.handled=none)(he:IsEnum s.heap e it i old)(st:S k s.heap)(sq:R s.heap xs)(hx:xs[k]?=none)(q:∀g,Heap.ExtBut it s.heap g→Q none {s with heap:=g}):wpAny (model prog w) A (pyNext (.ref e)) Q E s:=by
  have hT:s.TypeIs (.ref e) "enumerate":=⟨_,he,rfl⟩;unfold pyNext
  refine wpAny_bind (wpAny_attempt (wpAny_callSpecial?_slot (name:=Str.ofString "__next__") hT F.slot_enumerate_next (wpAny_call_entry F.slot_enumerate_next hT F.entry_enumerate_next ?_ (F.args_enumerate_next_1 _))))
  show wpAny _ _ (field (.ref e) 2 >>= _) _ _ _;refine wpAny_bind (wpAny_field he rfl (x:=.ref it) rfl ?_)
  refine wpAny_bind (P1.last hh st sq hx fun g x hk hx'=>?_);obtain⟨o,ho,hc⟩:=hx'
  refine wpAny_bind (wpAny_isInstance (T:="StopIteration") (b:=true) ⟨o,ho,hc⟩ isSubtype_stop ?_);exact wpAny_pure (q _ hk)
theorem ez{i:Int}{old:Value}{Q:Value→Shared→Prop}(he:IsEnum s.heap e it i old)(h:Q (.ref e) s):wpAny (model prog w) A (pyIter (.ref e)) Q E s:=by
  have hT:s.TypeIs (.ref e) "enumerate":=⟨_,he,rfl⟩
  refine wpAny_pyIter_slot hT F.slot_enumerate_iter (wpAny_call_entry F.slot_enumerate_iter hT F.entry_enumerate_iter ?_ (F.args_enumerate_iter_1 _))
  show wpAny _ _ (ret (.ref e)) _ _ s;exact wpAny_pure ⟨_,rfl,"enumerate",_,hT,F.slot_enumerate_next.lookup,h⟩
end
section
variable{X:Cx}{pins:List (Addr × Obj)}{σ:L2.St}{H:Hp}{s:Shared}
theorem iO(I:ao X pins σ H s){b l:Addr}{xs:List V}(f:d9 X pins H b)(q:dj X.K H l xs):l≠b:=by
  intro z
  subst z
  rcases q with (q | ⟨o,q⟩) | ⟨o,its,n,hk,_⟩
  · rw [f.1] at q;cases q
  · rw [f.1] at q;cases q
  · have hb:X.base.get? l=some o:=I.ok.mod.kin l o hk
    rcases f.2.2.2.1 with z | z
    · exact I.ok.noex l o hb z
    · exact absurd (Nat.lt_of_lt_of_le (Heap.lt_size (I.ok.bs l o hb).1) z) (Nat.lt_irrefl _)
end
def sY(K:PySem.W.Frag)(l:Addr):It:=
  ⟨fun i H=>∃xs x,bY K H l xs∧xs[i]?=some x,fun i H v H'=>∃p x,v=.ref p∧H p=none∧H'=aF H p (.tup [.int i,x])∧∀xs,bY K H l xs→xs[i]?=some x,fun i H=>∃xs,bY K H l xs∧xs.length≤i⟩
def l0(e it l:Addr)(i:Nat)(h:Heap):Prop:=(∃old,IsEnum h e it i old)∧h.IsTupleIter it l i
theorem lO{P:Program}{w:World}{K:PySem.W.Frag}{es:List Expr}{k0:Nat}{pos:Pos}{e it:Addr}(l:Addr)(ne:e≠it):mG P w K (.Tuple es k0 pos) (sY K l) [e,it] e (l0 e it l) where
  mem:=by simp
  obj:=fun i h st b hb=>by
    obtain⟨⟨old,he⟩,u⟩:=st
    simp only [List.mem_cons,List.not_mem_nil,or_false] at hb
    rcases hb with rfl | rfl
    · exact⟨_,he,fun v z=>by cases z⟩
    · obtain⟨o,e,c,d⟩:=u
      exact⟨o,e,fun v z=>by rw [d] at z;cases z⟩
  keep:=fun i h h' st k=>by
    obtain⟨⟨old,he⟩,u⟩:=st
    exact⟨⟨old,k _ (by simp) _ he⟩,u.at fun o e=>k _ (by simp) o e⟩
  item:=by
    intro X hP hw hK hc i pins s σ H E I hf st hg
    subst hP hw hK
    obtain⟨xs,x,q1,hx⟩:=hg
    obtain⟨⟨old,he⟩,u⟩:=id st
    obtain⟨its,rv,p,hz⟩:=I.tuple q1
    obtain⟨ux,hux,rux⟩:=rv.get hx
    have fe:=hf e (by simp);have ft:=hf it (by simp)
    have n1:l≠e:=j6 I fe q1
    have n2:l≠it:=j6 I ft q1
    have hi:i < its.toArray.size:=by have:=(List.getElem?_eq_some_iff.mp hux).1;simpa using this
    refine wpAny_pyNext_enum_itemD (kS (A:=X.A.in1) (pL it l) (show X.A.in1.handled=none from I.ok.hd hc) n2 its.toArray) he ⟨u,p⟩ hi ne (by simpa using ⟨ne,fun z=>n1 z.symm⟩) fun x' g tk hP ho hs hT hsz hk=>?_
    have ex:x'=ux:=by
      have:its[i]?=some x':=by simpa using hP
      rw [hux] at this;exact(Option.some.inj this).symm
    subst ex
    refine⟨_,rfl,wpAny_letOwnedTupleGo_enum ho fun g' he' ge=>?_⟩
    have lt:∀b∈[e,it],b < s.heap.objs.size:=fun b hb=>by
      simp only [List.mem_cons,List.not_mem_nil,or_false] at hb
      rcases hb with rfl | rfl
      · exact Heap.lt_size he
      · obtain⟨o,e,_⟩:=u;exact Heap.lt_size e
    have hTn:H s.heap.objs.size=none:=I.hok.fresh (Nat.le_refl _)
    have vv:ay [.int i,x] [.int i tk,x']:=.cons ⟨tk,rfl⟩ (.cons rux .nil)
    have I1:ao X pins σ (aF H s.heap.objs.size (.tup [.int i,x])) {s with heap:=s.heap.push {cls:=.type "tuple",data:=.seq #[.int i tk,x']},toks:=s.toks}:=
      I.laid (t':=s.toks) (fun b u e=>Heap.get?_push_of_some _ e) (Nat.le_refl _) ⟨(by show 2≤sizeLine;decide),[.int i tk,x'],vv,gS.new _ _⟩
    have hf1:∀b∈[e,it],d9 X pins (aF H s.heap.objs.size (.tup [.int i,x])) b:=fun b hb=>by
      obtain⟨f0,fr⟩:=hf b hb
      exact⟨by rw [av (Nat.ne_of_lt (lt b hb))];exact f0,fr⟩
    have I2:ao X pins σ (aF H s.heap.objs.size (.tup [.int i,x])) {s with heap:=g',toks:=tk+1}:=by
      refine I1.turnedL (t':=tk+1) hf1 fun b o nb eb=>?_
      have nb':b≠e∧b≠it:=by simpa using nb
      refine ge.extBut _ _ nb'.1 ?_
      rcases Heap.get?_push_cases eb with ⟨rfl,rfl⟩ | eb
      · exact hT
      · exact hk b o nb'.1 nb'.2 eb
    refine⟨.ref s.heap.objs.size,_,I2,rfl,⟨_,x,rfl,hTn,rfl,fun xs' w1=>by rw [I.tuple_inj w1 q1];exact hx⟩,⟨⟨_,by simpa using he'⟩,hs.1.at fun o e=>ge.extBut _ _ (fun z=>ne z.symm) e⟩,fun b hb=>(hf1 b hb).1⟩
  done:=by
    intro X hP hw hK hc i pins s σ H E I hf st hg
    subst hP hw hK
    obtain⟨xs,q1,hn⟩:=hg
    obtain⟨⟨old,he⟩,u⟩:=id st
    obtain⟨its,rv,p,hz⟩:=I.tuple q1
    have e1:=rv.length
    refine iZ (xs:=its.toArray) (pL it l) (I.ok.hd hc) he u p (by simp;lia) fun g gk=>⟨rfl,I.turnedL (t':=s.toks) hf fun b o nb eb=>?_⟩
    have nb':b≠e∧b≠it:=by simpa using nb
    exact gk b o nb'.2 eb
  self:=fun A i s Q E st h=>by
    obtain⟨⟨old,he⟩,u⟩:=st
    exact ez he h
def sX(K:PySem.W.Frag)(l:Addr):It:=
  ⟨fun i H=>∃xs x,dj K H l xs∧xs[i]?=some x,fun i H v H'=>∃p x,v=.ref p∧H p=none∧H'=aF H p (.tup [.int i,x])∧∀xs,dj K H l xs→xs[i]?=some x,fun i H=>∃xs,dj K H l xs∧xs.length≤i⟩
def qf(e it l:Addr)(i:Nat)(h:Heap):Prop:=(∃old,IsEnum h e it i old)∧h.IsListIter it l i
theorem lN{P:Program}{w:World}{K:PySem.W.Frag}{es:List Expr}{k0:Nat}{pos:Pos}{e it:Addr}(l:Addr)(ne:e≠it):mG P w K (.Tuple es k0 pos) (sX K l) [e,it] e (qf e it l) where
  mem:=by simp
  obj:=fun i h st b hb=>by
    obtain⟨⟨old,he⟩,u⟩:=st
    simp only [List.mem_cons,List.not_mem_nil,or_false] at hb
    rcases hb with rfl | rfl
    · exact⟨_,he,fun v z=>by cases z⟩
    · obtain⟨o,e,c,d⟩:=u
      exact⟨o,e,fun v z=>by rw [d] at z;cases z⟩
  keep:=fun i h h' st k=>by
    obtain⟨⟨old,he⟩,u⟩:=st
    exact⟨⟨old,k _ (by simp) _ he⟩,u.at fun o e=>k _ (by simp) o e⟩
  item:=by
    intro X hP hw hK hc i pins s σ H E I hf st hg
    subst hP hw hK
    obtain⟨xs,x,q1,hx⟩:=hg
    obtain⟨⟨old,he⟩,u⟩:=id st
    obtain⟨its,rv,p,hz⟩:=I.list q1
    obtain⟨ux,hux,rux⟩:=rv.get hx
    have fe:=hf e (by simp);have ft:=hf it (by simp)
    have n1:l≠e:=iO I fe q1
    have n2:l≠it:=iO I ft q1
    have hi:i < its.toArray.size:=by have:=(List.getElem?_eq_some_iff.mp hux).1;simpa using this
    refine wpAny_pyNext_enum_itemD (kS (A:=X.A.in1) (mx it l) (show X.A.in1.handled=none from I.ok.hd hc) n2 its.toArray) he ⟨u,p.isList⟩ hi ne (by simpa using ⟨ne,fun z=>n1 z.symm⟩) fun x' g tk hP ho hs hT hsz hk=>?_
    have ex:x'=ux:=by
      have:its[i]?=some x':=by simpa using hP
      rw [hux] at this;exact(Option.some.inj this).symm
    subst ex
    refine⟨_,rfl,wpAny_letOwnedTupleGo_enum ho fun g' he' ge=>?_⟩
    have lt:∀b∈[e,it],b < s.heap.objs.size:=fun b hb=>by
      simp only [List.mem_cons,List.not_mem_nil,or_false] at hb
      rcases hb with rfl | rfl
      · exact Heap.lt_size he
      · obtain⟨o,e,_⟩:=u;exact Heap.lt_size e
    have hTn:H s.heap.objs.size=none:=I.hok.fresh (Nat.le_refl _)
    have vv:ay [.int i,x] [.int i tk,x']:=.cons ⟨tk,rfl⟩ (.cons rux .nil)
    have I1:ao X pins σ (aF H s.heap.objs.size (.tup [.int i,x])) {s with heap:=s.heap.push {cls:=.type "tuple",data:=.seq #[.int i tk,x']},toks:=s.toks}:=
      I.laid (t':=s.toks) (fun b u e=>Heap.get?_push_of_some _ e) (Nat.le_refl _) ⟨(by show 2≤sizeLine;decide),[.int i tk,x'],vv,gS.new _ _⟩
    have hf1:∀b∈[e,it],d9 X pins (aF H s.heap.objs.size (.tup [.int i,x])) b:=fun b hb=>by
      obtain⟨f0,fr⟩:=hf b hb
      exact⟨by rw [av (Nat.ne_of_lt (lt b hb))];exact f0,fr⟩
    have I2:ao X pins σ (aF H s.heap.objs.size (.tup [.int i,x])) {s with heap:=g',toks:=tk+1}:=by
      refine I1.turnedL (t':=tk+1) hf1 fun b o nb eb=>?_
      have nb':b≠e∧b≠it:=by simpa using nb
      refine ge.extBut _ _ nb'.1 ?_
      rcases Heap.get?_push_cases eb with ⟨rfl,rfl⟩ | eb
      · exact hT
      · exact hk b o nb'.1 nb'.2 eb
    refine⟨.ref s.heap.objs.size,_,I2,rfl,⟨_,x,rfl,hTn,rfl,fun xs' w1=>by rw [I.list_inj w1 q1];exact hx⟩,⟨⟨_,by simpa using he'⟩,hs.1.at fun o e=>ge.extBut _ _ (fun z=>ne z.symm) e⟩,fun b hb=>(hf1 b hb).1⟩
  done:=by
    intro X hP hw hK hc i pins s σ H E I hf st hg
    subst hP hw hK
    obtain⟨xs,q1,hn⟩:=hg
    obtain⟨⟨old,he⟩,u⟩:=id st
    obtain⟨its,rv,p,hz⟩:=I.list q1
    have e1:=rv.length
    refine iZ (xs:=its.toArray) (mx it l) (I.ok.hd hc) he u p.isList (by simp;lia) fun g gk=>⟨rfl,I.turnedL (t':=s.toks) hf fun b o nb eb=>?_⟩
    have nb':b≠e∧b≠it:=by simpa using nb
    exact gk b o nb'.2 eb
  self:=fun A i s Q E st h=>by
    obtain⟨⟨old,he⟩,u⟩:=st
    exact ez he h
end L2
namespace L2
open PySem PySem.Spec PyProof.Rows
theorem mC:∀(us:List Value) (f:Nat→Int),(∀(j:Nat) (v:Value),us[j]?=some v→∃t,v=Value.int (f j) t)→ay ((List.range us.length).map fun j=>V.int (f j)) us
  | [],_,_=>.nil
  | u::us,f,h=>by
    rw [List.length_cons,List.range_succ_eq_map,List.map_cons,List.map_map]
    refine .cons (h 0 u rfl) (mC us (fun j=>f (j+1)) fun j v e=>h (j+1) v (by simpa using e))
def jV(n:Nat):List Int:=(List.range n).map Int.ofNat
theorem pD(n:Nat):(jV n).length=n:=by simp [jV]
section
variable{X:Cx}{a:Expr}{ta:TA}{p p2 pos pos2:Pos}
theorem nQ(hg:Gl X "range")(hm:X.mg "range"=none)(ha:PA X [a] ta)(hs:starEach [a] X.env=[(false,eval a X.env)]){pins:List (Addr × Obj)}{s:Shared}{σ:L2.St}{H:Hp}{R:Int→Hp→Prop}(I:ao X pins σ H s)(h:ta σ H fun vs H1=>∃j:Int,vs=[.int j]∧R j H1):
    wpAny (model X.prog X.w) X.A (eval (.Call (.Name "range" p) [a] [] pos) X.env) (fun v s1=>∃(r:Addr) (j:Int) (H1:Hp) (t u w:Tok),v=.ref r∧IsRange s1.heap r 0 j 1 t u w∧r < s1.heap.objs.size∧ao X pins σ H1 s1∧R j H1) X.xe s:=by
  refine Call_ (eO I hg hm boot_range (PyProof.Rows.callWith_type1 (bf (ha pos pins s σ H _ I h) fun us s1 ⟨vs,H1,I1,r1,q1⟩=>?_) hs rfl))
  obtain⟨j,e,q⟩:=q1
  subst e
  cases r1 with
  | cons r rr=>
    cases rr
    obtain⟨t,rfl⟩:=r
    exact call_range_1 ⟨_,j,H1,_,_,_,rfl,IsRange.new ..,by simp [Heap.size_push],I1.kept fun b o e=>Heap.get?_push_of_some _ e,q⟩
def zt(ta:TA):TE:=fun σ H Q=>ta σ H fun vs H1=>∃j:Int,vs=[.int j]∧(0≤j∧j≤100000∧∀l,H1 l=none→Q (.ref l) (aF H1 l (.lst ((jV j.toNat).map V.int))))
theorem jP(hc:X.calm=true)(hgl:Gl X "list")(hml:X.mg "list"=none)(hg:Gl X "range")(hm:X.mg "range"=none)(ha:PA X [a] ta)(hs:starEach [a] X.env=[(false,eval a X.env)]:=by rfl)
    (he:starEach [.Call (.Name "range" p) [a] [] pos] X.env=(false,eval (.Call (.Name "range" p) [a] [] pos) X.env)::starEach [] X.env:=by rfl):PE X (.Call (.Name "list" p2) [.Call (.Name "range" p) [a] [] pos] [] pos2) (zt ta):=by
  intro pins s σ H Q I h
  refine wpAny_Call_Name_kw (eO I hgl hml PyProof.Rows.boot_list ?_ (by decide) (by decide))
  refine PyProof.Rows.callWith_type1 ?_ he rfl
  rw [he]
  refine Calls.spliced_cons (bf (nQ hg hm ha hs I h) fun u s1 ⟨r,j,H1,t,u1,w,e,hr,lt,I1,j0,j1,q⟩=>?_)
  subst e
  refine wpAny_pure ?_
  have hsm:Builtin.Range.small 0 j 1=true:=small_one (by decide) (by decide) (by lia) (by lia)
  refine call_list_range (n:=j.toNat) (I1.ok.hd hc) hr hsm (by rw [rangeSize_one];split<;>lia) (Nat.le_trans (show j.toNat≤100000 by lia) (by decide)) fun h' tk acc c hk hD hI=>?_
  have hf:H1 s1.heap.objs.size=none:=I1.hok.fresh (Nat.le_refl _)
  have vv:ay ((jV j.toNat).map V.int) acc.toList:=by
    have z:=mC acc.toList (fun k=>(k:Int)) fun k v e=>by
      obtain⟨t,ht⟩:=hI.2 k v (by simpa using e)
      exact⟨t,by rw [ht];simp⟩
    rw [Array.length_toList,hI.1] at z
    rw [jV,List.map_map]
    exact z
  refine⟨.ref s1.heap.objs.size,_,I1.laid (o:=.lst ((jV j.toNat).map V.int)) hk (Nat.le_refl _) ⟨?_,acc.toList,c,vv,by simpa using hD⟩,rfl,q _ hf⟩
  rw [List.length_map,pD,sizeLine_eq];lia
end
end L2
namespace L2
open PySem PySem.Spec PyProof.Rows
theorem mW:fillsNumberSlot (.type "tuple") "mul"=pure false:=
  PySem.fillsNumberSlot_seq (id:="tuple.__mul__") (r:=some (.builtin "tuple.__rmul__")) F.slot_tuple_mul.lookup (by decide+kernel) F.slot_tuple_rmul.lookup (by decide+kernel)
theorem u9:seqRepeat? (.type "tuple")=pure (some (.builtin "tuple.__mul__")):=by
  unfold seqRepeat?;rw [PySem.seqSlot_of (T:="tuple") (name:="__mul__") (id:="tuple.__mul__") F.slot_tuple_mul.lookup (by decide+kernel),PySem.seqSlot_of (T:="tuple") (name:="__rmul__") (id:="tuple.__rmul__") F.slot_tuple_rmul.lookup (by decide+kernel)];rfl
theorem rq(a:Int)(t:Tok)(l:Addr)(items:Array Value)(n:Nat)(dd:Option Addr)(sl:Array (Option Value)):
    Meets (Builtin.«int.__rmul__» ⟨[.int a t,.ref l],[]⟩) (fun _ R s=>s.heap.get? l=some {cls:=.type "tuple",dict:=dd,data:=.seq items n,slots:=sl}∧R (.ok (.ret Value.notImplemented)) s):=
  .of_wp fun prog w A R s h=>by obtain⟨hp,g,d,tk,os⟩:=s;obtain⟨hl,h⟩:=h;wp_walk;exact⟨_,rfl,h⟩
theorem tX(l:Addr)(x:Value)(n:Nat)(k:Int)(u:Tok)(dd:Option Addr)(sl:Array (Option Value))(h0:2≤k)(h1:k≤100000):
    Meets (Builtin.«tuple.__mul__» ⟨[.ref l,.int k u],[]⟩) (fun _ R s=>s.heap.get? l=some {cls:=.type "tuple",dict:=dd,data:=.seq #[x] n,slots:=sl}∧
      R (.ok (.ret (.ref s.heap.objs.size))) {s with heap:=s.heap.push {cls:=.type "tuple",data:=.seq (List.replicate k.toNat x).toArray}}):=
  .of_wp fun prog w A R s h=>by
    obtain⟨hp,g,d,tk,os⟩:=s;obtain⟨hl,h⟩:=h
    have f1:=AutoSeq1.idx_int
    have c1:¬(decide (k < -(2 ^ 63)) || decide (k≥2 ^ 63))=true:=by simp;lia
    have c2:¬((#[x]:Array Value).isEmpty || k==1)=true:=by simp;lia
    have c3:¬(decide (k≤0) || (#[x]:Array Value).isEmpty)=true:=by simp;lia
    have c4:¬(((#[x]:Array Value).size:Int)*k > (2 ^ 63 - 1) / 8):=by simp;lia
    have c5:¬Builtin.Tuple.tupleTooMany (((#[x]:Array Value).size:Int)*k)=true:=by
      unfold Builtin.Tuple.tupleTooMany;rw [sizeLine_eq];simp;lia
    wp_walk using wpAny_loadPart' hl
    rw [if_neg c1]
    wp_walk using wpAny_loadPart' hl
    rw [if_neg c2]
    wp_walk using wpAny_loadPart' hl
    rw [if_neg c3]
    wp_walk using wpAny_loadPart' hl
    rw [if_neg c4]
    show wpAny _ _ (if Builtin.Tuple.tupleTooMany (((#[x]:Array Value).size:Int)*k)=true then _ else _) _ _ _
    rw [if_neg c5]
    have f0:∀(m:Nat) (acc:Array Value),List.foldl (fun x1 x2=>x1++x2) acc (List.replicate m #[x])=acc++(List.replicate m x).toArray:=by
      intro m
      induction m with
      | zero=>intro acc;simp
      | succ m ih=>intro acc;rw [List.replicate_succ,List.foldl_cons,ih,List.replicate_succ];apply Array.toList_inj.mp;simp
    have e:List.foldl (fun x1 x2=>x1++x2) #[] (List.replicate k.toNat #[x])=(List.replicate k.toNat x).toArray:=by rw [f0];simp
    show wpAny _ _ (Builtin.Tuple.tupleExact (List.foldl (fun x1 x2=>x1++x2) #[] (List.replicate k.toNat #[x])) >>= fun v=>ret v) _ _ _
    rw [e]
    unfold Builtin.Tuple.tupleExact
    refine wpAny_bind (wpAny_newObj_type ?_ (by show(List.replicate k.toNat x).toArray.size≤sizeLine;rw [List.size_toArray,List.length_replicate,sizeLine_eq];lia))
    exact wpAny_pure ⟨_,rfl,h⟩
theorem qy(l:Addr)(x:Value)(n:Nat)(u:Tok)(dd:Option Addr)(sl:Array (Option Value)):
    Meets (Builtin.«tuple.__mul__» ⟨[.ref l,.int 0 u],[]⟩) (fun _ R s=>s.heap.get? l=some {cls:=.type "tuple",dict:=dd,data:=.seq #[x] n,slots:=sl}∧R (.ok (.ret (.ref s.heap.objs.size))) {s with heap:=s.heap.push {cls:=.type "tuple",data:=.seq #[]}}):=
  .of_wp fun prog w A R s h=>by
    obtain⟨hp,g,d,tk,os⟩:=s;obtain⟨hl,h⟩:=h;have f1:=AutoSeq1.idx_int
    have c2:¬((#[x]:Array Value).isEmpty || (0:Int)==1)=true:=by simp
    wp_walk using wpAny_loadPart' hl
    first | rw [if_neg c2] | skip
    wp_walk using wpAny_loadPart' hl
    exact⟨_,rfl,h⟩
theorem qz(l:Addr)(x:Value)(n:Nat)(u:Tok)(dd:Option Addr)(sl:Array (Option Value)):
    Meets (Builtin.«tuple.__mul__» ⟨[.ref l,.int 1 u],[]⟩) (fun _ R s=>s.heap.get? l=some {cls:=.type "tuple",dict:=dd,data:=.seq #[x] n,slots:=sl}∧R (.ok (.ret (.ref l))) s):=
  .of_wp fun prog w A R s h=>by
    obtain⟨hp,g,d,tk,os⟩:=s;obtain⟨hl,h⟩:=h;have f1:=AutoSeq1.idx_int
    wp_walk using wpAny_loadPart' hl
    exact⟨_,rfl,h⟩
section
variable{X:Cx}
def pw(K:PySem.W.Frag):R2:=fun x y H Q=>∃a k v,x=.ref a∧y=.int k∧bY K H a [v]∧0≤k∧k≤100000∧∀p H',am H H'→bY K H' p (List.replicate k.toNat v)→Q (.ref p) H'
theorem qP:c9 X (binaryOp .Mult) (pw X.K):=by
  intro pins s σ H x y v u Q I rx ry h
  obtain⟨a,k,z,rfl,rfl,ha,k0,k1,q⟩:=h
  cases rx
  obtain⟨t,rfl⟩:=ry
  obtain⟨its,r,p,hz⟩:=I.tuple ha
  obtain⟨uz,rfl,rz⟩:=jN r
  obtain⟨⟨cls,dd,data,sl⟩,ho,hc,n,hd⟩:=id p
  simp only at hc hd
  subst hc hd
  refine wpAny_binaryOp_repeat_ref (T:="tuple") (U:="int") (by decide) ⟨_,ho,rfl⟩ (fun s'=>PySem.typeIs_int s' k t) mW F.fills_int_mul F.slot_int_rmul u9 F.slot_int_index.lookup (call_meets F.slot_int_rmul (PySem.typeIs_int s k t) F.entry_int_rmul (F.args_int_rmul_2 _ _) (rq k t a #[uz] n dd sl) ⟨ho,rfl,⟨_,ho,rfl⟩,?_⟩)
  have new:∀m:Nat,m=k.toNat→EP X pins σ Q (.ref s.heap.objs.size) {s with heap:=s.heap.push {cls:=.type "tuple",data:=.seq (List.replicate m uz).toArray},toks:=s.toks}:=fun m hm=>by
    have hf:H s.heap.objs.size=none:=I.hok.fresh (Nat.le_refl _)
    have vv:∀j:Nat,ay (List.replicate j z) (List.replicate j uz):=fun j=>by
      induction j with
      | zero=>exact .nil
      | succ j ih=>exact .cons rz ih
    refine⟨.ref s.heap.objs.size,_,I.laid (t':=s.toks) (o:=.tup (List.replicate m z)) (fun b ob q=>Heap.get?_push_of_some _ q) (Nat.le_refl _) ⟨by rw [List.length_replicate,sizeLine_eq];lia,_,vv m,gS.new _ _⟩,rfl,q _ _ (am.new hf) (bY.of (by rw [aq,hm]))⟩
  rcases(by lia:k=0∨k=1∨2≤k) with e | e | e
  · subst e
    exact call_meets F.slot_tuple_mul ⟨_,ho,rfl⟩ F.entry_tuple_mul (F.args_tuple_mul_2 _ _) (qy a uz n t dd sl) ⟨ho,new 0 rfl⟩
  · subst e
    exact call_meets F.slot_tuple_mul ⟨_,ho,rfl⟩ F.entry_tuple_mul (F.args_tuple_mul_2 _ _) (qz a uz n t dd sl) ⟨ho,⟨.ref a,H,I,rfl,q a H (am.refl H) ha⟩⟩
  · exact call_meets F.slot_tuple_mul ⟨_,ho,rfl⟩ F.entry_tuple_mul (F.args_tuple_mul_2 _ _) (tX a uz n k t dd sl e k1) ⟨ho,new _ rfl⟩
end
end L2
namespace L2
open PySem PySem.Spec PyProof.Rows
section
variable{prog:Program}{w:World}{A:Around}{E:Value→Shared→Prop}{s:Shared}
end
section
variable{X:Cx}{a:Expr}{ta:TA}{p p2 p3 pos pos2 pos3:Pos}
end
end L2
namespace L2
open PySem PySem.Spec PyProof.Rows
theorem mO(l:Addr)(xs:Array Value):
    Meets (Builtin.«enumerate.__new__» ⟨[.type "enumerate",.ref l],[]⟩) (fun _ R s=>s.heap.IsTuple l xs∧R (.ok (.ret (.ref (s.heap.objs.size+1)))) {s with heap:=(s.heap.push {cls:=.type "tuple_iterator",data:=.fields #[.ref l,.int 0 0]}).push {cls:=.type "enumerate",data:=.fields #[.none,.bool false,.ref s.heap.objs.size,rawInt 0,.none,.none]}}):=
  .of_wp fun prog w A R s h=>by
    obtain⟨hp,g,d,tk,os⟩:=s;obtain⟨ht,h⟩:=h;have a1:=sub_enumerate
    have T1:Heap.IsTuple (Shared.heap ⟨hp,g,d,tk,os⟩) l xs:=ht
    obtain⟨⟨cls,dd,data,sl⟩,ho,hc,n,hd⟩:=id ht
    simp only at hc hd
    subst hc hd
    wp_walk using wpAny_loadPart' ho
    refine wpAny_stack_any fun st=>wpAny_pure ?_
    split
    · rename_i c _ _ _ _ _
      cases (c==Value.type "enumerate")
      · wp_walk using wpAny_loadPart' ho,wpAny_pyIter_tuple T1
        refine⟨_,rfl,?_⟩
        simp only [Heap.size_push]
        exact h
      · wp_walk using wpAny_loadPart' ho,wpAny_pyIter_tuple T1
        refine⟨_,rfl,?_⟩
        simp only [Heap.size_push]
        exact h
    · wp_walk using wpAny_loadPart' ho,wpAny_pyIter_tuple T1
      refine⟨_,rfl,?_⟩
      simp only [Heap.size_push]
      exact h
section
variable{prog:Program}{w:World}{A:Around}{E:Value→Shared→Prop}{s:Shared}
theorem lx{l:Addr}{xs:Array Value}{Q:Value→Shared→Prop}(t1:s.heap.IsTuple l xs)(h:∀g,l0 (s.heap.objs.size+1) s.heap.objs.size l 0 g→(∀c o,s.heap.get? c=some o→g.get? c=some o)→Q (.ref (s.heap.objs.size+1)) {s with heap:=g}):wpAny (model prog w) A (call (.type "enumerate") [.ref l]) Q E s:=by
  refine callType_new F.called_enumerate (by decide) (F.typeCall_enumerate_1 _) (F.newCall_enumerate_1 _) (fun obj=>F.args_object_init_2 obj _) F.entry_enumerate_new (mO l xs) ⟨t1,?_⟩
  have g2:((s.heap.push {cls:=.type "tuple_iterator",data:=.fields #[.ref l,.int 0 0]}).push {cls:=.type "enumerate",data:=.fields #[.none,.bool false,.ref s.heap.objs.size,rawInt 0,.none,.none]}).get? (s.heap.objs.size+1)=some {cls:=.type "enumerate",data:=.fields #[.none,.bool false,.ref s.heap.objs.size,rawInt 0,.none,.none]}:=by
    have e:s.heap.objs.size+1=(s.heap.push {cls:=.type "tuple_iterator",data:=.fields #[.ref l,.int 0 0]}).objs.size:=by simp only [Heap.size_push]
    rw [e];exact Heap.get?_push_size _ rfl
  exact⟨⟨_,g2,rfl⟩,h _ ⟨⟨.none,g2⟩,⟨_,Heap.get?_push_of_some _ (Heap.get?_push_size _ rfl),rfl,rfl⟩⟩ fun c o x=>Heap.get?_push_of_some _ (Heap.get?_push_of_some _ x)⟩
end
theorem ef:PySem.bootBuiltins "enumerate"=some (.type "enumerate"):=by decide+kernel
def yn(K:PySem.W.Frag)(ta:TA):TI:=fun σ H R=>ta σ H fun vs H1=>∃a,vs=[.ref a]∧(∃xs,bY K H1 a xs)∧R (sY K a) H1
def ym(K:PySem.W.Frag)(ta:TA):TI:=fun σ H R=>ta σ H fun vs H1=>∃a,vs=[.ref a]∧(∃xs,dj K H1 a xs)∧R (sX K a) H1
section
variable{X:Cx}{K:PySem.W.Frag}{es:List Expr}{k0:Nat}{tp:Pos}{a:Expr}{ta:TA}{p pos:Pos}
theorem oY(hK:X.K=K)(hg:Gl X "enumerate")(hm:X.mg "enumerate"=none)(ha:PA X [a] ta)(hs:starEach [a] X.env=[(false,eval a X.env)]:=by rfl):PI X (.Tuple es k0 tp) (.Call (.Name "enumerate" p) [a] [] pos) (yn K ta):=by
  intro pins s σ H R I h
  subst hK
  refine Call_ (eO I hg hm ef (PyProof.Rows.callWith_type1 (bf (ha pos pins s σ H _ I h) fun us s1 ⟨vs,H1,I1,r1,q1⟩=>?_) hs rfl))
  obtain⟨a,e,⟨xs,qx⟩,q⟩:=q1
  subst e
  obtain⟨u,rfl,ru⟩:=jN r1
  cases ru
  obtain⟨i1,v1,p1,_⟩:=I1.tuple qx
  refine lx p1 fun g st hk=>?_
  obtain⟨⟨old,he⟩,hit⟩:=id st
  refine ez he ?_
  have I2:ao X pins σ H1 {s1 with heap:=g,toks:=s1.toks}:=I1.kept (t':=s1.toks) fun b o e=>hk b o e
  refine⟨s1.heap.objs.size+1,[s1.heap.objs.size+1,s1.heap.objs.size],_,_,H1,rfl,I2,lO a (show((s1.heap.objs.size+1:Nat)≠s1.heap.objs.size) by lia),st,fun c hc=>?_,q⟩
  have le:s1.heap.objs.size≤c:=by
    simp only [List.mem_cons,List.not_mem_nil,or_false] at hc
    rcases hc with rfl | rfl
    · exact Nat.le_add_right _ 1
    · exact Nat.le_refl _
  exact I1.fpOk (H':=H1) le (I1.hok.fresh le)
theorem oX(hK:X.K=K)(hg:Gl X "enumerate")(hm:X.mg "enumerate"=none)(ha:PA X [a] ta)(hs:starEach [a] X.env=[(false,eval a X.env)]:=by rfl):PI X (.Tuple es k0 tp) (.Call (.Name "enumerate" p) [a] [] pos) (ym K ta):=by
  intro pins s σ H R I h
  subst hK
  refine Call_ (eO I hg hm ef (PyProof.Rows.callWith_type1 (bf (ha pos pins s σ H _ I h) fun us s1 ⟨vs,H1,I1,r1,q1⟩=>?_) hs rfl))
  obtain⟨a,e,⟨xs,qx⟩,q⟩:=q1
  subst e
  obtain⟨u,rfl,ru⟩:=jN r1
  cases ru
  obtain⟨i1,v1,p1,_⟩:=I1.list qx
  refine call_enumerate_list p1.isList fun g he hit hsz hk=>?_
  refine ez he ?_
  have I2:ao X pins σ H1 {s1 with heap:=g,toks:=s1.toks}:=I1.kept (t':=s1.toks) fun b o e=>hk b o e
  refine⟨s1.heap.objs.size+1,[s1.heap.objs.size+1,s1.heap.objs.size],_,_,H1,rfl,I2,lN a (show((s1.heap.objs.size+1:Nat)≠s1.heap.objs.size) by lia),⟨⟨_,he⟩,hit⟩,fun c hc=>?_,q⟩
  have le:s1.heap.objs.size≤c:=by
    simp only [List.mem_cons,List.not_mem_nil,or_false] at hc
    rcases hc with rfl | rfl
    · exact Nat.le_add_right _ 1
    · exact Nat.le_refl _
  exact I1.fpOk (H':=H1) le (I1.hok.fresh le)
end
end L2
namespace L2
open PySem PySem.Spec PyProof.Rows
theorem m4{X:Cx}:c9 X (compareOp .IsNot) (fun x y H Q=>∃b c,x=.bl b∧y=.bl c∧Q (.bl (!(b==c))) H):=by
  intro pins s σ H x y v u Q I rx ry h
  obtain⟨b,c,rfl,rfl,q⟩:=h
  cases rx;cases ry
  refine wpAny_isNot_plain (by cases b<;>cases c<;>rfl) ⟨.bl (!(b==c)),H,I,?_,q⟩
  show Value.bool _=Value.bool _
  cases b<;>cases c<;>rfl
section
variable{prog:Program}{w:World}{A:Around}{E:Value→Shared→Prop}{s:Shared}
end
section
variable{prog:Program}{w:World}{A:Around}{E:Value→Shared→Prop}{s:Shared}
end
section
variable{prog:Program}{w:World}{A:Around}{E:Value→Shared→Prop}{s:Shared}
end
end L2
namespace L2
open PySem PySem.Spec PyProof.Rows
theorem lH{X:Cx}{ix:Nat}{nm:Str}{posn poss:Pos}{elt iter tg:Expr}{ifs:List Expr}{scope:Scope}{pos:Pos}{wi:TI}{g:TG}{tc:TT}{te:TE}(sc0:Scope)(N0:List Str)(cp:List (Nat × Str))(tgN:List Str)
    (hc:X.calm=true)(hsc:X.env.scope=sc0)(hN0:X.N=N0)(hi:PI X tg iter wi)
    (hg:∀C s0 H0 fp,PG (ax X scope cp tgN C s0 H0 fp) tg g)
    (ht:∀C s0 H0 fp,mF (ax X scope cp tgN C s0 H0 fp) ifs tc)
    (he:∀C s0 H0 fp,PE (ax X scope cp tgN C s0 H0 fp) elt te)
    (hk:scope.kind=.function)(hcell:∀y∈scope.names,y.2≠.cell)(hnames:∀y∈scope.names,y.2=.local→scope.names.lookup y.1=some .local)
    (hfr:∀y∈scope.names,y.2=.free→scope.names.lookup y.1=some .free∧sc0.names.lookup y.1=some .cell)
    (hcp:∀p∈cp,N0[p.1]?=some p.2)(hcq:∀p∈cp,sc0.names.lookup p.2=some .cell∧scope.names.lookup p.2=some .free)
    (hNd:X.N.Nodup)(hix:X.N[ix]?=some nm)(hlc:X.env.scope.names.lookup nm=some .local)(hsw:swapsWith (.ListComp elt [⟨tg,iter,ifs,0⟩] scope pos) (some (.Name nm posn)) poss.line X.env=pure true)
    (hs:∀x,foldedSetIterable iter X.env x=pure x:=by intro _;rfl):
    PS X (.Assign [.Name nm posn] (.ListComp elt [⟨tg,iter,ifs,0⟩] scope pos) poss) (vf (kX cp tgN.length wi g tc te) (og ix)):=by
  intro pins s σ H D0 I h
  let Q:VK:=fun x H1=>D0.nx (σ.set ix (some x)) H1
  have h:kX cp tgN.length wi g tc te σ H Q:=h
  have hkind:∀x,X.env.kindOf x=sc0.names.lookup x:=fun x=>by unfold Env.kindOf;rw [hsc]
  have hfree:∀y∈scope.names,y.2=.free→∃c,X.env.cells.lookup y.1=some c:=fun y hy e=>I.ok.has y.1 (.inl (by rw [hkind];exact(hfr y hy e).2))
  rw [exec_Assign_Name_used _ _ _ _ hsw]
  refine wpAny_bind (wpAny_standAt (wpAny_bind ?_))
  unfold evalThenUse
  refine wpAny_bind ?_
  refine wpAny_comprehension_free (use:=some (assign (.Name nm posn) X.env)) rfl hs (eL hfree) hk hnames (wpAny_mono (hi pins s σ H _ I h.go) (fun xv s₁ h₁=>wpAny_mono h₁ (fun itv s₂ h₂=>?_) fun _ _ e=>e) fun _ _ e=>e)
  obtain⟨it,fp,tn,J,H2,rfl,I2,T,st2,f2,hq⟩:=h₂
  refine wpAny_newObj_type ?_
  have hlF:H2 s₂.heap.objs.size=none:=I2.hok.fresh (Nat.le_refl _)
  have I3:ao X pins σ (aF H2 s₂.heap.objs.size (.lst [])) {s₂ with heap:=s₂.heap.push {cls:=.type "list",data:=.seq ([]:List Value).toArray}}:=I2.lnew (t':=s₂.toks) .nil (Nat.zero_le _)
  obtain⟨W,⟨m0,w0⟩,turn⟩:=hq _ hlF
  have f3:∀b∈fp,d9 X pins (aF H2 s₂.heap.objs.size (.lst [])) b:=fun b hb=>by
    obtain⟨f0,fr⟩:=f2 b hb
    obtain⟨o,ho,_⟩:=T.obj _ _ st2 b hb
    exact⟨by rw [av (Nat.ne_of_lt (Heap.lt_size ho))];exact f0,fr⟩
  have st3:tn 0 (s₂.heap.push {cls:=.type "list",data:=.seq ([]:List Value).toArray}):=T.keep _ _ _ st2 fun b _ o e=>Heap.get?_push_of_some _ e
  generalize hD:s₂.heap.objs.size=D at*
  generalize hs3:({s₂ with heap:=s₂.heap.push {cls:=.type "list",data:=.seq ([]:List Value).toArray}}:Shared)=s₃ at*
  have hst3:tn 0 s₃.heap:=by rw [←hs3];exact st3
  refine wpAny_newFunctionEnv hcell (by intro y hy;simp at hy) (fun h₁ hns₁ hsb₁=>?_) hk
  generalize hC:s₃.heap.objs.size=C at*
  have old:∀b o,s₃.heap.get? b=some o→h₁.get? b=some o:=fun b o e=>hsb₁.extBut b o (by rw [←hC];exact Nat.ne_of_lt (Heap.lt_size e)) (Heap.get?_push_of_some _ e)
  have nC:∀b o,s₃.heap.get? b=some o→b≠C:=fun b o e=>by rw [←hC];exact Nat.ne_of_lt (Heap.lt_size e)
  have hHC:(aF H2 D (.lst [])) C=none:=I3.hok.fresh (by rw [hC];exact Nat.le_refl _)
  have clS:∀x c,(bJ X.env scope.names []).lookup x=some c→X.env.cells.lookup x=some c:=fun x c e=>dM _ _ x c hfree (fun _ _ z=>by simp at z) e
  have clH:∀x,(∃y∈scope.names,y.1=x∧y.2=.free)→∃c,(bJ X.env scope.names []).lookup x=some c:=fun x e=>eZ _ _ x (.inl e)
  have ok':(ax X scope cp tgN C s₃ (aF H2 D (.lst [])) fp).Ok:=by
    refine⟨I.ok.mod,hk,I.ok.glob,I.ok.blt,by rw [←hC];exact Nat.le_refl _,fun x y c e1 e2=>I.ok.inj x y c (clS _ _ e1) (clS _ _ e2),fun x e=>clH x (bU hcell e),fun x c e1 e2=>?_,I.ok.hd,I.ok.frames,.inl rfl,fun b hb=>?_,fun b o e=>I3.bs b o e,?_,fun b o e hb=>?_,fun b hb z=>?_,I3.stack,fun b hb=>I3.stkFree b hb⟩
    · exfalso
      have e1':scope.names.lookup x=some .local:=by simpa [ax] using e1
      have e2':=clS x c e2
      obtain⟨c',hc'⟩:∃y∈scope.names,y.1=x∧y.2=.free:=by
        by_cases q:∃y∈scope.names,y.1=x∧y.2=.free
        · exact q
        · exfalso
          have:∀(names:List (Str × NameKind)) (cs:List (Str × Addr)),(¬∃y∈names,y.1=x∧y.2=.free)→cs.lookup x=none→(bJ X.env names cs).lookup x=none:=by
            intro names
            induction names with
            | nil=>intro cs _ h;exact h
            | cons y r ih=>
              intro cs hn hcs
              obtain⟨n,k⟩:=y
              refine ih _ (fun⟨y,hy,z⟩=>hn ⟨y,List.mem_cons_of_mem _ hy,z⟩) ?_
              by_cases hk:(k==NameKind.free)=true
              · rw [if_pos hk,List.lookup_cons]
                cases hx:x==n with
                | true=>exact absurd ⟨(n,k),List.mem_cons_self,(by simpa using hx:x=n).symm,by simpa using hk⟩ hn
                | false=>exact hcs
              · rw [if_neg hk];exact hcs
          have z:=this scope.names [] q rfl
          have e2'':(bJ X.env scope.names []).lookup x=some c:=e2
          rw [z] at e2'';cases e2''
      have z:=(hfr c' hc'.1 hc'.2.2).1
      rw [hc'.2.1,e1'] at z;cases z
    · obtain⟨f0,f1,f4,f5,f6,f7⟩:=f3 b hb
      obtain⟨o,ho,_⟩:=T.obj _ _ hst3 b hb
      exact⟨nC b o ho,fun x c e=>f6 x c (clS x c e)⟩
    · exact Nat.le_trans I.ok.bsz I3.sz
    · obtain⟨f0,f1,f4,f5,f6,f7⟩:=f3 b hb
      rcases f5 with z | z
      · exact I.ok.noex b o e z
      · have:=(I.ok.bs b o e).1
        exact absurd (Nat.lt_of_lt_of_le (Heap.lt_size this) z) (Nat.lt_irrefl _)
    · obtain⟨f0,f1,f4,f5,f6,f7⟩:=f3 b hb
      rcases List.mem_cons.mp (I3.stkSub b z) with z | z
      · exact f1 z
      · exact f4 z
  have I4:ao (ax X scope cp tgN C s₃ (aF H2 D (.lst [])) fp) [] (cN cp tgN.length σ) (aF H2 D (.lst [])) {s₃ with heap:=h₁,toks:=s₃.toks+([]:List (Str × Value)).length}:=by
    refine⟨ok',rfl,I3.bare,Un.kept old,⟨_,hns₁,fun i x v e1 e2 e3=>?_⟩,fun x c e=>?_,hHC,fun x c e=>I3.freeC x c (clS x c e),fun p hp=>by simp [ax] at hp,I3.hok.kept old,by simp [cN,ax]⟩
    · have hlt:i < cp.length:=by
        by_cases q:i < cp.length
        · exact q
        · exfalso
          unfold cN at e2
          rw [List.getElem?_append_right (by simp;lia)] at e2
          rw [List.getElem?_replicate] at e2
          split at e2<;>cases e2
      have e1':(cp.map (·.2))[i]?=some x:=by
        have e1'':(cp.map (·.2)++tgN)[i]?=some x:=e1
        rwa [List.getElem?_append_left (by simp;exact hlt)] at e1''
      have e2':(cp.map (fun p=>(σ[p.1]?).join))[i]?=some (some v):=by
        unfold cN at e2
        rwa [List.getElem?_append_left (by simp;exact hlt)] at e2
      rw [List.getElem?_map,List.getElem?_eq_getElem hlt] at e1' e2'
      have ex:(cp[i]).2=x:=by simpa using e1'
      have ev:(σ[(cp[i]).1]?).join=some v:=by simpa using e2'
      have ev':σ[(cp[i]).1]?=some (some v):=by
        cases q:σ[(cp[i]).1]? with
        | none=>rw [q] at ev;cases ev
        | some z=>rw [q] at ev;simp only [Option.join_some] at ev;rw [ev]
      have hN:=hcp cp[i] (List.getElem_mem hlt)
      rw [←hN0] at hN
      obtain⟨hcl,hcf⟩:=hcq cp[i] (List.getElem_mem hlt)
      rw [ex] at hN hcl hcf
      obtain⟨m,hn,hl⟩:=I3.loc
      obtain⟨u,r,l⟩:=hl _ x v hN ev' (.inr (.inl (by rw [hsc];exact hcl)))
      refine⟨u,r,.inr ?_⟩
      rcases l with ⟨k1,_⟩ | ⟨k1,c,hcc,o,ho,hd⟩
      · rw [hkind,hcl] at k1;cases k1
      · have e3':(relabel scope X.env).names.lookup x=some .local∨(relabel scope X.env).names.lookup x=some .cell∨(relabel scope X.env).names.lookup x=some .free:=e3
        have nl:(relabel scope X.env).names.lookup x=some .cell∨(relabel scope X.env).names.lookup x=some .free:=by
          rcases e3' with z | z | z
          · exact absurd z (bB hcf)
          · exact .inl z
          · exact .inr z
        obtain⟨c',hc'⟩:=clH x (bU hcell nl)
        have:=clS x c' hc'
        rw [hcc] at this;cases this
        exact⟨nl,c,hc',o,old c o ho,hd⟩
    · obtain⟨v,o,ho,hd⟩:=I3.cell x c (clS x c e)
      exact⟨v,o,old c o ho,hd⟩
  have hst4:tn 0 h₁:=T.keep _ _ _ hst3 fun b _ o e=>old b o e
  have loop:codeAny (model X.prog X.w) X.A (.compLoop (.ListComp elt [⟨tg,iter,ifs,0⟩] scope pos) 0 (.ref it) (.ref D) (compEnvC scope (bJ X.env scope.names []) C X.env))
      (compPost (model X.prog X.w) X.A X.xe (some (assign (.Name nm posn) X.env)) (fun _ s'=>wpAny (model X.prog X.w) X.A (pure ()) (fun _ s''=>wpAny (model X.prog X.w) X.A (pure Flow.next) (SP X pins D0) X.xe s'') X.xe s') (.ref D) C) {s₃ with heap:=h₁,toks:=s₃.toks+([]:List (Str × Value)).length}:=by
    refine dO (fun n s'=>∃i σ' H',ao (ax X scope cp tgN C s₃ (aF H2 D (.lst [])) fp) [] σ' H' s'∧tn i s'.heap∧(∀b∈fp,H' b=none)∧W i n σ' H') ?_ (n0:=m0) ⟨0,_,_,I4,hst4,fun b hb=>(f3 b hb).1,w0⟩
    rintro n s5 ⟨i,σ5,H5,I5,st5,fr5,w5⟩
    have stat:∀{H':Hp},(∀b∈fp,H' b=none)→∀b∈fp,d9 (ax X scope cp tgN C s₃ (aF H2 D (.lst [])) fp) [] H' b:=fun hn b hb=>
      ⟨hn b hb,(ok'.exf b hb).1,ok'.exfs b hb,.inl hb,(ok'.exf b hb).2,fun p hp=>by simp [ax] at hp⟩
    rcases turn i n σ5 H5 w5 with ⟨stop,qn⟩ | ⟨go,N,hN,step⟩
    · refine bf (T.done (ax X scope cp tgN C s₃ (aF H2 D (.lst [])) fp) rfl rfl rfl hc i [] s5 σ5 H5 (fun _ _=>False) I5 (stat fr5) st5 stop) fun r s6 ⟨hr,I6⟩=>?_
      subst hr
      refine⟨fun _=>?_,fun v z=>by cases z⟩
      obtain⟨m,hn,_⟩:=I6.loc
      have I7:ao X pins σ H5 s6:=by
        have key:∀h':Heap,Heap.SameBut C s6.heap h'→ao X pins σ H5 {s6 with heap:=h'}:=fun h' sb=>by
          have ub:=I6.base
          have kp:∀b u,b≠C→s6.heap.get? b=some u→h'.get? b=some u:=fun b u ne e=>sb.extBut b u ne e
          have nit:∀b u,H5 b=some u→b≠C:=fun b u e z=>by
            have:=I6.free
            rw [z] at e
            rw [show H5 C=none from this] at e;cases e
          refine I3.call' (s':={s6 with heap:=h'}) (ch:=fp) I6.os ⟨fun b o e n hb hx=>kp b o (nC b o e) (ub.keep b o e n hb hx),fun b o e n hb hx=>?_,ub.free,fun b o e hx=>?_,ub.tups,ub.frzs,ub.tbls⟩ (fun b u e=>?_) I6.bare (fun b hb=>?_)
          · obtain⟨sl,q⟩:=ub.slot b o e n hb hx
            exact⟨sl,kp b _ (nC b o e) q⟩
          · obtain⟨o',q⟩:=ub.there b o e hx
            exact⟨o',kp b _ (nC b o e) q⟩
          · refine(I6.hok b u e).stay (fun c v hc q=>kp c v ?_ q) (fun _ q=>q) fun _ _ q=>q
            rcases hc with z | z
            · rw [z];exact nit b u e
            · exact nit c _ z
          · obtain⟨f0,f1,f4,f5,f6,f7⟩:=f3 b hb
            exact⟨f5,f1,f6,f7⟩
        exact key s6.heap ⟨rfl,fun _ _=>rfl⟩
      have fC:d9 X pins H5 C:=I3.fpOk (by rw [hC];exact Nat.le_refl _) I6.free
      show wpAny (model X.prog X.w) X.A (assign (.Name nm posn) X.env (.ref D)) _ X.xe s6
      refine wpAny_assign_Name (ji (v:=.ref D) I7 hNd hix (Or.inl hlc) rfl (fun s' I' hsb=>?_) (Or.inr hlc))
      obtain⟨a,sb,ha⟩:=hsb
      have nCa:C≠a:=by
        rcases ha with z | z
        · rw [z];exact fC.2.1
        · exact fun e=>fC.2.2.2.2.1 _ _ z e.symm
      obtain⟨oN,esN,epN,hoN,rN⟩:=hn
      refine⟨m,⟨oN,esN,epN,(sb.2 C nCa).trans hoN,rN⟩,fun h' sb'=>wpAny_pure (wpAny_pure ?_)⟩
      have I8:ao X pins (σ.set ix (some (.ref D))) H5 {s' with heap:=h',toks:=s'.toks}:=I'.turnedL (t':=s'.toks) (fp:=[C]) (fun b hb=>by rw [List.mem_singleton.mp hb];exact fC) fun b o nb e=>sb'.extBut b o (by simpa using nb) e
      exact⟨_,H5,I8,qn⟩
    · refine bf (T.item (ax X scope cp tgN C s₃ (aF H2 D (.lst [])) fp) rfl rfl rfl hc i [] s5 σ5 H5 (fun _ _=>False) I5 (stat fr5) st5 go) fun r s6 ⟨u,hr,h6⟩=>?_
      subst hr
      refine⟨fun z=>(by cases z),fun v z=>?_⟩
      cases z
      refine bf h6 fun _ s7 ⟨x,H7,I7,r7,y7,st7,fr7⟩=>?_
      have I7':=I7.pinned (stat fr7) (T.obj _ _ st7)
      have again:∀{σ8:L2.St} {H8:Hp} {s8:Shared},ao (ax X scope cp tgN C s₃ (aF H2 D (.lst [])) fp) ([]++eP fp s7.heap) σ8 H8 s8→N σ8 H8→∃m,m < n∧∃i σ' H',ao (ax X scope cp tgN C s₃ (aF H2 D (.lst [])) fp) [] σ' H' s8∧tn i s8.heap∧(∀b∈fp,H' b=none)∧W i m σ' H':=fun{σ8 H8 s8} I8 n8=>by
        obtain⟨m',hm,w8⟩:=hN σ8 H8 n8
        refine⟨m',hm,i+1,σ8,H8,I8.unpinned,T.keep _ _ _ st7 fun b hb o e=>(I8.pin (b,o) (List.mem_append_right _ (List.mem_append_right _ (bi hb e)))).1,fun b hb=>?_,w8⟩
        obtain⟨o,e,d⟩:=T.obj _ _ st7 b hb
        exact(I8.pin (b,o) (List.mem_append_right _ (List.mem_append_right _ (bi hb e)))).2.1
      refine bf (hg C s₃ (aF H2 D (.lst [])) fp _ s7 σ5 H7 x u _ I7' r7 (step x H7 y7)) fun _ s8 ⟨σ8,H8,I8,q8⟩=>?_
      refine bf (ht C s₃ (aF H2 D (.lst [])) fp _ s8 σ8 H8 _ I8 q8) fun ok s9 ⟨H9,I9,q9⟩=>?_
      cases ok with
      | false=>
        rw [if_neg Bool.false_ne_true] at q9 ⊢
        exact again I9 q9
      | true=>
        rw [if_pos rfl] at q9 ⊢
        refine bf (he C s₃ (aF H2 D (.lst [])) fp _ s9 σ8 H9 _ I9 q9) fun v s10 ⟨xv,H10,I10,r10,ys,hl,hz,n10⟩=>?_
        refine bf (eF _ s10 σ8 H10 (.ref D) [xv] (.ref D) [v] (fun _ H=>N σ8 H) I10 rfl (.cons r10 .nil) ⟨D,ys,xv,rfl,rfl,hl,hz,n10⟩) fun _ s11 ⟨_,H11,I11,_,q11⟩=>?_
        exact again I11 q11
  exact codeAny_compStart_list loop (T.self X.A 0 _ _ _ hst4 loop)
end L2
namespace L2
open PySem PySem.Spec PyProof.Rows
mutual
def DA(K:PySem.W.Frag)(F:Hp):PyData→V→Prop
  | .none,v=>v=.non
  | .bool b,v=>v=.bl b
  | .int i,v=>v=.int i
  | .str x,v=>v=.str x
  | .tuple ds,v=>∃a xs,v=.ref a∧bY K F a xs∧au K F ds xs
  | .list ds,v=>∃a xs,v=.ref a∧dj K F a xs∧au K F ds xs
  | .dict kvs,v=>∃(a:Addr) (m:List (Int × Int)),v=.ref a∧F a=some (.dK (m.map fun p=>(Sum.inl p.1,V.int p.2)))∧kvs=m.map fun p=>(PyData.int p.1,PyData.int p.2)
def au(K:PySem.W.Frag)(F:Hp):List PyData→List V→Prop
  | [],xs=>xs=[]
  | d::ds,xs=>∃x r,xs=x::r∧DA K F d x∧au K F ds r
end
mutual
theorem DA.mono{K:PySem.W.Frag}{F F':Hp}(h:am F F'):∀{d:PyData} {v:V},DA K F d v→DA K F' d v
  | .none,_,q=>by simp only [DA] at q ⊢;exact q
  | .bool b,_,q=>by simp only [DA] at q ⊢;exact q
  | .int i,_,q=>by simp only [DA] at q ⊢;exact q
  | .str x,_,q=>by simp only [DA] at q ⊢;exact q
  | .tuple ds,_,q=>by
    simp only [DA] at q ⊢
    obtain⟨a,xs,e,s,r⟩:=q
    exact⟨a,xs,e,h.tup s,au.mono h r⟩
  | .list ds,_,q=>by
    simp only [DA] at q ⊢
    obtain⟨a,xs,e,s,r⟩:=q
    exact⟨a,xs,e,h.seq s,au.mono h r⟩
  | .dict _,_,q=>by
    simp only [DA] at q ⊢
    obtain⟨a,m,e,s,k⟩:=q
    exact⟨a,m,e,h _ _ s,k⟩
theorem au.mono{K:PySem.W.Frag}{F F':Hp}(h:am F F'):∀{ds:List PyData} {xs:List V},au K F ds xs→au K F' ds xs
  | [],_,q=>by simp only [au] at q ⊢;exact q
  | d::ds,_,q=>by
    simp only [au] at q ⊢
    obtain⟨x,r,e,a,b⟩:=q
    exact⟨x,r,e,DA.mono h a,au.mono h b⟩
end
section
variable{K:PySem.W.Frag}{F:Hp}
theorem au.len:∀{ds:List PyData} {xs:List V},au K F ds xs→ds.length=xs.length
  | [],_,q=>by simp only [au] at q;subst q;rfl
  | d::ds,_,q=>by
    simp only [au] at q
    obtain⟨x,r,e,a,b⟩:=q
    subst e
    simp [au.len b]
theorem au.get:∀{ds:List PyData} {xs:List V} {i:Nat} {d:PyData},au K F ds xs→ds[i]?=some d→∃v,xs[i]?=some v∧DA K F d v
  | [],_,_,_,_,h=>by simp at h
  | d::ds,_,i,d',q,h=>by
    simp only [au] at q
    obtain⟨x,r,e,a,b⟩:=q
    subst e
    cases i with
    | zero=>simp at h;subst h;exact⟨x,rfl,a⟩
    | succ i=>
      obtain⟨v,h1,h2⟩:=au.get (i:=i) b (by simpa using h)
      exact⟨v,by simpa using h1,h2⟩
theorem au.append:∀{ds es:List PyData} {xs ys:List V},au K F ds xs→au K F es ys→au K F (ds++es) (xs++ys)
  | [],_,_,_,q,s=>by simp only [au] at q;subst q;simpa using s
  | d::ds,es,_,ys,q,s=>by
    simp only [au] at q
    obtain⟨x,r,e,a,b⟩:=q
    subst e
    simp only [List.cons_append,au]
    exact⟨x,_,rfl,a,au.append b s⟩
theorem au.one{d:PyData}{v:V}(h:DA K F d v):au K F [d] [v]:=by simp only [au];exact⟨_,_,rfl,h,rfl⟩
theorem au.nil:au K F [] []:=by simp only [au]
theorem au.cons{d:PyData}{v:V}{ds:List PyData}{vs:List V}(h:DA K F d v)(r:au K F ds vs):au K F (d::ds) (v::vs):=by simp only [au];exact⟨_,_,rfl,h,r⟩
theorem au.drop:∀{ds:List PyData} {xs:List V} (n:Nat),au K F ds xs→au K F (ds.drop n) (xs.drop n)
  | _,_,0,q=>q
  | [],_,n+1,q=>by simp only [au] at q;subst q;exact au.nil
  | d::ds,_,n+1,q=>by
    simp only [au] at q
    obtain⟨x,r,e,a,b⟩:=q
    subst e
    simpa using au.drop n b
theorem au.take:∀{ds:List PyData} {xs:List V} (n:Nat),au K F ds xs→au K F (ds.take n) (xs.take n)
  | _,_,0,q=>by simpa using au.nil
  | [],_,n+1,q=>by simp only [au] at q;subst q;exact au.nil
  | d::ds,_,n+1,q=>by
    simp only [au] at q
    obtain⟨x,r,e,a,b⟩:=q
    subst e
    simpa using au.cons a (au.take n b)
theorem au.erase:∀{ds:List PyData} {xs:List V} (n:Nat),au K F ds xs→au K F (ds.eraseIdx n) (xs.eraseIdx n)
  | [],_,_,q=>by simp only [au] at q;subst q;exact au.nil
  | e::ds,_,n,q=>by
    simp only [au] at q
    obtain⟨x,r,e,a,b⟩:=q
    subst e
    cases n with
    | zero=>exact b
    | succ n=>exact au.cons a (au.erase n b)
theorem au.ints:∀{ns:List Int} {xs:List V},au K F (ns.map .int) xs↔ xs=ns.map V.int
  | [],xs=>by simp [au]
  | n::ns,xs=>by
    simp only [List.map_cons,au,DA]
    constructor
    · rintro⟨x,r,e,rfl,q⟩;rw [e,au.ints.mp q]
    · rintro rfl;exact⟨_,_,rfl,rfl,au.ints.mpr rfl⟩
theorem au.bools:∀{ns:List Bool} {xs:List V},au K F (ns.map .bool) xs↔ xs=ns.map V.bl
  | [],xs=>by simp [au]
  | n::ns,xs=>by
    simp only [List.map_cons,au,DA]
    constructor
    · rintro⟨x,r,e,rfl,q⟩;rw [e,au.bools.mp q]
    · rintro rfl;exact⟨_,_,rfl,rfl,au.bools.mpr rfl⟩
theorem bv{i:Int}{v:V}:DA K F (.int i) v↔ v=.int i:=by simp only [DA]
theorem bM{b:Bool}{v:V}:DA K F (.bool b) v↔ v=.bl b:=by simp only [DA]
theorem e8{v:V}:DA K F .none v↔ v=.non:=by simp only [DA]
theorem nO{x:Str}{v:V}:DA K F (.str x) v↔ v=.str x:=by simp only [DA]
theorem bN{ds:List PyData}{v:V}:DA K F (.tuple ds) v↔ ∃a xs,v=.ref a∧bY K F a xs∧au K F ds xs:=by simp only [DA]
theorem cx{ds:List PyData}{v:V}:DA K F (.list ds) v↔ ∃a xs,v=.ref a∧dj K F a xs∧au K F ds xs:=by simp only [DA]
end
inductive Sv where
  | d (x:PyData)
  | l (xs:List PyData)
  /-- a list of lists that nobody else holds -/
  | n (xss:List (List PyData))
abbrev En:=List (Option Sv)
inductive Rv where
  | d (x:PyData)
  | l (xs:List PyData)
  | s (i:Nat)
def Fp(σ:L2.St)(e:En)(H:Hp)(i:Nat)(a:Addr):Prop:=(∃xs:List PyData,e[i]?=some (some (Sv.l xs))∧σ[i]?=some (some (.ref a)))∨
  ∃(xss:List (List PyData)) (l:Addr) (bs:List Addr),e[i]?=some (some (Sv.n xss))∧σ[i]?=some (some (.ref l))∧H l=some (.lst (bs.map V.ref))∧(a=l∨a∈bs)
def bX(σ:L2.St)(e:En)(H:Hp)(a:Addr):Prop:=∃i,Fp σ e H i a
structure aG (K:PySem.W.Frag) (F H:Hp) (σ:L2.St) (e:En):Prop where
  sm:am F H
  len:σ.length=e.length
  dat:∀(i:Nat) (x:PyData),e[i]?=some (some (.d x))→∃v,σ[i]?=some (some v)∧DA K F x v
  own:∀(i:Nat) (xs:List PyData),e[i]?=some (some (.l xs))→∃l vs,σ[i]?=some (some (.ref l))∧F l=none∧H l=some (.lst vs)∧au K F xs vs
  nst:∀(i:Nat) (xss:List (List PyData)),e[i]?=some (some (.n xss))→∃(l:Addr) (bs:List Addr),σ[i]?=some (some (.ref l))∧F l=none∧H l=some (.lst (bs.map V.ref))∧bs.length=xss.length∧bs.Nodup∧l∉bs∧
    ∀(k:Nat) (b:Addr) (ys:List PyData),bs[k]?=some b→xss[k]?=some ys→F b=none∧∃us,H b=some (.lst us)∧au K F ys us
  fp:∀(i j:Nat) (a:Addr),Fp σ e H i a→Fp σ e H j a→i=j
theorem aG.inj{K:PySem.W.Frag}{F H:Hp}{σ:L2.St}{e:En}(R:aG K F H σ e)(i j:Nat)(xs ys:List PyData)(l:Addr)(h1:e[i]?=some (some (.l xs)))(h2:e[j]?=some (some (.l ys)))(h3:σ[i]?=some (some (.ref l)))(h4:σ[j]?=some (some (.ref l))):i=j:=R.fp i j l (.inl ⟨xs,h1,h3⟩) (.inl ⟨ys,h2,h4⟩)
theorem aG.fpAt{K:PySem.W.Frag}{F H:Hp}{σ:L2.St}{e:En}(R:aG K F H σ e){i:Nat}{a:Addr}(h:Fp σ e H i a):F a=none∧∃vs,H a=some (.lst vs):=by
  rcases h with ⟨xs,h1,h2⟩ | ⟨xss,l,bs,h1,h2,h3,h4⟩
  · obtain⟨l,vs,g1,g2,g3,_⟩:=R.own i xs h1
    rw [h2] at g1;cases g1
    exact⟨g2,vs,g3⟩
  · obtain⟨l',bs',g1,g2,g3,g4,g5,g6,g7⟩:=R.nst i xss h1
    rw [h2] at g1;cases g1
    rw [h3] at g3
    have e1:bs=bs':=by
      have:=HO.lst.inj (Option.some.inj g3)
      exact List.map_inj_right (fun _ _ z=>V.ref.inj z) |>.mp this
    subst e1
    rcases h4 with rfl | h4
    · exact⟨g2,_,h3⟩
    · obtain⟨k,hk⟩:=List.getElem?_of_mem h4
      have hk2:k < xss.length:=by rw [←g4];exact(List.getElem?_eq_some_iff.mp hk).1
      obtain⟨c1,us,c2,_⟩:=g7 k a xss[k] hk (List.getElem?_eq_getElem hk2)
      exact⟨c1,us,c2⟩
structure cj (σ:L2.St) (F H:Hp) (e:En) (F' H':Hp) (e':En):Prop where
  sf:am F F'
  dom:∀a,H' a=none→H a=none
  fr:∀a vs,F a=none→H a=some (.lst vs)→¬bX σ e H a→F' a=none
  lst:∀a vs,H a=some (.lst vs)→∃vs',H' a=some (.lst vs')
  tmp:∀a o,H a=some o→¬bX σ e H a→H' a=some o
  shp:∀i:Nat,(∃xs,e'[i]?=some (some (.l xs)))↔ (∃xs,e[i]?=some (some (.l xs)))
  ow:∀a,bX σ e' H' a→bX σ e H a∨H a=none
theorem cj.refl(σ:L2.St)(F H:Hp)(e:En):cj σ F H e F H e:=⟨am.refl _,fun _ h=>h,fun _ _ h _ _=>h,fun _ vs h=>⟨vs,h⟩,fun _ _ h _=>h,fun _=>Iff.rfl,fun _ h=>.inl h⟩
theorem cj.trans{σ:L2.St}{F H F1 H1 F2 H2:Hp}{e e1 e2:En}(x:cj σ F H e F1 H1 e1)(y:cj σ F1 H1 e1 F2 H2 e2):cj σ F H e F2 H2 e2:=
  ⟨x.sf.trans y.sf,fun a h=>x.dom a (y.dom a h),fun a vs h n no=>let ⟨vs',q⟩:=x.lst a vs n;y.fr a vs' (x.fr a vs h n no) q (fun z=>(x.ow a z).elim no fun z=>by rw [n] at z;cases z),fun a vs h=>let ⟨vs',q⟩:=x.lst a vs h;y.lst a vs' q,
    fun a o h n=>y.tmp a o (x.tmp a o h n) (fun z=>(x.ow a z).elim n fun z=>by rw [h] at z;cases z),fun i=>(y.shp i).trans (x.shp i),fun a h=>(y.ow a h).elim (x.ow a) fun z=>.inr (x.dom a z)⟩
def bg(K:PySem.W.Frag)(σ:L2.St)(H0 F H:Hp)(e:En):Rv→V→Prop
  | .d x,v=>DA K F x v
  | .l xs,v=>∃l vs,v=.ref l∧H0 l=none∧F l=none∧H l=some (.lst vs)∧au K F xs vs∧¬bX σ e H l
  | .s i,v=>σ[i]?=some (some v)∧∃xs,e[i]?=some (some (.l xs))
section
variable{K:PySem.W.Frag}{σ:L2.St}{H0 F H F' H':Hp}{e e':En}{r:Rv}{v:V}
theorem bg.ext(h:bg K σ H0 F H e r v)(x:cj σ F H e F' H' e'):bg K σ H0 F' H' e' r v:=by
  cases r with
  | d y=>exact DA.mono x.sf h
  | l xs=>
    obtain⟨l,vs,e1,h1,h2,h3,h4,h5⟩:=h
    exact⟨l,vs,e1,h1,x.fr l _ h2 h3 h5,x.tmp l _ h3 h5,au.mono x.sf h4,fun z=>(x.ow l z).elim h5 fun z=>by rw [h3] at z;cases z⟩
  | s i=>exact⟨h.1,(x.shp i).mpr h.2⟩
theorem bg.weak{H1:Hp}(h:bg K σ H1 F H e r v)(d:∀a,H1 a=none→H0 a=none):bg K σ H0 F H e r v:=by
  cases r with
  | d y=>exact h
  | l xs=>
    obtain⟨l,vs,e1,h1,r⟩:=h
    exact⟨l,vs,e1,d l h1,r⟩
  | s i=>exact h
theorem aG.ownH(R:aG K F H σ e)(a:Addr)(h:bX σ e H a):H a≠none:=by
  obtain⟨i,h⟩:=h
  obtain⟨_,vs,h2⟩:=R.fpAt h
  rw [h2];simp
theorem aG.freeF(R:aG K F H σ e){p:Addr}(hp:H p=none):F p=none:=R.sm.free hp
theorem qg(R:aG K F H σ e)(h:∀l bs,H l=some (.lst bs)→bX σ e H l→H' l=some (.lst bs)){i:Nat}{a:Addr}:Fp σ e H' i a↔ Fp σ e H i a:=by
  have key:∀xss l,e[i]?=some (some (.n xss))→σ[i]?=some (some (.ref l))→H' l=H l:=fun xss l h1 h2=>by
    obtain⟨l',bs,g1,g2,g3,_⟩:=R.nst i xss h1
    rw [h2] at g1;cases g1
    rw [g3]
    exact h l _ g3 ⟨i,.inr ⟨xss,l,bs,h1,h2,g3,.inl rfl⟩⟩
  constructor
  · rintro(h1 | ⟨xss,l,bs,h1,h2,h3,h4⟩)
    · exact .inl h1
    · exact .inr ⟨xss,l,bs,h1,h2,by rw [←key xss l h1 h2];exact h3,h4⟩
  · rintro(h1 | ⟨xss,l,bs,h1,h2,h3,h4⟩)
    · exact .inl h1
    · exact .inr ⟨xss,l,bs,h1,h2,by rw [key xss l h1 h2];exact h3,h4⟩
theorem aG.keep(R:aG K F H σ e)(sF:am F F')(sm:am F' H')(hf:∀a,bX σ e H a→F' a=none)(hh:∀a o,bX σ e H a→H a=some o→H' a=some o):aG K F' H' σ e∧∀a,bX σ e H' a↔ bX σ e H a:=by
  have fs:∀{i a},Fp σ e H' i a↔ Fp σ e H i a:=fun{i a}=>qg R fun l bs h1 h2=>hh l _ h2 h1
  refine⟨⟨sm,R.len,fun i x h=>let ⟨v,h1,h2⟩:=R.dat i x h;⟨v,h1,DA.mono sF h2⟩,fun i xs h=>?_,fun i xss h=>?_,fun i j a h1 h2=>R.fp i j a (fs.mp h1) (fs.mp h2)⟩,fun a=>⟨fun⟨i,h⟩=>⟨i,fs.mp h⟩,fun⟨i,h⟩=>⟨i,fs.mpr h⟩⟩⟩
  · obtain⟨l,vs,h1,h2,h3,h4⟩:=R.own i xs h
    have o:bX σ e H l:=⟨i,.inl ⟨xs,h,h1⟩⟩
    exact⟨l,vs,h1,hf l o,hh l _ o h3,h4.mono sF⟩
  · obtain⟨l,bs,h1,h2,h3,h4,h5,h6,h7⟩:=R.nst i xss h
    have o:bX σ e H l:=⟨i,.inr ⟨xss,l,bs,h,h1,h3,.inl rfl⟩⟩
    refine⟨l,bs,h1,hf l o,hh l _ o h3,h4,h5,h6,fun k b ys g1 g2=>?_⟩
    obtain⟨c1,us,c2,c3⟩:=h7 k b ys g1 g2
    have ob:bX σ e H b:=⟨i,.inr ⟨xss,l,bs,h,h1,h3,.inr (List.mem_of_getElem? g1)⟩⟩
    exact⟨hf b ob,us,hh b _ ob c2,c3.mono sF⟩
theorem aG.same(R:aG K F H σ e)(s:am H H'):aG K F H' σ e∧cj σ F H e F H' e:=by
  obtain⟨R',o'⟩:=R.keep (am.refl F) (R.sm.trans s) (fun a ⟨i,h⟩=>(R.fpAt h).1) fun a o _ h=>s a o h
  exact⟨R',⟨am.refl _,fun a h=>s.free h,fun _ _ h _ _=>h,fun a vs h=>⟨vs,s _ _ h⟩,fun a o h _=>s a o h,fun _=>Iff.rfl,fun a h=>.inl ((o' a).mp h)⟩⟩
theorem aG.freeze(R:aG K F H σ e){p:Addr}{o:HO}(hF:F p=none)(hp:H p=some o)(hn:¬bX σ e H p):aG K (aF F p o) H σ e∧am F (aF F p o):=by
  have sF:am F (aF F p o):=am.new hF
  refine⟨(R.keep sF (fun b u q=>?_) (fun a ha=>?_) fun _ _ _ h=>h).1,sF⟩
  · by_cases z:b=p
    · subst z;rw [aq] at q;cases q;exact hp
    · rw [av z] at q;exact R.sm _ _ q
  · obtain⟨i,hi⟩:=ha
    have z:a≠p:=fun z=>hn ⟨i,by rw [←z];exact hi⟩
    rw [av z];exact(R.fpAt hi).1
theorem aG.notOwn(R:aG K F H σ e){p:Addr}{o:HO}(hp:H p=some o)(hl:∀vs,o≠.lst vs):¬bX σ e H p:=fun⟨i,h⟩=>by
  obtain⟨_,vs,g⟩:=R.fpAt h
  rw [hp] at g;cases g
  exact hl _ rfl
theorem aG.newT(R:aG K F H σ e){p:Addr}{vs:List V}(hp:H p=none):aG K (aF F p (.tup vs)) (aF H p (.tup vs)) σ e∧cj σ F H e (aF F p (.tup vs)) (aF H p (.tup vs)) e:=by
  have hF:=R.freeF hp
  obtain⟨R1,X1⟩:=R.same (am.new hp (o:=.tup vs))
  obtain⟨R2,s2⟩:=R1.freeze (p:=p) hF aq (R1.notOwn aq (fun _ z=>nomatch z))
  refine⟨R2,⟨s2,X1.dom,fun a ws h n _=>?_,X1.lst,X1.tmp,X1.shp,X1.ow⟩⟩
  have z:a≠p:=fun z=>by rw [z,hp] at n;cases n
  rw [av z];exact h
theorem aG.sameOwn(R:aG K F H σ e)(s:am H H')(a:Addr):bX σ e H' a↔ bX σ e H a:=(R.keep (am.refl F) (R.sm.trans s) (fun a ⟨i,h⟩=>(R.fpAt h).1) fun a o _ h=>s a o h).2 a
theorem aG.newL(R:aG K F H σ e){p:Addr}{vs:List V}(hp:H p=none):aG K F (aF H p (.lst vs)) σ e∧cj σ F H e F (aF H p (.lst vs)) e∧F p=none∧¬bX σ e (aF H p (.lst vs)) p:=
  ⟨(R.same (am.new hp)).1,(R.same (am.new hp)).2,R.freeF hp,fun z=>R.ownH p ((R.sameOwn (am.new hp) p).mp z) hp⟩
theorem aG.growT(R:aG K F H σ e){p:Addr}{xs:List V}(s:am H H')(hp:bY K H' p xs):∃F',aG K F' H' σ e∧cj σ F H e F' H' e∧bY K F' p xs:=by
  obtain⟨R1,X1⟩:=R.same s
  rcases hp with hp | hp
  · have key:∀o,H' p=some o→(∀vs,o≠.lst vs)→(∀G:Hp,G p=some o→Rd G p (.tup xs))→∃F',aG K F' H' σ e∧cj σ F H e F' H' e∧bY K F' p xs:=by
      intro o ho hl hr
      cases q:F p with
      | some u=>
        have:=R1.sm _ _ q
        rw [ho] at this;cases this
        exact⟨F,R1,X1,.inl (hr F q)⟩
      | none=>
        obtain⟨R2,s2⟩:=R1.freeze q ho (R1.notOwn ho hl)
        refine⟨_,R2,⟨s2,X1.dom,fun a ws h n _=>?_,X1.lst,X1.tmp,X1.shp,X1.ow⟩,.inl (hr _ aq)⟩
        have z:a≠p:=fun z=>by rw [z] at n;rw [s _ _ n] at ho;cases ho;exact hl _ rfl
        rw [av z];exact h
    rcases hp with hp | ⟨ob,hp⟩
    · exact key _ hp (fun _ z=>nomatch z) fun G g=>.inl g
    · exact key _ hp (fun _ z=>nomatch z) fun G g=>.inr ⟨ob,g⟩
  · exact⟨F,R1,X1,.inr hp⟩
theorem bg.frozen(R:aG K F H σ e){xs:List PyData}(h:bg K σ H0 F H e (.l xs) v):∃F',aG K F' H σ e∧am F F'∧DA K F' (.list xs) v∧(∀a,F a=none→H0 a≠none→F' a=none):=by
  obtain⟨l,vs,rfl,h1,h2,h3,h4,h5⟩:=h
  obtain⟨R2,s2⟩:=R.freeze h2 h3 h5
  refine⟨_,R2,s2,?_,fun a ha hn=>?_⟩
  · rw [cx]
    exact⟨l,vs,rfl,.inl (.inl aq),au.mono s2 h4⟩
  · have z:a≠l:=fun z=>hn (by rw [z];exact h1)
    rw [av z];exact ha
def cM(e:En):Rv→Option (Bool × List PyData)
  | .d (.tuple xs)=>some (false,xs)
  | .d (.list xs)=>some (true,xs)
  | .l xs=>some (true,xs)
  | .s i=>match e[i]? with
    | some (some (.l xs))=>some (true,xs)
    | _=>none
  | _=>none
theorem bD(R:aG K F H σ e)(h:bg K σ H0 F H e r v){b:Bool}{xs:List PyData}(q:cM e r=some (b,xs)):
    ∃p vs,v=.ref p∧au K F xs vs∧(if b=true then dj K H p vs else bY K H p vs):=by
  cases r with
  | d x=>
    cases x with
    | tuple ds=>
      cases q
      obtain⟨a,ys,e1,e2,e3⟩:=bN.mp h
      exact⟨a,ys,e1,e3,R.sm.tup e2⟩
    | list ds=>
      cases q
      obtain⟨a,ys,e1,e2,e3⟩:=cx.mp h
      exact⟨a,ys,e1,e3,R.sm.seq e2⟩
    | _=>cases q
  | l ys=>
    cases q
    obtain⟨l,vs,e1,h1,h2,h3,h4,_⟩:=h
    exact⟨l,vs,e1,h4,.inl (.inl h3)⟩
  | s i=>
    obtain⟨h1,ys,h2⟩:=h
    simp only [cM,h2] at q
    cases q
    obtain⟨l,vs,e1,e2,e3,e4⟩:=R.own i _ h2
    rw [h1] at e1;cases e1
    exact⟨l,vs,rfl,e4,.inl (.inl e3)⟩
end
end L2
namespace L2
open PySem PySem.Spec PyProof.Rows
abbrev FE:=En→Option (Rv × En)
abbrev FT:=En→Option (Bool × En)
abbrev FA:=En→Option (List Rv × En)
def bW(K:PySem.W.Frag)(σ:L2.St)(H0 F H:Hp)(e:En):List Rv→List V→Prop
  | [],vs=>vs=[]
  | r::rs,vs=>∃v ws,vs=v::ws∧bg K σ H0 F H e r v∧bW K σ H0 F H e rs ws
def fE(K:PySem.W.Frag)(f:FE):TE:=fun σ H Q=>∃F e r e',aG K F H σ e∧f e=some (r,e')∧∀F' H' v,cj σ F H e F' H' e'→aG K F' H' σ e'→bg K σ H F' H' e' r v→Q v H'
def fT(K:PySem.W.Frag)(f:FT):TT:=fun σ H Q=>∃F e b e',aG K F H σ e∧f e=some (b,e')∧∀F' H',cj σ F H e F' H' e'→aG K F' H' σ e'→Q b H'
def fA(K:PySem.W.Frag)(f:FA):TA:=fun σ H Q=>∃F e rs e',aG K F H σ e∧f e=some (rs,e')∧∀F' H' vs,cj σ F H e F' H' e'→aG K F' H' σ e'→bW K σ H F' H' e' rs vs→Q vs H'
theorem PE.mono{X:Cx}{e:Expr}{t t':TE}(h:PE X e t)(m:∀σ H Q,t' σ H Q→t σ H Q):PE X e t':=fun pins s σ H Q I q=>h pins s σ H Q I (m σ H Q q)
theorem PT.mono{X:Cx}{e:Expr}{t t':TT}(h:PT X e t)(m:∀σ H Q,t' σ H Q→t σ H Q):PT X e t':=fun pins s σ H Q I q=>h pins s σ H Q I (m σ H Q q)
theorem PW.mono{X:Cx}{e:Expr}{t t':TT}(h:PW X e t)(m:∀σ H Q,t' σ H Q→t σ H Q):PW X e t':=fun wh pins s σ H Q I q=>h wh pins s σ H Q I (m σ H Q q)
theorem PA.mono{X:Cx}{es:List Expr}{t t':TA}(h:PA X es t)(m:∀σ H Q,t' σ H Q→t σ H Q):PA X es t':=fun pos pins s σ H Q I q=>h pos pins s σ H Q I (m σ H Q q)
section
variable{K:PySem.W.Frag}{σ:L2.St}{H0 F H F' H':Hp}{e e':En}
theorem bW.weak{H1:Hp}(d:∀a,H1 a=none→H0 a=none):∀{rs:List Rv} {vs:List V},bW K σ H1 F H e rs vs→bW K σ H0 F H e rs vs
  | [],_,h=>h
  | r::rs,_,h=>by
    obtain⟨v,ws,rfl,h1,h2⟩:=h
    exact⟨v,ws,rfl,h1.weak d,bW.weak d h2⟩
theorem cj.frz{F'':Hp}(x:cj σ F H e F' H' e')(s:am F' F'')(h:∀a,F' a=none→H a≠none→F'' a=none):cj σ F H e F'' H' e':=
  ⟨x.sf.trans s,x.dom,fun a vs h1 h2 h3=>h a (x.fr a vs h1 h2 h3) (by rw [h2];simp),x.lst,x.tmp,x.shp,x.ow⟩
def e_:List Rv→Option (List PyData)
  | []=>some []
  | .d x::rs=>(e_ rs).map (x::·)
  | .l xs::rs=>(e_ rs).map (.list xs::·)
  | .s _::_=>none
theorem bW.frozen:∀{rs:List Rv} {vs:List V} {ds:List PyData} {F:Hp},aG K F H σ e→bW K σ H0 F H e rs vs→e_ rs=some ds→
    ∃F',aG K F' H σ e∧am F F'∧au K F' ds vs∧(∀a,F a=none→H0 a≠none→F' a=none)
  | [],_,_,F,R,h,q=>by
    cases q
    have h':_=[]:=h
    subst h'
    exact⟨F,R,am.refl _,au.nil,fun _ h _=>h⟩
  | .d x::rs,_,ds,F,R,h,q=>by
    obtain⟨v,ws,rfl,h1,h2⟩:=h
    obtain⟨ds',q1,rfl⟩:=Option.map_eq_some_iff.mp q
    obtain⟨F',R',s',d',f'⟩:=bW.frozen R h2 q1
    exact⟨F',R',s',.cons (DA.mono s' h1) d',f'⟩
  | .l xs::rs,_,ds,F,R,h,q=>by
    obtain⟨v,ws,rfl,h1,h2⟩:=h
    obtain⟨ds',q1,rfl⟩:=Option.map_eq_some_iff.mp q
    obtain⟨F',R',s',d',f'⟩:=bW.frozen R h2 q1
    obtain⟨l,us,rfl,g1,g2,g3,g4,g5⟩:=h1
    cases hl:F' l with
    | none=>
      have h1':bg K σ H0 F' H e (.l xs) (.ref l):=⟨l,us,rfl,g1,hl,g3,au.mono s' g4,g5⟩
      obtain⟨F2,R2,s2,d2,f2⟩:=h1'.frozen R'
      exact⟨F2,R2,s'.trans s2,.cons d2 (au.mono s2 d'),fun a ha hn=>f2 a (f' a ha hn) hn⟩
    | some o=>
      have:=R'.sm _ _ hl
      rw [g3] at this;cases this
      exact⟨F',R',s',.cons (cx.mpr ⟨l,us,rfl,.inl (.inl hl),au.mono s' g4⟩) d',f'⟩
end
section
variable{X:Cx}{K:PySem.W.Frag}{a b c:Expr}{fa fb:FE}{ft fu:FT}{pos:Pos}{es:List Expr}{fs:FA}
def ae(i:Nat):FE:=fun e=>match e[i]? with
  | some (some (.d x))=>some (.d x,e)
  | some (some (.l _))=>some (.s i,e)
  | _=>none
def vC(x:PyData):FE:=fun e=>some (.d x,e)
theorem rL{i:Nat}{σ:L2.St}{H:Hp}{Q:VK}(h:fE K (ae i) σ H Q):xG i σ H Q:=by
  obtain⟨F,e,r,e',R,hf,q⟩:=h
  unfold ae at hf
  match h1:e[i]?,hf with
  | some (some (.d x)),hf=>
    cases hf
    obtain⟨v,h2,h3⟩:=R.dat i x h1
    exact⟨v,h2,q F H v (cj.refl _ _ _ _) R h3⟩
  | some (some (.n _)),hf=>cases hf
  | some (some (.l xs)),hf=>
    cases hf
    obtain⟨l,vs,h2,h3⟩:=R.own i xs h1
    exact⟨_,h2,q F H _ (cj.refl _ _ _ _) R ⟨h2,xs,h1⟩⟩
  | some none,hf=>cases hf
  | none,hf=>cases hf
theorem qv(i:Nat){x:Str}{pos:Pos}(hN:X.N[i]?=some x)(hv:vP X.env.scope x)(hd:(x==("__debug__":Str))=false)(hcd:(x==("__classdict__":Str))=false):PE X (.Name x pos) (fE K (ae i)):=(uD hN hv hd hcd).mono fun _ _ _ h=>rL h
theorem sS{x:PyData}{v:V}{σ:L2.St}{H:Hp}{Q:VK}(hx:∀F,DA K F x v)(h:fE K (vC x) σ H Q):tC v σ H Q:=by
  obtain⟨F,e,r,e',R,hf,q⟩:=h
  cases hf
  exact q F H v (cj.refl _ _ _ _) R (hx F)
theorem ab{i j pos}:PE X (.Constant (.int i) j pos) (fE K (vC (.int i))):=uy.mono fun _ _ _ h=>sS (fun _=>bv.mpr rfl) h
theorem eK{b j pos}:PE X (.Constant (.bool b) j pos) (fE K (vC (.bool b))):=wO.mono fun _ _ _ h=>sS (fun _=>bM.mpr rfl) h
def c8(K:PySem.W.Frag)(r:R2)(g:En→Rv→Rv→Option Rv):Prop:=
  ∀(σ:L2.St) (H0 F H:Hp) (e:En) (x y z:Rv) (v u:V) (Q:VK),aG K F H σ e→bg K σ H0 F H e x v→bg K σ H0 F H e y u→g e x y=some z→
    (∀F' H' w,cj σ F H e F' H' e→aG K F' H' σ e→bg K σ H F' H' e z w→Q w H')→r v u H Q
def aw(g:En→Rv→Rv→Option Rv)(fa fb:FE):FE:=fun e=>(fa e).bind fun p=>(fb p.2).bind fun q=>(g q.2 p.1 q.1).map fun z=>(z,q.2)
theorem jZ{r:R2}{g:En→Rv→Rv→Option Rv}(ho:c8 K r g){σ:L2.St}{H:Hp}{Q:VK}(h:fE K (aw g fa fb) σ H Q):xC r (fE K fa) (fE K fb) σ H Q:=by
  obtain⟨F,e,z,e2,R,hf,q⟩:=h
  unfold aw at hf
  obtain⟨⟨x,e1⟩,h1,hf⟩:=Option.bind_eq_some_iff.mp hf
  obtain⟨⟨y,e2'⟩,h2,hf⟩:=Option.bind_eq_some_iff.mp hf
  obtain⟨z',h3,hf⟩:=Option.map_eq_some_iff.mp hf
  cases hf
  refine⟨F,e,x,e1,R,h1,fun F1 H1 v X1 R1 A1=>⟨F1,e1,y,_,R1,h2,fun F2 H2 u X2 R2 A2=>?_⟩⟩
  have X12:=X1.trans X2
  refine ho σ H F2 H2 _ x y _ v u Q R2 (A1.ext X2) (A2.weak X1.dom) h3 fun F3 H3 w X3 R3 A3=>?_
  exact q F3 H3 w (X12.trans X3) R3 (A3.weak X12.dom)
theorem jc{op:Operator}{r:R2}{g:En→Rv→Rv→Option Rv}(hr:c9 X (binaryOp op) r)(ho:c8 K r g)(ha:PE X a (fE K fa))(hb:PE X b (fE K fb)):PE X (.BinOp a op b pos) (fE K (aw g fa fb)):=(wU hr ha hb).mono fun _ _ _ h=>jZ ho h
theorem uQ{op:CmpOp}{r:R2}{g:En→Rv→Rv→Option Rv}(hr:c9 X (compareOp op) r)(ho:c8 K r g)(ha:PE X a (fE K fa))(hb:PE X b (fE K fb))(hm:behindInMarks op b=false):PE X (.Compare a [op] [b] pos) (fE K (aw g fa fb)):=(qS hr ha hb hm).mono fun _ _ _ h=>jZ ho h
theorem w6{r:R2}{g:En→Rv→Rv→Option Rv}(hr:p7 X r)(ho:c8 K r g)(ha:PE X a (fE K fa))(hb:PE X b (fE K fb))(hs:jp b):PE X (.Subscript a b pos) (fE K (aw g fa fb)):=(wR hr ha hb hs).mono fun _ _ _ h=>jZ ho h
def vw(g:En→Rv→Option Rv)(fa:FE):FE:=fun e=>(fa e).bind fun p=>(g p.2 p.1).map fun z=>(z,p.2)
def xT(K:PySem.W.Frag)(r:V→Hp→VK→Prop)(g:En→Rv→Option Rv):Prop:=
  ∀(σ:L2.St) (H0 F H:Hp) (e:En) (x z:Rv) (v:V) (Q:VK),aG K F H σ e→bg K σ H0 F H e x v→g e x=some z→
    (∀F' H' w,cj σ F H e F' H' e→aG K F' H' σ e→bg K σ H F' H' e z w→Q w H')→r v H Q
theorem vx{r:V→Hp→VK→Prop}{g:En→Rv→Option Rv}(ho:xT K r g){σ:L2.St}{H:Hp}{Q:VK}(h:fE K (vw g fa) σ H Q):y8 r (fE K fa) σ H Q:=by
  obtain⟨F,e,z,e2,R,hf,q⟩:=h
  unfold vw at hf
  obtain⟨⟨x,e1⟩,h1,hf⟩:=Option.bind_eq_some_iff.mp hf
  obtain⟨z',h3,hf⟩:=Option.map_eq_some_iff.mp hf
  cases hf
  refine⟨F,e,x,_,R,h1,fun F1 H1 v X1 R1 A1=>?_⟩
  refine ho σ H F1 H1 _ x _ v Q R1 A1 h3 fun F3 H3 w X3 R3 A3=>?_
  exact q F3 H3 w (X1.trans X3) R3 (A3.weak X1.dom)
theorem w_{op:UnaryOp}{r:V→Hp→VK→Prop}{g:En→Rv→Option Rv}(hr:xU X (unaryOp op) r)(ho:xT K r g)(ha:PE X a (fE K fa)):PE X (.UnaryOp op a pos) (fE K (vw g fa)):=(wV hr ha).mono fun _ _ _ h=>vx ho h
def dg:Rv→Option Bool
  | .d (.bool b)=>some b
  | _=>none
theorem cP{σ:L2.St}{H0 F H:Hp}{e:En}{r:Rv}{v:V}{b:Bool}(h:bg K σ H0 F H e r v)(q:dg r=some b):v=.bl b:=by
  unfold dg at q
  split at q
  · cases q;exact bM.mp (show DA K F (.bool _) v from h)
  · cases q
theorem df{σ:L2.St}{H0 F H:Hp}{e:En}{b:Bool}:bg K σ H0 F H e (.d (.bool b)) (.bl b):=(bM (K:=K) (F:=F)).mpr rfl
def aY(f:FE):FT:=fun e=>(f e).bind fun p=>(dg p.1).map fun b=>(b,p.2)
theorem k9{σ:L2.St}{H:Hp}{Q:Bool→Hp→Prop}(h:fT K (aY fa) σ H Q):fE K fa σ H fun x H'=>∃k,x=.bl k∧Q k H':=by
  obtain⟨F,e,b,e1,R,hf,q⟩:=h
  unfold aY at hf
  obtain⟨⟨x,e1'⟩,h1,hf⟩:=Option.bind_eq_some_iff.mp hf
  obtain⟨b',h3,hf⟩:=Option.map_eq_some_iff.mp hf
  cases hf
  exact⟨F,e,x,_,R,h1,fun F1 H1 v X1 R1 A1=>⟨_,cP A1 h3,q F1 H1 X1 R1⟩⟩
theorem uT{op:CmpOp}{r:R2}{g:En→Rv→Rv→Option Rv}(hr:c9 X (compareOp op) r)(ho:c8 K r g)(ha:PE X a (fE K fa))(hb:PE X b (fE K fb))(hm:behindInMarks op b=false):PT X (.Compare a [op] [b] pos) (fT K (aY (aw g fa fb))):=
  (rh hr ha hb hm).mono fun σ H Q h=>by
    obtain⟨F,e,z,e2,R,hf,q⟩:=k9 h
    exact jZ ho ⟨F,e,z,e2,R,hf,q⟩
theorem jS{e:Expr}(h:PE X e (fE K fa))(he:∀whole,isTrue e X.env whole=(do let v ←whole;standAt e.pos;holding [v] (truthy v))):PT X e (fT K (aY fa)):=(uM h he).mono fun _ _ _ h=>k9 h
def nq(f g:FT):FT:=fun e=>(f e).bind fun p=>if p.1=true then g p.2 else some (false,p.2)
def vK(f g:FT):FT:=fun e=>(f e).bind fun p=>if p.1=true then some (true,p.2) else g p.2
def k8(f:FT):FT:=fun e=>(f e).map fun p=>(!p.1,p.2)
theorem rJ{σ:L2.St}{H:Hp}{Q:Bool→Hp→Prop}(h:fT K (nq ft fu) σ H Q):xu (fT K ft) (fT K fu) σ H Q:=by
  obtain⟨F,e,b,e1,R,hf,q⟩:=h
  unfold nq at hf
  obtain⟨⟨x,e1'⟩,h1,hf⟩:=Option.bind_eq_some_iff.mp hf
  refine⟨F,e,x,e1',R,h1,fun F1 H1 X1 R1=>?_⟩
  cases x with
  | true=>exact⟨F1,e1',b,e1,R1,hf,fun F2 H2 X2 R2=>q F2 H2 (X1.trans X2) R2⟩
  | false=>cases hf;exact q F1 H1 X1 R1
theorem vq{σ:L2.St}{H:Hp}{Q:Bool→Hp→Prop}(h:fT K (vK ft fu) σ H Q):y6 (fT K ft) (fT K fu) σ H Q:=by
  obtain⟨F,e,b,e1,R,hf,q⟩:=h
  unfold vK at hf
  obtain⟨⟨x,e1'⟩,h1,hf⟩:=Option.bind_eq_some_iff.mp hf
  refine⟨F,e,x,e1',R,h1,fun F1 H1 X1 R1=>?_⟩
  cases x with
  | false=>exact⟨F1,e1',b,e1,R1,hf,fun F2 H2 X2 R2=>q F2 H2 (X1.trans X2) R2⟩
  | true=>cases hf;exact q F1 H1 X1 R1
theorem rK{σ:L2.St}{H:Hp}{Q:Bool→Hp→Prop}(h:fT K (k8 ft) σ H Q):xB (fT K ft) σ H Q:=by
  obtain⟨F,e,b,e1,R,hf,q⟩:=h
  unfold k8 at hf
  obtain⟨⟨x,e1'⟩,h1,hf⟩:=Option.map_eq_some_iff.mp hf
  cases hf
  exact⟨F,e,x,_,R,h1,fun F1 H1 X1 R1=>q F1 H1 X1 R1⟩
variable{c7:List Expr}
theorem rp(ha:PT X a (fT K ft)):PW X (.BoolOp .And [a] pos) (fT K ft):=rm ha
theorem uV(ha:PT X a (fT K ft)):PW X (.BoolOp .Or [a] pos) (fT K ft):=uP ha
theorem uU(ha:PT X a (fT K ft))(hb:PW X (.BoolOp .And (b::c7) pos) (fT K fu)):PW X (.BoolOp .And (a::b::c7) pos) (fT K (nq ft fu)):=(uO ha hb).mono fun _ _ _ h=>rJ h
theorem xb(ha:PT X a (fT K ft))(hb:PW X (.BoolOp .Or (b::c7) pos) (fT K fu)):PW X (.BoolOp .Or (a::b::c7) pos) (fT K (vK ft fu)):=(wY ha hb).mono fun _ _ _ h=>vq h
theorem lK(ha:PT X a (fT K ft)):PT X (.UnaryOp .Not a pos) (fT K (k8 ft)):=(uL ha).mono fun _ _ _ h=>rK h
theorem xa{e:Expr}(h:PW X e (fT K ft)):PT X e (fT K ft):=h.pt
def jl(f g:FE):FE:=fun e=>(f e).bind fun p=>(dg p.1).bind fun b=>if b=true then g p.2 else some (.d (.bool false),p.2)
def xN(f g:FE):FE:=fun e=>(f e).bind fun p=>(dg p.1).bind fun b=>if b=true then some (.d (.bool true),p.2) else g p.2
def sT(f:FE):FE:=fun e=>(f e).bind fun p=>(dg p.1).map fun b=>(.d (.bool (!b)),p.2)
theorem pe(ha:PE X a (fE K fa))(hb:PE X (.BoolOp .And (b::c7) pos) (fE K fb)):PE X (.BoolOp .And (a::b::c7) pos) (fE K (jl fa fb)):=(uw ha hb).mono fun σ H Q h=>by
  obtain⟨F,e,z,e2,R,hf,q⟩:=h
  unfold jl at hf
  obtain⟨⟨x,e1⟩,h1,hf⟩:=Option.bind_eq_some_iff.mp hf
  obtain⟨b,h2,hf⟩:=Option.bind_eq_some_iff.mp hf
  refine⟨F,e,x,e1,R,h1,fun F1 H1 v X1 R1 A1=>⟨b,cP A1 h2,?_⟩⟩
  cases b with
  | true=>exact⟨F1,e1,z,e2,R1,hf,fun F2 H2 w X2 R2 A2=>q F2 H2 w (X1.trans X2) R2 (A2.weak X1.dom)⟩
  | false=>cases hf;exact q F1 H1 _ X1 R1 df
theorem pj{op}(h:PE X a (fE K fa)):PE X (.BoolOp op [a] pos) (fE K fa):=uB h
def y_(t:FT)(f g:FE):FE:=fun e=>(t e).bind fun p=>if p.1=true then f p.2 else g p.2
def ag:FA:=fun e=>some ([],e)
def aa(fa:FE)(fs:FA):FA:=fun e=>(fa e).bind fun p=>(fs p.2).map fun q=>(p.1::q.1,q.2)
theorem ac:PA X [] (fA K ag):=uu.mono fun σ H Q h=>by
  obtain⟨F,e,r,e',R,hf,q⟩:=h
  cases hf
  exact q F H [] (cj.refl _ _ _ _) R rfl
theorem yB(ha:PE X a (fE K fa))(hr:PA X es (fA K fs))(h:PySem.W.isStarred a=false):PA X (a::es) (fA K (aa fa fs)):=(yz ha hr h).mono fun σ H Q h=>by
  obtain⟨F,e,z,e2,R,hf,q⟩:=h
  unfold aa at hf
  obtain⟨⟨x,e1⟩,h1,hf⟩:=Option.bind_eq_some_iff.mp hf
  obtain⟨⟨xs,e2'⟩,h2,hf⟩:=Option.map_eq_some_iff.mp hf
  cases hf
  refine⟨F,e,x,e1,R,h1,fun F1 H1 v X1 R1 A1=>⟨F1,e1,xs,_,R1,h2,fun F2 H2 vs X2 R2 A2=>?_⟩⟩
  exact q F2 H2 (v::vs) (X1.trans X2) R2 ⟨v,vs,rfl,A1.ext X2,A2.weak X1.dom⟩
def cB(fs:FA):FE:=fun e=>(fs e).bind fun p=>(e_ p.1).bind fun ds=>if ds.length≤1000 then some (.d (.tuple ds),p.2) else none
def eH(fs:FA):FE:=fun e=>(fs e).bind fun p=>(e_ p.1).bind fun ds=>if ds.length≤1000 then some (.l ds,p.2) else none
theorem aX{x1}(h:PA X es (fA K fs)):PE X (.Tuple es x1 pos) (fE K (cB fs)):=(uC h).mono fun σ H Q h=>by
  obtain⟨F,e,z,e2,R,hf,q⟩:=h
  unfold cB at hf
  obtain⟨⟨rs,e1⟩,h1,hf⟩:=Option.bind_eq_some_iff.mp hf
  obtain⟨ds,h2,hf⟩:=Option.bind_eq_some_iff.mp hf
  split at hf
  case isFalse=>cases hf
  case isTrue hl=>
  cases hf
  refine⟨F,e,rs,_,R,h1,fun F1 H1 vs X1 R1 A1=>?_⟩
  obtain⟨F2,R2,s2,d2,f2⟩:=bW.frozen R1 A1 h2
  have hlen:=d2.len
  refine⟨Nat.le_of_lt (jh (by lia)),fun p hp=>?_⟩
  obtain⟨R3,X3⟩:=R2.newT (vs:=vs) hp
  exact q _ _ _ ((X1.frz s2 f2).trans X3) R3 (bN.mpr ⟨p,vs,rfl,.inl (.inl aq),au.mono X3.sf d2⟩)
theorem cA(h:PA X es (fA K fs)):PE X (.List es pos) (fE K (eH fs)):=(uA h).mono fun σ H Q h=>by
  obtain⟨F,e,z,e2,R,hf,q⟩:=h
  unfold eH at hf
  obtain⟨⟨rs,e1⟩,h1,hf⟩:=Option.bind_eq_some_iff.mp hf
  obtain⟨ds,h2,hf⟩:=Option.bind_eq_some_iff.mp hf
  split at hf
  case isFalse=>cases hf
  case isTrue hl=>
  cases hf
  refine⟨F,e,rs,_,R,h1,fun F1 H1 vs X1 R1 A1=>?_⟩
  obtain⟨F2,R2,s2,d2,f2⟩:=bW.frozen R1 A1 h2
  have hlen:=d2.len
  refine⟨Nat.le_of_lt (jh (by lia)),fun p hp=>?_⟩
  obtain⟨R3,X3,hF,no⟩:=R2.newL (vs:=vs) hp
  exact q _ _ _ ((X1.frz s2 f2).trans X3) R3 ⟨p,vs,rfl,X1.dom p hp,hF,aq,d2,no⟩
def ci(K:PySem.W.Frag)(r:List V→Hp→VK→Prop)(g:En→List Rv→Option Rv):Prop:=
  ∀(σ:L2.St) (H0 F H:Hp) (e:En) (xs:List Rv) (z:Rv) (vs:List V) (Q:VK),aG K F H σ e→bW K σ H0 F H e xs vs→g e xs=some z→
    (∀F' H' w,cj σ F H e F' H' e→aG K F' H' σ e→bg K σ H F' H' e z w→Q w H')→r vs H Q
def aA(g:En→List Rv→Option Rv)(fs:FA):FE:=fun e=>(fs e).bind fun p=>(g p.2 p.1).map fun z=>(z,p.2)
theorem k7{r:List V→Hp→VK→Prop}{g:En→List Rv→Option Rv}(ho:ci K r g){σ:L2.St}{H:Hp}{Q:VK}(h:fE K (aA g fs) σ H Q):yF r (fA K fs) σ H Q:=by
  obtain⟨F,e,z,e2,R,hf,q⟩:=h
  unfold aA at hf
  obtain⟨⟨x,e1⟩,h1,hf⟩:=Option.bind_eq_some_iff.mp hf
  obtain⟨z',h3,hf⟩:=Option.map_eq_some_iff.mp hf
  cases hf
  refine⟨F,e,x,_,R,h1,fun F1 H1 vs X1 R1 A1=>?_⟩
  refine ho σ H F1 H1 _ x _ vs Q R1 A1 h3 fun F3 H3 w X3 R3 A3=>?_
  exact q F3 H3 w (X1.trans X3) R3 (A3.weak X1.dom)
theorem ph{x:Str}{p pos:Pos}{id:String}{r:List V→Hp→VK→Prop}{g:En→List Rv→Option Rv}(hc:cT X (.builtin id) r)(ho:ci K r g)(hg:Gl X x)(hm:X.mg x=none)(hv:bootBuiltins x=some (.builtin id))(ha:PA X (a::es) (fA K fs))(hn:x≠"__name__")(hdb:(x==("__debug__":Str))=false)
    (he:starEach (a::es) X.env=(false,eval a X.env)::starEach es X.env)(hpl:(backTo pos (starEach es X.env)).any (·.1)=false):PE X (.Call (.Name x p) (a::es) [] pos) (fE K (aA g fs)):=(oT hc hg hm hv ha hn hdb he hpl).mono fun _ _ _ h=>k7 ho h
theorem m9{x:Str}{p pos:Pos}{T:String}{r:List V→Hp→VK→Prop}{g:En→List Rv→Option Rv}(hc:cT X (.type T) r)(ho:ci K r g)(hg:Gl X x)(hm:X.mg x=none)(hv:bootBuiltins x=some (.type T))(ha:PA X (a::es) (fA K fs))(hn:x≠"__name__")(hdb:(x==("__debug__":Str))=false)
    (he:starEach (a::es) X.env=(false,eval a X.env)::starEach es X.env)(hpl:(backTo pos (starEach es X.env)).any (·.1)=false):PE X (.Call (.Name x p) (a::es) [] pos) (fE K (aA g fs)):=(m5 hc hg hm hv ha hn hdb he hpl).mono fun _ _ _ h=>k7 ho h
end
end L2
namespace L2
open PySem PySem.Spec PyProof.Rows
mutual
theorem DA.reads{X:Cx}{pins:List (Addr × Obj)}{σ:L2.St}{H:Hp}{s:Shared}(I:ao X pins σ H s):∀{d:PyData} {v:V} {u:Value},d.canLay0=true→DA X.K H d v→aZ v u→∃as,Reads s.heap u d as
  | .none,_,_,_,q,r=>by
    simp only [DA] at q;subst q;cases r;exact⟨_,.none⟩
  | .bool b,_,_,_,q,r=>by
    simp only [DA] at q;subst q;cases r;exact⟨_,.bool b⟩
  | .int i,_,_,_,q,r=>by
    simp only [DA] at q;subst q;obtain⟨t,rfl⟩:=r;exact⟨_,.int i t⟩
  | .str x,_,_,_,q,r=>by
    simp only [DA] at q;subst q;obtain⟨t,rfl⟩:=r;exact⟨_,.str x t⟩
  | .tuple ds,_,_,c,q,r=>by
    simp only [DA] at q
    obtain⟨a,xs,e,hs,rr⟩:=q
    subst e;cases r
    obtain⟨its,rv,⟨o,ho,hc,n,hd⟩,hz⟩:=I.tuple hs
    obtain⟨as,q⟩:=au.reads I (by simpa [PyData.canLay0] using c) rr rv
    exact⟨_,.tuple ho hc hd q⟩
  | .list ds,_,_,c,q,r=>by
    simp only [DA] at q
    obtain⟨a,xs,e,hs,rr⟩:=q
    subst e;cases r
    obtain⟨its,rv,ht,hz⟩:=I.list hs
    obtain⟨o,ho,hc,n,hd⟩:=ht.isList
    obtain⟨as,q⟩:=au.reads I (by simpa [PyData.canLay0] using c) rr rv
    exact⟨_,.list ho hc hd q⟩
  | .dict _,_,_,c,_,_=>by simp [PyData.canLay0] at c
theorem au.reads{X:Cx}{pins:List (Addr × Obj)}{σ:L2.St}{H:Hp}{s:Shared}(I:ao X pins σ H s):∀{ds:List PyData} {xs:List V} {us:List Value},PyData.canLayAll0 ds=true→au X.K H ds xs→ay xs us→∃as,ReadsAll s.heap us ds as
  | [],_,_,_,q,r=>by
    simp only [au] at q;subst q;cases r;exact⟨_,.nil⟩
  | d::ds,_,_,c,q,r=>by
    simp only [au] at q
    simp only [PyData.canLayAll0,Bool.and_eq_true] at c
    obtain⟨x,rr,e,a,b⟩:=q
    subst e
    cases r with
    | cons p p'=>
      obtain⟨as,q1⟩:=DA.reads I c.1 a p
      obtain⟨bs,q2⟩:=au.reads I c.2 b p'
      exact⟨_,.cons q1 q2⟩
end
def eI(e:En):Rv→Option PyData
  | .d x=>some x
  | .l xs=>some (.list xs)
  | .s i=>match e[i]? with
    | some (some (.l xs))=>some (.list xs)
    | _=>none
theorem eg{K:PySem.W.Frag}{σ:L2.St}{H0 F H:Hp}{e:En}{r:Rv}{v:V}{d:PyData}(R:aG K F H σ e)(h:bg K σ H0 F H e r v)(q:eI e r=some d):DA K H d v:=by
  cases r with
  | d x=>cases q;exact DA.mono R.sm h
  | l xs=>
    cases q
    obtain⟨l,vs,rfl,h1,h2,h3,h4,_⟩:=h
    exact cx.mpr ⟨l,vs,rfl,.inl (.inl h3),au.mono R.sm h4⟩
  | s i=>
    obtain⟨h1,ys,h2⟩:=h
    simp only [eI,h2] at q
    cases q
    obtain⟨l,vs,e1,e2,e3,e4⟩:=R.own i _ h2
    rw [h1] at e1;cases e1
    exact cx.mpr ⟨l,vs,rfl,.inl (.inl e3),au.mono R.sm e4⟩
section
variable{X:Cx}{K:PySem.W.Frag}
def bS:Rv→Option Int
  | .d (.int i)=>some i
  | _=>none
theorem bh{σ:L2.St}{H0 F H:Hp}{e:En}{r:Rv}{v:V}{i:Int}(h:bg K σ H0 F H e r v)(q:bS r=some i):v=.int i:=by
  unfold bS at q
  split at q
  · cases q;exact bv.mp (show DA K F (.int _) v from h)
  · cases q
theorem ip{σ:L2.St}{H0 F H:Hp}{e:En}{i:Int}:bg K σ H0 F H e (.d (.int i)) (.int i):=(bv (K:=K) (F:=F)).mpr rfl
def gI(C:Int→Int→Bool)(f:Int→Int→PyData):En→Rv→Rv→Option Rv:=fun _ x y=>(bS x).bind fun i=>(bS y).bind fun j=>if C i j=true then some (.d (f i j)) else none
theorem kz{C:Int→Int→Prop}{c:Int→Int→Bool}{g:Int→Int→V}{f:Int→Int→PyData}(hc:∀i j,c i j=true→C i j)(hf:∀F i j,DA K F (f i j) (g i j)):c8 K (rI C g) (gI c f):=by
  intro σ H0 F H e x y z v u Q R A B hg q
  unfold gI at hg
  obtain⟨i,h1,hg⟩:=Option.bind_eq_some_iff.mp hg
  obtain⟨j,h2,hg⟩:=Option.bind_eq_some_iff.mp hg
  split at hg
  case isFalse=>cases hg
  case isTrue hh=>
  cases hg
  exact⟨i,j,bh A h1,bh B h2,hc i j hh,q F H _ (cj.refl _ _ _ _) R (hf F i j)⟩
theorem ek{g:Int→Int→V}{f:Int→Int→PyData}(hf:∀F i j,DA K F (f i j) (g i j)):c8 K (lL g) (gI (fun _ _=>true) f):=by
  intro σ H0 F H e x y z v u Q R A B hg q
  obtain⟨i,j,h1,h2,h3,h4⟩:=kz (K:=K) (C:=fun _ _=>True) (c:=fun _ _=>true) (g:=g) (f:=f) (fun _ _ _=>trivial) hf σ H0 F H e x y z v u Q R A B hg q
  exact⟨i,j,h1,h2,h4⟩
def pZ(g g':En→Rv→Rv→Option Rv):En→Rv→Rv→Option Rv:=fun e x y=>(g e x y).or (g' e x y)
theorem c8.or{r r':R2}{g g':En→Rv→Rv→Option Rv}(h:c8 K r g)(h':c8 K r' g'):c8 K (fun x y H Q=>r x y H Q∨r' x y H Q) (pZ g g'):=by
  intro σ H0 F H e x y z v u Q R A B hg q
  unfold pZ at hg
  cases e1:g e x y with
  | some w=>
    rw [e1] at hg
    cases hg
    exact .inl (h σ H0 F H e x y _ v u Q R A B e1 q)
  | none=>
    rw [e1] at hg
    exact .inr (h' σ H0 F H e x y _ v u Q R A B hg q)
def sk:=gI (fun _ _=>true) fun i j=>.int (i+j)
def eN:=gI (fun _ _=>true) fun i j=>.int (i - j)
def dW(i:Int):Bool:=decide (-(2 ^ 64) < i)&&decide (i < 2 ^ 64)
def vV(n:Nat)(i:Int):Bool:=decide (i.natAbs < 2 ^ n)
theorem eW{n:Nat}{i:Int}:vV n i=true↔ Bt n i:=by unfold vV Bt;exact decide_eq_true_iff
def gf(i j:Int):Bool:=dW i || dW j || (vV 4000 i&&vV 4000 j)
def oe:=gI gf fun i j=>.int (i*j)
def dw:=gI (fun _ j=>j != 0&&vV 8000 j) fun i j=>.int (i.fdiv j)
def aM:=gI (fun _ j=>j != 0) fun i j=>.int (i.fmod j)
def o8(i j:Int):Bool:=decide (0≤j)&&decide (j≤1000000)&&dW i
def ly:=gI o8 fun i j=>.int (i ^ j.toNat)
theorem eU{i:Int}(h:dW i=true): -(2 ^ 64) < i∧i < 2 ^ 64:=by
  unfold dW at h
  rw [Bool.and_eq_true,decide_eq_true_iff,decide_eq_true_iff] at h
  exact h
theorem q_{i j:Int}(h:o8 i j=true):sV i j:=by
  unfold o8 at h
  rw [Bool.and_eq_true,Bool.and_eq_true,decide_eq_true_iff,decide_eq_true_iff] at h
  have:=eU h.2
  exact⟨h.1.1,h.1.2,by lia⟩
def lR(i j:Int):Prop:=p5 i j∨rP i j
theorem qM:c9 X (binaryOp .Mult) (rI lR fun i j=>.int (i*j)):=by
  intro pins s σ H x y v u Q I rx ry h
  obtain⟨i,j,e1,e2,h1,q⟩:=h
  rcases h1 with h1 | h1
  · exact um pins s σ H x y v u Q I rx ry ⟨i,j,e1,e2,h1,q⟩
  · exact qN pins s σ H x y v u Q I rx ry ⟨i,j,e1,e2,h1,q⟩
theorem qC{i j:Int}(h:gf i j=true):lR i j:=by
  unfold gf at h
  rw [Bool.or_eq_true,Bool.or_eq_true,Bool.and_eq_true] at h
  rcases h with (h | h) | h
  · exact .inl (.inl (eU h))
  · exact .inl (.inr (eU h))
  · exact .inr ⟨eW.mp h.1,eW.mp h.2⟩
theorem tW:c8 K (rI lR fun i j=>.int (i*j)) oe:=kz (fun _ _ h=>qC h) fun _ _ _=>bv.mpr rfl
theorem xt:c8 K (lL fun i j=>.int (i - j)) eN:=ek fun _ _ _=>bv.mpr rfl
theorem tF:c8 K (rI rO fun i j=>.int (i.fdiv j)) dw:=kz (fun i j h=>by
  rw [Bool.and_eq_true] at h
  exact⟨by simpa using h.1,eW.mp h.2⟩) fun _ _ _=>bv.mpr rfl
theorem wB:c8 K (rI (fun _ j=>j≠0) fun i j=>.int (i.fmod j)) aM:=kz (fun i j h=>by simpa using h) fun _ _ _=>bv.mpr rfl
theorem wW:c8 K (rI sV fun i j=>.int (i ^ j.toNat)) ly:=kz (fun _ _ h=>q_ h) fun _ _ _=>bv.mpr rfl
def l3:En→Rv→Rv→Option Rv:=fun e x y=>match cM e x,cM e y with
  | some (false,xs),some (false,ys)=>if xs.length+ys.length≤1000000 then some (.d (.tuple (xs++ys))) else none
  | _,_=>none
theorem tu:c8 K (pq K) l3:=by
  intro σ H0 F H e x y z v u Q R A B hg q
  unfold l3 at hg
  match h1:cM e x,h2:cM e y,hg with
  | some (false,xs),some (false,ys),hg=>
    obtain⟨p,vs,rfl,d1,s1⟩:=bD R A h1
    obtain⟨p',us,rfl,d2,s2⟩:=bD R B h2
    dsimp only at hg
    split at hg
    case isFalse=>cases hg
    case isTrue hl=>
    cases hg
    have l1:=d1.len
    have l2:=d2.len
    have sl:sizeLine=16777216:=sizeLine_eq
    refine⟨p,p',vs,us,rfl,rfl,s1,s2,by lia,fun t H' sm hT=>?_⟩
    obtain⟨F',R',X',hF⟩:=R.growT sm hT
    exact q F' H' _ X' R' (bN.mpr ⟨t,_,rfl,hF,(d1.append d2).mono X'.sf⟩)
def oE(e:En):Rv→Option (List PyData)
  | .l xs=>some xs
  | .s i=>match e[i]? with
    | some (some (.l xs))=>some xs
    | _=>none
  | _=>none
theorem jH{σ:L2.St}{H0 F H:Hp}{e:En}{r:Rv}{v:V}(R:aG K F H σ e)(h:bg K σ H0 F H e r v){xs:List PyData}(q:oE e r=some xs):∃p vs,v=.ref p∧F p=none∧H p=some (.lst vs)∧au K F xs vs:=by
  cases r with
  | d x=>cases q
  | l ys=>
    cases q
    obtain⟨l,vs,e1,h1,h2,h3,h4,_⟩:=h
    exact⟨l,vs,e1,h2,h3,h4⟩
  | s i=>
    obtain⟨h1,ys,h2⟩:=h
    simp only [oE,h2] at q
    cases q
    obtain⟨l,vs,e1,e2,e3,e4⟩:=R.own i _ h2
    rw [h1] at e1;cases e1
    exact⟨l,vs,rfl,e2,e3,e4⟩
def nW:En→Rv→Rv→Option Rv:=fun e x y=>(oE e x).bind fun xs=>(oE e y).bind fun ys=>if xs.length+ys.length≤1000000 then some (.l (xs++ys)) else none
theorem ti:c8 K uW nW:=by
  intro σ H0 F H e x y z v u Q R A B hg q
  unfold nW at hg
  obtain⟨xs,h1,hg⟩:=Option.bind_eq_some_iff.mp hg
  obtain⟨ys,h2,hg⟩:=Option.bind_eq_some_iff.mp hg
  split at hg
  case isFalse=>cases hg
  case isTrue hl=>
  cases hg
  obtain⟨p,vs,rfl,f1,s1,d1⟩:=jH R A h1
  obtain⟨p',us,rfl,f2,s2,d2⟩:=jH R B h2
  have l1:=d1.len
  have l2:=d2.len
  have sl:sizeLine=16777216:=sizeLine_eq
  refine⟨p,p',vs,us,rfl,rfl,s1,s2,by lia,fun t ht=>?_⟩
  obtain⟨R3,X3,hF,no⟩:=R.newL (vs:=vs++us) ht
  exact q _ _ _ X3 R3 ⟨t,_,rfl,ht,hF,aq,d1.append d2,no⟩
def cH:En→Rv→Rv→Option Rv:=pZ sk (pZ l3 nW)
def sO(K:PySem.W.Frag):R2:=fun x y H Q=>lL (fun i j=>.int (i+j)) x y H Q∨(pq K x y H Q∨uW x y H Q)
theorem qH:c9 X (binaryOp .Add) (sO X.K):=ud.or (qI.or ue)
theorem vR:c8 K (sO K) cH:=c8.or (ek fun _ _ _=>bv.mpr rfl) (c8.or tu ti)
def oi:En→Rv→Rv→Option Rv:=fun e x y=>match cM e x,bS y with
  | some (false,[d]),some k=>if 0≤k∧k≤100000 then some (.d (.tuple (List.replicate k.toNat d))) else none
  | _,_=>none
theorem au.rep{F:Hp}{d:PyData}{v:V}(h:DA K F d v):∀n,au K F (List.replicate n d) (List.replicate n v)
  | 0=>au.nil
  | n+1=>au.cons h (au.rep h n)
theorem u7:c8 K (pw K) oi:=by
  intro σ H0 F H e x y z v u Q R A B hg q
  unfold oi at hg
  match h1:cM e x,h2:bS y,hg with
  | some (false,[d]),some k,hg=>
    obtain⟨p,vs,rfl,d1,s1⟩:=bD R A h1
    dsimp only at hg
    split at hg
    case isFalse=>cases hg
    case isTrue hl=>
    cases hg
    have hd:=d1
    simp only [au] at hd
    obtain⟨w,r,e1,hw,e2⟩:=hd
    subst e2 e1
    refine⟨p,k,w,rfl,bh B h2,s1,hl.1,hl.2,fun t H' sm hT=>?_⟩
    obtain⟨F',R',X',hF⟩:=R.growT sm hT
    exact q F' H' _ X' R' (bN.mpr ⟨t,_,rfl,hF,(au.rep hw _).mono X'.sf⟩)
def oh:En→Rv→Rv→Option Rv:=fun e x y=>(oE e x).bind fun xs=>(bS y).bind fun k=>if -100000≤k∧k≤100000∧xs.length*k.toNat≤1000000 then some (.l (List.replicate k.toNat xs).flatten) else none
theorem au.reps{F:Hp}{ds:List PyData}{vs:List V}(h:au K F ds vs):∀n,au K F (List.replicate n ds).flatten (List.replicate n vs).flatten
  | 0=>au.nil
  | n+1=>by simpa [List.replicate_succ] using au.append h (au.reps h n)
theorem uZ:c8 K uY oh:=by
  intro σ H0 F H e x y z v u Q R A B hg q
  unfold oh at hg
  obtain⟨xs,h1,hg⟩:=Option.bind_eq_some_iff.mp hg
  obtain⟨k,h2,hg⟩:=Option.bind_eq_some_iff.mp hg
  split at hg
  case isFalse=>cases hg
  case isTrue hl=>
  cases hg
  obtain⟨p,vs,rfl,f1,s1,d1⟩:=jH R A h1
  have l1:=d1.len
  have sl:sizeLine=16777216:=sizeLine_eq
  refine⟨p,k,vs,rfl,bh B h2,s1,by lia,by lia,by rw [←l1];lia,fun t ht=>?_⟩
  obtain⟨R3,X3,hF,no⟩:=R.newL (vs:=(List.replicate k.toNat vs).flatten) ht
  exact q _ _ _ X3 R3 ⟨t,_,rfl,ht,hF,aq,au.reps d1 _,no⟩
def f9:En→Rv→Rv→Option Rv:=pZ oe (pZ oi oh)
def sP(K:PySem.W.Frag):R2:=fun x y H Q=>rI lR (fun i j=>.int (i*j)) x y H Q∨(pw K x y H Q∨uY x y H Q)
theorem qL:c9 X (binaryOp .Mult) (sP X.K):=qM.or (qP.or ur)
theorem wC:c8 K (sP K) f9:=c8.or tW (c8.or u7 uZ)
def vE:=gI (fun _ _=>true) fun i j=>.bool (decide (i < j))
def xY:=gI (fun _ _=>true) fun i j=>.bool (decide (i≤j))
def tH:=gI (fun _ _=>true) fun i j=>.bool (decide (j < i))
def wd:=gI (fun _ _=>true) fun i j=>.bool (decide (j≤i))
theorem yy:c8 K (lL fun i j=>.bl (decide (i < j))) vE:=ek fun _ _ _=>bM.mpr rfl
theorem yw:c8 K (lL fun i j=>.bl (decide (i≤j))) xY:=ek fun _ _ _=>bM.mpr rfl
theorem yl:c8 K (lL fun i j=>.bl (decide (j < i))) tH:=ek fun _ _ _=>bM.mpr rfl
theorem yk:c8 K (lL fun i j=>.bl (decide (j≤i))) wd:=ek fun _ _ _=>bM.mpr rfl
def uX(K:PySem.W.Frag)(neg:Bool):R2:=fun x y H Q=>∃a b,DA K H a x∧DA K H b y∧SeqAt.shaped a=true∧SeqAt.shaped b=true∧Q (.bl (if neg then !PyData.eqv a b else PyData.eqv a b)) H
theorem uf{k:Nat}(hr:bu k X.A):c9 X (compareOp .Eq) (uX X.K false):=by
  intro pins s σ H x y v u Q I rx ry h
  obtain⟨a,b,ha,hb,s1,s2,q⟩:=h
  obtain⟨as,ra⟩:=DA.reads I (SeqAt.canLay_of_shaped s1) ha rx
  obtain⟨bs,rb⟩:=DA.reads I (SeqAt.canLay_of_shaped s2) hb ry
  exact SeqAt.compareEq_shaped ra rb s1 s2 hr.units ⟨.bl _,H,I,rfl,q⟩
theorem uo{k:Nat}(hr:bu k X.A):c9 X (compareOp .NotEq) (uX X.K true):=by
  intro pins s σ H x y v u Q I rx ry h
  obtain⟨a,b,ha,hb,s1,s2,q⟩:=h
  obtain⟨as,ra⟩:=DA.reads I (SeqAt.canLay_of_shaped s1) ha rx
  obtain⟨bs,rb⟩:=DA.reads I (SeqAt.canLay_of_shaped s2) hb ry
  exact SeqAt.compareNe_shaped ra rb s1 s2 hr.units ⟨.bl _,H,I,rfl,q⟩
def du(neg:Bool):En→Rv→Rv→Option Rv:=fun e x y=>(eI e x).bind fun a=>(eI e y).bind fun b=>if (SeqAt.shaped a&&SeqAt.shaped b)=true then some (.d (.bool (if neg then !PyData.eqv a b else PyData.eqv a b))) else none
theorem rZ{neg:Bool}:c8 K (uX K neg) (du neg):=by
  intro σ H0 F H e x y z v u Q R A B hg q
  unfold du at hg
  obtain⟨a,h1,hg⟩:=Option.bind_eq_some_iff.mp hg
  obtain⟨b,h2,hg⟩:=Option.bind_eq_some_iff.mp hg
  split at hg
  case isFalse=>cases hg
  case isTrue hl=>
  cases hg
  rw [Bool.and_eq_true] at hl
  exact⟨a,b,eg R A h1,eg R B h2,hl.1,hl.2,q F H _ (cj.refl _ _ _ _) R df⟩
def xg(K:PySem.W.Frag)(neg:Bool):R2:=fun x y H Q=>∃a xs,DA K H a x∧(DA K H (.list xs) y∨DA K H (.tuple xs) y)∧a.canLay0=true∧a.depth≤60∧PyData.canLayAll0 xs=true∧Q (.bl (if neg then !(xs.any fun y=>PyData.eqv y a) else xs.any fun y=>PyData.eqv y a)) H
theorem ui{k:Nat}(hr:bu k X.A):c9 X (compareOp .In) (xg X.K false):=by
  intro pins s σ H x y v u Q I rx ry h
  obtain⟨a,xs,ha,hb,s1,s2,s3,q⟩:=h
  obtain⟨as,ra⟩:=DA.reads I s1 ha rx
  have hu:=hr.units
  rcases hb with hb | hb
  · obtain⟨bs,rb⟩:=DA.reads I (by simpa [PyData.canLay0] using s3) hb ry
    exact PySem.SeqAt.in_list_reads rb ra s3 s1 (by lia) ⟨.bl _,H,I,rfl,q⟩
  · obtain⟨bs,rb⟩:=DA.reads I (by simpa [PyData.canLay0] using s3) hb ry
    exact PySem.SeqAt.in_tuple_reads rb ra s3 s1 (by lia) ⟨.bl _,H,I,rfl,q⟩
def sr(neg:Bool):En→Rv→Rv→Option Rv:=fun e x y=>(eI e x).bind fun a=>(cM e y).bind fun p=>if (a.canLay0&&decide (a.depth≤60)&&PyData.canLayAll0 p.2)=true then some (.d (.bool (if neg then !(p.2.any fun y=>PyData.eqv y a) else p.2.any fun y=>PyData.eqv y a))) else none
theorem yq{neg:Bool}:c8 K (xg K neg) (sr neg):=by
  intro σ H0 F H e x y z v u Q R A B hg q
  unfold sr at hg
  obtain⟨a,h1,hg⟩:=Option.bind_eq_some_iff.mp hg
  obtain⟨⟨b,xs⟩,h2,hg⟩:=Option.bind_eq_some_iff.mp hg
  split at hg
  case isFalse=>cases hg
  case isTrue hl=>
  cases hg
  rw [Bool.and_eq_true,Bool.and_eq_true,decide_eq_true_iff] at hl
  obtain⟨p,vs,rfl,d1,s1⟩:=bD R B h2
  refine⟨a,xs,eg R A h1,?_,hl.1.1,hl.1.2,hl.2,q F H _ (cj.refl _ _ _ _) R df⟩
  cases b with
  | true=>exact .inl (cx.mpr ⟨p,vs,rfl,s1,d1.mono R.sm⟩)
  | false=>exact .inr (bN.mpr ⟨p,vs,rfl,s1,d1.mono R.sm⟩)
def jF:PyData→Bool
  | .none=>true
  | _=>false
theorem iY{F:Hp}{d:PyData}{v:V}(h:DA K F d v):decide (v=.non)=jF d:=by
  cases d with
  | none=>rw [e8.mp h];rfl
  | bool b=>rw [bM.mp h];rfl
  | int b=>rw [bv.mp h];rfl
  | str b=>rw [nO.mp h];rfl
  | tuple b=>obtain⟨a,_,e,_⟩:=bN.mp h;rw [e];rfl
  | list b=>obtain⟨a,_,e,_⟩:=cx.mp h;rw [e];rfl
  | dict b=>simp only [DA] at h;obtain⟨a,m,rfl,_⟩:=h;rfl
def mS(neg:Bool):En→Rv→Rv→Option Rv:=fun e x y=>(eI e x).bind fun a=>match y with
  | .d .none=>some (.d (.bool (if neg then !jF a else jF a)))
  | _=>none
def mR(neg:Bool):En→Rv→Rv→Option Rv:=fun e x y=>(dg x).bind fun a=>(dg y).bind fun b=>some (.d (.bool (if neg then !(a==b) else a==b)))
theorem wn:c8 K (fun x y H Q=>y=.non∧Q (.bl (decide (x=.non))) H) (mS false):=by
  intro σ H0 F H e x y z v u Q R A B hg q
  unfold mS at hg
  obtain⟨a,h1,hg⟩:=Option.bind_eq_some_iff.mp hg
  split at hg
  · cases hg
    refine⟨e8.mp (show DA K F .none u from B),?_⟩
    rw [iY (eg R A h1)]
    exact q F H _ (cj.refl _ _ _ _) R df
  · cases hg
theorem tZ:c8 K (fun x y H Q=>y=.non∧Q (.bl (!decide (x=.non))) H) (mS true):=by
  intro σ H0 F H e x y z v u Q R A B hg q
  unfold mS at hg
  obtain⟨a,h1,hg⟩:=Option.bind_eq_some_iff.mp hg
  split at hg
  · cases hg
    refine⟨e8.mp (show DA K F .none u from B),?_⟩
    rw [iY (eg R A h1)]
    exact q F H _ (cj.refl _ _ _ _) R df
  · cases hg
theorem wm:c8 K (fun x y H Q=>∃b c,x=.bl b∧y=.bl c∧Q (.bl (b==c)) H) (mR false):=by
  intro σ H0 F H e x y z v u Q R A B hg q
  unfold mR at hg
  obtain⟨a,h1,hg⟩:=Option.bind_eq_some_iff.mp hg
  obtain⟨b,h2,hg⟩:=Option.bind_eq_some_iff.mp hg
  cases hg
  exact⟨a,b,cP A h1,cP B h2,q F H _ (cj.refl _ _ _ _) R df⟩
theorem ov:c8 K (fun x y H Q=>∃b c,x=.bl b∧y=.bl c∧Q (.bl (!(b==c))) H) (mR true):=by
  intro σ H0 F H e x y z v u Q R A B hg q
  unfold mR at hg
  obtain⟨a,h1,hg⟩:=Option.bind_eq_some_iff.mp hg
  obtain⟨b,h2,hg⟩:=Option.bind_eq_some_iff.mp hg
  cases hg
  exact⟨a,b,cP A h1,cP B h2,q F H _ (cj.refl _ _ _ _) R df⟩
def su:En→Rv→Rv→Option Rv:=pZ (mS false) (mR false)
def jC:En→Rv→Rv→Option Rv:=pZ (mS true) (mR true)
def xh:R2:=fun x y H Q=>(y=.non∧Q (.bl (decide (x=.non))) H)∨∃b c,x=.bl b∧y=.bl c∧Q (.bl (b==c)) H
def mn:R2:=fun x y H Q=>(y=.non∧Q (.bl (!decide (x=.non))) H)∨∃b c,x=.bl b∧y=.bl c∧Q (.bl (!(b==c))) H
theorem uj:c9 X (compareOp .Is) xh:=ul.or uk
theorem mZ:c9 X (compareOp .IsNot) mn:=qO.or m4
theorem yr:c8 K xh su:=c8.or wn wm
theorem qp:c8 K mn jC:=c8.or tZ ov
def dc:En→Rv→Rv→Option Rv:=fun e x y=>(cM e x).bind fun p=>(bS y).bind fun i=>(atI p.2 i).map .d
def xi(K:PySem.W.Frag):R2:=fun x y H Q=>xj K x y H Q∨xk K x y H Q
theorem yt:p7 X (xi X.K):=qr.or tO
theorem au.atI{F:Hp}{ds:List PyData}{vs:List V}(h:au K F ds vs){i:Int}{d:PyData}(q:atI ds i=some d):∃v,L2.atI vs i=some v∧DA K F d v:=by
  unfold L2.atI at q ⊢
  obtain⟨j,h1,h2⟩:=Option.bind_eq_some_iff.mp q
  obtain⟨v,h3,h4⟩:=h.get h2
  exact⟨v,by rw [←h.len,h1];exact h3,h4⟩
theorem yu:c8 K (xi K) dc:=by
  intro σ H0 F H e x y z v u Q R A B hg q
  unfold dc at hg
  obtain⟨⟨b,xs⟩,h1,hg⟩:=Option.bind_eq_some_iff.mp hg
  obtain⟨i,h2,hg⟩:=Option.bind_eq_some_iff.mp hg
  obtain⟨d,h3,hg⟩:=Option.map_eq_some_iff.mp hg
  cases hg
  obtain⟨p,vs,rfl,d1,s1⟩:=bD R A h1
  obtain⟨w,h4,h5⟩:=d1.atI h3
  have fin:=q F H w (cj.refl _ _ _ _) R h5
  cases b with
  | true=>exact .inl ⟨p,vs,i,w,rfl,bh B h2,s1,h4,fin⟩
  | false=>exact .inr ⟨p,vs,i,w,rfl,bh B h2,s1,h4,fin⟩
end
end L2
namespace HT
open PySem PySem.Spec PyProof.Rows
section
variable{prog:Program}{w:World}{A:Around}{E:Value→Shared→Prop}{s:Shared}
theorem getItem_tuple_all{t sl:Addr}{items:Array Value}{vl vu:Value}{lo hi:Option Int}{Q:Value→Shared→Prop}(ht:IsTup s.heap t items)(hs:s.heap.IsSliceOf sl vl vu .none)(pl:IsPart vl lo)(pu:IsPart vu hi)
    (hw:sIx items.size 0 lo=0∧sIx items.size items.size hi=items.size)
    (h:Q (.ref t) s):wpAny (model prog w) A (getItem (.ref t) (.ref sl)) Q E s:=by
  obtain⟨os,hos,hcs,hds⟩:=id hs
  have hTs:s.TypeIs (.ref sl) "slice":=⟨os,hos,hcs⟩
  unfold getItem
  try with_reducible refine wpAny_holding ?_
  first | refine wpAny_bind (wpAny_pure ?_) | skip
  refine wpAny_bind (wpAny_sequenceKey ht.typeIs (by decide) ?_)
  refine wpAny_bind (wpAny_callSpecial?_slot (name:=Str.ofString "__getitem__") ht.typeIs PyProof.Rows.slot_tuple_getitem
    (wpAny_call_entry PyProof.Rows.slot_tuple_getitem ht.typeIs entry_tuple_getitem ?_ (args_tuple_getitem _ _)))
  show wpAny _ _ (Builtin.Tuple.tupleItemsOf (.ref t) >>= _) _ _ s
  refine wpAny_bind (tupleItemsOf_ ht ?_)
  refine wpAny_bind (wpAny_typeOf hTs ?_)
  rw [if_pos (by decide)]
  refine wpAny_bind (dD hs pl pu ?_)
  have hno:(((sIx items.size 0 lo:Nat):Int)==0&&(1:Int)==1&&(sIx items.size items.size hi - sIx items.size 0 lo)==items.size)=true:=by
    rw [hw.1,hw.2];simp
  show wpAny _ _ (if (((sIx items.size 0 lo:Nat):Int)==0&&(1:Int)==1&&(sIx items.size items.size hi - sIx items.size 0 lo)==items.size)=true then _ else _) _ _ s
  rw [if_pos hno]
  unfold Builtin.Tuple.tupleIsExact
  refine wpAny_bind (wpAny_bind (wpAny_typeOf ht.typeIs (wpAny_pure ?_)))
  rw [if_pos (by decide)]
  exact wpAny_bind (wpAny_rule (wpAny_pure ⟨_,rfl,wpAny_pure h⟩))
end
end HT
namespace L2
open PySem PySem.Spec PyProof.Rows
section
variable{X:Cx}{K:PySem.W.Frag}{a:Expr}{fa:FE}{lo hi:Option Expr}{pos p2:Pos}
def iJ(xs:List PyData)(lo hi:Option Int):List PyData:=(xs.drop (HT.sIx xs.length 0 lo)).take (HT.sIx xs.length xs.length hi - HT.sIx xs.length 0 lo)
def xn(K:PySem.W.Frag):V→Option Int→Option Int→Hp→VK→Prop:=fun x lo hi H Q=>∃a xs,x=.ref a∧bY K H a xs∧
  (HT.sIx xs.length 0 lo=0∧HT.sIx xs.length xs.length hi=xs.length)∧Q (.ref a) H
theorem rC:p8 X (xn X.K):=by
  intro pins s σ H x v vl vu lo hi sl Q I rx hs pl pu h
  obtain⟨a,xs,rfl,hx,hw,q⟩:=h
  cases rx
  obtain⟨its,r,ht,hz⟩:=I.tuple hx
  have hlen:its.toArray.size=xs.length:=by rw [List.size_toArray];exact r.length.symm
  refine⟨"tuple",_,PyProof.Rows.slot_tuple_getitem.lookup,ht.typeIs,?_⟩
  exact HT.getItem_tuple_all ht hs pl pu (by rw [hlen];exact hw) ⟨.ref a,H,I,rfl,q⟩
def yD(K:PySem.W.Frag):V→Option Int→Option Int→Hp→VK→Prop:=fun x lo hi H Q=>xm K x lo hi H Q∨(xn K x lo hi H Q∨xl K x lo hi H Q)
theorem yE:p8 X (yD X.K):=ve.or (rC.or rB)
abbrev FO:=En→Option (Option Int × En)
def fO(K:PySem.W.Frag)(f:FO):TO:=fun σ H Q=>∃F e o e',aG K F H σ e∧f e=some (o,e')∧∀F' H',cj σ F H e F' H' e'→aG K F' H' σ e'→Q o H'
theorem PO.mono{e:Option Expr}{t t':TO}(h:PO X e t)(m:∀σ H Q,t' σ H Q→t σ H Q):PO X e t':=fun pins s σ H Q I q=>h pins s σ H Q I (m σ H Q q)
def kx:FO:=fun e=>some (none,e)
def ja(f:FE):FO:=fun e=>(f e).bind fun p=>(bS p.1).map fun i=>(some i,p.2)
theorem mi:PO X none (fO K kx):=qZ.mono fun σ H Q h=>by
  obtain⟨F,e,o,e',R,hf,q⟩:=h
  cases hf
  exact q F H (cj.refl _ _ _ _) R
theorem mj(h:PE X a (fE K fa)):PO X (some a) (fO K (ja fa)):=(q4 h).mono fun σ H Q h=>by
  obtain⟨F,e,o,e',R,hf,q⟩:=h
  unfold ja at hf
  obtain⟨⟨x,e1⟩,h1,hf⟩:=Option.bind_eq_some_iff.mp hf
  obtain⟨i,h2,hf⟩:=Option.map_eq_some_iff.mp hf
  cases hf
  exact⟨F,e,x,_,R,h1,fun F1 H1 v X1 R1 A1=>⟨i,bh A1 h2,q F1 H1 X1 R1⟩⟩
def yj(e:En)(x:Rv)(lo hi:Option Int):Option Rv:=(cM e x).map fun p=>if p.1=true then .l (iJ p.2 lo hi) else .d (.tuple (iJ p.2 lo hi))
def vt(fa:FE)(fl fh:FO):FE:=fun e=>(fa e).bind fun p=>(fl p.2).bind fun l=>(fh l.2).bind fun h=>(yj h.2 p.1 l.1 h.1).map fun z=>(z,h.2)
theorem nM{F:Hp}{ds:List PyData}{vs:List V}(h:au K F ds vs)(lo hi:Option Int):au K F (iJ ds lo hi) (iK vs lo hi):=by
  unfold iJ iK
  rw [h.len]
  exact(h.drop _).take _
theorem qc{α:Type}{xs:List α}{lo hi:Option Int}(h:HT.sIx xs.length 0 lo=0∧HT.sIx xs.length xs.length hi=xs.length):(xs.drop (HT.sIx xs.length 0 lo)).take (HT.sIx xs.length xs.length hi - HT.sIx xs.length 0 lo)=xs:=by
  rw [h.1,h.2];simp
theorem pk{fl fh:FO}(he:PE X a (fE X.K fa))(hl:PO X lo (fO X.K fl))(hh:PO X hi (fO X.K fh)):PE X (.Subscript a (.Slice lo hi none p2) pos) (fE X.K (vt fa fl fh)):=(oV yE he hl hh).mono fun σ H Q h=>by
  obtain⟨F,e,z,e',R,hf,q⟩:=h
  unfold vt at hf
  obtain⟨⟨x,e1⟩,h1,hf⟩:=Option.bind_eq_some_iff.mp hf
  obtain⟨⟨l,e2⟩,h2,hf⟩:=Option.bind_eq_some_iff.mp hf
  obtain⟨⟨u,e3⟩,h3,hf⟩:=Option.bind_eq_some_iff.mp hf
  obtain⟨z',h4,hf⟩:=Option.map_eq_some_iff.mp hf
  cases hf
  refine⟨F,e,x,e1,R,h1,fun F1 H1 v X1 R1 A1=>⟨F1,e1,l,e2,R1,h2,fun F2 H2 X2 R2=>⟨F2,e2,u,_,R2,h3,fun F3 H3 X3 R3=>?_⟩⟩⟩
  have X12:=X1.trans X2
  have X13:=X12.trans X3
  have A3:=(A1.ext X2).ext X3
  unfold yj at h4
  obtain⟨⟨b,xs⟩,h5,h4⟩:=Option.map_eq_some_iff.mp h4
  obtain⟨p,vs,rfl,d1,s1⟩:=bD R3 A3 h5
  cases b with
  | true=>
    rw [if_pos rfl] at h4;cases h4
    refine .inr (.inr ⟨p,vs,rfl,s1,fun t ht=>?_⟩)
    obtain⟨R4,X4,hF,no⟩:=R3.newL (vs:=iK vs l u) ht
    exact q _ _ _ (X13.trans X4) R4 ⟨t,_,rfl,X13.dom _ ht,hF,aq,nM d1 l u,no⟩
  | false=>
    rw [if_neg (by simp)] at h4;cases h4
    by_cases hw:HT.sIx vs.length 0 l=0∧HT.sIx vs.length vs.length u=vs.length
    · refine .inr (.inl ⟨p,vs,rfl,s1,hw,?_⟩)
      have e5:iJ xs l u=xs:=by unfold iJ;exact qc (by rw [d1.len];exact hw)
      rw [e5] at q
      obtain⟨F4,R4,X4,hF⟩:=R3.growT (am.refl _) s1
      exact q _ _ _ (X13.trans X4) R4 (bN.mpr ⟨p,vs,rfl,hF,d1.mono X4.sf⟩)
    · refine .inl ⟨p,vs,rfl,s1,hw,fun t ht=>?_⟩
      obtain⟨R4,X4⟩:=R3.newT (vs:=iK vs l u) ht
      exact q _ _ _ (X13.trans X4) R4 (bN.mpr ⟨t,_,rfl,.inl (.inl aq),(nM d1 l u).mono X4.sf⟩)
end
section
variable{X:Cx}{K:PySem.W.Frag}
theorem eG{σ:L2.St}{H0 F H:Hp}{e:En}{x:Rv}{vs:List V}(h:bW K σ H0 F H e [x] vs):∃v,vs=[v]∧bg K σ H0 F H e x v:=by
  obtain⟨v,ws,rfl,h1,h2⟩:=h
  have h2':ws=[]:=h2
  subst h2'
  exact⟨v,rfl,h1⟩
theorem mr{σ:L2.St}{H0 F H:Hp}{e:En}{x y:Rv}{vs:List V}(h:bW K σ H0 F H e [x,y] vs):∃v u,vs=[v,u]∧bg K σ H0 F H e x v∧bg K σ H0 F H e y u:=by
  obtain⟨v,ws,rfl,h1,h2⟩:=h
  obtain⟨u,rfl,h3⟩:=eG h2
  exact⟨v,u,rfl,h1,h3⟩
def g1(g:En→Rv→Option Rv):En→List Rv→Option Rv:=fun e xs=>match xs with
  | [x]=>g e x
  | _=>none
def g2(g:En→Rv→Rv→Option Rv):En→List Rv→Option Rv:=fun e xs=>match xs with
  | [x,y]=>g e x y
  | _=>none
theorem dI{r:List V→Hp→VK→Prop}{g:En→Rv→Option Rv}(h:xT K (fun v H Q=>r [v] H Q) g):ci K r (g1 g):=by
  intro σ H0 F H e xs z vs Q R A hg q
  unfold g1 at hg
  match xs,hg with
  | [x],hg=>
    obtain⟨v,rfl,h1⟩:=eG A
    exact h σ H0 F H e x z v Q R h1 hg q
theorem lY{r:List V→Hp→VK→Prop}{g:En→Rv→Rv→Option Rv}(h:c8 K (fun v u H Q=>r [v,u] H Q) g):ci K r (g2 g):=by
  intro σ H0 F H e xs z vs Q R A hg q
  unfold g2 at hg
  match xs,hg with
  | [x,y],hg=>
    obtain⟨v,u,rfl,h1,h2⟩:=mr A
    exact h σ H0 F H e x y z v u Q R h1 h2 hg q
def cI:En→Rv→Option Rv:=fun e x=>(cM e x).map fun p=>.d (.int p.2.length)
theorem ww:ci K (fun xs H Q=>∃p ys,xs=[.ref p]∧(dj K H p ys∨bY K H p ys)∧Q (.int ys.length) H) (g1 cI):=dI fun σ H0 F H e x z v Q R A hg q=>by
  obtain⟨⟨b,xs⟩,h5,h4⟩:=Option.map_eq_some_iff.mp hg
  obtain⟨p,vs,rfl,d1,s1⟩:=bD R A h5
  cases h4
  refine⟨p,vs,rfl,?_,?_⟩
  · cases b with
    | true=>exact .inl s1
    | false=>exact .inr s1
  · rw [←d1.len]
    exact q F H _ (cj.refl _ _ _ _) R ip
def mP:En→Rv→Option Rv:=fun _ x=>(bS x).map fun i=>.d (.int (if i < 0 then -i else i))
theorem vQ:ci K (fun xs H Q=>∃i,xs=[.int i]∧Q (.int (if i < 0 then -i else i)) H) (g1 mP):=dI fun σ H0 F H e x z v Q R A hg q=>by
  obtain⟨i,h5,h4⟩:=Option.map_eq_some_iff.mp hg
  cases h4
  exact⟨i,by rw [bh A h5],q F H _ (cj.refl _ _ _ _) R ip⟩
def kb:En→Rv→Option Rv:=fun _ x=>match x with
  | .d (.int i)=>some (.d (.int i))
  | .d (.bool k)=>some (.d (.int (if k then 1 else 0)))
  | _=>none
theorem wk:ci K (fun xs H Q=>(∃i,xs=[.int i]∧Q (.int i) H)∨∃k,xs=[.bl k]∧Q (.int (if k then 1 else 0)) H) (g1 kb):=dI fun σ H0 F H e x z v Q R A hg q=>by
  unfold kb at hg
  split at hg
  · cases hg
    exact .inl ⟨_,by rw [bv.mp (show DA K F (.int _) v from A)],q F H _ (cj.refl _ _ _ _) R ip⟩
  · cases hg
    exact .inr ⟨_,by rw [bM.mp (show DA K F (.bool _) v from A)],q F H _ (cj.refl _ _ _ _) R ip⟩
  · cases hg
def n_:=gI (fun _ _=>true) fun i j=>.int (if j < i then j else i)
def hV:=gI (fun _ _=>true) fun i j=>.int (if j > i then j else i)
theorem wA:ci K (fun xs H Q=>∃i j,xs=[.int i,.int j]∧Q (.int (if j < i then j else i)) H) (g2 n_):=lY fun σ H0 F H e x y z v u Q R A B hg q=>by
  obtain⟨i,j,h1,h2,h3⟩:=ek (K:=K) (g:=fun i j=>.int (if j < i then j else i)) (fun _ _ _=>bv.mpr rfl) σ H0 F H e x y z v u Q R A B hg q
  exact⟨i,j,by rw [h1,h2],h3⟩
theorem wz:ci K (fun xs H Q=>∃i j,xs=[.int i,.int j]∧Q (.int (if j > i then j else i)) H) (g2 hV):=lY fun σ H0 F H e x y z v u Q R A B hg q=>by
  obtain⟨i,j,h1,h2,h3⟩:=ek (K:=K) (g:=fun i j=>.int (if j > i then j else i)) (fun _ _ _=>bv.mpr rfl) σ H0 F H e x y z v u Q R A B hg q
  exact⟨i,j,by rw [h1,h2],h3⟩
def cy:En→Rv→Option Rv:=fun e x=>(cM e x).map fun p=>.d (.tuple p.2)
theorem rG:ci K (fun xs H Q=>∃p ys,xs=[.ref p]∧((dj K H p ys∧∀l,H l=none→Q (.ref l) (aF H l (.tup ys)))∨(bY K H p ys∧Q (.ref p) H))) (g1 cy):=dI fun σ H0 F H e x z v Q R A hg q=>by
  obtain⟨⟨b,xs⟩,h5,h4⟩:=Option.map_eq_some_iff.mp hg
  obtain⟨p,vs,rfl,d1,s1⟩:=bD R A h5
  cases h4
  refine⟨p,vs,rfl,?_⟩
  cases b with
  | true=>
    refine .inl ⟨s1,fun t ht=>?_⟩
    obtain⟨R4,X4⟩:=R.newT (vs:=vs) ht
    exact q _ _ _ X4 R4 (bN.mpr ⟨t,_,rfl,.inl (.inl aq),d1.mono X4.sf⟩)
  | false=>
    obtain⟨F4,R4,X4,hF⟩:=R.growT (am.refl _) s1
    exact .inr ⟨s1,q _ _ _ X4 R4 (bN.mpr ⟨p,vs,rfl,hF,d1.mono X4.sf⟩)⟩
def sy:En→Rv→Option Rv:=fun e x=>(cM e x).map fun p=>.l p.2
theorem tU:ci K (fun xs H Q=>∃p ys,xs=[.ref p]∧(dj K H p ys∨bY K H p ys)∧∀l,H l=none→Q (.ref l) (aF H l (.lst ys))) (g1 sy):=dI fun σ H0 F H e x z v Q R A hg q=>by
  obtain⟨⟨b,xs⟩,h5,h4⟩:=Option.map_eq_some_iff.mp hg
  obtain⟨p,vs,rfl,d1,s1⟩:=bD R A h5
  cases h4
  refine⟨p,vs,rfl,?_,fun t ht=>?_⟩
  · cases b with
    | true=>exact .inl s1
    | false=>exact .inr s1
  · obtain⟨R4,X4,hF,no⟩:=R.newL (vs:=vs) ht
    exact q _ _ _ X4 R4 ⟨t,_,rfl,ht,hF,aq,d1,no⟩
def gZ:List PyData→Option (List Bool)
  | []=>some []
  | .bool i::r=>(gZ r).map (i::·)
  | _=>none
theorem iT:∀{ds:List PyData} {ns:List Bool},gZ ds=some ns→ds=ns.map .bool
  | [],_,h=>by cases h;rfl
  | .bool i::r,_,h=>by
    obtain⟨ns,h1,rfl⟩:=Option.map_eq_some_iff.mp h
    rw [iT h1];rfl
def hZ(g:List PyData→Option PyData):En→Rv→Option Rv:=fun e x=>match cM e x with
  | some (true,xs)=>(g xs).map .d
  | _=>none
theorem vd{r:List V→Hp→VK→Prop}{g:List PyData→Option PyData}(h:∀(F H:Hp) (p:Addr) (xs:List PyData) (vs:List V) (d:PyData) (Q:VK),au K F xs vs→dj K H p vs→g xs=some d→(∀v,(∀F,DA K F d v)→Q v H)→r [.ref p] H Q):ci K r (g1 (hZ g)):=dI fun σ H0 F H e x z v Q R A hg q=>by
  unfold hZ at hg
  split at hg
  case h_2=>cases hg
  case h_1 xs h5=>
  obtain⟨p,vs,rfl,d1,s1⟩:=bD R A h5
  obtain⟨d,h6,hg⟩:=Option.map_eq_some_iff.mp hg
  cases hg
  exact h F H p xs vs d Q d1 s1 h6 fun v hv=>q F H v (cj.refl _ _ _ _) R (hv F)
def ka:List PyData→Option PyData:=fun xs=>(gZ xs).map fun ns=>.bool (ns.all id)
theorem vS:ci K (fun xs H Q=>∃(l:Addr) (bs:List Bool),xs=[.ref l]∧dj K H l (bs.map V.bl)∧Q (.bl (bs.all id)) H) (g1 (hZ ka)):=vd fun F H p xs vs d Q d1 s1 hg q=>by
  obtain⟨ns,h1,h2⟩:=Option.map_eq_some_iff.mp hg
  cases h2
  rw [iT h1] at d1
  rw [au.bools.mp d1] at s1
  exact⟨p,ns,rfl,s1,q _ fun _=>bM.mpr rfl⟩
mutual
def dr:PyData→Bool
  | .tuple ds=>eA ds
  | .list _=>false
  | .dict _=>false
  | _=>true
def eA:List PyData→Bool
  | []=>true
  | d::r=>dr d&&eA r
end
mutual
def cW:PyData→Bool
  | .list _=>false
  | .tuple ds=>cu ds
  | _=>true
def cu:List PyData→Bool
  | []=>true
  | d::r=>cW d&&cu r
end
theorem ik{h:Heap}:∀{m:List (Int × Int)} {es:List DictEntry} {vs:List (gT × Value)} {P:Program} {w:World},KV (m.map fun p=>((Sum.inl p.1:gT),V.int p.2)) vs→Pairs (jI P w) es vs→
    ReadsAll h (es.map (·.key)) (m.map fun p=>PyData.int p.1) []∧ReadsAll h (es.map (·.val)) (m.map fun p=>PyData.int p.2) []
  | [],es,vs,P,w,r,q=>by
    cases r
    cases q
    exact⟨.nil,.nil⟩
  | p::m,es,vs,P,w,r,q=>by
    rw [List.map_cons] at r
    cases r with
    | @cons a b as bs h1 t=>
      cases q with
      | @cons e kv es' kvs' h2 h3 h4=>
        obtain⟨z1,z2⟩:=h1
        obtain⟨c1,c2⟩:=ik t h4
        obtain⟨tk,z2⟩:=z2
        have k1:oy (Sum.inl p.1) e.key=true:=by
          have:b.1=Sum.inl p.1:=z1.symm
          rw [←this];exact h2
        rcases aP k1 with ⟨i,t',e1,e2⟩ | ⟨x,t',e1,e2⟩
        · cases e1
          refine⟨?_,?_⟩
          · simp only [List.map_cons,e2]
            exact ReadsAll.cons (as:=[]) (bs:=[]) (.int p.1 t') c1
          · simp only [List.map_cons,h3,z2]
            exact ReadsAll.cons (as:=[]) (bs:=[]) (.int p.2 tk) c2
        · cases e1
mutual
theorem DA.readsR{X:Cx}{pins:List (Addr × Obj)}{σ:L2.St}{H:Hp}{s:Shared}(I:ao X pins σ H s):∀{d:PyData} {v:V} {u:Value},DA X.K H d v→aZ v u→∃as,Reads s.heap u d as∧(cW d=true→sysModules∉as)
  | .none,_,_,q,r=>by
    simp only [DA] at q;subst q;cases r;exact⟨_,.none,fun _=>by simp⟩
  | .bool b,_,_,q,r=>by
    simp only [DA] at q;subst q;cases r;exact⟨_,.bool b,fun _=>by simp⟩
  | .int i,_,_,q,r=>by
    simp only [DA] at q;subst q;obtain⟨t,rfl⟩:=r;exact⟨_,.int i t,fun _=>by simp⟩
  | .str x,_,_,q,r=>by
    simp only [DA] at q;subst q;obtain⟨t,rfl⟩:=r;exact⟨_,.str x t,fun _=>by simp⟩
  | .tuple ds,_,_,q,r=>by
    simp only [DA] at q
    obtain⟨a,xs,e,hs,rr⟩:=q
    subst e;cases r
    obtain⟨its,rv,⟨o,ho,hc,n,hd⟩,hz⟩:=I.tuple hs
    obtain⟨as,q,z⟩:=au.readsR I rr rv
    exact⟨_,.tuple ho hc hd q,fun c=>z (by simpa [cW] using c)⟩
  | .list ds,_,_,q,r=>by
    simp only [DA] at q
    obtain⟨a,xs,e,hs,rr⟩:=q
    subst e;cases r
    obtain⟨its,rv,ht,hz⟩:=I.list hs
    obtain⟨o,ho,hc,n,hd⟩:=ht.isList
    obtain⟨as,q,z⟩:=au.readsR I rr rv
    exact⟨_,.list ho hc hd q,fun c=>by simp [cW] at c⟩
  | .dict kvs,_,_,q,r=>by
    simp only [DA] at q
    obtain⟨a,m,e,hs,rfl⟩:=q
    subst e;cases r
    obtain⟨_,hS,vs,kv,o,es,ep,ho,hx,hd,_,hp,_⟩:=(show cU X.prog X.w H s.heap a (.dK (m.map fun p=>(Sum.inl p.1,V.int p.2))) from I.hok a _ hs)
    obtain⟨c1,c2⟩:=ik (h:=s.heap) kv hp
    refine⟨_,Reads.dict (as:=[]) (bs:=[]) ho hx.1 hd ?_ ?_,fun _=>?_⟩
    · rw [List.map_map];exact c1
    · rw [List.map_map];exact c2
    · have:a≠sysModules:=by simpa using hS
      simpa using this.symm
theorem au.readsR{X:Cx}{pins:List (Addr × Obj)}{σ:L2.St}{H:Hp}{s:Shared}(I:ao X pins σ H s):∀{ds:List PyData} {xs:List V} {us:List Value},au X.K H ds xs→ay xs us→∃as,ReadsAll s.heap us ds as∧(cu ds=true→sysModules∉as)
  | [],_,_,q,r=>by
    simp only [au] at q;subst q;cases r;exact⟨_,.nil,fun _=>by simp⟩
  | d::ds,_,_,q,r=>by
    simp only [au] at q
    obtain⟨x,rr,e,a,b⟩:=q
    subst e
    cases r with
    | cons p p'=>
      obtain⟨as,q1,z1⟩:=DA.readsR I a p
      obtain⟨bs,q2,z2⟩:=au.readsR I b p'
      refine⟨_,.cons q1 q2,fun c=>?_⟩
      simp only [cu,Bool.and_eq_true] at c
      intro z
      rcases List.mem_append.mp z with z | z
      · exact z1 c.1 z
      · exact z2 c.2 z
end
def fQ(d:PyData):Bool:=(dr d || (!d.hasDict || cW d))&&d.showable&&decide (d.depth≤60)&&decide (d.shown.length≤sizeLine)
def gz:En→Rv→Option Rv:=fun _ x=>match x with
  | .d d=>if fQ d=true then some (.d (.str d.shown)) else none
  | _=>none
def pz(K:PySem.W.Frag):List V→Hp→VK→Prop:=fun xs H Q=>∃x d,xs=[x]∧DA K H d x∧(d.hasDict=true→cW d=true)∧d.showable=true∧d.depth≤60∧d.shown.length≤sizeLine∧Q (.str d.shown) H
mutual
theorem eh:∀(d:PyData),dr d=true→d.hasDict=false
  | .none,_=>rfl
  | .bool _,_=>rfl
  | .int _,_=>rfl
  | .str _,_=>rfl
  | .tuple ds,h=>by simp only [PyData.hasDict];exact fg ds (by simpa [dr] using h)
  | .list ds,h=>by simp [dr] at h
  | .dict _,h=>by simp [dr] at h
theorem fg:∀(ds:List PyData),eA ds=true→PyData.hasDictAll ds=false
  | [],_=>rfl
  | d::r,h=>by
    simp only [eA,Bool.and_eq_true] at h
    simp only [PyData.hasDictAll,eh d h.1,fg r h.2,Bool.or_self]
end
theorem lu{X:Cx}{k:Nat}(hr:bu k X.A):cT X (.builtin "repr") (pz X.K):=by
  intro pins s σ H xs us Q I r h
  obtain⟨x,d,rfl,ha,hdl,hsh,hdp,hsz,q⟩:=h
  obtain⟨u,rfl,ru⟩:∃u,us=[u]∧aZ x u:=by
    cases r with
    | cons p p'=>cases p';exact⟨_,rfl,p⟩
  have hun:=hr.un
  obtain⟨as,rd,hm⟩:=DA.readsR I ha ru
  have fin:∀a,u=.ref a→wpAny (model X.prog X.w) X.A (call (.builtin "repr") [u]) (EP X pins σ Q) X.xe s:=fun a e=>by
    subst e
    exact repr_of_reads' rd hsh (fun z=>hm (hdl z)) hr.gd (by lia) (fun _ _ e=>e) (fun h' u tk hk=>⟨.str _,H,I.kept hk,⟨_,rfl⟩,q⟩) hsz
  cases d with
  | none=>simp only [DA] at ha;subst ha;cases ru;exact P.repr_of_none ⟨.str _,H,I.tok _,⟨_,rfl⟩,q⟩
  | bool b=>simp only [DA] at ha;subst ha;cases ru;exact P.repr_of_bool ⟨.str _,H,I.tok _,⟨_,rfl⟩,q⟩
  | int i=>
    simp only [DA] at ha;subst ha;obtain⟨t,rfl⟩:=ru
    simp only [PyData.showable,decide_eq_true_eq] at hsh
    exact P.repr_of_int hsh ⟨.str _,H,I.tok _,⟨_,rfl⟩,q⟩
  | str y=>simp only [DA] at ha;subst ha;obtain⟨t,rfl⟩:=ru;exact P.repr_of_str ⟨.str _,H,I.tok _,⟨_,rfl⟩,q⟩ hsz
  | list ds=>obtain⟨a,_,e,_⟩:=cx.mp ha;subst e;exact fin a ru
  | dict ds=>simp only [DA] at ha;obtain⟨a,_,e,_⟩:=ha;subst e;exact fin a ru
  | tuple ds=>obtain⟨a,_,e,_⟩:=bN.mp ha;subst e;exact fin a ru
theorem u_:ci K (pz K) (g1 gz):=dI fun σ H0 F H e x z v Q R A hg q=>by
  unfold gz at hg
  split at hg
  case h_2=>cases hg
  case h_1 d=>
  split at hg
  case isFalse=>cases hg
  case isTrue hl=>
  cases hg
  unfold fQ at hl
  rw [Bool.and_eq_true,Bool.and_eq_true,Bool.and_eq_true,decide_eq_true_iff,decide_eq_true_iff] at hl
  refine⟨v,d,rfl,DA.mono R.sm A,fun z=>?_,hl.1.1.2,hl.1.2,hl.2,q F H _ (cj.refl _ _ _ _) R ((nO (K:=K) (F:=F)).mpr rfl)⟩
  have c:=hl.1.1.1
  cases hf:dr d with
  | true=>rw [eh d hf] at z;cases z
  | false=>rw [hf,z] at c;simpa using c
end
end L2
namespace L2
open PySem PySem.Spec PyProof.Rows
section
variable{K:PySem.W.Frag}{σ:L2.St}{H0 F H F' H':Hp}{e e':En}
theorem aG.upd1(R:aG K F H σ e){σ':L2.St}(i:Nat)(hl:σ'.length=e'.length)(hσ:∀j,j≠i→σ'[j]?=σ[j]?)(he:∀j,j≠i→e'[j]?=e[j]?)(sF:am F F')(sm:am F' H')(hf:∀j a,j≠i→Fp σ e H j a→F' a=none)
    (hh:∀j a o,j≠i→Fp σ e H j a→H a=some o→H' a=some o)(hd:∀x,e'[i]?=some (some (.d x))→∃v,σ'[i]?=some (some v)∧DA K F' x v)
    (ho:∀xs,e'[i]?=some (some (.l xs))→∃l vs,σ'[i]?=some (some (.ref l))∧F' l=none∧H' l=some (.lst vs)∧au K F' xs vs)
    (hn:∀xss,e'[i]?=some (some (.n xss))→∃(l:Addr) (bs:List Addr),σ'[i]?=some (some (.ref l))∧F' l=none∧H' l=some (.lst (bs.map V.ref))∧bs.length=xss.length∧bs.Nodup∧l∉bs∧
      ∀(k:Nat) (b:Addr) (ys:List PyData),bs[k]?=some b→xss[k]?=some ys→F' b=none∧∃us,H' b=some (.lst us)∧au K F' ys us)
    (hi:∀a j,j≠i→Fp σ' e' H' i a→¬Fp σ e H j a):aG K F' H' σ' e'∧∀j a,j≠i→(Fp σ' e' H' j a↔ Fp σ e H j a):=by
  have fs:∀j a,j≠i→(Fp σ' e' H' j a↔ Fp σ e H j a):=by
    intro j a hj
    have key:∀xss l,e[j]?=some (some (.n xss))→σ[j]?=some (some (.ref l))→H' l=H l:=fun xss l h1 h2=>by
      obtain⟨l',bs,g1,g2,g3,_⟩:=R.nst j xss h1
      rw [h2] at g1;cases g1
      rw [g3]
      exact hh j l _ hj (.inr ⟨xss,l,bs,h1,h2,g3,.inl rfl⟩) g3
    unfold Fp
    rw [he j hj,hσ j hj]
    constructor
    · rintro(h1 | ⟨xss,l,bs,h1,h2,h3,h4⟩)
      · exact .inl h1
      · exact .inr ⟨xss,l,bs,h1,h2,by rw [←key xss l h1 h2];exact h3,h4⟩
    · rintro(h1 | ⟨xss,l,bs,h1,h2,h3,h4⟩)
      · exact .inl h1
      · exact .inr ⟨xss,l,bs,h1,h2,by rw [key xss l h1 h2];exact h3,h4⟩
  refine⟨⟨sm,hl,fun j x q=>?_,fun j xs q=>?_,fun j xss q=>?_,fun j k a q1 q2=>?_⟩,fs⟩
  · by_cases z:j=i
    · subst z;exact hd x q
    · rw [he j z] at q
      obtain⟨v,h1,h2⟩:=R.dat j x q
      exact⟨v,by rw [hσ j z];exact h1,DA.mono sF h2⟩
  · by_cases z:j=i
    · subst z;exact ho xs q
    · rw [he j z] at q
      obtain⟨l,vs,h1,h2,h3,h4⟩:=R.own j xs q
      have o:Fp σ e H j l:=.inl ⟨xs,q,h1⟩
      exact⟨l,vs,by rw [hσ j z];exact h1,hf j l z o,hh j l _ z o h3,h4.mono sF⟩
  · by_cases z:j=i
    · subst z;exact hn xss q
    · rw [he j z] at q
      obtain⟨l,bs,h1,h2,h3,h4,h5,h6,h7⟩:=R.nst j xss q
      have o:Fp σ e H j l:=.inr ⟨xss,l,bs,q,h1,h3,.inl rfl⟩
      refine⟨l,bs,by rw [hσ j z];exact h1,hf j l z o,hh j l _ z o h3,h4,h5,h6,fun k b ys g1 g2=>?_⟩
      obtain⟨c1,us,c2,c3⟩:=h7 k b ys g1 g2
      have ob:Fp σ e H j b:=.inr ⟨xss,l,bs,q,h1,h3,.inr (List.mem_of_getElem? g1)⟩
      exact⟨hf j b z ob,us,hh j b _ z ob c2,c3.mono sF⟩
  · by_cases zj:j=i
    · subst zj
      by_cases zk:k=j
      · exact zk.symm
      · exact absurd ((fs k a zk).mp q2) (hi a k zk q1)
    · by_cases zk:k=i
      · subst zk
        exact absurd ((fs j a zj).mp q1) (hi a j zj q2)
      · exact R.fp j k a ((fs j a zj).mp q1) ((fs k a zk).mp q2)
theorem aG.putL(R:aG K F H σ e){i:Nat}{xs ys:List PyData}{l:Addr}{vs:List V}(hi:e[i]?=some (some (.l xs)))(hl:σ[i]?=some (some (.ref l)))(hd:au K F ys vs):
    aG K F (aF H l (.lst vs)) σ (e.set i (some (.l ys)))∧cj σ F H e F (aF H l (.lst vs)) (e.set i (some (.l ys))):=by
  obtain⟨l',vs',h1,h2,h3,h4⟩:=R.own i xs hi
  rw [hl] at h1;cases h1
  have hlt:i < e.length:=(List.getElem?_eq_some_iff.mp hi).1
  have fi:Fp σ e H i l:=.inl ⟨xs,hi,hl⟩
  have gi:(e.set i (some (Sv.l ys)))[i]?=some (some (.l ys)):=List.getElem?_set_self hlt
  obtain⟨R',fs⟩:=R.upd1 (F':=F) (H':=aF H l (.lst vs)) (e':=e.set i (some (.l ys))) i (by rw [List.length_set];exact R.len) (fun _ _=>rfl) (fun j hj=>List.getElem?_set_ne (Ne.symm hj)) (am.refl F)
    (fun b o q=>by
      have z:b≠l:=fun z=>by rw [z,h2] at q;cases q
      rw [av z];exact R.sm b o q)
    (fun j a _ q=>(R.fpAt q).1)
    (fun j a o hj q ha=>by
      have z:a≠l:=fun z=>hj (R.fp j i a q (by rw [z];exact fi))
      rw [av z];exact ha)
    (fun x q=>by rw [gi] at q;cases q) (fun zs q=>by rw [gi] at q;cases q;exact⟨l,vs,hl,h2,aq,hd⟩) (fun xss q=>by rw [gi] at q;cases q)
    (fun a j hj q q2=>by
      rcases q with ⟨zs,_,q⟩ | ⟨xss,_,_,q,_⟩
      · rw [hl] at q;cases q
        exact hj (R.fp j i _ q2 fi)
      · rw [gi] at q;cases q)
  refine⟨R',⟨am.refl _,fun a q=>?_,fun _ _ q _ _=>q,fun a ws q=>?_,fun a o q n=>?_,fun j=>?_,fun a ⟨j,q⟩=>?_⟩⟩
  · by_cases z:a=l
    · rw [z,aq] at q;cases q
    · rw [av z] at q;exact q
  · by_cases z:a=l
    · rw [z];exact⟨vs,aq⟩
    · rw [av z];exact⟨ws,q⟩
  · have z:a≠l:=fun z=>n ⟨i,by rw [z];exact fi⟩
    rw [av z];exact q
  · by_cases z:j=i
    · subst z;rw [gi];exact⟨fun _=>⟨xs,hi⟩,fun _=>⟨ys,rfl⟩⟩
    · rw [List.getElem?_set_ne (Ne.symm z)]
  · by_cases z:j=i
    · subst z
      rcases q with ⟨zs,_,q⟩ | ⟨xss,_,_,q,_⟩
      · rw [hl] at q;cases q;exact .inl ⟨j,fi⟩
      · rw [gi] at q;cases q
    · exact .inl ⟨j,(fs j a z).mp q⟩
theorem aG.setD(R:aG K F H σ e)(i:Nat){x:PyData}{v:V}(h:DA K F x v):aG K F H (σ.set i (some v)) (e.set i (some (.d x)))∧∀a,bX (σ.set i (some v)) (e.set i (some (.d x))) H a→bX σ e H a:=by
  have gi:∀s,(e.set i (some (Sv.d x)))[i]?=some (some s)→s=.d x∧i < e.length:=fun s q=>by
    have hlt:i < e.length:=by have:=(List.getElem?_eq_some_iff.mp q).1;simpa using this
    rw [List.getElem?_set_self hlt] at q
    exact⟨(Option.some.inj (Option.some.inj q)).symm,hlt⟩
  have nofp:∀a,¬Fp (σ.set i (some v)) (e.set i (some (.d x))) H i a:=fun a q=>by
    rcases q with ⟨zs,q,_⟩ | ⟨xss,_,_,q,_⟩
    · cases (gi _ q).1
    · cases (gi _ q).1
  obtain⟨R',fs⟩:=R.upd1 (F':=F) (H':=H) (σ':=σ.set i (some v)) (e':=e.set i (some (.d x))) i (by rw [List.length_set,List.length_set];exact R.len) (fun j hj=>List.getElem?_set_ne (Ne.symm hj)) (fun j hj=>List.getElem?_set_ne (Ne.symm hj)) (am.refl F) R.sm
    (fun j a _ q=>(R.fpAt q).1) (fun j a o _ _ ha=>ha)
    (fun y q=>by
      obtain⟨z,hlt⟩:=gi _ q
      cases z
      exact⟨v,List.getElem?_set_self (by rw [R.len];exact hlt),h⟩)
    (fun zs q=>by cases (gi _ q).1) (fun xss q=>by cases (gi _ q).1) (fun a j hj q=>absurd q (nofp a))
  refine⟨R',fun a ⟨j,q⟩=>?_⟩
  by_cases z:j=i
  · subst z;exact absurd q (nofp a)
  · exact⟨j,(fs j a z).mp q⟩
theorem aG.setL(R:aG K F H σ e)(i:Nat){xs:List PyData}{l:Addr}{vs:List V}(h1:F l=none)(h2:H l=some (.lst vs))(h3:au K F xs vs)(h4:¬bX σ e H l):aG K F H (σ.set i (some (.ref l))) (e.set i (some (.l xs)))∧∀a,bX (σ.set i (some (.ref l))) (e.set i (some (.l xs))) H a→bX σ e H a∨a=l:=by
  have gi:∀s,(e.set i (some (Sv.l xs)))[i]?=some (some s)→s=.l xs∧i < e.length:=fun s q=>by
    have hlt:i < e.length:=by have:=(List.getElem?_eq_some_iff.mp q).1;simpa using this
    rw [List.getElem?_set_self hlt] at q
    exact⟨(Option.some.inj (Option.some.inj q)).symm,hlt⟩
  have onefp:∀a,Fp (σ.set i (some (.ref l))) (e.set i (some (.l xs))) H i a→a=l:=fun a q=>by
    rcases q with ⟨zs,q,q2⟩ | ⟨xss,_,_,q,_⟩
    · obtain⟨_,hlt⟩:=gi _ q
      rw [List.getElem?_set_self (by rw [R.len];exact hlt)] at q2
      cases q2;rfl
    · cases (gi _ q).1
  obtain⟨R',fs⟩:=R.upd1 (F':=F) (H':=H) (σ':=σ.set i (some (.ref l))) (e':=e.set i (some (.l xs))) i (by rw [List.length_set,List.length_set];exact R.len) (fun j hj=>List.getElem?_set_ne (Ne.symm hj)) (fun j hj=>List.getElem?_set_ne (Ne.symm hj)) (am.refl F) R.sm
    (fun j a _ q=>(R.fpAt q).1) (fun j a o _ _ ha=>ha) (fun y q=>by cases (gi _ q).1)
    (fun zs q=>by
      obtain⟨z,hlt⟩:=gi _ q
      cases z
      exact⟨l,vs,List.getElem?_set_self (by rw [R.len];exact hlt),h1,h2,h3⟩)
    (fun xss q=>by cases (gi _ q).1) (fun a j hj q q2=>h4 ⟨j,by rw [onefp a q] at q2;exact q2⟩)
  refine⟨R',fun a ⟨j,q⟩=>?_⟩
  by_cases z:j=i
  · subst z;exact .inr (onefp a q)
  · exact .inl ⟨j,(fs j a z).mp q⟩
end
section
variable{X:Cx}{K:PySem.W.Frag}{o a:Expr}{es:List Expr}{fo:FE}{fs:FA}{name:Str}{apos cpos:Pos}{id:String}
def lS(K:PySem.W.Frag)(r:V→List V→Hp→VK→Prop)(g:List PyData→List PyData→Option (PyData × List PyData)):Prop:=
  ∀(F H:Hp) (l:Addr) (xs ys ds:List PyData) (z:PyData) (vs us:List V) (Q:VK),F l=none→am F H→H l=some (.lst vs)→au K F xs vs→au K F ds us→g xs ds=some (z,ys)→
    (∀w ws,DA K F z w→au K F ys ws→Q w (aF H l (.lst ws)))→r (.ref l) us H Q
def dG(g:List PyData→List PyData→Option (PyData × List PyData))(fo:FE)(fs:FA):FE:=fun e=>(fo e).bind fun p=>match p.1 with
  | .s i=>(fs p.2).bind fun q=>(e_ q.1).bind fun ds=>match q.2[i]? with
    | some (some (.l xs))=>(g xs ds).map fun z=>(.d z.1,q.2.set i (some (.l z.2)))
    | _=>none
  | _=>none
theorem pT{r:V→List V→Hp→VK→Prop}{g:List PyData→List PyData→Option (PyData × List PyData)}(hm:lS K r g){σ:L2.St}{H:Hp}{Q:VK}(h:fE K (dG g fo fs) σ H Q):y4 K "list" r (fE K fo) (fA K fs) σ H Q:=by
  obtain⟨F,e,z,e',R,hf,q⟩:=h
  unfold dG at hf
  obtain⟨⟨x,e1⟩,h1,hf⟩:=Option.bind_eq_some_iff.mp hf
  match x,h1,hf with
  | .s i,h1,hf=>
  dsimp only at hf
  obtain⟨⟨rs,e2⟩,h2,hf⟩:=Option.bind_eq_some_iff.mp hf
  obtain⟨ds,h3,hf⟩:=Option.bind_eq_some_iff.mp hf
  refine⟨F,e,_,e1,R,h1,fun F1 H1 v X1 R1 A1=>?_⟩
  obtain⟨g1,zs,g2⟩:=A1
  obtain⟨l,vs,c1,c2,c3,c4⟩:=R1.own i zs g2
  rw [g1] at c1;cases c1
  refine⟨.inl ⟨rfl,vs,.inl (.inl c3)⟩,F1,e1,rs,e2,R1,h2,fun F2 H2 us X2 R2 A2=>?_⟩
  match h4:e2[i]?,hf with
  | some (some (.l xs)),hf=>
  dsimp only at hf
  obtain⟨⟨zd,ys⟩,h5,hf⟩:=Option.map_eq_some_iff.mp hf
  cases hf
  obtain⟨F3,R3,s3,d3,f3⟩:=bW.frozen R2 A2 h3
  obtain⟨l',vs',k1,k2,k3,k4⟩:=R3.own i xs h4
  rw [g1] at k1;cases k1
  refine hm F3 H2 l xs ys ds zd vs' us Q k2 R3.sm k3 k4 d3 h5 fun w ws hw hws=>?_
  obtain⟨R4,X4⟩:=R3.putL h4 g1 hws
  exact q _ _ _ ((X1.trans (X2.frz s3 f3)).trans X4) R4 hw
theorem sN{r:V→List V→Hp→VK→Prop}{g:List PyData→List PyData→Option (PyData × List PyData)}(slot:Slot "list" name id)(hty:typeOf (.builtin id)=pure (.type "method_descriptor"))(hm:yS X id r)(hf:lS X.K r g)(ho:PE X o (fE X.K fo))(ha:PA X (a::es) (fA X.K fs))
    (hbase:attributeBase o name X.env (eval o X.env)=eval o X.env)
    (hfew:((backTo cpos (starEach (a::es) X.env)).all (fun x=> !x.1)&&(backToKw cpos (keywordEach [] X.env)).all (fun x=>x.1.isSome)
      &&decide ((a::es).length+([]:List Keyword).length+(if ([]:List Keyword).isEmpty then 0 else 1) < 30))=true)
    (hline:(apos.endLine==cpos.line)=true)(hs:starEach (a::es) X.env=(false,eval a X.env)::starEach es X.env)(hplain:(backTo cpos (starEach es X.env)).any (·.1)=false):
    PE X (.Call (.Attribute o name apos) (a::es) [] cpos) (fE X.K (dG g fo fs)):=(wQ PySem.F.plainAttrs_list slot hty hm ho ha hbase hfew hline hs hplain).mono fun _ _ _ h=>pT hf h
def cg:List PyData→List PyData→Option (PyData × List PyData):=fun xs ds=>match ds with
  | [d]=>if xs.length < 1000000 then some (.none,xs++[d]) else none
  | _=>none
theorem nA:lS K ml cg:=by
  intro F H l xs ys ds z vs us Q hF sm hl d1 d2 hg q
  unfold cg at hg
  match ds,hg,d2 with
  | [d],hg,d2=>
    simp only [au] at d2
    obtain⟨w,r,rfl,hw,rfl⟩:=d2
    dsimp only at hg
    split at hg
    case isFalse=>cases hg
    case isTrue hlt=>
    cases hg
    have:=d1.len
    have sl:sizeLine=16777216:=sizeLine_eq
    exact⟨l,vs,w,rfl,rfl,hl,by lia,q _ _ (e8.mpr rfl) (d1.append (au.one hw))⟩
def wy:List PyData→List PyData→Option (PyData × List PyData):=fun xs ds=>match ds with
  | []=>(xs[xs.length - 1]?).map fun d=>(d,xs.dropLast)
  | _=>none
def gc:List PyData→List PyData→Option (PyData × List PyData):=fun xs ds=>match ds with
  | [.int i]=>if 0≤i∧i < 1000000000 then(xs[i.toNat]?).map fun d=>(d,xs.eraseIdx i.toNat) else none
  | _=>none
theorem q5:lS K pv gc:=by
  intro F H l xs ys ds z vs us Q hF sm hl d1 d2 hg q
  unfold gc at hg
  match ds,hg,d2 with
  | [.int i],hg,d2=>
    simp only [au,DA] at d2
    obtain⟨w,r,rfl,rfl,rfl⟩:=d2
    dsimp only at hg
    split at hg
    case isFalse=>cases hg
    case isTrue hlt=>
    obtain⟨d,h1,h2⟩:=Option.map_eq_some_iff.mp hg
    cases h2
    obtain⟨v,g1,g2⟩:=d1.get h1
    have hlt2:i.toNat < vs.length:=(List.getElem?_eq_some_iff.mp g1).1
    exact⟨l,vs,i,i.toNat,v,rfl,rfl,hl,by lia,by lia,seqIndex_of hlt.1 (by lia),g1,q _ _ g2 (d1.erase _)⟩
end
end L2
namespace L2
open PySem PySem.Spec PyProof.Rows
inductive Fl where
  | nx (e:En)
  | bk (e:En)
  | ct (e:En)
  | rt (r:Rv) (e:En)
abbrev FS:=En→Option Fl
structure bV (W:List Nat) (σ:L2.St) (F H:Hp) (e:En) (σ':L2.St) (F' H':Hp) (e':En):Prop where
  sf:am F F'
  dom:∀a,H' a=none→H a=none
  fr:∀a vs,F a=none→H a=some (.lst vs)→¬bX σ e H a→F' a=none
  lst:∀a vs,H a=some (.lst vs)→∃vs',H' a=some (.lst vs')
  tmp:∀a o,H a=some o→¬bX σ e H a→H' a=some o
  own:∀a,bX σ' e' H' a→bX σ e H a∨H a=none
  wr:∀j,j∉W→σ'[j]?=σ[j]?
section
variable{K:PySem.W.Frag}{W W1 W2:List Nat}{σ σ1 σ2 σ':L2.St}{H0 F H F1 H1 F2 H2 F' H':Hp}{e e1 e2 e':En}
theorem bV.refl:bV W σ F H e σ F H e:=⟨am.refl _,fun _ h=>h,fun _ _ h _ _=>h,fun _ vs h=>⟨vs,h⟩,fun _ _ h _=>h,fun _ h=>.inl h,fun _ _=>rfl⟩
theorem cj.s(x:cj σ F H e F' H' e'):bV W σ F H e σ F' H' e':=⟨x.sf,x.dom,x.fr,x.lst,x.tmp,x.ow,fun _ _=>rfl⟩
theorem bV.trans(x:bV W σ F H e σ1 F1 H1 e1)(y:bV W σ1 F1 H1 e1 σ2 F2 H2 e2):bV W σ F H e σ2 F2 H2 e2:=
  ⟨x.sf.trans y.sf,fun a h=>x.dom a (y.dom a h),fun a vs h n no=>let ⟨vs',q⟩:=x.lst a vs n;y.fr a vs' (x.fr a vs h n no) q (fun z=>(x.own a z).elim no fun z=>by rw [n] at z;cases z),fun a vs h=>let ⟨vs',q⟩:=x.lst a vs h;y.lst a vs' q,
    fun a o h n=>y.tmp a o (x.tmp a o h n) (fun z=>(x.own a z).elim n fun z=>by rw [h] at z;cases z),
    fun a h=>(y.own a h).elim (x.own a) (fun z=>.inr (x.dom a z)),
    fun j h=>(y.wr j h).trans (x.wr j h)⟩
theorem bV.mono(x:bV W1 σ F H e σ' F' H' e')(h:∀j,j∈W1→j∈W):bV W σ F H e σ' F' H' e':=⟨x.sf,x.dom,x.fr,x.lst,x.tmp,x.own,fun j n=>x.wr j fun z=>n (h j z)⟩
end
def g_(K:PySem.W.Frag)(W:List Nat)(σ:L2.St)(F H:Hp)(e:En)(D:lb):Fl→Prop
  | .nx e'=>∀F' H' σ',bV W σ F H e σ' F' H' e'→aG K F' H' σ' e'→D.nx σ' H'
  | .bk e'=>∀F' H' σ',bV W σ F H e σ' F' H' e'→aG K F' H' σ' e'→D.bk σ' H'
  | .ct e'=>∀F' H' σ',bV W σ F H e σ' F' H' e'→aG K F' H' σ' e'→D.ct σ' H'
  | .rt r e'=>∀F' H' σ' v,bV W σ F H e σ' F' H' e'→aG K F' H' σ' e'→bg K σ' H F' H' e' r v→D.rt v H'
def fS(K:PySem.W.Frag)(f:FS)(W:List Nat):TS:=fun D σ H=>∃F e fl,aG K F H σ e∧f e=some fl∧g_ K W σ F H e D fl
theorem PS.mono{X:Cx}{st:Stmt}{t t':TS}(h:PS X st t)(m:∀D σ H,t' D σ H→t D σ H):PS X st t':=fun pins s σ H D I q=>h pins s σ H D I (m D σ H q)
theorem gE.mono{X:Cx}{st:List Stmt}{t t':TS}(h:gE X st t)(m:∀D σ H,t' D σ H→t D σ H):gE X st t':=fun pins s σ H D I q=>h pins s σ H D I (m D σ H q)
theorem g_.later{K:PySem.W.Frag}{W W1 W2:List Nat}{σ σ1:L2.St}{F H F1 H1:Hp}{e e1:En}{D:lb}{fl:Fl}(h:g_ K W σ F H e D fl)(x:bV W1 σ F H e σ1 F1 H1 e1)(h1:∀j,j∈W1→j∈W)(h2:∀j,j∈W2→j∈W):g_ K W2 σ1 F1 H1 e1 D fl:=by
  cases fl with
  | nx e'=>exact fun F' H' σ' y R=>h F' H' σ' ((x.mono h1).trans (y.mono h2)) R
  | bk e'=>exact fun F' H' σ' y R=>h F' H' σ' ((x.mono h1).trans (y.mono h2)) R
  | ct e'=>exact fun F' H' σ' y R=>h F' H' σ' ((x.mono h1).trans (y.mono h2)) R
  | rt r e'=>exact fun F' H' σ' v y R A=>h F' H' σ' v ((x.mono h1).trans (y.mono h2)) R (A.weak x.dom)
section
variable{X:Cx}{K:PySem.W.Frag}{W W1 W2:List Nat}{st:Stmt}{c7:List Stmt}{f g:FS}{a b:Expr}{fa:FE}{ft:FT}{pos:Pos}
def er:FS:=fun e=>some (.nx e)
def aJ(f g:FS):FS:=fun e=>(f e).bind fun fl=>match fl with
  | .nx e1=>g e1
  | fl=>some fl
theorem br:gE X [] (fS K er []):=rf.mono fun D σ H h=>by
  obtain⟨F,e,fl,R,hf,q⟩:=h
  cases hf
  exact q F H σ bV.refl R
theorem af(h1:PS X st (fS K f W1))(h2:gE X c7 (fS K g W2)):gE X (st::c7) (fS K (aJ f g) (W1++W2)):=(pb h1 h2).mono fun D σ H h=>by
  obtain⟨F,e,fl,R,hf,q⟩:=h
  unfold aJ at hf
  obtain⟨fl1,h1,hf⟩:=Option.bind_eq_some_iff.mp hf
  have s1:∀j,j∈W1→j∈W1++W2:=fun j h=>List.mem_append.mpr (.inl h)
  have s2:∀j,j∈W2→j∈W1++W2:=fun j h=>List.mem_append.mpr (.inr h)
  refine⟨F,e,fl1,R,h1,?_⟩
  cases fl1 with
  | nx e1=>exact fun F' H' σ' x R'=>⟨F',e1,fl,R',hf,q.later x s1 s2⟩
  | bk e1=>cases hf;exact fun F' H' σ' x R'=>q F' H' σ' (x.mono s1) R'
  | ct e1=>cases hf;exact fun F' H' σ' x R'=>q F' H' σ' (x.mono s1) R'
  | rt r e1=>cases hf;exact fun F' H' σ' v x R' A=>q F' H' σ' v (x.mono s1) R' A
theorem aj(h1:PS X st (fS K f W)):gE X [st] (fS K f W):=rg h1
def gA(fa:FE):FS:=fun e=>(fa e).map fun p=>.nx p.2
theorem fF(he:PE X a (fE K fa))(hs:swapsWith a none pos.line X.env=pure false):PS X (.Expr a pos) (fS K (gA fa) []):=(rc he hs).mono fun D σ H h=>by
  obtain⟨F,e,fl,R,hf,q⟩:=h
  obtain⟨⟨x,e1⟩,h1,hf⟩:=Option.map_eq_some_iff.mp hf
  cases hf
  exact⟨F,e,x,e1,R,h1,fun F1 H1 v X1 R1 A1=>q F1 H1 σ X1.s R1⟩
def bG(fa:FE):FS:=fun e=>(fa e).map fun p=>.rt p.1 p.2
theorem aC(he:PE X a (fE K fa)):PS X (.Return (some a) pos) (fS K (bG fa) []):=(uJ he).mono fun D σ H h=>by
  obtain⟨F,e,fl,R,hf,q⟩:=h
  obtain⟨⟨x,e1⟩,h1,hf⟩:=Option.map_eq_some_iff.mp hf
  cases hf
  exact⟨F,e,x,e1,R,h1,fun F1 H1 v X1 R1 A1=>q F1 H1 σ v X1.s R1 A1⟩
def iF(ft:FT)(f g:FS):FS:=fun e=>(ft e).bind fun p=>if p.1=true then f p.2 else g p.2
theorem dC{c:Expr}{bs cs:List Stmt}(hc:PT X c (fT K ft))(ha:gE X bs (fS K f W1))(hb:gE X cs (fS K g W2)):PS X (.If c bs cs pos) (fS K (iF ft f g) (W1++W2)):=(wX hc ha hb).mono fun D σ H h=>by
  obtain⟨F,e,fl,R,hf,q⟩:=h
  unfold iF at hf
  obtain⟨⟨x,e1⟩,h1,hf⟩:=Option.bind_eq_some_iff.mp hf
  refine⟨F,e,x,e1,R,h1,fun F1 H1 X1 R1=>?_⟩
  cases x with
  | true=>exact⟨F1,e1,fl,R1,hf,q.later (W1:=[]) X1.s (fun j h=>by cases h) fun j h=>List.mem_append.mpr (.inl h)⟩
  | false=>exact⟨F1,e1,fl,R1,hf,q.later (W1:=[]) X1.s (fun j h=>by cases h) fun j h=>List.mem_append.mpr (.inr h)⟩
def rk(i:Nat)(r:Rv)(e:En):Option En:=match r with
  | .d x=>some (e.set i (some (.d x)))
  | .l xs=>some (e.set i (some (.l xs)))
  | .s _=>none
theorem pd{σ:L2.St}{H F H1 F1:Hp}{e e1 e2:En}{i:Nat}{r:Rv}{v:V}(R:aG K F H σ e)(X1:cj σ F H e F1 H1 e1)(R1:aG K F1 H1 σ e1)(A1:bg K σ H F1 H1 e1 r v)(h:rk i r e1=some e2):
    bV [i] σ F H e (σ.set i (some v)) F1 H1 e2∧aG K F1 H1 (σ.set i (some v)) e2:=by
  have wr:∀j,j∉[i]→(σ.set i (some v))[j]?=σ[j]?:=fun j n=>List.getElem?_set_ne (fun z=>n (by simp [z]))
  cases r with
  | d x=>
    cases h
    obtain⟨R2,o2⟩:=R1.setD i A1
    exact⟨⟨X1.sf,X1.dom,X1.fr,X1.lst,X1.tmp,fun a h=>X1.ow a (o2 a h),wr⟩,R2⟩
  | l xs=>
    cases h
    obtain⟨l,vs,rfl,h1,h2,h3,h4,h5⟩:=A1
    obtain⟨R2,o2⟩:=R1.setL i h2 h3 h4 h5
    refine⟨⟨X1.sf,X1.dom,X1.fr,X1.lst,X1.tmp,fun a h=>?_,wr⟩,R2⟩
    rcases o2 a h with z | z
    · exact X1.ow a z
    · exact .inr (by rw [z];exact h1)
  | s j=>cases h
def be(i:Nat)(fa:FE):FS:=fun e=>(fa e).bind fun p=>(rk i p.1 p.2).map .nx
theorem aD{i:Nat}{x:Str}{pos':Pos}(hN:X.N.Nodup)(hi:X.N[i]?=some x)(hx:vB X.env.scope x)(he:PE X a (fE K fa))(hs:swapsWith a (some (.Name x pos')) pos.line X.env=pure false)(hf:X.fn x=true∨X.env.scope.names.lookup x=some .local):
    PS X (.Assign [.Name x pos'] a pos) (fS K (be i fa) [i]):=(uK hN hi hx he hs hf).mono fun D σ H h=>by
  obtain⟨F,e,fl,R,hf,q⟩:=h
  unfold be at hf
  obtain⟨⟨r,e1⟩,h1,hf⟩:=Option.bind_eq_some_iff.mp hf
  obtain⟨e2,h2,hf⟩:=Option.map_eq_some_iff.mp hf
  cases hf
  refine⟨F,e,r,e1,R,h1,fun F1 H1 v X1 R1 A1=>?_⟩
  obtain⟨x,R2⟩:=pd R X1 R1 A1 h2
  exact q F1 H1 _ x R2
abbrev FG:=PyData→En→Option En
def fG(K:PySem.W.Frag)(g:FG)(W:List Nat):TG:=fun v σ H Q=>∃F e x e',aG K F H σ e∧DA K F x v∧g x e=some e'∧∀σ',bV W σ F H e σ' F H e'→aG K F H σ' e'→Q σ' H
abbrev rQ:=List PyData→En→Option En
def xX(K:PySem.W.Frag)(g:rQ)(W:List Nat):pW:=fun vs σ H Q=>∃F e xs e',aG K F H σ e∧au K F xs vs∧g xs e=some e'∧∀σ',bV W σ F H e σ' F H e'→aG K F H σ' e'→Q σ' H
theorem PG.mono{tg:Expr}{t t':TG}(h:PG X tg t)(m:∀v σ H Q,t' v σ H Q→t v σ H Q):PG X tg t':=fun pins s σ H v u Q I r q=>h pins s σ H v u Q I r (m v σ H Q q)
theorem nv.mono{tg:List Expr}{t t':pW}(h:nv X tg t)(m:∀v σ H Q,t' v σ H Q→t v σ H Q):nv X tg t':=fun pins s σ H v u Q I r q=>h pins s σ H v u Q I r (m v σ H Q q)
def ai(i:Nat):FG:=fun x e=>some (e.set i (some (.d x)))
def cD:rQ:=fun xs e=>match xs with
  | []=>some e
  | _=>none
def aK(g:FG)(gs:rQ):rQ:=fun xs e=>match xs with
  | x::r=>(g x e).bind fun e1=>gs r e1
  | _=>none
def de(gs:rQ):FG:=fun x e=>match x with
  | .tuple xs=>gs xs e
  | _=>none
theorem aW{i:Nat}{x:Str}(hN:X.N.Nodup)(hi:X.N[i]?=some x)(hx:vB X.env.scope x)(hf:X.fn x=true∨X.env.scope.names.lookup x=some .local):PG X (.Name x pos) (fG K (ai i) [i]):=(qU hN hi hx hf).mono fun v σ H Q h=>by
  obtain⟨F,e,x,e',R,hx,hg,q⟩:=h
  cases hg
  obtain⟨R2,o2⟩:=R.setD i hx
  exact q _ ⟨am.refl _,fun _ h=>h,fun _ _ h _ _=>h,fun _ vs h=>⟨vs,h⟩,fun _ _ h _=>h,fun a h=>.inl (o2 a h),fun j n=>List.getElem?_set_ne (fun z=>n (by simp [z]))⟩ R2
theorem jQ:nv X [] (xX K cD []):=qW.mono fun v σ H Q h=>by
  obtain⟨F,e,x,e',R,hx,hg,q⟩:=h
  unfold cD at hg
  split at hg
  · cases hg
    simp only [au] at hx
    exact⟨hx,q σ bV.refl R⟩
  · cases hg
theorem dB{es:List Expr}{g1:FG}{gs:rQ}(h1:PG X a (fG K g1 W1))(h2:nv X es (xX K gs W2))
    (hs:(assignEach (a::es) X.env).map (·.2)=assign a X.env::(assignEach es X.env).map (·.2)):nv X (a::es) (xX K (aK g1 gs) (W1++W2)):=(oW h1 h2 hs).mono fun v σ H Q h=>by
  obtain⟨F,e,xs,e',R,hx,hg,q⟩:=h
  unfold aK at hg
  match xs,hg,hx with
  | x::r,hg,hx=>
    simp only [au] at hx
    obtain⟨w,ws,e1,hw,hr⟩:=hx
    dsimp only at hg
    obtain⟨e1',h3,h4⟩:=Option.bind_eq_some_iff.mp hg
    refine⟨w,ws,e1,F,e,x,e1',R,hw,h3,fun σ1 x1 R1=>⟨F,e1',r,e',R1,hr,h4,fun σ2 x2 R2=>?_⟩⟩
    exact q σ2 ((x1.mono fun j h=>List.mem_append.mpr (.inl h)).trans (x2.mono fun j h=>List.mem_append.mpr (.inr h))) R2
theorem lJ{es:List Expr}{k n:Nat}{gs:rQ}(hK:X.K=K)(hc:X.calm=true)(h:nv X es (xX K gs W))(hl:∀xs e e',gs xs e=some e'→xs.length=n)(hn:(assignEach es X.env).length=n)(hst:(assignEach es X.env).findIdx? (·.1)=none):PG X (.Tuple es k pos) (fG K (de gs) W):=(qV hK hc h hn hst).mono fun v σ H Q h=>by
  obtain⟨F,e,x,e',R,hx,hg,q⟩:=h
  unfold de at hg
  match x,hg,hx with
  | .tuple xs,hg,hx=>
    obtain⟨p,vs,e1,e2,e3⟩:=bN.mp hx
    exact⟨p,vs,e1,R.sm.tup e2,by rw [←e3.len];exact hl xs e e' hg,F,e,xs,e',R,e3,hg,q⟩
theorem lz(xs:List PyData)(e e':En)(h:cD xs e=some e'):xs.length=0:=by
  unfold cD at h
  split at h
  · rfl
  · cases h
theorem eB{g:FG}{gs:rQ}{n:Nat}(hl:∀xs e e',gs xs e=some e'→xs.length=n)(xs:List PyData)(e e':En)(h:aK g gs xs e=some e'):xs.length=n+1:=by
  unfold aK at h
  match xs,h with
  | x::r,h=>
    obtain⟨e1,h3,h4⟩:=Option.bind_eq_some_iff.mp h
    simp [hl r e1 e' h4]
def pE(fa:FE)(g:FG):FS:=fun e=>(fa e).bind fun p=>match p.1 with
  | .d x=>(g x p.2).map .nx
  | _=>none
theorem uR{tg:Expr}{g:FG}(he:PE X a (fE K fa))(hg:PG X tg (fG K g W))(hs:swapsWithSole [tg] a pos.line X.env=pure false)(hw:swappedStores [tg] a X.env=pure none)
    (h1:(assignEach [tg] X.env).map (·.2)=[assign tg X.env]):PS X (.Assign [tg] a pos) (fS K (pE fa g) W):=(uG he hg hs hw h1).mono fun D σ H h=>by
  obtain⟨F,e,fl,R,hf,q⟩:=h
  unfold pE at hf
  obtain⟨⟨r,e1⟩,h1,hf⟩:=Option.bind_eq_some_iff.mp hf
  match r,h1,hf with
  | .d x,h1,hf=>
    obtain⟨e2,h2,hf⟩:=Option.map_eq_some_iff.mp hf
    cases hf
    exact⟨F,e,_,e1,R,h1,fun F1 H1 v X1 R1 A1=>⟨F1,e1,x,e2,R1,A1,h2,fun σ' x2 R2=>q F1 H1 σ' (X1.s.trans x2) R2⟩⟩
def pF(i j:Nat)(fs:FA):FS:=fun e=>(fs e).bind fun p=>match p.1 with
  | [.d x,.d y]=>some (.nx ((p.2.set i (some (.d x))).set j (some (.d y))))
  | _=>none
theorem uS{i j:Nat}{x y:Str}{fs:FA}{px py pt:Pos}{kt k2 pt2}(hc:X.calm=true)(hN:X.N.Nodup)(hi:X.N[i]?=some x)(hj:X.N[j]?=some y)(hij:i≠j)
    (hx:X.env.scope.names.lookup x=some .local)(hy:X.env.scope.names.lookup y=some .local)(ha:PA X [a,b] (fA K fs))
    (hw:swappedStores [.Tuple [.Name x px,.Name y py] kt pt] (.Tuple [a,b] k2 pt2) X.env=pure (some [x,y]))
    (hs:swapsWithSole [.Tuple [.Name x px,.Name y py] kt pt] (.Tuple [a,b] k2 pt2) pos.line X.env=pure false):
    PS X (.Assign [.Tuple [.Name x px,.Name y py] kt pt] (.Tuple [a,b] k2 pt2) pos) (fS K (pF i j fs) [i,j]):=(uI hc hN hi hj hij hx hy ha hw hs).mono fun D σ H h=>by
  obtain⟨F,e,fl,R,hf,q⟩:=h
  unfold pF at hf
  obtain⟨⟨rs,e1⟩,h1,hf⟩:=Option.bind_eq_some_iff.mp hf
  refine⟨F,e,rs,e1,R,h1,fun F1 H1 vs X1 R1 A1=>?_⟩
  match rs,hf,A1 with
  | [.d x,.d y],hf,A1=>
    cases hf
    obtain⟨v,u,rfl,a1,a2⟩:=mr A1
    obtain⟨R2,o2⟩:=R1.setD i a1
    obtain⟨R3,o3⟩:=R2.setD j a2
    refine⟨v,u,rfl,q F1 H1 _ ⟨X1.sf,X1.dom,X1.fr,X1.lst,X1.tmp,fun a h=>X1.ow a (o2 a (o3 a h)),fun m n=>?_⟩ R3⟩
    rw [List.getElem?_set_ne (fun z=>n (by simp [z])),List.getElem?_set_ne (fun z=>n (by simp [z]))]
def mL:Rv→Option PyData
  | .d x=>some x
  | .l xs=>some (.list xs)
  | .s _=>none
theorem mM{r:Rv}{d:PyData}(h:mL r=some d):e_ [r]=some [d]:=by
  cases r with
  | d x=>cases h;rfl
  | l xs=>cases h;rfl
  | s i=>cases h
def dX(ft:FT)(f:FS):Nat→FS
  | 0,_=>none
  | n+1,e=>(ft e).bind fun p=>if p.1=true then(f p.2).bind fun fl=>match fl with
      | .nx e1=>dX ft f n e1
      | .ct e1=>dX ft f n e1
      | .bk e1=>some (.nx e1)
      | .rt r e1=>some (.rt r e1)
    else some (.nx p.2)
def iu(n:Nat)(ft:FT)(f:FS):FS:=dX ft f n
theorem kD{n:Nat}{c:Expr}{body:List Stmt}(hp:PassesOwn (model X.prog X.w) X.A X.env X.xe)(hc:PT X c (fT K ft))(hb:gE X body (fS K f W)):PS X (.While c body [] pos) (fS K (iu n ft f) W):=(o_ hp hc hb).mono fun D σ H h=>by
  refine⟨fun m σ H=>∃F e fl,aG K F H σ e∧dX ft f m e=some fl∧g_ K W σ F H e D fl,⟨n,h⟩,?_⟩
  rintro m σ H ⟨F,e,fl,R,hf,q⟩
  cases m with
  | zero=>cases hf
  | succ m=>
    unfold dX at hf
    obtain⟨⟨x,e1⟩,h1,hf⟩:=Option.bind_eq_some_iff.mp hf
    refine⟨F,e,x,e1,R,h1,fun F1 H1 X1 R1=>?_⟩
    have sub:∀j,j∈([]:List Nat)→j∈W:=fun j h=>by cases h
    cases x with
    | false=>
      rw [if_neg (by simp)] at hf
      cases hf
      exact wo (q F1 H1 σ X1.s R1)
    | true=>
      rw [if_pos rfl] at hf
      refine wq ?_
      obtain⟨fl1,h2,hf⟩:=Option.bind_eq_some_iff.mp hf
      have q1:g_ K W σ F1 H1 e1 D fl:=q.later (W1:=[]) X1.s sub fun j h=>h
      refine⟨fun σ' H'=>∃F' e',aG K F' H' σ' e'∧dX ft f m e'=some fl∧g_ K W σ' F' H' e' D fl,fun σ' H' ⟨F',e',r1,r2,r3⟩=>⟨m,Nat.lt_succ_self m,F',e',fl,r1,r2,r3⟩,F1,e1,fl1,R1,h2,?_⟩
      cases fl1 with
      | nx e2=>exact fun F2 H2 σ2 x R2=>⟨F2,e2,R2,hf,q1.later x (fun j h=>h) fun j h=>h⟩
      | ct e2=>exact fun F2 H2 σ2 x R2=>⟨F2,e2,R2,hf,q1.later x (fun j h=>h) fun j h=>h⟩
      | bk e2=>cases hf;exact fun F2 H2 σ2 x R2=>q1 F2 H2 σ2 x R2
      | rt r e2=>cases hf;exact fun F2 H2 σ2 v x R2 A=>q1 F2 H2 σ2 v x R2 A
end
end L2
namespace L2
open PySem PySem.Spec PyProof.Rows
theorem PI.mono{X:Cx}{tg iter:Expr}{t t':TI}(h:PI X tg iter t)(m:∀σ H R,t' σ H R→t σ H R):PI X tg iter t':=fun pins s σ H R I q=>h pins s σ H R I (m σ H R q)
theorem PI.or{X:Cx}{tg iter:Expr}{t t':TI}(h:PI X tg iter t)(h':PI X tg iter t'):PI X tg iter (fun σ H R=>t σ H R∨t' σ H R):=fun pins s σ H R I q=>by
  rcases q with q | q
  · exact h pins s σ H R I q
  · exact h' pins s σ H R I q
abbrev d_:=List (Nat × List PyData)
def nz(K:PySem.W.Frag)(σ:L2.St)(F H:Hp)(own:d_):Prop:=∀p∈own,∃l vs,σ[p.1]?=some (some (.ref l))∧H l=some (.lst vs)∧au K F p.2 vs
def mE(K:PySem.W.Frag)(σ:L2.St)(J:It)(items:List PyData)(own:d_)(F0:Hp):Prop:=∀F H,am F0 F→am F H→nz K σ F H own→
  (∀i,i < items.length→J.go i H)∧(∀i,items.length≤i→J.stop i H)∧∀i d x H',items[i]?=some d→J.yld i H x H'→∃F',am H H'∧am F F'∧am F' H'∧(∀a,F a=none→H a≠none→F' a=none)∧DA K F' d x
abbrev FI:=En→Option (List PyData × d_ × En)
def keeps(own:d_)(e:En):Prop:=∀p∈own,e[p.1]?=some (some (.l p.2))
def fI(K:PySem.W.Frag)(f:FI):TI:=fun σ H R=>∃F e items own e',aG K F H σ e∧f e=some (items,own,e')∧∀J F' H',cj σ F H e F' H' e'→aG K F' H' σ e'→keeps own e'→mE K σ J items own F'→R J H'
section
variable{K:PySem.W.Frag}{σ:L2.St}{H0 F H F' H':Hp}{e e':En}
theorem aG.held(R:aG K F H σ e){own:d_}(h:keeps own e):nz K σ F H own:=fun p hp=>by
  obtain⟨l,vs,h1,h2,h3,h4⟩:=R.own p.1 p.2 (h p hp)
  exact⟨l,vs,h1,h3,h4⟩
theorem aG.step(R:aG K F H σ e)(s:am H H')(sF:am F F')(sm:am F' H')(fz:∀a,F a=none→H a≠none→F' a=none):aG K F' H' σ e∧cj σ F H e F' H' e:=by
  obtain⟨R',o'⟩:=R.keep sF sm (fun a ⟨i,h⟩=>by
    obtain⟨h1,vs,h2⟩:=R.fpAt h
    exact fz a h1 (by rw [h2];simp)) fun a o _ h=>s a o h
  exact⟨R',⟨sF,fun a h=>s.free h,fun a vs h1 h2 _=>fz a h1 (by rw [h2];simp),fun a vs h=>⟨vs,s _ _ h⟩,fun a o h _=>s a o h,fun _=>Iff.rfl,fun a h=>.inl ((o' a).mp h)⟩⟩
inductive pV (K:PySem.W.Frag) (σ:L2.St) (F:Hp) (p:Addr):Bool→List PyData→d_→Prop
  | tup {xs vs}:bY K F p vs→au K F xs vs→pV K σ F p false xs []
  | lst {xs vs}:dj K F p vs→au K F xs vs→pV K σ F p true xs []
  | own {i xs}:σ[i]?=some (some (.ref p))→pV K σ F p true xs [(i,xs)]
theorem pV.at{p:Addr}{b:Bool}{xs:List PyData}{own:d_}{F0:Hp}(h:pV K σ F0 p b xs own)(s0:am F0 F)(s1:am F H){own':d_}(hh:nz K σ F H own')(hs:∀q∈own,q∈own'):∃vs,au K F xs vs∧(if b=true then dj K H p vs else bY K H p vs):=by
  cases h with
  | tup h1 h2=>exact⟨_,h2.mono s0,(s0.trans s1).tup h1⟩
  | lst h1 h2=>exact⟨_,h2.mono s0,(s0.trans s1).seq h1⟩
  | @own i xs h1=>
    obtain⟨l,vs,g1,g2,g3⟩:=hh (i,xs) (hs (i,xs) (by simp))
    dsimp only at g1 g3
    rw [h1] at g1;cases g1
    exact⟨vs,g3,.inl (.inl g2)⟩
def pM(e:En):Rv→Option (Bool × List PyData × d_)
  | .d (.tuple xs)=>some (false,xs,[])
  | .d (.list xs)=>some (true,xs,[])
  | .l xs=>some (true,xs,[])
  | .s i=>match e[i]? with
    | some (some (.l xs))=>some (true,xs,[(i,xs)])
    | _=>none
  | _=>none
theorem gP{r:Rv}{v:V}{b:Bool}{xs:List PyData}{own:d_}(R:aG K F H σ e)(A:bg K σ H0 F H e r v)(h:pM e r=some (b,xs,own)):
    ∃F' p,aG K F' H σ e∧am F F'∧(∀a,F a=none→H0 a≠none→F' a=none)∧v=.ref p∧pV K σ F' p b xs own∧keeps own e:=by
  cases r with
  | d x=>
    cases x with
    | tuple ds=>
      cases h
      obtain⟨a,ys,e1,e2,e3⟩:=bN.mp A
      exact⟨F,a,R,am.refl _,fun _ h _=>h,e1,.tup e2 e3,fun p hp=>by cases hp⟩
    | list ds=>
      cases h
      obtain⟨a,ys,e1,e2,e3⟩:=cx.mp A
      exact⟨F,a,R,am.refl _,fun _ h _=>h,e1,.lst e2 e3,fun p hp=>by cases hp⟩
    | _=>cases h
  | l ys=>
    cases h
    obtain⟨F',R',s',d',f'⟩:=A.frozen R
    obtain⟨a,ys,e1,e2,e3⟩:=cx.mp d'
    exact⟨F',a,R',s',f',e1,.lst e2 e3,fun p hp=>by cases hp⟩
  | s i=>
    obtain⟨h1,ys,h2⟩:=A
    simp only [pM,h2] at h
    cases h
    obtain⟨l,vs,e1,e2,e3,e4⟩:=R.own i _ h2
    rw [h1] at e1;cases e1
    exact⟨F,l,R,am.refl _,fun _ h _=>h,rfl,.own h1,fun p hp=>by simp only [List.mem_singleton] at hp;subst hp;exact h2⟩
theorem mV{p:Addr}{xs:List PyData}{own:d_}{F0:Hp}(h:pV K σ F0 p true xs own):mE K σ (x8 K p) xs own F0:=by
  intro F H s0 s1 hh
  obtain⟨vs,d,q⟩:=h.at s0 s1 hh fun _ h=>h
  have q:dj K H p vs:=q
  refine⟨fun i hi=>⟨vs,vs[i]'(by rw [←d.len];exact hi),q,List.getElem?_eq_getElem _⟩,fun i hi=>⟨vs,q,by rw [←d.len];exact hi⟩,fun i x v H' hx hy=>?_⟩
  obtain⟨rfl,hy⟩:=hy
  obtain⟨w,g1,g2⟩:=d.get hx
  have e:=hy vs q
  rw [g1] at e;cases e
  exact⟨F,am.refl _,am.refl _,s1,fun _ h _=>h,g2⟩
theorem ox{p:Addr}{xs:List PyData}{own:d_}{F0:Hp}(h:pV K σ F0 p false xs own):mE K σ (x9 K p) xs own F0:=by
  intro F H s0 s1 hh
  obtain⟨vs,d,q⟩:=h.at s0 s1 hh fun _ h=>h
  have q:bY K H p vs:=q
  refine⟨fun i hi=>⟨vs,vs[i]'(by rw [←d.len];exact hi),q,List.getElem?_eq_getElem _⟩,fun i hi=>⟨vs,q,by rw [←d.len];exact hi⟩,fun i x v H' hx hy=>?_⟩
  obtain⟨rfl,hy⟩:=hy
  obtain⟨w,g1,g2⟩:=d.get hx
  have e:=hy vs q
  rw [g1] at e;cases e
  exact⟨F,am.refl _,am.refl _,s1,fun _ h _=>h,g2⟩
theorem kn{p:Addr}{x y:V}{a b:PyData}(s1:am F H)(hp:H p=none)(hx:DA K F a x)(hy:DA K F b y):∃F',am H (aF H p (.tup [x,y]))∧am F F'∧am F' (aF H p (.tup [x,y]))∧(∀c,F c=none→H c≠none→F' c=none)∧DA K F' (.tuple [a,b]) (.ref p):=by
  have hF:F p=none:=s1.free hp
  have sF:am F (aF F p (.tup [x,y])):=am.new hF
  refine⟨aF F p (.tup [x,y]),am.new hp,sF,fun b o q=>?_,fun c h n=>?_,bN.mpr ⟨p,_,rfl,.inl (.inl aq),.cons (DA.mono sF hx) (.one (DA.mono sF hy))⟩⟩
  · by_cases z:b=p
    · subst z;rw [aq] at q ⊢;exact q
    · rw [av z] at q ⊢;exact s1 _ _ q
  · have z:c≠p:=fun z=>n (by rw [z];exact hp)
    rw [av z];exact h
def cC:Nat→List PyData→List PyData
  | _,[]=>[]
  | n,x::r=>.tuple [.int n,x]::cC (n+1) r
theorem ey:∀{xs:List PyData} {n i:Nat},(cC n xs)[i]?=(xs[i]?).map fun x=>.tuple [.int ((n+i:Nat):Int),x]
  | [],n,i=>by simp [cC]
  | x::r,n,0=>by simp [cC]
  | x::r,n,i+1=>by
    simp only [cC,List.getElem?_cons_succ]
    rw [ey (xs:=r) (n:=n+1) (i:=i)]
    congr 1
    funext y
    rw [show n+1+i=n+(i+1) by lia]
theorem dq:∀(xs:List PyData) (n:Nat),(cC n xs).length=xs.length
  | [],_=>rfl
  | x::r,n=>by simp [cC,dq r (n+1)]
theorem lA{p:Addr}{xs:List PyData}{own:d_}{F0:Hp}(h:pV K σ F0 p true xs own):mE K σ (sX K p) (cC 0 xs) own F0:=by
  intro F H s0 s1 hh
  obtain⟨vs,d,q⟩:=h.at s0 s1 hh fun _ h=>h
  have q:dj K H p vs:=q
  rw [dq]
  refine⟨fun i hi=>⟨vs,vs[i]'(by rw [←d.len];exact hi),q,List.getElem?_eq_getElem _⟩,fun i hi=>⟨vs,q,by rw [←d.len];exact hi⟩,fun i x v H' hx hy=>?_⟩
  obtain⟨t,y,rfl,ht,rfl,hy⟩:=hy
  rw [ey] at hx
  obtain⟨x',hx2,rfl⟩:=Option.map_eq_some_iff.mp hx
  obtain⟨w,g1,g2⟩:=d.get hx2
  have e:=hy vs q
  rw [g1] at e;cases e
  exact kn s1 ht (bv.mpr (by simp)) g2
theorem lB{p:Addr}{xs:List PyData}{own:d_}{F0:Hp}(h:pV K σ F0 p false xs own):mE K σ (sY K p) (cC 0 xs) own F0:=by
  intro F H s0 s1 hh
  obtain⟨vs,d,q⟩:=h.at s0 s1 hh fun _ h=>h
  have q:bY K H p vs:=q
  rw [dq]
  refine⟨fun i hi=>⟨vs,vs[i]'(by rw [←d.len];exact hi),q,List.getElem?_eq_getElem _⟩,fun i hi=>⟨vs,q,by rw [←d.len];exact hi⟩,fun i x v H' hx hy=>?_⟩
  obtain⟨t,y,rfl,ht,rfl,hy⟩:=hy
  rw [ey] at hx
  obtain⟨x',hx2,rfl⟩:=Option.map_eq_some_iff.mp hx
  obtain⟨w,g1,g2⟩:=d.get hx2
  have e:=hy vs q
  rw [g1] at e;cases e
  exact kn s1 ht (bv.mpr (by simp)) g2
def aI(lo:Int)(n:Nat):List PyData:=(List.range n).map fun(i:Nat)=>.int (lo+(i:Int))
theorem lC{lo:Int}{n:Nat}{F0:Hp}:mE K σ (xP lo n) (aI lo n) [] F0:=by
  intro F H s0 s1 hh
  unfold aI
  rw [List.length_map,List.length_range]
  refine⟨fun i hi=>hi,fun i hi=>hi,fun i x v H' hx hy=>?_⟩
  obtain⟨rfl,rfl⟩:=hy
  rw [List.getElem?_map] at hx
  obtain⟨k,h1,rfl⟩:=Option.map_eq_some_iff.mp hx
  have h2:=(List.getElem?_eq_some_iff.mp h1).2
  simp at h2
  subst h2
  exact⟨F,am.refl _,am.refl _,s1,fun _ h _=>h,bv.mpr rfl⟩
end
inductive x6 (K:PySem.W.Frag) (own:d_) (σ0:L2.St) (F1:Hp) (P:En→Prop) (G:L2.St→Hp→Hp→En→Prop) (σ:L2.St) (H:Hp):Prop
  | mk {F:Hp} {e:En} (R:aG K F H σ e) (kp:keeps own e) (hσ:∀p∈own,σ[p.1]?=σ0[p.1]?) (sF:am F1 F) (hf:P e) (q:G σ F H e):x6 K own σ0 F1 P G σ H
section
variable{X:Cx}{K:PySem.W.Frag}{tg a b:Expr}{es:List Expr}{fa:FE}{fs:FA}{pos p tp:Pos}{k0:Nat}
def gF(fa:FE):FI:=fun e=>(fa e).bind fun p=>(pM p.2 p.1).map fun s=>(s.2.1,s.2.2,p.2)
theorem jR(hK:X.K=K)(h:PE X a (fE K fa)):PI X tg a (fI K (gF fa)):=((oZ (tg:=tg) hK h).or (qY (tg:=tg) hK h)).mono fun σ H R hh=>by
  obtain⟨F,e,items,own,e',R0,hf,q⟩:=hh
  unfold gF at hf
  obtain⟨⟨r,e1⟩,h1,hf⟩:=Option.bind_eq_some_iff.mp hf
  obtain⟨⟨b,xs,ow⟩,h2,hf⟩:=Option.map_eq_some_iff.mp hf
  cases hf
  cases b with
  | true=>
    refine .inl ⟨F,e,r,e1,R0,h1,fun F1 H1 v X1 R1 A1=>?_⟩
    obtain⟨F2,p,R2,s2,f2,rfl,sc,kp⟩:=gP R1 A1 h2
    obtain⟨vs,_,c⟩:=sc.at (am.refl _) R2.sm (R2.held kp) fun _ h=>h
    exact⟨p,rfl,⟨vs,c⟩,q _ F2 H1 (X1.frz s2 f2) R2 kp (mV sc)⟩
  | false=>
    refine .inr ⟨F,e,r,e1,R0,h1,fun F1 H1 v X1 R1 A1=>?_⟩
    obtain⟨F2,p,R2,s2,f2,rfl,sc,kp⟩:=gP R1 A1 h2
    obtain⟨vs,_,c⟩:=sc.at (am.refl _) R2.sm (R2.held kp) fun _ h=>h
    exact⟨p,rfl,⟨vs,c⟩,q _ F2 H1 (X1.frz s2 f2) R2 kp (ox sc)⟩
def kh(fs:FA):FI:=fun e=>(fs e).bind fun p=>match p.1 with
  | [r]=>(pM p.2 r).map fun s=>(cC 0 s.2.1,s.2.2,p.2)
  | _=>none
theorem mh(hK:X.K=K)(hg:Gl X "enumerate")(hm:X.mg "enumerate"=none)(ha:PA X [a] (fA K fs))(hs:starEach [a] X.env=[(false,eval a X.env)]):PI X (.Tuple es k0 tp) (.Call (.Name "enumerate" p) [a] [] pos) (fI K (kh fs)):=((oX (es:=es) (k0:=k0) (tp:=tp) hK hg hm ha hs).or (oY (es:=es) (k0:=k0) (tp:=tp) hK hg hm ha hs)).mono fun σ H R hh=>by
  obtain⟨F,e,items,own,e',R0,hf,q⟩:=hh
  unfold kh at hf
  obtain⟨⟨rs,e1⟩,h1,hf⟩:=Option.bind_eq_some_iff.mp hf
  match rs,h1,hf with
  | [r],h1,hf=>
  obtain⟨⟨b,xs,ow⟩,h2,hf⟩:=Option.map_eq_some_iff.mp hf
  cases hf
  cases b with
  | true=>
    refine .inl ⟨F,e,_,e1,R0,h1,fun F1 H1 vs X1 R1 A1=>?_⟩
    obtain⟨v,rfl,A2⟩:=eG A1
    obtain⟨F2,p,R2,s2,f2,rfl,sc,kp⟩:=gP R1 A2 h2
    obtain⟨vs,_,c⟩:=sc.at (am.refl _) R2.sm (R2.held kp) fun _ h=>h
    exact⟨p,rfl,⟨vs,c⟩,q _ F2 H1 (X1.frz s2 f2) R2 kp (lA sc)⟩
  | false=>
    refine .inr ⟨F,e,_,e1,R0,h1,fun F1 H1 vs X1 R1 A1=>?_⟩
    obtain⟨v,rfl,A2⟩:=eG A1
    obtain⟨F2,p,R2,s2,f2,rfl,sc,kp⟩:=gP R1 A2 h2
    obtain⟨vs,_,c⟩:=sc.at (am.refl _) R2.sm (R2.held kp) fun _ h=>h
    exact⟨p,rfl,⟨vs,c⟩,q _ F2 H1 (X1.frz s2 f2) R2 kp (lB sc)⟩
def pB(j:Int):Bool:=decide (-1000000≤j)&&decide (j≤1000000)
theorem pC{j:Int}(h:pB j=true): -1000000≤j∧j≤1000000:=by
  unfold pB at h
  rw [Bool.and_eq_true,decide_eq_true_iff,decide_eq_true_iff] at h
  exact h
def bR(fs:FA):FI:=fun e=>(fs e).bind fun p=>match p.1 with
  | [r]=>(bS r).bind fun j=>if pB j=true then some (aI 0 j.toNat,[],p.2) else none
  | _=>none
theorem b_(hg:Gl X "range")(hm:X.mg "range"=none)(ha:PA X [a] (fA K fs))(hs:starEach [a] X.env=[(false,eval a X.env)]):PI X tg (.Call (.Name "range" p) [a] [] pos) (fI K (bR fs)):=(m6 hg hm ha hs).mono fun σ H R hh=>by
  obtain⟨F,e,items,own,e',R0,hf,q⟩:=hh
  unfold bR at hf
  obtain⟨⟨rs,e1⟩,h1,hf⟩:=Option.bind_eq_some_iff.mp hf
  match rs,h1,hf with
  | [r],h1,hf=>
  obtain⟨j,h2,hf⟩:=Option.bind_eq_some_iff.mp hf
  split at hf
  case isFalse=>cases hf
  case isTrue hj=>
  cases hf
  refine⟨F,e,_,e1,R0,h1,fun F1 H1 vs X1 R1 A1=>?_⟩
  obtain⟨v,rfl,A2⟩:=eG A1
  have:=pC hj
  exact⟨j,by rw [bh A2 h2],by lia,by lia,q _ F1 H1 X1 R1 (fun _ h=>by cases h) lC⟩
open Classical in
noncomputable def hR(own:d_)(g:FG)(f:FS):List PyData→FS
  | [],e=>some (.nx e)
  | x::r,e=>(g x e).bind fun e1=>(f e1).bind fun fl=>match fl with
    | .nx e2=>if keeps own e2 then hR own g f r e2 else none
    | .ct e2=>if keeps own e2 then hR own g f r e2 else none
    | .bk e2=>some (.nx e2)
    | .rt v e2=>some (.rt v e2)
noncomputable def ec(W:List Nat)(fi:FI)(g:FG)(f:FS):FS:=fun e=>(fi e).bind fun p=>if (p.2.1.all fun q=> !W.contains q.1)=true then hR p.2.1 g f p.1 p.2.2 else none
theorem eS{W1 W2:List Nat}{iter:Expr}{body:List Stmt}{fi:FI}{g:FG}{f:FS}(hp:PassesOwn (model X.prog X.w) X.A X.env X.xe)(hc:X.calm=true)(hi:PI X tg iter (fI K fi))(hg:PG X tg (fG K g W1))(hb:gE X body (fS K f W2))(hs:∀x,foldedSetIterable iter X.env x=pure x):
    PS X (.For tg iter body [] pos) (fS K (ec (W1++W2) fi g f) (W1++W2)):=(uH hp hc hi hg hb hs).mono fun D σ0 H0 hh=>by
  obtain⟨F0,e0,fl,R0,hf,q0⟩:=hh
  unfold ec at hf
  obtain⟨⟨items,own,e1⟩,h1,hf⟩:=Option.bind_eq_some_iff.mp hf
  dsimp only at hf
  split at hf
  case isFalse=>cases hf
  case isTrue hW=>
  have hW':∀p∈own,p.1∉W1++W2:=fun p hp=>by
    have:=List.all_eq_true.mp hW p hp
    simpa using this
  refine⟨F0,e0,items,own,e1,R0,h1,fun J F1 H1 X1 R1 kp ok=>?_⟩
  have s1:∀j,j∈W1→j∈W1++W2:=fun j h=>List.mem_append.mpr (.inl h)
  have s2:∀j,j∈W2→j∈W1++W2:=fun j h=>List.mem_append.mpr (.inr h)
  have q1:g_ K (W1++W2) σ0 F1 H1 e1 D fl:=q0.later (W1:=[]) X1.s (fun j h=>by cases h) fun j h=>h
  refine⟨fun i m σ H=>m=items.length - i∧i≤items.length∧x6 K own σ0 F1 (fun e=>hR own g f (items.drop i) e=some fl) (fun σ F H e=>g_ K (W1++W2) σ F H e D fl) σ H,
    ⟨items.length,by simp,Nat.zero_le _,.mk R1 kp (fun _ _=>rfl) (am.refl _) hf q1⟩,?_⟩
  rintro i m σ H ⟨rfl,hi,⟨R,kp,hσ,sF,hf,q⟩⟩
  rename_i F e
  have held:nz K σ0 F H own:=fun p hp=>by
    obtain⟨l,vs,g1,g2⟩:=R.held kp p hp
    exact⟨l,vs,by rw [←hσ p hp];exact g1,g2⟩
  obtain⟨go,stop,yld⟩:=ok F H sF R.sm held
  by_cases hlt:i < items.length
  · have hd:items.drop i=items[i]::items.drop (i+1):=List.drop_eq_getElem_cons hlt
    rw [hd] at hf
    unfold hR at hf
    obtain⟨e2,h2,hf⟩:=Option.bind_eq_some_iff.mp hf
    obtain⟨fl2,h3,hf⟩:=Option.bind_eq_some_iff.mp hf
    refine .inr ⟨go i hlt,x6 K own σ0 F1 (fun e=>hR own g f (items.drop (i+1)) e=some fl) (fun σ F H e=>g_ K (W1++W2) σ F H e D fl),
      fun σ' H' r=>⟨items.length - (i+1),by lia,rfl,hlt,r⟩,fun x H' hy=>?_⟩
    obtain⟨F',sH,sF',sm',fz,hx⟩:=yld i items[i] x H' (List.getElem?_eq_getElem hlt) hy
    obtain⟨R',X'⟩:=R.step sH sF' sm' fz
    refine⟨F',e,items[i],e2,R',hx,h2,fun σ2 x2 R2=>⟨F',e2,fl2,R2,h3,?_⟩⟩
    have q2:g_ K (W1++W2) σ2 F' H' e2 D fl:=(q.later (W1:=[]) (W2:=W1++W2) X'.s (fun j h=>by cases h) fun j h=>h).later x2 s1 fun j h=>h
    have w2:∀p∈own,σ2[p.1]?=σ0[p.1]?:=fun p hp=>(x2.wr p.1 fun z=>hW' p hp (s1 _ z)).trans (hσ p hp)
    cases fl2 with
    | nx e3=>
      intro F3 H3 σ3 x3 R3
      dsimp only at hf
      split at hf
      case isFalse=>cases hf
      case isTrue kp3=>
      exact .mk R3 kp3 (fun p hp=>(x3.wr p.1 fun z=>hW' p hp (s2 _ z)).trans (w2 p hp)) (sF.trans (sF'.trans x3.sf)) hf (q2.later x3 s2 fun j h=>h)
    | ct e3=>
      intro F3 H3 σ3 x3 R3
      dsimp only at hf
      split at hf
      case isFalse=>cases hf
      case isTrue kp3=>
      exact .mk R3 kp3 (fun p hp=>(x3.wr p.1 fun z=>hW' p hp (s2 _ z)).trans (w2 p hp)) (sF.trans (sF'.trans x3.sf)) hf (q2.later x3 s2 fun j h=>h)
    | bk e3=>
      cases hf
      exact fun F3 H3 σ3 x3 R3=>q2 F3 H3 σ3 (x3.mono s2) R3
    | rt r e3=>
      cases hf
      exact fun F3 H3 σ3 v x3 R3 A3=>q2 F3 H3 σ3 v (x3.mono s2) R3 A3
  · have hd:items.drop i=[]:=List.drop_eq_nil_of_le (by lia)
    rw [hd] at hf
    cases hf
    exact .inl ⟨stop i (by lia),q F H σ bV.refl R⟩
end
end L2
namespace L2
open PySem PySem.Spec PyProof.Rows
def p0:Option (Option Sv)→Bool
  | some (some (.l _))=>true
  | _=>false
theorem qo{s:Option (Option Sv)}:p0 s=true↔ ∃xs,s=some (some (.l xs)):=by
  unfold p0
  split
  · simp
  · rename_i h
    constructor
    · intro z;cases z
    · rintro⟨xs,rfl⟩;exact absurd rfl (h xs)
def iB(pos:Nat→Option Nat)(ei e:En):En:=e.mapIdx fun i s=>match s with
  | some (.l xs)=>match pos i with
    | some k=>(ei[k]?).join
    | none=>some (.l xs)
  | s=>s
theorem ba{pos:Nat→Option Nat}{ei e:En}{i:Nat}:(iB pos ei e)[i]?=(e[i]?).map fun s=>match s with
  | some (.l xs)=>match pos i with
    | some k=>(ei[k]?).join
    | none=>some (.l xs)
  | s=>s:=by unfold iB;rw [List.getElem?_mapIdx]
structure j4 (σ:L2.St) (e:En) (σi:L2.St) (ei:En) (pos:Nat→Option Nat):Prop where
  a:∀(i k:Nat) (xs:List PyData),e[i]?=some (some (.l xs))→pos i=some k→σi[k]?=σ[i]?
  b:∀(k:Nat) (ys:List PyData),ei[k]?=some (some (.l ys))→∃(i:Nat) (xs:List PyData),e[i]?=some (some (.l xs))∧pos i=some k∧σi[k]?=σ[i]?
section
variable{K:PySem.W.Frag}{σ σi σi':L2.St}{F H F' H':Hp}{e ei ei':En}{pos:Nat→Option Nat}
def vG(e:En):Prop:=∀(i:Nat) (xss:List (List PyData)),e[i]?≠some (some (.n xss))
theorem j4.own(s:j4 σ e σi ei pos)(hn:vG ei){a:Addr}{H H':Hp}(h:bX σi ei H a):∃(i k:Nat) (xs:List PyData),e[i]?=some (some (.l xs))∧pos i=some k∧σ[i]?=some (some (.ref a)):=by
  obtain⟨k,⟨ys,h1,h2⟩ | ⟨xss,_,_,h1,_⟩⟩:=h
  · obtain⟨i,xs,g1,g2,g3⟩:=s.b k ys h1
    exact⟨i,k,xs,g1,g2,by rw [←g3];exact h2⟩
  · exact absurd h1 (hn k xss)
theorem kW(R:aG K F H σ e)(s:j4 σ e σi ei pos)(hnn:vG ei)(sf:am F F')(dom:∀a,H' a=none→H a=none)(fr:∀a vs,F a=none→H a=some (.lst vs)→¬bX σi ei H a→F' a=none)(lst:∀a vs,H a=some (.lst vs)→∃vs',H' a=some (.lst vs'))
    (tmp:∀a o,H a=some o→¬bX σi ei H a→H' a=some o)(R':aG K F' H' σi' ei')(hσ:∀(i k:Nat) (xs:List PyData),e[i]?=some (some (.l xs))→pos i=some k→σi'[k]?=σi[k]?)(hsh:∀(i k:Nat) (xs:List PyData),e[i]?=some (some (.l xs))→pos i=some k→∃ys,ei'[k]?=some (some (.l ys))):
    aG K F' H' σ (iB pos ei' e)∧cj σ F H e F' H' (iB pos ei' e)∧∀a,bX σ (iB pos ei' e) H' a→bX σ e H a:=by
  have shp:∀i:Nat,(∃xs,(iB pos ei' e)[i]?=some (some (.l xs)))↔ (∃xs,e[i]?=some (some (.l xs))):=by
    intro i
    rw [ba]
    match h:e[i]? with
    | none=>simp
    | some none=>simp
    | some (some (.d x))=>simp
    | some (some (.n x))=>simp
    | some (some (.l xs))=>
      simp only [Option.map_some]
      constructor
      · intro _;exact⟨xs,rfl⟩
      · intro _
        match hp:pos i with
        | none=>exact⟨xs,rfl⟩
        | some k=>
          obtain⟨ys,g⟩:=hsh i k xs h hp
          exact⟨ys,by show some ((ei'[k]?).join)=_;rw [g];rfl⟩
  have oth:∀(i:Nat) (s:Sv),(∀xs,s≠.l xs)→((iB pos ei' e)[i]?=some (some s)↔ e[i]?=some (some s)):=by
    intro i s hs
    constructor
    · intro h
      rw [ba] at h
      match h1:e[i]?,h with
      | some (some (.d y)),h=>exact h
      | some (some (.n y)),h=>exact h
      | some (some (.l ys)),h=>
        simp only [Option.map_some,Option.some.injEq] at h
        match hp:pos i,h with
        | none,h=>cases h;exact absurd rfl (hs _)
        | some k,h=>
          obtain⟨zs,g⟩:=hsh i k ys h1 hp
          change (ei'[k]?).join=_ at h
          rw [g] at h;cases h;exact absurd rfl (hs _)
      | some none,h=>simp at h
      | none,h=>simp at h
    · intro h
      rw [ba,h]
      cases s with
      | d y=>rfl
      | n y=>rfl
      | l y=>exact absurd rfl (hs y)
  have out:∀i a,Fp σ e H i a→(∀k xs,e[i]?=some (some (.l xs))→pos i≠some k)→¬bX σi ei H a:=by
    intro i a hi hp z
    obtain⟨j,k,ws,d1,d2,d3⟩:=s.own hnn (H':=H') z
    have:i=j:=R.fp i j a hi (.inl ⟨ws,d1,d3⟩)
    subst this
    exact hp k ws d1 d2
  have keep:∀i a o,Fp σ e H i a→(∀k xs,e[i]?=some (some (.l xs))→pos i≠some k)→H a=some o→H' a=some o:=fun i a o hi hp ha=>tmp a o ha (out i a hi hp)
  have sown:∀a,bX σi ei H a→bX σ e H a:=fun a z=>by
    obtain⟨j,k,ws,d1,d2,d3⟩:=s.own hnn (H':=H') z
    exact⟨j,.inl ⟨ws,d1,d3⟩⟩
  have fs:∀i a,Fp σ (iB pos ei' e) H' i a↔ Fp σ e H i a:=by
    intro i a
    have key:∀xss l,e[i]?=some (some (.n xss))→σ[i]?=some (some (.ref l))→H' l=H l:=fun xss l h1 h2=>by
      obtain⟨l',bs,g1,g2,g3,_⟩:=R.nst i xss h1
      rw [h2] at g1;cases g1
      rw [g3]
      exact keep i l _ (.inr ⟨xss,l,bs,h1,h2,g3,.inl rfl⟩) (fun k xs z=>by rw [h1] at z;cases z) g3
    constructor
    · rintro(⟨xs,h1,h2⟩ | ⟨xss,l,bs,h1,h2,h3,h4⟩)
      · obtain⟨ys,h⟩:=(shp i).mp ⟨xs,h1⟩
        exact .inl ⟨ys,h,h2⟩
      · have h1':=(oth i (.n xss) (fun _ z=>nomatch z)).mp h1
        exact .inr ⟨xss,l,bs,h1',h2,by rw [←key xss l h1' h2];exact h3,h4⟩
    · rintro(⟨xs,h1,h2⟩ | ⟨xss,l,bs,h1,h2,h3,h4⟩)
      · obtain⟨ys,h⟩:=(shp i).mpr ⟨xs,h1⟩
        exact .inl ⟨ys,h,h2⟩
      · exact .inr ⟨xss,l,bs,(oth i (.n xss) (fun _ z=>nomatch z)).mpr h1,h2,by rw [key xss l h1 h2];exact h3,h4⟩
  refine⟨⟨R'.sm,?_,fun i x h=>?_,fun i xs h=>?_,fun i xss h=>?_,fun i j a h1 h2=>R.fp i j a ((fs i a).mp h1) ((fs j a).mp h2)⟩,⟨sf,dom,fun a vs h1 h2 n=>fr a vs h1 h2 fun z=>n (sown a z),lst,fun a o h n=>tmp a o h fun z=>n (sown a z),shp,fun a ⟨i,h⟩=>.inl ⟨i,(fs i a).mp h⟩⟩,fun a ⟨i,h⟩=>⟨i,(fs i a).mp h⟩⟩
  · unfold iB;rw [List.length_mapIdx];exact R.len
  · obtain⟨v,g1,g2⟩:=R.dat i x ((oth i (.d x) (fun _ z=>nomatch z)).mp h)
    exact⟨v,g1,DA.mono sf g2⟩
  · obtain⟨ys,h1⟩:=(shp i).mp ⟨xs,h⟩
    obtain⟨l,vs,g1,g2,g3,g4⟩:=R.own i ys h1
    rw [ba,h1] at h
    simp only [Option.map_some,Option.some.injEq] at h
    match hp:pos i,h with
    | none,h=>
      cases h
      have np:∀k xs,e[i]?=some (some (Sv.l xs))→pos i≠some k:=fun k xs _ z=>by rw [hp] at z;cases z
      have fi:Fp σ e H i l:=.inl ⟨_,h1,g1⟩
      exact⟨l,vs,g1,fr l vs g2 g3 (out i l fi np),keep i l _ fi np g3,g4.mono sf⟩
    | some k,h=>
      obtain⟨zs,c1⟩:=hsh i k ys h1 hp
      change (ei'[k]?).join=_ at h
      rw [c1] at h;cases h
      obtain⟨l',vs',d1,d2,d3,d4⟩:=R'.own k _ c1
      rw [hσ i k ys h1 hp,s.a i k ys h1 hp] at d1
      exact⟨l',vs',d1,d2,d3,d4⟩
  · have h1:=(oth i (.n xss) (fun _ z=>nomatch z)).mp h
    obtain⟨l,bs,g1,g2,g3,g4,g5,g6,g7⟩:=R.nst i xss h1
    have np:∀k xs,e[i]?=some (some (Sv.l xs))→pos i≠some k:=fun k xs z=>by rw [h1] at z;cases z
    have fi:Fp σ e H i l:=.inr ⟨xss,l,bs,h1,g1,g3,.inl rfl⟩
    refine⟨l,bs,g1,fr l _ g2 g3 (out i l fi np),keep i l _ fi np g3,g4,g5,g6,fun k b ys q1 q2=>?_⟩
    obtain⟨c1,us,c2,c3⟩:=g7 k b ys q1 q2
    have fb:Fp σ e H i b:=.inr ⟨xss,l,bs,h1,g1,g3,.inr (List.mem_of_getElem? q1)⟩
    exact⟨fr b _ c1 c2 (out i b fb np),us,keep i b _ fb np c2,c3.mono sf⟩
end
def bL(e:En):List Rv→Option (List Sv)
  | []=>some []
  | .d x::r=>(bL e r).map (.d x::·)
  | .l xs::r=>(bL e r).map (.d (.list xs)::·)
  | .s i::r=>match e[i]? with
    | some (some (.l xs))=>(bL e r).map (.l xs::·)
    | _=>none
def ar:List Rv→List Nat
  | []=>[]
  | .s i::r=>i::ar r
  | .d _::r=>ar r
  | .l _::r=>ar r
def eQ(rs:List Rv)(i:Nat):Option Nat:=rs.findIdx? fun r=>match r with
  | .s j=>j==i
  | _=>false
def noS:Rv→Prop
  | .s _=>False
  | _=>True
abbrev FM:=List Sv→Option (Rv × List Sv)
def cZ(K:PySem.W.Frag)(n:Nat)(m:FM):Sp:=fun vs H Q _=>vs.length=n∧∃F as r as',aG K F H (vs.map some) (as.map some)∧vG (as.map some)∧m as=some (r,as')∧noS r∧
  ∀F' H' v,cj (vs.map some) F H (as.map some) F' H' (as'.map some)→aG K F' H' (vs.map some) (as'.map some)→bg K (vs.map some) H F' H' (as'.map some) r v→Q v H'
def aN:List Rv→List Sv→Bool
  | [],[]=>true
  | .s _::r,.l _::s=>aN r s
  | .d _::r,_::s=>aN r s
  | .l _::r,_::s=>aN r s
  | _,_=>false
def tY:Rv→Bool
  | .s _=>false
  | _=>true
def c_:List Rv→List Sv→En→En
  | .s i::r,.l ys::s,e=>c_ r s (e.set i (some (.l ys)))
  | .d _::r,_::s,e=>c_ r s e
  | .l _::r,_::s,e=>c_ r s e
  | _,_,e=>e
def di(n:Nat)(m:FM)(fs:FA):FE:=fun e=>(fs e).bind fun p=>(bL p.2 p.1).bind fun as=>(m as).bind fun z=>if p.1.length=n∧(ar p.1).Nodup∧aN p.1 z.2=true∧tY z.1=true then some (z.1,c_ p.1 z.2 p.2) else none
theorem dQ:∀{rs:List Rv} {as:List Sv},aN rs as=true→∀(k i:Nat),rs[k]?=some (.s i)→∃ys,as[k]?=some (.l ys)
  | [],[],_,k,i,h=>by simp at h
  | .s j::r,.l ys::s,h,k,i,hk=>by
    cases k with
    | zero=>exact⟨ys,rfl⟩
    | succ k=>simpa using dQ (rs:=r) (as:=s) (by simpa [aN] using h) k i (by simpa using hk)
  | .d x::r,y::s,h,k,i,hk=>by
    cases k with
    | zero=>simp at hk
    | succ k=>simpa using dQ (rs:=r) (as:=s) (by simpa [aN] using h) k i (by simpa using hk)
  | .l x::r,y::s,h,k,i,hk=>by
    cases k with
    | zero=>simp at hk
    | succ k=>simpa using dQ (rs:=r) (as:=s) (by simpa [aN] using h) k i (by simpa using hk)
  | .s _::_,.d _::_,h,_,_,_=>by simp [aN] at h
  | .s _::_,[],h,_,_,_=>by simp [aN] at h
  | .d _::_,[],h,_,_,_=>by simp [aN] at h
  | .l _::_,[],h,_,_,_=>by simp [aN] at h
theorem gg{r0:Rv}{rs:List Rv}{i:Nat}:eQ (r0::rs) i=if (match r0 with | .s j=>j==i | _=>false)=true then some 0 else(eQ rs i).map (· +1):=by
  unfold eQ;rw [List.findIdx?_cons]
theorem gh{rs:List Rv}{i k:Nat}(h:eQ rs i=some k):rs[k]?=some (.s i):=by
  unfold eQ at h
  rw [List.findIdx?_eq_some_iff_getElem] at h
  obtain⟨hk,h1,_⟩:=h
  rw [List.getElem?_eq_getElem hk]
  split at h1
  · rename_i heq
    rw [heq]
    have:=eq_of_beq h1
    rw [this]
  · cases h1
theorem cS:∀{rs:List Rv} {i:Nat},i∈ar rs↔ Rv.s i∈rs
  | [],i=>by simp [ar]
  | .s j::r,i=>by simp [ar,cS (rs:=r)]
  | .d x::r,i=>by simp [ar,cS (rs:=r)]
  | .l x::r,i=>by simp [ar,cS (rs:=r)]
theorem cY:∀{rs:List Rv} {i k j:Nat},(ar rs).Nodup→rs[k]?=some (.s i)→rs[j]?=some (.s i)→k=j
  | [],i,k,j,_,h,_=>by simp at h
  | .s m::r,i,k,j,hn,h1,h2=>by
    simp only [ar,List.nodup_cons] at hn
    cases k with
    | zero=>
      simp at h1;subst h1
      cases j with
      | zero=>rfl
      | succ j=>exact absurd (cS.mpr (List.mem_of_getElem? (by simpa using h2))) hn.1
    | succ k=>
      cases j with
      | zero=>
        simp at h2;subst h2
        exact absurd (cS.mpr (List.mem_of_getElem? (by simpa using h1))) hn.1
      | succ j=>
        have:=cY (rs:=r) (i:=i) (k:=k) (j:=j) hn.2 (by simpa using h1) (by simpa using h2)
        lia
  | .d x::r,i,k,j,hn,h1,h2=>by
    cases k with
    | zero=>simp at h1
    | succ k=>
      cases j with
      | zero=>simp at h2
      | succ j=>
        have:=cY (rs:=r) (i:=i) (k:=k) (j:=j) (by simpa [ar] using hn) (by simpa using h1) (by simpa using h2)
        lia
  | .l x::r,i,k,j,hn,h1,h2=>by
    cases k with
    | zero=>simp at h1
    | succ k=>
      cases j with
      | zero=>simp at h2
      | succ j=>
        have:=cY (rs:=r) (i:=i) (k:=k) (j:=j) (by simpa [ar] using hn) (by simpa using h1) (by simpa using h2)
        lia
theorem o6{rs:List Rv}{i:Nat}(h:i∉ar rs):eQ rs i=none:=by
  unfold eQ
  rw [List.findIdx?_eq_none_iff]
  intro r hr
  cases r with
  | d x=>rfl
  | l x=>rfl
  | s j=>
    have:j≠i:=fun z=>h (by rw [←z];exact cS.mpr hr)
    simpa using this
theorem gM:∀{rs:List Rv} {as:List Sv} {e:En},(ar rs).Nodup→aN rs as=true→(∀j∈ar rs,∃xs,e[j]?=some (some (.l xs)))→c_ rs as e=iB (eQ rs) (as.map some) e
  | [],[],e,_,_,_=>by
    refine List.ext_getElem? fun i=>?_
    rw [ba]
    have:eQ [] i=none:=rfl
    rw [this]
    simp only [c_]
    match e[i]? with
    | none=>rfl
    | some none=>rfl
    | some (some (.d x))=>rfl
    | some (some (.l x))=>rfl
    | some (some (.n x))=>rfl
  | .d x::r,y::s,e,hn,hl,hs=>by
    rw [show c_ (.d x::r) (y::s) e=c_ r s e from rfl,gM (by simpa [ar] using hn) (by simpa [aN] using hl) (fun j hj=>hs j (by simpa [ar] using hj))]
    refine List.ext_getElem? fun i=>?_
    rw [ba,ba,gg]
    cases eQ r i<;>simp
  | .l x::r,y::s,e,hn,hl,hs=>by
    rw [show c_ (.l x::r) (y::s) e=c_ r s e from rfl,gM (by simpa [ar] using hn) (by simpa [aN] using hl) (fun j hj=>hs j (by simpa [ar] using hj))]
    refine List.ext_getElem? fun i=>?_
    rw [ba,ba,gg]
    cases eQ r i<;>simp
  | .s k::r,.l ys::s,e,hn,hl,hs=>by
    simp only [ar,List.nodup_cons] at hn
    obtain⟨xs,hk⟩:=hs k (by simp [ar])
    have hlt:k < e.length:=(List.getElem?_eq_some_iff.mp hk).1
    rw [show c_ (.s k::r) (.l ys::s) e=c_ r s (e.set k (some (.l ys))) from rfl,gM hn.2 (by simpa [aN] using hl) (fun j hj=>by
      have z:k≠j:=fun z=>hn.1 (by rw [z];exact hj)
      rw [List.getElem?_set_ne z]
      exact hs j (by simp [ar,hj]))]
    refine List.ext_getElem? fun i=>?_
    rw [ba,ba,gg]
    by_cases z:k=i
    · subst z
      rw [List.getElem?_set_self hlt,hk,o6 hn.1]
      simp
    · rw [List.getElem?_set_ne z]
      have:((match (Rv.s k) with | .s j=>j==i | _=>false)=true)=False:=by simp [z]
      simp only [this,if_false]
      cases eQ r i<;>simp
  | .s _::_,.d _::_,_,_,h,_=>by simp [aN] at h
  | .s _::_,.n _::_,_,_,h,_=>by simp [aN] at h
  | .s _::_,[],_,_,h,_=>by simp [aN] at h
  | .d _::_,[],_,_,h,_=>by simp [aN] at h
  | .l _::_,[],_,_,h,_=>by simp [aN] at h
  | [],_::_,_,_,h,_=>by simp [aN] at h
theorem cF{e:En}:∀{rs:List Rv} {as:List Sv},bL e rs=some as→∀j∈ar rs,∃xs,e[j]?=some (some (.l xs))
  | [],_,_,j,h=>by simp [ar] at h
  | .d x::rs,as,q,j,h=>by
    obtain⟨as',q1,rfl⟩:=Option.map_eq_some_iff.mp q
    exact cF q1 j (by simpa [ar] using h)
  | .l x::rs,as,q,j,h=>by
    obtain⟨as',q1,rfl⟩:=Option.map_eq_some_iff.mp q
    exact cF q1 j (by simpa [ar] using h)
  | .s k::rs,as,q,j,h=>by
    unfold bL at q
    match he:e[k]?,q with
    | some (some (.l xs)),q=>
      obtain⟨as',q1,rfl⟩:=Option.map_eq_some_iff.mp q
      simp only [ar,List.mem_cons] at h
      rcases h with rfl | h
      · exact⟨xs,he⟩
      · exact cF q1 j h
theorem eV{e:En}:∀{rs:List Rv} {as:List Sv} {k i:Nat},bL e rs=some as→rs[k]?=some (.s i)→∃xs,as[k]?=some (.l xs)
  | [],_,k,i,_,h=>by simp at h
  | .d x::rs,as,k,i,q,h=>by
    obtain⟨as',q1,rfl⟩:=Option.map_eq_some_iff.mp q
    cases k with
    | zero=>simp at h
    | succ k=>simpa using eV (k:=k) (i:=i) q1 (by simpa using h)
  | .l x::rs,as,k,i,q,h=>by
    obtain⟨as',q1,rfl⟩:=Option.map_eq_some_iff.mp q
    cases k with
    | zero=>simp at h
    | succ k=>simpa using eV (k:=k) (i:=i) q1 (by simpa using h)
  | .s j::rs,as,k,i,q,h=>by
    unfold bL at q
    match he:e[j]?,q with
    | some (some (.l xs)),q=>
      obtain⟨as',q1,rfl⟩:=Option.map_eq_some_iff.mp q
      cases k with
      | zero=>exact⟨xs,rfl⟩
      | succ k=>simpa using eV (k:=k) (i:=i) q1 (by simpa using h)
section
variable{X:Cx}{K:PySem.W.Frag}{σ:L2.St}{H0 H:Hp}{e:En}
theorem gJ:∀{rs:List Rv} {vs:List V} {as:List Sv} {F:Hp},aG K F H σ e→bW K σ H0 F H e rs vs→bL e rs=some as→
    ∃F',aG K F' H σ e∧am F F'∧(∀a,F a=none→H0 a≠none→F' a=none)∧vs.length=as.length∧rs.length=as.length∧
      (∀(k:Nat) (x:PyData),as[k]?=some (.d x)→∃v,vs[k]?=some v∧DA K F' x v)∧∀(k:Nat) (xs:List PyData),as[k]?=some (.l xs)→∃i,rs[k]?=some (.s i)∧e[i]?=some (some (.l xs))∧∃v,vs[k]?=some v∧σ[i]?=some (some v)
  | [],vs,as,F,R,h,q=>by
    cases q
    have h':vs=[]:=h
    subst h'
    exact⟨F,R,am.refl _,fun _ h _=>h,rfl,rfl,fun k x h=>by simp at h,fun k x h=>by simp at h⟩
  | .d x::rs,_,as,F,R,h,q=>by
    obtain⟨v,ws,rfl,h1,h2⟩:=h
    obtain⟨as',q1,rfl⟩:=Option.map_eq_some_iff.mp q
    obtain⟨F',R',s',f',l1,l2,d',o'⟩:=gJ R h2 q1
    refine⟨F',R',s',f',by simp [l1],by simp [l2],fun k y hk=>?_,fun k ys hk=>?_⟩
    · cases k with
      | zero=>simp at hk;subst hk;exact⟨v,rfl,DA.mono s' h1⟩
      | succ k=>simpa using d' k y (by simpa using hk)
    · cases k with
      | zero=>simp at hk
      | succ k=>simpa using o' k ys (by simpa using hk)
  | .l xs::rs,_,as,F,R,h,q=>by
    obtain⟨v,ws,rfl,h1,h2⟩:=h
    obtain⟨as',q1,rfl⟩:=Option.map_eq_some_iff.mp q
    obtain⟨F',R',s',f',l1,l2,d',o'⟩:=gJ R h2 q1
    have key:∃F2,aG K F2 H σ e∧am F' F2∧(∀a,F' a=none→H0 a≠none→F2 a=none)∧DA K F2 (.list xs) v:=by
      obtain⟨l,us,rfl,g1,g2,g3,g4,g5⟩:=h1
      cases hl:F' l with
      | none=>
        have h1':bg K σ H0 F' H e (.l xs) (.ref l):=⟨l,us,rfl,g1,hl,g3,au.mono s' g4,g5⟩
        obtain⟨F2,R2,s2,d2,f2⟩:=h1'.frozen R'
        exact⟨F2,R2,s2,f2,d2⟩
      | some o=>
        have:=R'.sm _ _ hl
        rw [g3] at this;cases this
        exact⟨F',R',am.refl _,fun _ h _=>h,cx.mpr ⟨l,us,rfl,.inl (.inl hl),au.mono s' g4⟩⟩
    obtain⟨F2,R2,s2,f2,d2⟩:=key
    refine⟨F2,R2,s'.trans s2,fun a ha hn=>f2 a (f' a ha hn) hn,by simp [l1],by simp [l2],fun k y hk=>?_,fun k ys hk=>?_⟩
    · cases k with
      | zero=>simp at hk;subst hk;exact⟨v,rfl,d2⟩
      | succ k=>
        obtain⟨u,c1,c2⟩:=d' k y (by simpa using hk)
        exact⟨u,by simpa using c1,DA.mono s2 c2⟩
    · cases k with
      | zero=>simp at hk
      | succ k=>simpa using o' k ys (by simpa using hk)
  | .s i::rs,_,as,F,R,h,q=>by
    obtain⟨v,ws,rfl,h1,h2⟩:=h
    unfold bL at q
    match he:e[i]?,q with
    | some (some (.l xs)),q=>
      obtain⟨as',q1,rfl⟩:=Option.map_eq_some_iff.mp q
      obtain⟨F',R',s',f',l1,l2,d',o'⟩:=gJ R h2 q1
      refine⟨F',R',s',f',by simp [l1],by simp [l2],fun k y hk=>?_,fun k ys hk=>?_⟩
      · cases k with
        | zero=>simp at hk
        | succ k=>simpa using d' k y (by simpa using hk)
      · cases k with
        | zero=>simp at hk;subst hk;exact⟨i,rfl,he,v,rfl,h1.1⟩
        | succ k=>simpa using o' k ys (by simpa using hk)
theorem cJ{α:Type}{l:List α}{k:Nat}{x:α}:(l.map some)[k]?=some (some x)↔ l[k]?=some x:=by
  rw [List.getElem?_map]
  cases l[k]?<;>simp
theorem bg.noS{σ':L2.St}{e':En}{F H:Hp}{r:Rv}{v:V}(h:bg K σ' H0 F H e' r v)(n:L2.noS r)(ho:∀a,bX σ e H a→H0 a≠none):bg K σ H0 F H e r v:=by
  cases r with
  | d x=>exact h
  | l xs=>
    obtain⟨l,vs,e1,h1,h2,h3,h4,_⟩:=h
    exact⟨l,vs,e1,h1,h2,h3,h4,fun z=>ho l z h1⟩
  | s i=>exact absurd n (by simp [L2.noS])
theorem dH:∀{rs:List Rv} {as:List Sv},bL e rs=some as→vG (as.map some)
  | [],_,q=>by cases q;intro i xss h;simp at h
  | .d x::rs,as,q=>by
    obtain⟨as',q1,rfl⟩:=Option.map_eq_some_iff.mp q
    have ih:=dH q1
    intro i xss h
    cases i with
    | zero=>simp at h
    | succ i=>exact ih i xss (by simpa using h)
  | .l x::rs,as,q=>by
    obtain⟨as',q1,rfl⟩:=Option.map_eq_some_iff.mp q
    have ih:=dH q1
    intro i xss h
    cases i with
    | zero=>simp at h
    | succ i=>exact ih i xss (by simpa using h)
  | .s j::rs,as,q=>by
    unfold bL at q
    match he:e[j]?,q with
    | some (some (.l xs)),q=>
      obtain⟨as',q1,rfl⟩:=Option.map_eq_some_iff.mp q
      have ih:=dH q1
      intro i xss h
      cases i with
      | zero=>simp at h
      | succ i=>exact ih i xss (by simpa using h)
theorem vp{n:Nat}{m:FM}{fs:FA}{Q:VK}{E:XK}(h:fE K (di n m fs) σ H Q):pO (cZ K n m) [] E (fA K fs) σ H Q:=by
  obtain⟨F,e,z,e',R,hf,q⟩:=h
  unfold di at hf
  obtain⟨⟨rs,e1⟩,h1,hf⟩:=Option.bind_eq_some_iff.mp hf
  obtain⟨as,h2,hf⟩:=Option.bind_eq_some_iff.mp hf
  obtain⟨⟨r,as'⟩,h3,hf⟩:=Option.bind_eq_some_iff.mp hf
  split at hf
  case isFalse=>cases hf
  case isTrue hc=>
  obtain⟨c1,c2,c3,c4⟩:=hc
  cases hf
  refine⟨F,e,rs,e1,R,h1,fun F1 H1 vs X1 R1 A1=>?_⟩
  obtain⟨F2,R2,s2,f2,l1,l2,d2,o2⟩:=gJ R1 A1 h2
  have X2:=X1.frz s2 f2
  rw [List.append_nil]
  have hn:L2.noS r:=by
    cases r with
    | d x=>trivial
    | l x=>trivial
    | s i=>cases c4
  have nN:=dH h2
  have RA:aG K F2 H1 (vs.map some) (as.map some):=by
    refine⟨R2.sm,by simp [l1],fun k x hk=>?_,fun k xs hk=>?_,fun k xss hk=>absurd hk (nN k xss),fun k j l f1 f2=>?_⟩
    · obtain⟨v,g1,g2⟩:=d2 k x (cJ.mp hk)
      exact⟨v,cJ.mpr g1,g2⟩
    · obtain⟨i,g1,g2,v,g3,g4⟩:=o2 k xs (cJ.mp hk)
      obtain⟨l,us,k1,k2,k3,k4⟩:=R2.own i xs g2
      rw [g4] at k1;cases k1
      exact⟨l,us,cJ.mpr g3,k2,k3,k4⟩
    · obtain⟨xs,g1,g3⟩:=f1.resolve_right fun⟨xss,_,_,z,_⟩=>nN k xss z
      obtain⟨ys,g2,g4⟩:=f2.resolve_right fun⟨xss,_,_,z,_⟩=>nN j xss z
      obtain⟨i1,a1,a2,v1,a3,a4⟩:=o2 k xs (cJ.mp g1)
      obtain⟨i2,b1,b2,v2,b3,b4⟩:=o2 j ys (cJ.mp g2)
      have e1:=cJ.mp g3
      have e2:=cJ.mp g4
      rw [a3] at e1;cases e1
      rw [b3] at e2;cases e2
      have:i1=i2:=R2.inj i1 i2 xs ys l a2 b2 a4 b4
      subst this
      exact cY c2 a1 b1
  have sub:j4 σ e1 (vs.map some) (as.map some) (eQ rs):=by
    refine⟨fun i k xs g1 g2=>?_,fun k ys g1=>?_⟩
    · have g3:=gh g2
      obtain⟨zs,hs⟩:=eV h2 g3
      obtain⟨i',a1,a2,v,a3,a4⟩:=o2 k zs hs
      rw [g3] at a1;cases a1
      rw [cJ.mpr a3,a4]
    · obtain⟨i,a1,a2,v,a3,a4⟩:=o2 k ys (cJ.mp g1)
      refine⟨i,ys,a2,?_,by rw [cJ.mpr a3,a4]⟩
      cases hp:eQ rs i with
      | none=>
        unfold eQ at hp
        rw [List.findIdx?_eq_none_iff] at hp
        have:=hp _ (List.mem_of_getElem? a1)
        simp at this
      | some j=>rw [cY c2 (gh hp) a1]
  refine⟨by rw [l1,←l2];exact c1,F2,as,r,as',RA,nN,h3,hn,fun F' H' v X3 R3 A3=>?_⟩
  obtain⟨R4,X4,o4⟩:=kW R2 sub nN X3.sf X3.dom X3.fr X3.lst X3.tmp R3 (fun _ _ _ _ _=>rfl) fun i k xs g1 g2=>by
    obtain⟨ys,g3⟩:=dQ c3 k i (gh g2)
    exact⟨ys,cJ.mpr g3⟩
  have hb:=gM (e:=e1) c2 c3 (cF h2)
  rw [←hb] at R4 X4 o4
  exact q F' H' v (X2.trans X4) R4 ((A3.noS hn fun a z=>R2.ownH a (o4 a z)).weak X2.dom)
theorem a'{x:Str}{st:Stmt}{f:Addr}{fd:FuncData}{ps:List Str}{k n:Nat}{m:FM}{a:Expr}{es:List Expr}{fs:FA}{p pos:Pos}(h:bE X.K X.mg x st f fd ps)(G:aL X.prog X.w X.K X.mg X.base cE k f fd ps (cZ K n m))(hr:bu k X.A)(ha:PA X (a::es) (fA K fs))
    (hg:Gl X x)(hdb:(x==("__debug__":Str))=false)(he:starEach (a::es) X.env=(false,eval a X.env)::starEach es X.env)(hpl:(backTo pos (starEach es X.env)).any (·.1)=false):
    PE X (.Call (.Name x p) (a::es) [] pos) (fE K (di n m fs)):=(yA h G hr ha hg hdb he hpl).mono fun _ _ _ h=>vp h
def nj:List Sv→En→Option (List Sv)
  | [],_=>some []
  | .d x::r,e=>(nj r e.tail).map (.d x::·)
  | .l _::r,e=>match e.head? with
    | some (some (.l ys))=>(nj r e.tail).map (.l ys::·)
    | _=>none
  | .n _::_,_=>none
def qe(n:Nat)(e:En):Rv→Option Rv
  | .s i=>if n≤i then match e[i]? with
      | some (some (.l xs))=>some (.l xs)
      | _=>none
    else none
  | r=>some r
def ko(W:List Nat)(as:List Sv):Bool:=W.all fun j=>match as[j]? with
  | some (.l _)=>false
  | _=>true
def iE(n k:Nat)(W:List Nat)(f:FS):FM:=fun as=>if as.length=n∧ko W as=true then(f (as.map some++List.replicate k none)).bind fun fl=>match fl with
    | .rt r e=>(qe n e r).bind fun r'=>(nj as e).map fun as'=>(r',as')
    | .nx e=>(nj as e).map fun as'=>(.d .none,as')
    | _=>none
  else none
theorem gQ:∀{as as':List Sv} {e:En},nj as e=some as'→as'.length=as.length∧(∀(j:Nat) (x:PyData),as'[j]?=some (.d x)↔ as[j]?=some (.d x))∧(∀(j:Nat) (ys:List PyData),as'[j]?=some (.l ys)→(∃xs,as[j]?=some (.l xs))∧e[j]?=some (some (.l ys)))∧∀(j:Nat) (xs:List PyData),as[j]?=some (.l xs)→∃ys,as'[j]?=some (.l ys)
  | [],_,e,h=>by cases h;simp
  | .d x::r,_,e,h=>by
    obtain⟨s,h1,rfl⟩:=Option.map_eq_some_iff.mp h
    obtain⟨g1,g2,g3,g4⟩:=gQ h1
    refine⟨by simp [g1],fun j y=>?_,fun j ys hj=>?_,fun j xs hj=>?_⟩
    · cases j with
      | zero=>simp
      | succ j=>simpa using g2 j y
    · cases j with
      | zero=>simp at hj
      | succ j=>
        obtain⟨c1,c2⟩:=g3 j ys (by simpa using hj)
        refine⟨by simpa using c1,?_⟩
        rw [List.getElem?_tail] at c2
        exact c2
    · cases j with
      | zero=>simp at hj
      | succ j=>simpa using g4 j xs (by simpa using hj)
  | .l xs::r,_,e,h=>by
    unfold nj at h
    match he:e.head?,h with
    | some (some (.l ys)),h=>
      obtain⟨s,h1,rfl⟩:=Option.map_eq_some_iff.mp h
      obtain⟨g1,g2,g3,g4⟩:=gQ h1
      refine⟨by simp [g1],fun j y=>?_,fun j zs hj=>?_,fun j zs hj=>?_⟩
      · cases j with
        | zero=>simp
        | succ j=>simpa using g2 j y
      · cases j with
        | zero=>
          simp at hj;subst hj
          exact⟨⟨xs,rfl⟩,by rw [List.head?_eq_getElem?] at he;exact he⟩
        | succ j=>
          obtain⟨c1,c2⟩:=g3 j zs (by simpa using hj)
          refine⟨by simpa using c1,?_⟩
          rw [List.getElem?_tail] at c2
          exact c2
      · cases j with
        | zero=>exact⟨ys,rfl⟩
        | succ j=>simpa using g4 j zs (by simpa using hj)
  | .n x::r,_,e,h=>by simp [nj] at h
end
end L2
namespace L2
open PySem PySem.Spec PyProof.Rows
theorem cf{α:Type}{l:List (Option α)}{k i:Nat}{x:α}(h:(l++List.replicate k none)[i]?=some (some x)):l[i]?=some (some x):=by
  rw [List.getElem?_append] at h
  split at h
  · exact h
  · rw [List.getElem?_replicate] at h
    split at h<;>simp at h
theorem ck{α:Type}{l:List (Option α)}{k i:Nat}{x:α}(h:l[i]?=some (some x)):(l++List.replicate k none)[i]?=some (some x):=by
  have hi:i < l.length:=(List.getElem?_eq_some_iff.mp h).1
  rw [List.getElem?_append_left hi];exact h
section
variable{K:PySem.W.Frag}{F H:Hp}{σ:L2.St}{e:En}{k:Nat}
theorem jA{i:Nat}{a:Addr}:Fp (σ++List.replicate k none) (e++List.replicate k none) H i a↔ Fp σ e H i a:=by
  constructor
  · rintro(⟨xs,h1,h2⟩ | ⟨xss,l,bs,h1,h2,h3⟩)
    · exact .inl ⟨xs,cf h1,cf h2⟩
    · exact .inr ⟨xss,l,bs,cf h1,cf h2,h3⟩
  · rintro(⟨xs,h1,h2⟩ | ⟨xss,l,bs,h1,h2,h3⟩)
    · exact .inl ⟨xs,ck h1,ck h2⟩
    · exact .inr ⟨xss,l,bs,ck h1,ck h2,h3⟩
theorem jO{a:Addr}:bX (σ++List.replicate k none) (e++List.replicate k none) H a↔ bX σ e H a:=⟨fun⟨i,h⟩=>⟨i,jA.mp h⟩,fun⟨i,h⟩=>⟨i,jA.mpr h⟩⟩
theorem aG.pad(R:aG K F H σ e):aG K F H (σ++List.replicate k none) (e++List.replicate k none):=by
  refine⟨R.sm,by simp [R.len],fun i x h=>?_,fun i xs h=>?_,fun i xss h=>?_,fun i j a h1 h2=>R.fp i j a (jA.mp h1) (jA.mp h2)⟩
  · obtain⟨v,g1,g2⟩:=R.dat i x (cf h)
    exact⟨v,ck g1,g2⟩
  · obtain⟨l,vs,g1,g2⟩:=R.own i xs (cf h)
    exact⟨l,vs,ck g1,g2⟩
  · obtain⟨l,bs,g1,g2⟩:=R.nst i xss (cf h)
    exact⟨l,bs,ck g1,g2⟩
end
theorem jY:∀{as as':List Sv} {e:En},nj as e=some as'→vG (as'.map some)
  | [],_,e,h=>by cases h;intro i xss z;simp at z
  | .d x::r,_,e,h=>by
    obtain⟨s,h1,rfl⟩:=Option.map_eq_some_iff.mp h
    have ih:=jY h1
    intro i xss z
    cases i with
    | zero=>simp at z
    | succ i=>exact ih i xss (by simpa using z)
  | .l xs::r,_,e,h=>by
    unfold nj at h
    match he:e.head?,h with
    | some (some (.l ys)),h=>
      obtain⟨s,h1,rfl⟩:=Option.map_eq_some_iff.mp h
      have ih:=jY h1
      intro i xss z
      cases i with
      | zero=>simp at z
      | succ i=>exact ih i xss (by simpa using z)
  | .n x::r,_,e,h=>by simp [nj] at h
theorem kr{W:List Nat}{as:List Sv}(h:ko W as=true){j:Nat}{xs:List PyData}(hj:as[j]?=some (.l xs)):j∉W:=fun z=>by
  unfold ko at h
  have:=List.all_eq_true.mp h j z
  rw [hj] at this
  cases this
section
variable{P:Program}{w:World}{K:PySem.W.Frag}{mg:Str→Option Value}{base:Heap}
theorem bE.fn{x:Str}{st:Stmt}{f:Addr}{fd:FuncData}{N ps:List Str}{k n k0:Nat}{W:List Nat}{fb:FS}(h:bE K mg x st f fd ps)(S:aE N ps (ah st))(hn:ps.length=n)(hN:N.length=n+k0)
    (hb:∀(cdv:Value) (A:Around) (outer:List Env) (s:Shared) (H:Hp) (E:XK),bu k (A.deeper (envOfC x (ah st) s.heap.objs.size f cdv))→gE (lw cE P w K mg base N x (ah st) f cdv A outer s H E).nox (bo st) (fS K fb W)):
    aL P w K mg base cE (k+1) f fd ps (cZ K n (iE n k0 W fb)):=by
  refine h.F.ok S (fun vs H Q E q=>?_) fun cdv A outer s H vs Q E hr hsp=>⟨_,hb cdv A outer s H E hr,?_⟩
  · rw [hn];exact q.1
  · obtain⟨hl,F,as,r,as',R,nN,hm,nr,q⟩:=hsp
    unfold iE at hm
    split at hm
    case isFalse=>cases hm
    case isTrue hc=>
    obtain⟨la,nl⟩:=hc
    obtain⟨fl,h1,hm⟩:=Option.bind_eq_some_iff.mp hm
    have hst:dZ N vs=vs.map some++List.replicate k0 none:=by unfold dZ;rw [hN,hl];congr 2;lia
    rw [hst]
    have key:∀{as':List Sv} {e':En},nj as e'=some as'→∀F' H' σ',bV W (vs.map some++List.replicate k0 none) F H (as.map some++List.replicate k0 none) σ' F' H' e'→aG K F' H' σ' e'→
        cj (vs.map some) F H (as.map some) F' H' (as'.map some)∧aG K F' H' (vs.map some) (as'.map some)∧∀a,bX (vs.map some) (as'.map some) H' a→bX (vs.map some) (as.map some) H a:=by
      intro as' e' hu F' H' σ' X' R'
      obtain⟨u1,u2,u3,u4⟩:=gQ hu
      have uN:=jY hu
      have ow:∀a,bX (vs.map some) (as'.map some) H' a→bX (vs.map some) (as.map some) H a:=by
        rintro a ⟨j,⟨ys,c1,c2⟩ | ⟨xss,_,_,z,_⟩⟩
        · obtain⟨⟨xs,c3⟩,_⟩:=u3 j ys (cJ.mp c1)
          exact⟨j,.inl ⟨xs,cJ.mpr c3,c2⟩⟩
        · exact absurd z (uN j xss)
      have sg:∀(j:Nat) (xs:List PyData),as[j]?=some (.l xs)→σ'[j]?=(vs.map some)[j]?:=fun j xs hj=>by
        rw [X'.wr j (kr nl hj)]
        have hj2:j < (vs.map some).length:=by rw [List.length_map,hl,←la];exact(List.getElem?_eq_some_iff.mp hj).1
        rw [List.getElem?_append_left hj2]
      refine⟨⟨X'.sf,X'.dom,fun a vs h1 h2 hn=>X'.fr a vs h1 h2 fun z=>hn (jO.mp z),X'.lst,fun a o ha hn=>X'.tmp a o ha fun z=>hn (jO.mp z),fun j=>?_,fun a z=>.inl (ow a z)⟩,⟨R'.sm,?_,fun j y hj=>?_,fun j ys hj=>?_,fun j xss hj=>absurd hj (uN j xss),fun j i l f1 f2=>?_⟩,ow⟩
      · constructor
        · rintro⟨ys,hj⟩
          obtain⟨⟨xs,c⟩,_⟩:=u3 j ys (cJ.mp hj)
          exact⟨xs,cJ.mpr c⟩
        · rintro⟨xs,hj⟩
          obtain⟨ys,c⟩:=u4 j xs (cJ.mp hj)
          exact⟨ys,cJ.mpr c⟩
      · simp [u1,hl,la]
      · obtain⟨v,c1,c2⟩:=R.dat j y (cJ.mpr ((u2 j y).mp (cJ.mp hj)))
        exact⟨v,c1,DA.mono X'.sf c2⟩
      · obtain⟨⟨xs,c1⟩,c2⟩:=u3 j ys (cJ.mp hj)
        obtain⟨l,us,d1,d2⟩:=R'.own j ys c2
        exact⟨l,us,by rw [←sg j xs c1];exact d1,d2⟩
      · obtain⟨xs,g1,g3⟩:=f1.resolve_right fun⟨xss,_,_,z,_⟩=>uN j xss z
        obtain⟨ys,g2,g4⟩:=f2.resolve_right fun⟨xss,_,_,z,_⟩=>uN i xss z
        obtain⟨⟨zs,c1⟩,c2⟩:=u3 j xs (cJ.mp g1)
        obtain⟨⟨ws,c3⟩,c4⟩:=u3 i ys (cJ.mp g2)
        exact R'.inj j i xs ys l c2 c4 (by rw [sg j zs c1];exact g3) (by rw [sg i ws c3];exact g4)
    refine⟨F,as.map some++List.replicate k0 none,fl,R.pad,h1,?_⟩
    cases fl with
    | bk e'=>cases hm
    | ct e'=>cases hm
    | nx e'=>
      obtain⟨as2,h2,hm⟩:=Option.map_eq_some_iff.mp hm
      cases hm
      intro F' H' σ' X' R'
      obtain⟨X2,R2,_⟩:=key h2 F' H' σ' X' R'
      exact q F' H' .non X2 R2 ((e8 (K:=K) (F:=F')).mpr rfl)
    | rt r0 e'=>
      obtain⟨r1,h2,hm⟩:=Option.bind_eq_some_iff.mp hm
      obtain⟨as2,h3,hm⟩:=Option.map_eq_some_iff.mp hm
      cases hm
      intro F' H' σ' v X' R' A'
      obtain⟨X2,R2,ow2⟩:=key h3 F' H' σ' X' R'
      have noo:∀l,H l=none→¬bX (vs.map some) (as'.map some) H' l:=fun l hl z=>R.ownH l (ow2 l z) hl
      refine q F' H' v X2 R2 ?_
      cases r0 with
      | d y=>cases h2;exact A'
      | l ys=>
        cases h2
        obtain⟨l,us,d0,d1,d2,d3,d4,_⟩:=A'
        exact⟨l,us,d0,d1,d2,d3,d4,noo l d1⟩
      | s i=>
        simp only [qe] at h2
        split at h2
        case isFalse=>cases h2
        case isTrue hi=>
        obtain⟨a1,xs,a2⟩:=A'
        rw [a2] at h2
        cases h2
        obtain⟨l,us,d1,d2,d3,d4⟩:=R'.own i _ a2
        rw [a1] at d1;cases d1
        suffices hl0:H l=none from⟨l,us,rfl,hl0,d2,d3,d4,noo l hl0⟩
        rcases X'.own l ⟨i,.inl ⟨_,a2,a1⟩⟩ with z | z
        · obtain⟨j,zf⟩:=jO.mp z
          obtain⟨ys,z1,z2⟩:=zf.resolve_right fun⟨xss,_,_,z,_⟩=>nN j xss z
          have z1':=cJ.mp z1
          obtain⟨u1,u2,u3,u4⟩:=gQ h3
          obtain⟨ws,w1⟩:=u4 j ys z1'
          obtain⟨_,w2⟩:=u3 j ws w1
          have hj2:j < vs.length:=by rw [hl,←la];exact(List.getElem?_eq_some_iff.mp z1').1
          have e3:σ'[j]?=some (some (.ref l)):=by
            rw [X'.wr j (kr nl z1'),List.getElem?_append_left (by simpa using hj2)]
            exact z2
          have:=R'.inj i j _ ws l a2 w2 a1 e3
          lia
        · exact z
end
def wx:Option Sv→Option Sv
  | some (.n _)=>none
  | s=>s
def ki(cp:List (Nat × Str))(nT:Nat)(e:En):En:=cp.map (fun p=>wx (e[p.1]?).join)++List.replicate nT none
def ii(cp:List (Nat × Str))(i:Nat):Option Nat:=cp.findIdx? fun p=>p.1==i
def dn(g:FG)(ft:FT)(fe:FE):List PyData→En→List PyData→Option (List PyData × En)
  | [],e,acc=>some (acc,e)
  | x::r,e,acc=>(g x e).bind fun e1=>(ft e1).bind fun b=>if b.1=true then(fe b.2).bind fun v=>(mL v.1).bind fun d=>if acc.length < 1000000 then dn g ft fe r v.2 (acc++[d]) else none else dn g ft fe r b.2 acc
def jv(cp:List (Nat × Str))(ei e:En):Bool:=cp.all fun p=> !p0 e[p.1]? || p0 ei[(ii cp p.1).getD 0]?
def cw(cp:List (Nat × Str))(nT:Nat)(fi:FI)(g:FG)(ft:FT)(fe:FE):FE:=fun e=>(fi e).bind fun p=>if (p.2.1.all fun q=> !(cp.any fun c=>c.1==q.1))=true then(dn g ft fe p.1 (ki cp nT p.2.2) []).bind fun z=>if jv cp z.2 p.2.2=true then some (.l z.1,iB (ii cp) z.2 p.2.2) else none else none
section
variable{K:PySem.W.Frag}{F H:Hp}{σ:L2.St}{e:En}{cp:List (Nat × Str)}{nT:Nat}
theorem dA{i k:Nat}(h:ii cp i=some k):∃s,cp[k]?=some (i,s):=by
  unfold ii at h
  rw [List.findIdx?_eq_some_iff_getElem] at h
  obtain⟨hk,h1,_⟩:=h
  refine⟨cp[k].2,?_⟩
  rw [List.getElem?_eq_getElem hk]
  have:=eq_of_beq h1
  rw [←this]
theorem eD{k:Nat}{x:Sv}(h:(ki cp nT e)[k]?=some (some x)):∃i s,cp[k]?=some (i,s)∧e[i]?=some (some x):=by
  unfold ki at h
  have h:=cf h
  rw [List.getElem?_map] at h
  obtain⟨p,h1,h2⟩:=Option.map_eq_some_iff.mp h
  refine⟨p.1,p.2,h1,?_⟩
  cases q:e[p.1]? with
  | none=>rw [q] at h2;cases h2
  | some y=>
    rw [q] at h2
    match y,h2 with
    | some (.d z),h2=>exact congrArg some h2
    | some (.l z),h2=>exact congrArg some h2
    | some (.n z),h2=>cases h2
    | none,h2=>cases h2
theorem fv:vG (ki cp nT e):=by
  intro k xss h
  unfold ki at h
  have h:=cf h
  rw [List.getElem?_map] at h
  obtain⟨p,h1,h2⟩:=Option.map_eq_some_iff.mp h
  match (e[p.1]?).join,h2 with
  | some (.d z),h2=>cases h2
  | some (.l z),h2=>cases h2
  | some (.n z),h2=>cases h2
  | none,h2=>cases h2
theorem gO{k i:Nat}{s:Str}{v:V}(h:cp[k]?=some (i,s))(hv:σ[i]?=some (some v)):(cN cp nT σ)[k]?=some (some v):=by
  unfold cN
  refine ck ?_
  rw [List.getElem?_map,h]
  simp [hv]
theorem iv{k i:Nat}{s:Str}{v:V}(h:cp[k]?=some (i,s))(hv:(cN cp nT σ)[k]?=some (some v)):σ[i]?=some (some v):=by
  unfold cN at hv
  have hv:=cf hv
  rw [List.getElem?_map,h] at hv
  simp only [Option.map_some,Option.some.injEq] at hv
  cases q:σ[i]? with
  | none=>rw [q] at hv;cases hv
  | some y=>rw [q] at hv;exact congrArg some hv
theorem jy:∀{cp:List (Nat × Str)} {k j i:Nat} {s t:Str},(cp.map (·.1)).Nodup→cp[k]?=some (i,s)→cp[j]?=some (i,t)→k=j
  | [],k,j,i,s,t,_,h,_=>by simp at h
  | p::r,k,j,i,s,t,hn,h1,h2=>by
    simp only [List.map_cons,List.nodup_cons] at hn
    cases k with
    | zero=>
      simp at h1;subst h1
      cases j with
      | zero=>rfl
      | succ j=>
        have hm:(i,t)∈r:=List.mem_of_getElem? (i:=j) (by simpa using h2)
        exact absurd (List.mem_map.mpr ⟨(i,t),hm,rfl⟩) hn.1
    | succ k=>
      cases j with
      | zero=>
        simp at h2;subst h2
        have hm:(i,s)∈r:=List.mem_of_getElem? (i:=k) (by simpa using h1)
        exact absurd (List.mem_map.mpr ⟨(i,s),hm,rfl⟩) hn.1
      | succ j=>
        have:=jy (cp:=r) (k:=k) (j:=j) hn.2 (by simpa using h1) (by simpa using h2)
        lia
theorem aG.inn(R:aG K F H σ e)(hn:(cp.map (·.1)).Nodup):aG K F H (cN cp nT σ) (ki cp nT e)∧j4 σ e (cN cp nT σ) (ki cp nT e) (ii cp):=by
  refine⟨⟨R.sm,by simp [cN,ki],fun k x h=>?_,fun k xs h=>?_,fun k xss h=>absurd h (fv k xss),fun k j l f1 f2=>?_⟩,⟨fun i k xs h1 h2=>?_,fun k ys h=>?_⟩⟩
  · obtain⟨i,s,h1,h2⟩:=eD h
    obtain⟨v,g1,g2⟩:=R.dat i x h2
    exact⟨v,gO h1 g1,g2⟩
  · obtain⟨i,s,h1,h2⟩:=eD h
    obtain⟨l,vs,g1,g2⟩:=R.own i xs h2
    exact⟨l,vs,gO h1 g1,g2⟩
  · obtain⟨xs,h1,h3⟩:=f1.resolve_right fun⟨xss,_,_,z,_⟩=>fv k xss z
    obtain⟨ys,h2,h4⟩:=f2.resolve_right fun⟨xss,_,_,z,_⟩=>fv j xss z
    obtain⟨i,s,a1,a2⟩:=eD h1
    obtain⟨i',s',b1,b2⟩:=eD h2
    have:i=i':=R.inj i i' xs ys l a2 b2 (iv a1 h3) (iv b1 h4)
    subst this
    exact jy hn a1 b1
  · obtain⟨s,g⟩:=dA h2
    obtain⟨l,vs,g1,_⟩:=R.own i xs h1
    rw [g1];exact gO g g1
  · obtain⟨i,s,h1,h2⟩:=eD h
    obtain⟨l,vs,g1,_⟩:=R.own i ys h2
    refine⟨i,ys,h2,?_,by rw [g1];exact gO h1 g1⟩
    cases hp:ii cp i with
    | none=>
      unfold ii at hp
      rw [List.findIdx?_eq_none_iff] at hp
      have:=hp _ (List.mem_of_getElem? h1)
      simp at this
    | some j=>
      obtain⟨t,g⟩:=dA hp
      rw [jy hn g h1]
theorem aG.putT(R:aG K F H σ e){l:Addr}{ws:List V}(h1:F l=none)(h2:¬bX σ e H l):aG K F (aF H l (.lst ws)) σ e∧∀a,bX σ e (aF H l (.lst ws)) a↔ bX σ e H a:=
  R.keep (am.refl F) (fun b o q=>by
    have z:b≠l:=fun z=>by rw [z,h1] at q;cases q
    rw [av z];exact R.sm b o q) (fun a ⟨i,h⟩=>(R.fpAt h).1) fun a o ha q=>by
      have z:a≠l:=fun z=>h2 (by rw [←z];exact ha)
      rw [av z];exact q
theorem bV.putT{W:List Nat}{σ':L2.St}{F' H':Hp}{e':En}(x:bV W σ F H e σ' F' H' e'){l:Addr}{o:HO}(h:H l=none)(ho:∀a,bX σ' e' (aF H' l o) a↔ bX σ' e' H' a):bV W σ F H e σ' F' (aF H' l o) e':=by
  refine⟨x.sf,fun a q=>?_,x.fr,fun a vs q=>?_,fun a u q n=>?_,fun a q=>x.own a ((ho a).mp q),x.wr⟩
  · by_cases z:a=l
    · rw [z];exact h
    · rw [av z] at q;exact x.dom a q
  · have z:a≠l:=fun z=>by rw [z,h] at q;cases q
    rw [av z];exact x.lst a vs q
  · have z:a≠l:=fun z=>by rw [z,h] at q;cases q
    rw [av z];exact x.tmp a u q n
inductive CI (K:PySem.W.Frag) (W:List Nat) (σ0:L2.St) (F1 H1:Hp) (e0:En) (l:Addr) (P:Hp→En→List PyData→Prop) (σ':L2.St) (H':Hp):Prop
  | mk {F':Hp} {ei:En} {acc:List PyData} {vs:List V} (R:aG K F' H' σ' ei) (X:bV W σ0 F1 H1 e0 σ' F' H' ei) (fl:F' l=none) (no:¬bX σ' ei H' l) (hl:H' l=some (.lst vs)) (da:au K F' acc vs) (hc:P F' ei acc):CI K W σ0 F1 H1 e0 l P σ' H'
theorem iC{Q:VK}{fi:FI}{g:FG}{W:List Nat}{ft:FT}{fe:FE}(hn:(cp.map (·.1)).Nodup)(hW:∀j∈W,cp.length≤j)(h:fE K (cw cp nT fi g ft fe) σ H Q):kX cp nT (fI K fi) (fG K g W) (fT K ft) (fE K fe) σ H Q:=by
  obtain⟨F0,e0,z,e',R0,hf,q⟩:=h
  unfold cw at hf
  obtain⟨⟨items,own,e1⟩,h1,hf⟩:=Option.bind_eq_some_iff.mp hf
  dsimp only at hf
  split at hf
  case isFalse=>cases hf
  case isTrue hO=>
  obtain⟨⟨out,eo⟩,h2,hf⟩:=Option.bind_eq_some_iff.mp hf
  dsimp only at hf
  split at hf
  case isFalse=>cases hf
  case isTrue hB=>
  cases hf
  refine⟨⟨F0,e0,items,own,e1,R0,h1,fun J F1 H1 X1 R1 kp ok=>?_⟩⟩
  intro l hl
  obtain⟨Ri,sub⟩:=R1.inn (nT:=nT) hn
  have hFl:F1 l=none:=R1.freeF hl
  let Iv:Nat→L2.St→Hp→Prop:=fun i=>CI K W (cN cp nT σ) F1 H1 (ki cp nT e1) l fun _ ei acc=>dn g ft fe (items.drop i) ei acc=some (out,eo)
  have notown:∀p∈own,∀a,σ[p.1]?=some (some (.ref a))→¬bX (cN cp nT σ) (ki cp nT e1) H1 a:=by
    rintro p hp a ha ⟨k,zf⟩
    obtain⟨xs,c1,c2⟩:=zf.resolve_right fun⟨xss,_,_,z,_⟩=>fv k xss z
    obtain⟨i,s,d1,d2⟩:=eD c1
    have e2:=iv d1 c2
    have:p.1=i:=R1.inj p.1 i p.2 xs a (kp p hp) d2 ha e2
    have hh:=List.all_eq_true.mp hO p hp
    simp only [Bool.not_eq_true',List.any_eq_false,beq_iff_eq] at hh
    exact hh (i,s) (List.mem_of_getElem? d1) this.symm
  refine⟨fun i m σ' H'=>m=items.length - i∧i≤items.length∧Iv i σ' H',⟨items.length,by simp,Nat.zero_le _,.mk (Ri.putT hFl (fun z=>(Ri.ownH l z) hl)).1 (bV.refl.putT hl (Ri.putT hFl (fun z=>(Ri.ownH l z) hl)).2) hFl (fun z=>(Ri.ownH l (((Ri.putT hFl (fun z=>(Ri.ownH l z) hl)).2 l).mp z)) hl) aq au.nil h2⟩,?_⟩
  rintro i m σ' H' ⟨rfl,hi,⟨R',X',fl,no,hl',da,hc⟩⟩
  rename_i F' ei acc vs
  have held:nz K σ F' H' own:=fun p hp=>by
    obtain⟨a,us,c1,c2,c3,c4⟩:=R1.own p.1 p.2 (kp p hp)
    exact⟨a,us,c1,X'.tmp a _ c3 (notown p hp a c1),c4.mono X'.sf⟩
  obtain⟨go,stop,yld⟩:=ok F' H' X'.sf R'.sm held
  by_cases hlt:i < items.length
  · have hd:items.drop i=items[i]::items.drop (i+1):=List.drop_eq_getElem_cons hlt
    rw [hd] at hc
    unfold dn at hc
    obtain⟨e2,c2,hc⟩:=Option.bind_eq_some_iff.mp hc
    obtain⟨⟨b,e3⟩,c3,hc⟩:=Option.bind_eq_some_iff.mp hc
    refine .inr ⟨go i hlt,Iv (i+1),fun σ2 H2 r=>⟨items.length - (i+1),by lia,rfl,hlt,r⟩,fun x H2 hy=>?_⟩
    obtain⟨F2,sH,sF2,sm2,fz,hx⟩:=yld i items[i] x H2 (List.getElem?_eq_getElem hlt) hy
    obtain⟨R2,X2⟩:=R'.step sH sF2 sm2 fz
    refine⟨F2,ei,items[i],e2,R2,hx,c2,fun σ3 X3 R3=>⟨F2,e2,b,e3,R3,c3,fun F4 H4 X4 R4=>?_⟩⟩
    have hlH2:H2 l=some (.lst vs):=sH _ _ hl'
    have no2:¬bX σ' ei H2 l:=fun z=>by
      rcases X2.ow l z with z | z
      · exact no z
      · rw [hl'] at z;cases z
    have no3:¬bX σ3 e2 H2 l:=fun z=>by
      rcases X3.own l z with z | z
      · exact no2 z
      · rw [hlH2] at z;cases z
    have fl2:F2 l=none:=fz l fl (by rw [hl'];simp)
    have hlH4:H4 l=some (.lst vs):=X4.tmp l _ hlH2 no3
    have fl4:F4 l=none:=X4.fr l vs fl2 hlH2 no3
    have no4:¬bX σ3 e3 H4 l:=fun z=>by
      rcases X4.ow l z with z | z
      · exact no3 z
      · rw [hlH2] at z;cases z
    have E4:bV W (cN cp nT σ) F1 H1 (ki cp nT e1) σ3 F4 H4 e3:=((X'.trans X2.s).trans X3).trans X4.s
    cases b with
    | false=>
      rw [if_neg (by simp)] at hc
      exact wo (.mk R4 E4 fl4 no4 hlH4 (da.mono (sF2.trans X4.sf)) hc)
    | true=>
      rw [if_pos rfl] at hc
      obtain⟨⟨r,e5⟩,c5,hc⟩:=Option.bind_eq_some_iff.mp hc
      obtain⟨d,c6,hc⟩:=Option.bind_eq_some_iff.mp hc
      split at hc
      case isFalse=>cases hc
      case isTrue hlen=>
      refine wq ⟨F4,e3,r,e5,R4,c5,fun F5 H5 v X5 R5 A5=>?_⟩
      have hlH5:H5 l=some (.lst vs):=X5.tmp l _ hlH4 no4
      have fl5:F5 l=none:=X5.fr l vs fl4 hlH4 no4
      have no5:¬bX σ3 e5 H5 l:=fun z=>by
        rcases X5.ow l z with z | z
        · exact no4 z
        · rw [hlH4] at z;cases z
      obtain⟨F6,R6,s6,d6,f6⟩:=bW.frozen R5 (rs:=[r]) (vs:=[v]) ⟨v,[],rfl,A5,rfl⟩ (mM c6)
      have fl6:F6 l=none:=f6 l fl5 (by rw [hlH4];simp)
      have X6:=X5.frz s6 f6
      have ll:=da.len
      have sl:sizeLine=16777216:=sizeLine_eq
      have dv:DA K F6 d v:=by
        simp only [au] at d6
        obtain⟨v',r',e',hv,_⟩:=d6
        cases e';exact hv
      obtain⟨R7,o7⟩:=R6.putT (ws:=vs++[v]) fl6 no5
      exact⟨vs,hlH5,by lia,.mk R7 ((E4.trans X6.s).putT hl o7) fl6 (fun z=>no5 ((o7 l).mp z)) aq ((da.mono (sF2.trans (X4.sf.trans (X5.sf.trans s6)))).append (au.one dv)) hc⟩
  · have hd:items.drop i=[]:=List.drop_eq_nil_of_le (by lia)
    rw [hd] at hc
    cases hc
    refine .inl ⟨stop i (by lia),?_⟩
    obtain⟨R9,X9,o9⟩:=kW R1 sub fv X'.sf X'.dom X'.fr X'.lst X'.tmp R' (fun i k xs g1 g2=>X'.wr k fun z=>by
      obtain⟨s,g⟩:=dA g2
      have:=(List.getElem?_eq_some_iff.mp g).1
      have:=hW k z
      lia) fun i k xs g1 g2=>by
        obtain⟨s,g⟩:=dA g2
        unfold jv at hB
        have hb:=List.all_eq_true.mp hB _ (List.mem_of_getElem? g)
        simp only [g1,g2,Option.getD_some,p0,Bool.not_true,Bool.false_or] at hb
        exact qo.mp hb
    exact q F' H' (.ref l) (X1.trans X9) R9 ⟨l,vs,rfl,X1.dom l hl,fl,hl',da,fun z=>R1.ownH l (o9 l z) hl⟩
end
end L2
namespace L2
open PySem PySem.Spec PyProof.Rows
section
variable{X:Cx}{K:PySem.W.Frag}{a b:Expr}{es:List Expr}{fa fb:FE}{fs:FA}{pos p p2 p3:Pos}{lo hi:Option Expr}
def qk:En→Rv→Option Rv:=fun _ x=>(bS x).map fun i=>.d (.int (-i))
theorem wD:xT K (rU fun i=>.int (-i)) qk:=by
  intro σ H0 F H e x z v Q R A hg q
  obtain⟨i,h5,h4⟩:=Option.map_eq_some_iff.mp hg
  cases h4
  exact⟨i,bh A h5,q F H _ (cj.refl _ _ _ _) R ip⟩
theorem wZ(ha:PE X a (fE K fa)):PE X (.UnaryOp .USub a pos) (fE K (vw qk fa)):=w_ vo wD ha
theorem bT(hK:X.K=K)(ha:PE X a (fE K fa))(hb:PE X b (fE K fb)):PE X (.BinOp a .Add b pos) (fE K (aw cH fa fb)):=jc (hK ▸ qH) vR ha hb
theorem mf(ha:PE X a (fE K fa))(hb:PE X b (fE K fb)):PE X (.BinOp a .Sub b pos) (fE K (aw eN fa fb)):=jc ut xt ha hb
theorem ij(hK:X.K=K)(ha:PE X a (fE K fa))(hb:PE X b (fE K fb)):PE X (.BinOp a .Mult b pos) (fE K (aw f9 fa fb)):=jc (hK ▸ qL) wC ha hb
theorem eR(ha:PE X a (fE K fa))(hb:PE X b (fE K fb)):PE X (.BinOp a .FloorDiv b pos) (fE K (aw dw fa fb)):=jc oR tF ha hb
theorem aH(ha:PE X a (fE K fa))(hb:PE X b (fE K fb)):PE X (.BinOp a .Mod b pos) (fE K (aw aM fa fb)):=jc qK wB ha hb
theorem sM(ha:PE X a (fE K fa))(hb:PE X b (fE K fb)):PE X (.BinOp a .Pow b pos) (fE K (aw ly fa fb)):=jc uq wW ha hb
theorem bK(hK:X.K=K)(ha:PE X a (fE K fa))(hb:PE X b (fE K fb))(hs:jp b):PE X (.Subscript a b pos) (fE K (aw dc fa fb)):=w6 (hK ▸ yt) yu ha hb hs
theorem me{fl fh:FO}(hK:X.K=K)(he:PE X a (fE K fa))(hl:PO X lo (fO K fl))(hh:PO X hi (fO K fh)):PE X (.Subscript a (.Slice lo hi none p2) pos) (fE K (vt fa fl fh)):=by subst hK;exact pk he hl hh
structure gD (X:Cx) (K:PySem.W.Frag) (op:CmpOp) (g:En→Rv→Rv→Option Rv):Prop where
  ex:∃r,c9 X (compareOp op) r∧c8 K r g
theorem v0:gD X K .Lt vE:=⟨_,wM,yy⟩
theorem yg:gD X K .LtE xY:=⟨_,wL,yw⟩
theorem p9:gD X K .Gt tH:=⟨_,wK,yl⟩
theorem vY:gD X K .GtE wd:=⟨_,wJ,yk⟩
theorem ls{k:Nat}(hK:X.K=K)(hr:bu k X.A):gD X K .Eq (du false):=⟨_,hK ▸ uf hr,rZ⟩
theorem yh{k:Nat}(hK:X.K=K)(hr:bu k X.A):gD X K .NotEq (du true):=⟨_,hK ▸ uo hr,rZ⟩
theorem vZ{k:Nat}(hK:X.K=K)(hr:bu k X.A):gD X K .In (sr false):=⟨_,hK ▸ ui hr,yq⟩
theorem p_:gD X K .Is su:=⟨_,uj,yr⟩
theorem qa:gD X K .IsNot jC:=⟨_,mZ,qp⟩
theorem fD{op:CmpOp}{g:En→Rv→Rv→Option Rv}(h:gD X K op g)(ha:PE X a (fE K fa))(hb:PE X b (fE K fb))(hm:behindInMarks op b=false):PE X (.Compare a [op] [b] pos) (fE K (aw g fa fb)):=by
  obtain⟨r,h1,h2⟩:=h.ex;exact uQ h1 h2 ha hb hm
theorem bx{op:CmpOp}{g:En→Rv→Rv→Option Rv}(h:gD X K op g)(ha:PE X a (fE K fa))(hb:PE X b (fE K fb))(hm:behindInMarks op b=false):PT X (.Compare a [op] [b] pos) (fT K (aY (aw g fa fb))):=by
  obtain⟨r,h1,h2⟩:=h.ex;exact uT h1 h2 ha hb hm
structure iH (X:Cx) (K:PySem.W.Frag) (x:Str) (g:En→List Rv→Option Rv):Prop where
  ex:(∃id r,cT X (.builtin id) r∧ci K r g∧bootBuiltins x=some (.builtin id))∨∃T r,cT X (.type T) r∧ci K r g∧bootBuiltins x=some (.type T)
theorem aT{x:Str}{g:En→List Rv→Option Rv}(h:iH X K x g)(hg:Gl X x)(hm:X.mg x=none)(ha:PA X (a::es) (fA K fs))(hn:x≠"__name__")(hdb:(x==("__debug__":Str))=false)
    (he:starEach (a::es) X.env=(false,eval a X.env)::starEach es X.env)(hpl:(backTo pos (starEach es X.env)).any (·.1)=false):PE X (.Call (.Name x p) (a::es) [] pos) (fE K (aA g fs)):=by
  rcases h.ex with ⟨id,r,h1,h2,h3⟩ | ⟨T,r,h1,h2,h3⟩
  · exact ph h1 h2 hg hm h3 ha hn hdb he hpl
  · exact m9 h1 h2 hg hm h3 ha hn hdb he hpl
theorem b_len(hK:X.K=K):iH X K "len" (g1 cI):=⟨.inl ⟨_,_,hK ▸ jw,ww,PySem.boot_len⟩⟩
theorem b_abs:iH X K "abs" (g1 mP):=⟨.inl ⟨_,_,nI,vQ,PyProof.Rows.boot_abs⟩⟩
theorem b_min(hc:X.calm=true):iH X K "min" (g2 n_):=⟨.inl ⟨_,_,mK hc,wA,PyProof.Rows.boot_min⟩⟩
theorem b_max(hc:X.calm=true):iH X K "max" (g2 hV):=⟨.inl ⟨_,_,mJ hc,wz,PyProof.Rows.boot_max⟩⟩
theorem b_int:iH X K "int" (g1 kb):=⟨.inr ⟨_,_,mI,wk,PyProof.Rows.boot_int⟩⟩
theorem b_tuple(hK:X.K=K):iH X K "tuple" (g1 cy):=⟨.inr ⟨_,_,hK ▸ iI,rG,PyProof.Rows.boot_tuple⟩⟩
theorem b_list(hK:X.K=K):iH X K "list" (g1 sy):=⟨.inr ⟨_,_,hK ▸ jx,tU,PyProof.Rows.boot_list⟩⟩
theorem b_all{k:Nat}(hK:X.K=K)(hr:bu k X.A):iH X K "all" (g1 (hZ ka)):=⟨.inl ⟨_,_,nJ hr hK,vS,nH⟩⟩
theorem b_repr{k:Nat}(hK:X.K=K)(hr:bu k X.A):iH X K "repr" (g1 gz):=⟨.inl ⟨_,_,hK ▸ lu hr,u_,PyProof.Rows.boot_repr⟩⟩
def fX(fs:FA):FE:=fun e=>(fs e).bind fun p=>match p.1 with
  | [r]=>(bS r).bind fun j=>if 0≤j∧j≤100000 then some (.l ((jV j.toNat).map .int),p.2) else none
  | _=>none
theorem kB(hc:X.calm=true)(hgl:Gl X "list")(hml:X.mg "list"=none)(hg:Gl X "range")(hm:X.mg "range"=none)(ha:PA X [a] (fA K fs))(hs:starEach [a] X.env=[(false,eval a X.env)])
    (he:starEach [.Call (.Name "range" p2) [a] [] p3] X.env=[(false,eval (.Call (.Name "range" p2) [a] [] p3) X.env)]):PE X (.Call (.Name "list" p) [.Call (.Name "range" p2) [a] [] p3] [] pos) (fE K (fX fs)):=(jP hc hgl hml hg hm ha hs he).mono fun σ H Q h=>by
  obtain⟨F,e,z,e',R,hf,q⟩:=h
  unfold fX at hf
  obtain⟨⟨rs,e1⟩,h1,hf⟩:=Option.bind_eq_some_iff.mp hf
  match rs,h1,hf with
  | [r],h1,hf=>
  obtain⟨j,h2,hf⟩:=Option.bind_eq_some_iff.mp hf
  split at hf
  case isFalse=>cases hf
  case isTrue hj=>
  cases hf
  refine⟨F,e,_,e1,R,h1,fun F1 H1 vs X1 R1 A1=>?_⟩
  obtain⟨v,rfl,A2⟩:=eG A1
  refine⟨j,by rw [bh A2 h2],hj.1,hj.2,fun t ht=>?_⟩
  obtain⟨R3,X3,hF,no⟩:=R1.newL (vs:=(jV j.toNat).map V.int) ht
  exact q _ _ _ (X1.trans X3) R3 ⟨t,_,rfl,X1.dom _ ht,hF,aq,au.ints.mpr rfl,no⟩
abbrev et:FT:=fun e=>some (true,e)
theorem mF.mono{ifs:List Expr}{t t':TT}(h:mF X ifs t)(m:∀σ H Q,t' σ H Q→t σ H Q):mF X ifs t':=fun pins s σ H Q I q=>h pins s σ H Q I (m σ H Q q)
theorem jT:mF X [] (fT K et):=ri.mono fun σ H Q h=>by
  obtain⟨F,e,b,e',R,hf,q⟩:=h
  cases hf
  exact q F H (cj.refl _ _ _ _) R
theorem jU{c:Expr}{ft:FT}(h:PT X c (fT K ft)):mF X [c] (fT K ft):=rj h
theorem lI{elt iter tg:Expr}{ifs:List Expr}{scope:Scope}{fi:FI}{g:FG}{ft:FT}{fe:FE}{W:List Nat}(sc0:Scope)(N0:List Str)(cp:List (Nat × Str))(tgN:List Str)
    (hc:X.calm=true)(hsc:X.env.scope=sc0)(hN0:X.N=N0)(hi:PI X tg iter (fI K fi))
    (hg:∀C s0 H0 fp,PG (ax X scope cp tgN C s0 H0 fp) tg (fG K g W))
    (ht:∀C s0 H0 fp,mF (ax X scope cp tgN C s0 H0 fp) ifs (fT K ft))
    (he:∀C s0 H0 fp,PE (ax X scope cp tgN C s0 H0 fp) elt (fE K fe))
    (hk:scope.kind=.function)(hcell:∀y∈scope.names,y.2≠.cell)(hnames:∀y∈scope.names,y.2=.local→scope.names.lookup y.1=some .local)
    (hfr:∀y∈scope.names,y.2=.free→scope.names.lookup y.1=some .free∧sc0.names.lookup y.1=some .cell)
    (hcp:∀p∈cp,N0[p.1]?=some p.2)(hcq:∀p∈cp,sc0.names.lookup p.2=some .cell∧scope.names.lookup p.2=some .free)(hnd:(cp.map (·.1)).Nodup)(hW:∀j∈W,cp.length≤j)
    (hs:∀x,foldedSetIterable iter X.env x=pure x):
    PE X (.ListComp elt [⟨tg,iter,ifs,0⟩] scope pos) (fE K (cw cp tgN.length fi g ft fe)):=(qT sc0 N0 cp tgN hc hsc hN0 hi hg ht he hk hcell hnames hfr hcp hcq hs).mono fun _ _ _ h=>iC hnd hW h
theorem m8{ix:Nat}{nm:Str}{posn poss:Pos}{elt iter tg:Expr}{ifs:List Expr}{scope:Scope}{fi:FI}{g:FG}{ft:FT}{fe:FE}{W:List Nat}(sc0:Scope)(N0:List Str)(cp:List (Nat × Str))(tgN:List Str)
    (hc:X.calm=true)(hsc:X.env.scope=sc0)(hN0:X.N=N0)(hi:PI X tg iter (fI K fi))
    (hg:∀C s0 H0 fp,PG (ax X scope cp tgN C s0 H0 fp) tg (fG K g W))
    (ht:∀C s0 H0 fp,mF (ax X scope cp tgN C s0 H0 fp) ifs (fT K ft))
    (he:∀C s0 H0 fp,PE (ax X scope cp tgN C s0 H0 fp) elt (fE K fe))
    (hk:scope.kind=.function)(hcell:∀y∈scope.names,y.2≠.cell)(hnames:∀y∈scope.names,y.2=.local→scope.names.lookup y.1=some .local)
    (hfr:∀y∈scope.names,y.2=.free→scope.names.lookup y.1=some .free∧sc0.names.lookup y.1=some .cell)
    (hcp:∀p∈cp,N0[p.1]?=some p.2)(hcq:∀p∈cp,sc0.names.lookup p.2=some .cell∧scope.names.lookup p.2=some .free)(hnd:(cp.map (·.1)).Nodup)(hW:∀j∈W,cp.length≤j)
    (hNd:X.N.Nodup)(hix:X.N[ix]?=some nm)(hlc:X.env.scope.names.lookup nm=some .local)(hsw:swapsWith (.ListComp elt [⟨tg,iter,ifs,0⟩] scope pos) (some (.Name nm posn)) poss.line X.env=pure true)
    (hs:∀x,foldedSetIterable iter X.env x=pure x):
    PS X (.Assign [.Name nm posn] (.ListComp elt [⟨tg,iter,ifs,0⟩] scope pos) poss) (fS K (be ix (cw cp tgN.length fi g ft fe)) [ix]):=(lH sc0 N0 cp tgN hc hsc hN0 hi hg ht he hk hcell hnames hfr hcp hcq hNd hix hlc hsw hs).mono fun D σ H h=>by
  obtain⟨F,e,fl,R,hf,q⟩:=h
  unfold be at hf
  obtain⟨⟨r,e1⟩,h1,hf⟩:=Option.bind_eq_some_iff.mp hf
  obtain⟨e2,h2,hf⟩:=Option.map_eq_some_iff.mp hf
  cases hf
  refine iC hnd hW ⟨F,e,r,e1,R,h1,fun F1 H1 v X1 R1 A1=>?_⟩
  obtain⟨x,R2⟩:=pd R X1 R1 A1 h2
  exact q F1 H1 _ x R2
variable{o:Expr}{fo:FE}{apos cpos:Pos}
theorem el(hK:X.K=K)(ho:PE X o (fE K fo))(ha:PA X (a::es) (fA K fs))(hbase:attributeBase o "append" X.env (eval o X.env)=eval o X.env)
    (hfew:((backTo cpos (starEach (a::es) X.env)).all (fun x=> !x.1)&&(backToKw cpos (keywordEach [] X.env)).all (fun x=>x.1.isSome)
      &&decide ((a::es).length+([]:List Keyword).length+(if ([]:List Keyword).isEmpty then 0 else 1) < 30))=true)
    (hline:(apos.endLine==cpos.line)=true)(hs:starEach (a::es) X.env=(false,eval a X.env)::starEach es X.env)(hplain:(backTo cpos (starEach es X.env)).any (·.1)=false):
    PE X (.Call (.Attribute o "append" apos) (a::es) [] cpos) (fE K (dG cg fo fs)):=by
  subst hK;exact sN PySem.F.slot_list_append PySem.F.type_list_append eF nA ho ha hbase hfew hline hs hplain
theorem ro(hK:X.K=K)(ho:PE X o (fE K fo))(ha:PA X (a::es) (fA K fs))(hbase:attributeBase o "pop" X.env (eval o X.env)=eval o X.env)
    (hfew:((backTo cpos (starEach (a::es) X.env)).all (fun x=> !x.1)&&(backToKw cpos (keywordEach [] X.env)).all (fun x=>x.1.isSome)
      &&decide ((a::es).length+([]:List Keyword).length+(if ([]:List Keyword).isEmpty then 0 else 1) < 30))=true)
    (hline:(apos.endLine==cpos.line)=true)(hs:starEach (a::es) X.env=(false,eval a X.env)::starEach es X.env)(hplain:(backTo cpos (starEach es X.env)).any (·.1)=false):
    PE X (.Call (.Attribute o "pop" apos) (a::es) [] cpos) (fE K (dG gc fo fs)):=by
  subst hK;exact sN PySem.F.slot_list_pop PySem.F.type_list_pop oG q5 ho ha hbase hfew hline hs hplain
end
end L2
namespace L2
open PySem PySem.Spec PyProof.Rows
theorem lM{K:PySem.W.Frag}{H:Hp}{a:Addr}{ns:List Int}{m:FM}{as':List Sv}{Q:VK}{E:XK}(hS:dj K H a (ns.map V.int))(hm:m [.d (.list (ns.map .int))]=some (.d (.bool true),as'))(q:∀H',Q (.bl true) H'):cZ K 1 m [.ref a] H Q E:=by
  refine⟨rfl,H,[.d (.list (ns.map .int))],_,as',?_,?_,hm,trivial,fun F' H' v X' R' A'=>?_⟩
  · refine⟨am.refl _,rfl,fun i x h=>?_,fun i xs h=>?_,fun i xss h=>?_,fun i j l f1 _=>?_⟩
    · match i,h with
      | 0,h=>
        simp at h;subst h
        exact⟨.ref a,rfl,cx.mpr ⟨a,_,rfl,hS,au.ints.mpr rfl⟩⟩
      | i+1,h=>simp at h
    · match i,h with
      | 0,h=>simp at h
      | i+1,h=>simp at h
    · match i,h with
      | 0,h=>simp at h
      | i+1,h=>simp at h
    · rcases f1 with ⟨_,h,_⟩ | ⟨_,_,_,h,_⟩
      · match i,h with
        | 0,h=>simp at h
        | i+1,h=>simp at h
      · match i,h with
        | 0,h=>simp at h
        | i+1,h=>simp at h
  · intro i xss h
    match i,h with
    | 0,h=>simp at h
    | i+1,h=>simp at h
  · rw [bM.mp (show DA K F' (.bool true) v from A')];exact q H'
end L2
namespace L2
open PySem PySem.Spec PyProof.Rows
section
variable{K:PySem.W.Frag}{σ:L2.St}{H0 F H F' H':Hp}{e e':En}
end
section
variable{X:Cx}{K:PySem.W.Frag}{a b:Expr}{es:List Expr}{fa fb:FE}{fs:FA}{pos p p2 p3 pos':Pos}{x:Str}{i:Nat}
def nC(k:Int):En→Option Int:=fun _=>some k
end
end L2
namespace L2
open PySem PySem.Spec PyProof.Rows
theorem fZ{C:Int→Int→Bool}{f:Int→Int→PyData}{e:En}{i j:Int}(h:C i j=true):gI C f e (.d (.int i)) (.d (.int j))=some (.d (f i j)):=by simp [gI,bS,h]
theorem j'{e:En}{i j:Int}:cH e (.d (.int i)) (.d (.int j))=some (.d (.int (i+j))):=rfl
theorem hX{e:En}{i j:Int}:eN e (.d (.int i)) (.d (.int j))=some (.d (.int (i - j))):=rfl
theorem fm{e:En}{i j:Int}(h:gf i j=true):f9 e (.d (.int i)) (.d (.int j))=some (.d (.int (i*j))):=by
  unfold f9 pZ oe;rw [fZ h];rfl
theorem lF{i j:Int}(h1: -(2 ^ 64) < i)(h2:i < 2 ^ 64):gf i j=true:=by
  have:dW i=true:=by unfold dW;rw [decide_eq_true h1,decide_eq_true h2];rfl
  unfold gf;rw [this];simp
theorem jJ{i j:Int}(h1: -(2 ^ 64) < j)(h2:j < 2 ^ 64):gf i j=true:=by
  have:dW j=true:=by unfold dW;rw [decide_eq_true h1,decide_eq_true h2];rfl
  unfold gf;rw [this];simp
theorem az{e:En}{i j:Int}(h:0 < j):aM e (.d (.int i)) (.d (.int j))=some (.d (.int (i % j))):=by
  unfold aM;rw [fZ (by simp;lia)]
  rw [Int.fmod_eq_emod_of_nonneg i (by lia)]
theorem dy{e:En}{i j:Int}(h:0 < j)(h2:Bt 8000 j):dw e (.d (.int i)) (.d (.int j))=some (.d (.int (i / j))):=by
  unfold dw;rw [fZ (by simp [eW.mpr h2];lia)]
  rw [Int.fdiv_eq_ediv_of_nonneg i (by lia)]
theorem jB{e:En}{i j:Int}{neg:Bool}:du neg e (.d (.int i)) (.d (.int j))=some (.d (.bool (if neg then !(i==j) else i==j))):=by
  unfold du;simp [eI,SeqAt.shaped,PyData.canLay0,PyData.depth,PyData.eqv]
theorem l9{e:En}{i j:Int}:vE e (.d (.int i)) (.d (.int j))=some (.d (.bool (decide (i < j)))):=rfl
theorem l7{e:En}{i j:Int}:xY e (.d (.int i)) (.d (.int j))=some (.d (.bool (decide (i≤j)))):=rfl
theorem l5{e:En}{i j:Int}:tH e (.d (.int i)) (.d (.int j))=some (.d (.bool (decide (j < i)))):=rfl
theorem l4{e:En}{i j:Int}:wd e (.d (.int i)) (.d (.int j))=some (.d (.bool (decide (j≤i)))):=rfl
theorem kc{e:En}{i j:Int}:g2 n_ e [.d (.int i),.d (.int j)]=some (.d (.int (min i j))):=by
  show some (Rv.d (.int (if j < i then j else i)))=_
  congr 3
  split<;>lia
theorem fj{e:En}{i j:Int}:g2 hV e [.d (.int i),.d (.int j)]=some (.d (.int (max i j))):=by
  show some (Rv.d (.int (if j > i then j else i)))=_
  congr 3
  split<;>lia
theorem kd{e:En}{i:Int}:qk e (.d (.int i))=some (.d (.int (-i))):=rfl
theorem i3{e:En}{b:Bool}:g1 kb e [.d (.bool b)]=some (.d (.int (if b then 1 else 0))):=rfl
theorem j_{e:En}{i:Int}:g1 mP e [.d (.int i)]=some (.d (.int i.natAbs)):=by
  show some (Rv.d (.int (if i < 0 then -i else i)))=_
  congr 3
  split<;>lia
theorem g9{j:Int}(h1:0 < j)(h2:j < 2 ^ 64):Bt 8000 j:=Bt.mono (m:=64) (by unfold Bt;lia) (by decide)
theorem ed{α:Type}{xs:List α}{i:Int}(h0:0≤i)(h:i < xs.length):atI xs i=xs[i.toNat]?:=by
  unfold atI wu
  rw [if_pos h0,if_pos h];rfl
theorem nY{e:En}{i:Nat}{xs:List PyData}{neg:Bool}(h:e[i]?=some (some (.l xs)))(hs:SeqAt.shaped (.list xs)=true):du neg e (.s i) (.l [])=some (.d (.bool (if neg then !xs.isEmpty else xs.isEmpty))):=by
  unfold du
  simp only [eI,h,Option.bind_some,hs]
  have h0:SeqAt.shaped (.list [])=true:=by simp [SeqAt.shaped,PyData.canLay0,PyData.canLayAll0,PyData.depth,PyData.depthAll]
  rw [h0]
  cases xs<;>simp [PyData.eqv,PyData.eqvAll]
theorem kT(ns:List Int):SeqAt.shaped (.list (ns.map .int))=true∧SeqAt.shaped (.tuple (ns.map .int))=true:=by
  have h1:PyData.canLayAll0 (ns.map PyData.int)=true:=by
    induction ns with
    | nil=>rfl
    | cons n r ih=>simp [PyData.canLayAll0,PyData.canLay0,ih]
  have h2:PyData.depthAll (ns.map PyData.int)=0:=by
    clear h1
    induction ns with
    | nil=>rfl
    | cons n r ih=>simp [PyData.depthAll,PyData.depth,ih]
  constructor<;>simp [SeqAt.shaped,PyData.canLay0,PyData.depth,h1,h2]
theorem dt{own:d_}{g:FG}{f:FS}(P:Nat→En→Prop):∀(items:List PyData) (k:Nat) (e:En),(∀i x e,items[i]?=some x→P (k+i) e→∃e1 e2,g x e=some e1∧f e1=some (.nx e2)∧keeps own e2∧P (k+i+1) e2)→P k e→∃e',hR own g f items e=some (.nx e')∧P (k+items.length) e'
  | [],k,e,_,h=>⟨e,rfl,h⟩
  | x::r,k,e,hs,h=>by
    obtain⟨e1,e2,h1,h2,h3,h4⟩:=hs 0 x e rfl h
    obtain⟨e',h5,h6⟩:=dt P r (k+1) e2 (fun i y e hy hp=>by
      have:=hs (i+1) y e (by simpa using hy) (by rw [show k+(i+1)=k+1+i by lia];exact hp)
      rw [show k+(i+1)+1=k+1+i+1 by lia] at this
      exact this) h4
    refine⟨e',?_,by rw [List.length_cons,show k+(r.length+1)=k+1+r.length by lia];exact h6⟩
    unfold hR
    simp only [h1,h2,Option.bind_some,if_pos h3]
    exact h5
theorem a8{e:En}:keeps [] e:=fun _ h=>by cases h
theorem dU{W:List Nat}{fi:FI}{g:FG}{f:FS}{e e1:En}{items:List PyData}(h:fi e=some (items,[],e1)):ec W fi g f e=hR [] g f items e1:=by
  unfold ec;rw [h];rfl
theorem dS{lo:Int}{n i:Nat}{x:PyData}(h:(aI lo n)[i]?=some x):x=.int (lo+i)∧i < n:=by
  unfold aI at h
  rw [List.getElem?_map] at h
  obtain⟨k,h1,rfl⟩:=Option.map_eq_some_iff.mp h
  obtain⟨h2,h3⟩:=List.getElem?_eq_some_iff.mp h1
  simp at h2 h3
  subst h3
  exact⟨rfl,h2⟩
theorem cX{lo:Int}{n:Nat}:(aI lo n).length=n:=by simp [aI]
theorem bZ{fs:FA}{e e1:En}{n:Int}(h:fs e=some ([.d (.int n)],e1))(h1: -1000000≤n)(h2:n≤1000000):bR fs e=some (aI 0 n.toNat,[],e1):=by
  unfold bR;rw [h]
  have:pB n=true:=by unfold pB;rw [decide_eq_true h1,decide_eq_true h2];rfl
  simp [bS,this]
theorem iD{ft:FT}{f:FS}(P:En→Prop)(μ:En→Nat)(hs:∀e,P e→(∃e1,ft e=some (false,e1)∧True)∨∃e1 e2,ft e=some (true,e1)∧f e1=some (.nx e2)∧P e2∧μ e2 < μ e):
    ∀(n:Nat) (e:En),P e→μ e < n→∃e0 e',dX ft f n e=some (.nx e')∧P e0∧ft e0=some (false,e'):=by
  intro n
  induction n with
  | zero=>intro e _ h;lia
  | succ n ih=>
    intro e hp hm
    rcases hs e hp with ⟨e1,h1,_⟩ | ⟨e1,e2,h1,h2,h3,h4⟩
    · exact⟨e,e1,by unfold dX;rw [h1];rfl,hp,h1⟩
    · obtain⟨e0,e',g1,g2⟩:=ih e2 h3 (by lia)
      exact⟨e0,e',by unfold dX;rw [h1];simp only [Option.bind_some,if_true,h2];exact g1,g2⟩
theorem cR{cs:En}{ft:FT}{fe:FE}{b:PyData→Bool}{y:PyData→PyData}:∀(items:List PyData) (t:Option Sv) (acc:List PyData),(∀x∈items,ft (cs++[some (.d x)])=some (b x,cs++[some (.d x)]))→(∀x∈items,b x=true→fe (cs++[some (.d x)])=some (.d (y x),cs++[some (.d x)]))→
    acc.length+items.length≤1000000→∃t',dn (ai cs.length) ft fe items (cs++[t]) acc=some (acc++(items.filter b).map y,cs++[t'])
  | [],t,acc,_,_,_=>⟨t,by simp [dn]⟩
  | x::r,t,acc,h1,h2,hl=>by
    have hg:ai cs.length x (cs++[t])=some (cs++[some (.d x)]):=by simp [ai]
    have h1x:=h1 x (by simp)
    unfold dn
    rw [hg]
    simp only [Option.bind_some,h1x]
    cases hb:b x with
    | true=>
      simp only [if_true,h2 x (by simp) hb,Option.bind_some,mL]
      rw [if_pos (by simp at hl;lia)]
      obtain⟨t',ih⟩:=cR (b:=b) (y:=y) r (some (.d x)) (acc++[y x]) (fun z hz=>h1 z (by simp [hz])) (fun z hz=>h2 z (by simp [hz])) (by simp at hl ⊢;lia)
      exact⟨t',by rw [ih];simp [hb]⟩
    | false=>
      simp only [Bool.false_eq_true,if_false]
      obtain⟨t',ih⟩:=cR (b:=b) (y:=y) r (some (.d x)) acc (fun z hz=>h1 z (by simp [hz])) (fun z hz=>h2 z (by simp [hz])) (by simp at hl;lia)
      exact⟨t',by rw [ih];simp [hb]⟩
theorem tM{fa:FE}{e e1:En}{xs:List PyData}(h:fa e=some (.d (.tuple xs),e1)):gF fa e=some (xs,[],e1):=by
  unfold gF;rw [h];rfl
theorem qm{fa:FE}{e e1:En}{xs:List PyData}(h:fa e=some (.d (.list xs),e1)):gF fa e=some (xs,[],e1):=by
  unfold gF;rw [h];rfl
theorem oq{fa:FE}{e e1:En}{xs:List PyData}(h:fa e=some (.l xs,e1)):gF fa e=some (xs,[],e1):=by
  unfold gF;rw [h];rfl
theorem dF{cp:List (Nat × Str)}{nT:Nat}{fi:FI}{g:FG}{ft:FT}{fe:FE}{e e1 cs:En}{t t':En}{items out:List PyData}(h1:fi e=some (items,[],e1))(hc:ki cp nT e1=cs++t)(hl:cs.length=cp.length)(h3:dn g ft fe items (ki cp nT e1) []=some (out,cs++t')):cw cp nT fi g ft fe e=some (.l out,e1):=by
  have key:∀i x,e1[i]?=some (some (.l x))→∀k,ii cp i=some k→(cs++t')[k]?=some (some (.l x)):=by
    intro i x hi k hk
    obtain⟨s,hs⟩:=dA hk
    have hk2:k < cp.length:=(List.getElem?_eq_some_iff.mp hs).1
    have:(ki cp nT e1)[k]?=some (some (.l x)):=by
      unfold ki
      rw [List.getElem?_append_left (by simpa using hk2),List.getElem?_map,hs]
      simp [hi,wx]
    rw [hc,List.getElem?_append_left (by lia)] at this
    rw [List.getElem?_append_left (by lia)]
    exact this
  unfold cw
  rw [h1]
  simp only [Option.bind_some,List.all_nil,if_true,h3]
  have hb:jv cp (cs++t') e1=true:=by
    unfold jv
    rw [List.all_eq_true]
    intro p hp
    match hi:e1[p.1]? with
    | none=>simp [p0]
    | some none=>simp [p0]
    | some (some (.d x))=>simp [p0]
    | some (some (.n x))=>simp [p0]
    | some (some (.l x))=>
      cases hq:ii cp p.1 with
      | none=>
        unfold ii at hq
        rw [List.findIdx?_eq_none_iff] at hq
        have:=hq p hp
        simp at this
      | some k=>simp [key p.1 x hi k hq,p0]
  rw [if_pos hb]
  congr 2
  refine List.ext_getElem? fun i=>?_
  rw [ba]
  match hi:e1[i]? with
  | none=>rfl
  | some none=>rfl
  | some (some (.d x))=>rfl
  | some (some (.n x))=>rfl
  | some (some (.l x))=>
    cases hp:ii cp i with
    | none=>simp [hp]
    | some k=>simp [hp,key i x hi k hp]
theorem gX{α:Type}{xs:List α}{i:Int}(h0:0≤i)(h1:i < xs.length):∃x∈xs,atI xs i=some x:=by
  rw [ed h0 h1]
  exact⟨xs[i.toNat]'(by lia),List.getElem_mem _,List.getElem?_eq_getElem _⟩
theorem sv{e:En}{xs:List PyData}{i:Int}:dc e (.l xs) (.d (.int i))=(atI xs i).map .d:=rfl
theorem i4{e:En}{xs:List PyData}{i:Int}:dc e (.d (.tuple xs)) (.d (.int i))=(atI xs i).map .d:=rfl
theorem nZ{e:En}{xs:List PyData}{i:Int}:dc e (.d (.list xs)) (.d (.int i))=(atI xs i).map .d:=rfl
theorem sx{e:En}{j:Nat}{xs:List PyData}{i:Int}(h:e[j]?=some (some (.l xs))):dc e (.s j) (.d (.int i))=(atI xs i).map .d:=by
  simp [dc,cM,h,bS]
theorem n9{e:En}{xs:List PyData}:g1 cI e [.d (.tuple xs)]=some (.d (.int xs.length)):=rfl
theorem l8{e:En}{xs:List PyData}:g1 cI e [.d (.list xs)]=some (.d (.int xs.length)):=rfl
theorem n5{e:En}{xs:List PyData}:g1 cI e [.l xs]=some (.d (.int xs.length)):=rfl
theorem n6{e:En}{j:Nat}{xs:List PyData}(h:e[j]?=some (some (.l xs))):g1 cI e [.s j]=some (.d (.int xs.length)):=by
  simp [g1,cI,cM,h]
theorem kf{e:En}{j:Nat}{xs:List PyData}(h:e[j]?=some (some (.l xs))):g1 cy e [.s j]=some (.d (.tuple xs)):=by
  simp [g1,cy,cM,h]
theorem ke{e:En}{xs:List PyData}:g1 cy e [.l xs]=some (.d (.tuple xs)):=rfl
theorem i5{e:En}{xs:List PyData}:g1 cy e [.d (.list xs)]=some (.d (.tuple xs)):=rfl
theorem kg{e:En}{xs:List PyData}:g1 cy e [.d (.tuple xs)]=some (.d (.tuple xs)):=rfl
theorem sC{e:En}{xs:List PyData}{lo hi:Option Int}:yj e (.d (.tuple xs)) lo hi=some (.d (.tuple (iJ xs lo hi))):=rfl
theorem nX{e:En}{xs ys:List PyData}(h:xs.length+ys.length≤1000000):cH e (.d (.tuple xs)) (.d (.tuple ys))=some (.d (.tuple (xs++ys))):=by
  simp [cH,pZ,sk,gI,bS,l3,cM,h]
theorem tI{e:En}{i j:Int}(h:j≠0):aM e (.d (.int i)) (.d (.int j))=some (.d (.int (i.fmod j))):=by
  unfold aM;rw [fZ (by simpa using h)]
theorem qj{e:En}{i j:Int}(h:j≠0)(h2:Bt 8000 j):dw e (.d (.int i)) (.d (.int j))=some (.d (.int (i.fdiv j))):=by
  unfold dw;rw [fZ (by simp [eW.mpr h2,h])]
theorem fq{e:En}{i j:Int}(h:o8 i j=true):ly e (.d (.int i)) (.d (.int j))=some (.d (.int (i ^ j.toNat))):=by
  unfold ly;rw [fZ h]
theorem fB:o8 10 18=true:=by decide
theorem bC{f g:FS}{e e1:En}(h:f e=some (.nx e1)):aJ f g e=g e1:=by unfold aJ;rw [h];rfl
theorem xq{ft:FT}{f g:FS}{e e1:En}(h:ft e=some (true,e1)):iF ft f g e=f e1:=by unfold iF;rw [h];rfl
theorem xo{ft:FT}{f g:FS}{e e1:En}(h:ft e=some (false,e1)):iF ft f g e=g e1:=by unfold iF;rw [h];rfl
def sG(i:Nat)(e:En):Nat:=match e[i]? with
  | some (some (.l xs))=>xs.length
  | _=>0
def oH(i:Nat)(e:En):Nat:=match e[i]? with
  | some (some (.d (.int k)))=>k.natAbs
  | _=>0
theorem ma{n m:Nat}(h:n < 2 ^ m)(hm:m≤4200):n < 2 ^ 4200:=Nat.lt_of_lt_of_le h (Nat.pow_le_pow_right (by decide) hm)
theorem li{α:Type}{a:α}{r:List α}:atI (a::r) 0=some a:=by
  rw [ed (by decide) (by simp)];rfl
theorem lj{α:Type}{a b:α}{r:List α}:atI (a::b::r) 1=some b:=by
  rw [ed (by decide) (by simp;lia)];rfl
theorem lm{α:Type}{a b c:α}{r:List α}:atI (a::b::c::r) 2=some c:=by
  rw [ed (by decide) (by simp;lia)];rfl
theorem lp{α:Type}{a b c d:α}{r:List α}:atI (a::b::c::d::r) 3=some d:=by
  rw [ed (by decide) (by simp;lia)];rfl
theorem nB{W:aR}{k:Int}(h:j3 W k):atI (W.ties.map aQ) k=some (aQ (W.tie k)):=by
  rw [ed h.1 (by rw [List.length_map];exact h.2),List.getElem?_map,h.get];rfl
theorem j7{ns:List Int}{k:Int}(h0:0≤k)(h1:k < (ns.length:Int)):atI (ns.map PyData.int) k=some (.int (ns.getD k.toNat 0)):=by
  rw [ed h0 (by rw [List.length_map];exact h1),List.getElem?_map]
  have:k.toNat < ns.length:=by lia
  simp [this]
theorem rX{a b c d:PyData}:iJ [a,b,c,d] none (some 2)=[a,b]:=rfl
theorem iX{a b c d:PyData}:iJ [a,b,c,d] (some 2) none=[c,d]:=rfl
theorem iW{a b c:PyData}:iJ [a,b,c] (some 1) none=[b,c]:=rfl
theorem j8(ns:List Int):PyData.canLayAll0 (ns.map PyData.int)=true:=by
  induction ns with
  | nil=>rfl
  | cons n r ih=>simp [PyData.canLayAll0,PyData.canLay0,ih]
theorem j5{x:Int}:∀(ns:List Int),((ns.map PyData.int).any fun y=>PyData.eqv y (.int x))=ns.contains x
  | []=>rfl
  | n::r=>by
    rw [List.map_cons,List.any_cons,j5 r,List.contains_cons]
    show(n==x || _)=_
    rw [show(n==x)=(x==n) by rw [Bool.eq_iff_iff];simp;exact eq_comm]
theorem hU{e:En}{x:Int}{ns:List Int}{neg:Bool}:sr neg e (.d (.int x)) (.d (.tuple (ns.map .int)))=some (.d (.bool (if neg then !ns.contains x else ns.contains x))):=by
  unfold sr
  simp only [eI,cM,Option.bind_some,j8,j5]
  simp [PyData.canLay0,PyData.depth]
theorem l6{e:En}{x a b:Int}{neg:Bool}:sr neg e (.d (.int x)) (.d (.tuple [.int a,.int b]))=some (.d (.bool (if neg then !(a==x || b==x) else(a==x || b==x)))):=by
  have h:=hU (e:=e) (x:=x) (ns:=[a,b]) (neg:=neg)
  simp only [List.map_cons,List.map_nil] at h
  rw [h]
  have:[a,b].contains x=(a==x || b==x):=by
    simp only [List.contains_cons,List.contains_nil,Bool.or_false]
    rw [show(x==a)=(a==x) by rw [Bool.eq_iff_iff];simp;exact eq_comm,show(x==b)=(b==x) by rw [Bool.eq_iff_iff];simp;exact eq_comm]
  rw [this]
def wF(p:Int→Bool):PyData→Bool
  | .int k=>p k
  | _=>false
theorem e7(W:aR):ap W=.tuple [.int W.things,.tuple (W.ties.map aQ),.tuple (W.pat.map .int),.int W.asks]:=rfl
end L2
namespace L2
open PySem PySem.Spec PyProof.Rows
abbrev Std:=List Int × List Int
structure vN (W:aR) (s:Std):Prop where
  inw:∀k∈s.1,j3 W k
  nd:s.1.Nodup
  tk:s.2.length≤2*s.1.length
  th:∀t∈s.2,0≤t∧t < W.things
def nxt(W:aR)(s:Std)(k:Int)(b:Bool):Std:=(aR.askd s.1 k,W.took s.2 k b)
structure Nd where
  tie:Int
  yes:Int
  no:Int
def vL(W:aR)(n:Nat)(S:Nat→Std)(i:Nat)(k:Int)(b:Bool)(l:Int):Prop:=l= -1∨(0≤l∧l < (n:Int)∧S l.toNat=nxt W (S i) k b)
structure yc (W:aR) (n:Nat) (S:Nat→Std) (i:Nat) (x:Nd):Prop where
  tie:j3 W x.tie
  st:vN W (S i)
  may:W.may (S i).1 (S i).2 x.tie=true
  yes:vL W n S i x.tie true x.yes
  no:vL W n S i x.tie false x.no
def yd(W:aR)(T:List Nd)(S:Nat→Std):Prop:=∀(i:Nat) (x:Nd),T[i]?=some x→yc W T.length S i x
structure Wt where
  st:Std
  par:Int
  side:Int
structure zb (W:aR) (T:List Nd) (S:Nat→Std) (ws:List Wt):Prop where
  tr:yd W T S
  wt:∀w∈ws,vN W w.st∧(w.par= -1∨∃(p:Nat) (x:Nd),w.par=(p:Int)∧T[p]?=some x∧((w.side=0∧w.st=L2.nxt W (S p) x.tie true)∨(w.side=1∧w.st=L2.nxt W (S p) x.tie false)))
  side:∀w∈ws,w.side=0∨w.side=1
end L2
namespace L2
open PySem PySem.Spec PyProof.Rows
theorem nu{cp:List (Nat × Str)}{nT:Nat}{fi:FI}{g:FG}{ft:FT}{fe:FE}{e e1 cs:En}{t t':En}{items out:List PyData}{own:d_}(h1:fi e=some (items,own,e1))(ho:(own.all fun q=> !(cp.any fun c=>c.1==q.1))=true)(hc:ki cp nT e1=cs++t)(hl:cs.length=cp.length)(h3:dn g ft fe items (ki cp nT e1) []=some (out,cs++t')):cw cp nT fi g ft fe e=some (.l out,e1):=by
  have key:=dF (cp:=cp) (nT:=nT) (fi:=fun _=>some (items,[],e1)) (g:=g) (ft:=ft) (fe:=fe) (e:=e) rfl hc hl h3
  unfold cw at key ⊢
  rw [h1]
  simp only [Option.bind_some,List.all_nil,if_true] at key
  simp only [Option.bind_some,ho,if_true]
  exact key
def nm(nums:List Int)(l:Int):Int:=(atI nums l).getD (-1)
structure yT (order:List Int) (n:Nat) (nums:List Int):Prop where
  len:nums.length=n+1
  top:nums[n]?=some (-1)
  at':∀(j:Nat) (v:Int),j < n→nums[j]?=some v→v= -1∨∃p:Nat,v=(p:Int)∧order[p]?=some (j:Int)
def oI(T:List Nd)(w:Int):Nd:=T.getD w.toNat ⟨0,0,0⟩
end L2
namespace L2
open PySem PySem.Spec PyProof.Rows
structure zo (S:Nat→Std) (n:Nat) (ss:List Std):Prop where
  len:ss.length=n
  at':∀(j:Nat) (s:Std),ss[j]?=some s→s.1.length≤(S j).1.length∧s.2.length≤2*s.1.length∧(∀k∈s.1,0≤k∧k < 16)∧∀t∈s.2,0≤t∧t < 12
end L2
namespace L2
open PySem PySem.Spec PyProof.Rows
theorem bA(s:String):PyData.strOk (Str.ofString s)=true:=by
  rw [Str.ofString_eq_toList]
  unfold PyData.strOk
  simp only [List.size_toArray,List.length_map]
  rw [show(List.map Char.toNat s.toList).toArray.all (fun a=>decide (a < 1114112)) 0 s.toList.length=(List.map Char.toNat s.toList).all (fun a=>decide (a < 1114112)) by simp]
  rw [List.all_map,List.all_eq_true]
  intro c _
  show decide (c.toNat < 1114112)=true
  rw [decide_eq_true_eq]
  have:=c.valid
  unfold UInt32.isValidChar Nat.isValidChar at this
  show c.val.toNat < _
  lia
theorem ce{a b:Str}(h1:PyData.strOk a=true)(h2:PyData.strOk b=true):PyData.strOk (a++b)=true:=by
  unfold PyData.strOk at*
  rw [show(a++b).cps=a.cps++b.cps from rfl]
  simp only [Array.all_append,h1,h2,Bool.and_self]
theorem iz{sep:Str}(h:PyData.strOk sep=true):∀(ts:List Str),(∀t∈ts,PyData.strOk t=true)→PyData.strOk (Str.join sep ts)=true
  | [],_=>by show PyData.strOk Str.empty=true;simp [PyData.strOk,Str.empty]
  | [x],hx=>hx x (by simp)
  | x::y::r,hx=>ce (ce (hx x (by simp)) h) (iz h (y::r) fun t ht=>hx t (by simp at ht ⊢;exact .inr ht))
theorem jk{ts:List Str}(h:∀t∈ts,PyData.strOk t=true):PyData.strOk (tupleText ts)=true:=by
  unfold tupleText
  exact ce (ce (bA _) (iz (bA _) ts h)) (bA _)
structure Sz (n dep:Nat) (d:PyData):Prop where
  fl:dr d=true
  sh:d.showable=true
  dp:d.depth≤dep
  ln:d.shown.length≤n
  so:PyData.strOk d.shown=true
theorem ql{e:En}{d:PyData}(h:fQ d=true):g1 gz e [.d d]=some (.d (.str d.shown)):=by
  simp [g1,gz,h]
theorem qi{e:En}{s:Str}(h:PyData.strOk s=true):du false e (.d (.str s)) (.d (.str s))=some (.d (.bool true)):=by
  simp [du,eI,SeqAt.shaped,PyData.canLay0,PyData.depth,PyData.eqv,h]
end L2
namespace L2
open PySem PySem.Spec PyProof.Rows
def rn(T:List Nd)(ans:List Bool):Nat→Int→List (Int × Bool)
  | 0,_=>[]
  | f+1,at'=>if at' < 0 then [] else((oI T at').tie,ans.getD (oI T at').tie.toNat false)::rn T ans f (if ans.getD (oI T at').tie.toNat false=true then(oI T at').yes else(oI T at').no)
def rt(T:List Nd):Int:=if T.length=0 then -1 else 0
structure yW (W:aR) (T:List Nd) (S:Nat→Std) (ans:List Bool) (r:List (Int × Bool)) (a:Int):Prop where
  at':a= -1∨(0≤a∧a < (T.length:Int)∧r.length≤(S a.toNat).1.length)
  eq:r++rn T ans (17 - r.length) a=rn T ans 17 (rt T)
  len:r.length≤16
  inw:∀p∈r,j3 W p.1
theorem Sz.bool{b:Bool}:Sz 5 2 (.bool b):=by
  cases b
  · exact⟨rfl,rfl,by simp [PyData.depth],by show(Str.ofString "False").length≤5;decide,bA _⟩
  · exact⟨rfl,rfl,by simp [PyData.depth],by show(Str.ofString "True").length≤5;decide,bA _⟩
end L2
namespace L2
open PySem PySem.Spec PyProof.Rows
abbrev Fr:=Int × Int
def tm(a b:Fr):Fr:=cz (a.1*b.1) (a.2*b.2)
def pl(a b:Fr):Fr:=cz (a.1*b.2+b.1*a.2) (a.2*b.2)
structure zi (M:Int) (f:Fr):Prop where
  pos:0 < f.2
  lo:0≤f.1
  hi:f.1≤f.2
  dv:f.2 ∣ M
structure xS (M i:Int) (f:Fr):Prop where
  pos:0 < f.2
  lo:0≤f.1
  hi:f.1≤i*f.2
  dv:f.2 ∣ M
def bp(W:aR):List Int→Int
  | []=>1
  | k::r=>(W.tie k).bot*bp W r
def vU(W:aR):Int:=bp W W.rng
def ch(W:aR)(k:Int)(b:Bool):Fr:=if b then((W.tie k).top,(W.tie k).bot) else((W.tie k).bot - (W.tie k).top,(W.tie k).bot)
structure zm (W:aR) (S:Nat→Std) (n:Nat) (rs:List Fr):Prop where
  len:rs.length=n
  at':∀(j:Nat) (f:Fr),rs[j]?=some f→zi (bp W (S j).1) f
structure zc (W:aR) (i:Nat) (ss:List Fr):Prop where
  len:ss.length=W.ties.length
  at':∀(j:Nat) (f:Fr),ss[j]?=some f→xS (vU W) (i:Int) f
end L2
namespace L2
open PySem PySem.Spec PyProof.Rows
def vy(sc:Scope)(x:Str):Bool:=match sc.names.lookup x with
  | some .local=>true
  | some .cell=>true
  | some .free=>true
  | _=>false
theorem rM{sc:Scope}{x:Str}(h:vy sc x=true):vP sc x:=by
  unfold vy at h
  unfold vP
  split at h
  · rename_i e;exact .inl e
  · rename_i e;exact .inr (.inl e)
  · rename_i e;exact .inr (.inr e)
  · cases h
section
variable{X:Cx}{K:PySem.W.Frag}
theorem qw(i:Nat){x:Str}{pos:Pos}(hN:X.N[i]?=some x)(hv:vy X.env.scope x=true)(hd:((x==("__debug__":Str)) || (x==("__classdict__":Str)))=false):PE X (.Name x pos) (fE K (ae i)):=qv i hN (rM hv) (Bool.or_eq_false_iff.mp hd).1 (Bool.or_eq_false_iff.mp hd).2
end
end L2
namespace L2
open PySem PySem.Spec PyProof.Rows
section
variable{X:Cx}{tg a b c:Expr}{ta:TA}{p pos p2 pos2:Pos}
end
section
variable{K:PySem.W.Frag}{σ:L2.St}
end
section
variable{X:Cx}{K:PySem.W.Frag}{tg a b c:Expr}{fs:FA}{pos p p2 pos2:Pos}
end
end L2
namespace L2
open PySem PySem.Spec PyProof.Rows
end L2
namespace L2
open PySem PySem.Spec PyProof.Rows
section
variable(P:Program)(w:World)
end
section
variable{P:Program}{w:World}{H H':Hp}{h h':Heap}{a:Addr}{o:HO}
end
section
variable{P:Program}{w:World}{H:Hp}{h h':Heap}{x e:Addr}{o':HO}
end
section
variable{fs fs' ex ex':List Addr}{H H1 H2:Hp}{h h1 h2 h':Heap}{a x e:Addr}{o:HO}
end
end L2
namespace L2
open PySem PySem.Spec PyProof.Rows
section
variable{X:Cx}{pins:List (Addr × Obj)}{σ:List (Option V)}{H H':Hp}{s:Shared}{h':Heap}
end
end L2
namespace L2
open PySem PySem.Spec PyProof.Rows
section
variable{X:Cx}
variable{a b:Expr}{ta tb:TE}{pos:Pos}
variable{tA tB':TT}{c7:List Expr}
end
end L2
namespace L2
open PySem PySem.Spec PyProof.Rows
section
variable{X:Cx}{pins:List (Addr × Obj)}{σ:St}{H:Hp}{s:Shared}{a:Addr}{xs ys:List V}
end
section
variable{X:Cx}{pins:List (Addr × Obj)}{σ:St}{H:Hp}{s:Shared}{E:Value→Shared→Prop}
end
section
variable{X:Cx}{st:Stmt}{c7:List Stmt}{t u:TS}{e:Expr}{te:TE}{pos:Pos}
end
section
variable{X:Cx}{pos:Pos}
end
section
variable{X:Cx}{pos:Pos}
end
end L2
namespace L2
open PySem PySem.Spec PyProof.Rows
section
variable{X:Cx}{tg:Expr}
end
end L2
namespace L2
open PySem PySem.Spec PyProof.Rows
section
variable{X:Cx}{a b c:Expr}{ta tb tc:TE}{pos:Pos}
end
section
variable{X:Cx}{a b c:Expr}{ta tb tc:TE}{pos:Pos}
end
end L2
namespace L2
open PySem PySem.Spec PyProof.Rows
section
variable{prog:Program}{w:World}{A:Around}{E:Value→Shared→Prop}{s:Shared}{K:PySem.W.Frag}{x dx C f:Addr}{mA:Str→Option Value}{name:Str}{v:Value}
end
section
variable{P:Program}{w:World}{H H':Hp}{h h':Heap}{a C dx:Addr}{fs fs':List (Str × V)}
end
section
variable{X:Cx}{pins:List (Addr × Obj)}{σ:St}{H:Hp}{s:Shared}{a C dx:Addr}{fs:List (Str × V)}{f:Str}{v:V}{A:Around}{E:Value→Shared→Prop}
end
section
variable{X:Cx}{o e value:Expr}{f:Str}{pos pos' tpos:Pos}{ta tv:TE}
end
section
variable{X:Cx}{pins:List (Addr × Obj)}{σ:St}{H:Hp}{s:Shared}{A:Around}{E:Value→Shared→Prop}{Q:Value→Shared→Prop}{c:Value}{b:Bool}
end
end L2
namespace L2
open PySem PySem.Spec PyProof.Rows
section
variable{X:Cx}{e:Expr}{es:List Expr}{te:TE}{t:TA}{pos:Pos}
end
section
variable{X:Cx}{pins:List (Addr × Obj)}{σ:St}{H:Hp}{s s':Shared}
end
section
variable{X:Cx}{CX:mD}{k:Nat}{f C:Addr}{fd:FuncData}{ps:List Str}{sp:Sp}{dvs:List V}{ds:List Value}{E:XK}{x m:Str}{p pos apos:Pos}{e o:Expr}{es:List Expr}{ta:TE}{t:TA}
end
section
variable{X:Cx}{CX:mD}{k:Nat}{f C:Addr}{fd:FuncData}{ps ks:List Str}{sp:Sp}{E:XK}{x m:Str}{p pos apos kpos:Pos}{e o:Expr}{es:List Expr}{kws:List Keyword}{te ta:TE}{t tk:TA}{nm:Option Str}
variable{g:List Value→List Value→List Value}{gV:List V→List V→List V}
end
end L2
namespace L2
open PySem PySem.Spec PyProof.Rows
section
variable{X:Cx}{x:Str}{p pos:Pos}{e:Expr}{es:List Expr}{t:TA}{id T:String}{r:List V→Hp→VK→Prop}
end
end L2
namespace L2
open PySem PySem.Spec PyProof.Rows
section
variable{κ:Type}[DecidableEq κ]
end
section
variable{P:Program}{w:World}{H:Hp}{h:Heap}{a:Addr}
end
section
variable{X:Cx}{pins:List (Addr × Obj)}{σ:St}{H:Hp}{s:Shared}{a:Addr}{y v:V}{u r:Value}{o:Option V}{A:Around}{E:Value→Shared→Prop}
end
section
variable{X:Cx}{pins:List (Addr × Obj)}{σ:St}{H:Hp}{s:Shared}{a:Addr}{kvs:List (gT × V)}{k:gT}{u:Value}{A:Around}{E:Value→Shared→Prop}
end
section
variable{X:Cx}{o i e value:Expr}{pos pos' tpos:Pos}{td ty tv:TE}
end
section
variable{X:Cx}{pos:Pos}
end
section
variable{X:Cx}{pins:List (Addr × Obj)}{σ:St}{H:Hp}{s:Shared}{a:Addr}{y d:V}{u r:Value}{o:Option V}{A:Around}{E:Value→Shared→Prop}
end
section
variable{X:Cx}{o e f:Expr}{apos cpos:Pos}{td ty tx:TE}
end
section
variable{X:Cx}{pins:List (Addr × Obj)}{σ:St}{H:Hp}{s:Shared}{a:Addr}{kvs:List (gT × V)}{A:Around}{E:Value→Shared→Prop}
end
section
variable{X:Cx}{pins:List (Addr × Obj)}{σ:St}{H:Hp}{s:Shared}{a:Addr}{y:V}{u:Value}{A:Around}{E:Value→Shared→Prop}
end
end L2
namespace Att
open PySem PySem.W PySem.Calls PyProof.Rows
section
variable{prog:Program}{w:World}{A:Around}{E:Value→Shared→Prop}{s:Shared}{K:Frag}
end
end Att
namespace L2
open PySem PySem.Spec PyProof.Rows
end L2
namespace L2
open PySem PySem.Spec PyProof.Rows
end L2
namespace L2
open PySem PySem.Spec PyProof.Rows
section
variable{P:Program}{w:World}{K:PySem.W.Frag}{mg:Str→Option Value}{base:Heap}
end
section
variable{X:Cx}
end
section
variable{κ:Type}[DecidableEq κ]
end
end L2
namespace L2
open PySem PySem.Spec PyProof.Rows
section
variable{X:Cx}{K:PySem.W.Frag}{a:Expr}{fa:FE}{pos p p2:Pos}
end
end L2
namespace L2
open PySem PySem.Spec PyProof.Rows
section
variable{X:Cx}{K:PySem.W.Frag}
end
end L2
namespace L2
open PySem PySem.Spec PyProof.Rows
section
variable{X:Cx}{K:PySem.W.Frag}{σ:L2.St}{F H:Hp}{e:En}{pos p1 p2:Pos}
end
end L2
namespace L2
open PySem PySem.Spec PyProof.Rows
section
variable{X:Cx}{K:PySem.W.Frag}{a b c d:Expr}{ta tb tc td:TE}{fa fb fc fd:FE}{pos:Pos}
end
end L2
namespace L2
open PySem PySem.Spec PyProof.Rows
section
variable{X:Cx}{K:PySem.W.Frag}{a b:Expr}{es:List Expr}{fa fb:FE}{fs:FA}{pos p apos:Pos}
end
end L2
namespace L2
open PySem PySem.Spec PyProof.Rows
section
variable{X:Cx}{K:PySem.W.Frag}{a b:Expr}{fa fb:FE}{fs:FA}{pos p p2 p3:Pos}
end
end L2
namespace L2
open PySem PySem.Spec PyProof.Rows
def bq(W:aR)(as:List Int):Int:=bp W (W.rng.filter fun k=> !as.contains k)
def wI(l:Nat):Int:=1000*(2 ^ (16 - l) - 1)
structure y' (W:aR) (k:Int) (as:List Int) (y n:Fr):Prop where
  y:xS (bq W (aR.askd as k)) (wI (as.length+1)) y
  n:xS (bq W (aR.askd as k)) (wI (as.length+1)) n
  len:as.length≤15
  inw:j3 W k
  new:k∉as
def lk(ws:List Fr)(l:Int):Fr:=if l= -1 then(0,1) else ws.getD l.toNat (0,1)
structure zp (W:aR) (S:Nat→Std) (n:Nat) (ws:List Fr):Prop where
  len:ws.length=n
  at':∀(j:Nat) (f:Fr),ws[j]?=some f→xS (bq W (S j).1) (wI (S j).1.length) f
theorem Sz.int10{n m:Nat}{k:Int}(hb:Bt m k)(m0:0 < m)(m1:m≤1900)(h:k.natAbs < 10 ^ n)(h0:0 < n):Sz (n+1) 2 (.int k):=by
  refine⟨rfl,?_,by simp [PyData.depth],?_,bA _⟩
  · show decide (k.natAbs.log2 < 1920)=true
    rw [decide_eq_true_eq]
    have:=hb.log m0
    lia
  · have:=int_text_length_le10 h0 h
    show(Str.ofString (toString k)).length≤n+1
    rw [PySem.ofString_length];exact this
end L2
namespace L2
open PySem PySem.Spec PyProof.Rows
theorem dN{cs:En}{g:FG}{ft:FT}{fe:FE}{b:PyData→Bool}{y:PyData→PyData}{u:PyData→En}(n:Nat):∀(items:List PyData) (t:En) (acc:List PyData),t.length=n→(∀x∈items,∀t:En,t.length=n→g x (cs++t)=some (cs++u x))→(∀x∈items,(u x).length=n)→
    (∀x∈items,ft (cs++u x)=some (b x,cs++u x))→(∀x∈items,b x=true→fe (cs++u x)=some (.d (y x),cs++u x))→acc.length+items.length≤1000000→
    ∃t',t'.length=n∧dn g ft fe items (cs++t) acc=some (acc++(items.filter b).map y,cs++t')
  | [],t,acc,h,_,_,_,_,_=>⟨t,h,by simp [dn]⟩
  | x::r,t,acc,h,hg,hu,h1,h2,hl=>by
    have h1x:=h1 x (by simp)
    unfold dn
    rw [hg x (by simp) t h]
    simp only [Option.bind_some,h1x]
    cases hb:b x with
    | true=>
      simp only [if_true,h2 x (by simp) hb,Option.bind_some,mL]
      rw [if_pos (by simp at hl;lia)]
      obtain⟨t',e1,ih⟩:=dN (b:=b) (y:=y) (u:=u) n r (u x) (acc++[y x]) (hu x (by simp)) (fun z hz=>hg z (by simp [hz])) (fun z hz=>hu z (by simp [hz])) (fun z hz=>h1 z (by simp [hz])) (fun z hz=>h2 z (by simp [hz])) (by simp at hl ⊢;lia)
      exact⟨t',e1,by rw [ih];simp [hb]⟩
    | false=>
      simp only [Bool.false_eq_true,if_false]
      obtain⟨t',e1,ih⟩:=dN (b:=b) (y:=y) (u:=u) n r (u x) acc (hu x (by simp)) (fun z hz=>hg z (by simp [hz])) (fun z hz=>hu z (by simp [hz])) (fun z hz=>h1 z (by simp [hz])) (fun z hz=>h2 z (by simp [hz])) (by simp at hl;lia)
      exact⟨t',e1,by rw [ih];simp [hb]⟩
theorem jj{x:Str}(h:PyData.strOk x=true):∀c∈x.cps.toList,c < 1114112:=by
  intro c hc
  unfold PyData.strOk at h
  rw [Array.all_eq_true'] at h
  have:=h c (by simpa using hc)
  simpa using this
theorem pN{l:Array Nat}(h:∀c∈l.toList,c < 1114112):PyData.strOk ⟨l⟩=true:=by
  unfold PyData.strOk
  rw [Array.all_eq_true']
  intro c hc
  simpa using h c (by simpa using hc)
theorem qb(c:Char):c.toNat < 1114112:=by
  have:=c.valid
  unfold UInt32.isValidChar Nat.isValidChar at this
  show c.val.toNat < _
  lia
open PySem.Builtin.Str in
theorem kG{q c:Nat}(hc:c < 1114112):∀d∈reprChar q c,d < 1114112:=by
  intro d hd
  unfold reprChar at hd
  have hx:∀w:Nat,∀d∈(List.replicate (w - ((Nat.toDigits 16 c).map Char.toNat).length) 48++(Nat.toDigits 16 c).map Char.toNat),d < 1114112:=by
    intro w d hd
    rcases List.mem_append.mp hd with h | h
    · have:=List.eq_of_mem_replicate h;lia
    · obtain⟨ch,_,rfl⟩:=List.mem_map.mp h;exact qb ch
  dsimp only at hd
  split at hd
  · simp only [List.mem_cons,List.not_mem_nil,or_false] at hd;lia
  split at hd
  · simp only [List.mem_cons,List.not_mem_nil,or_false] at hd;lia
  split at hd
  · simp only [List.mem_cons,List.not_mem_nil,or_false] at hd;lia
  split at hd
  · simp only [List.mem_cons,List.not_mem_nil,or_false] at hd;lia
  split at hd
  · simp only [List.mem_cons,List.not_mem_nil,or_false] at hd;lia
  split at hd
  · rcases List.mem_append.mp hd with h | h
    · simp only [List.mem_cons,List.not_mem_nil,or_false] at h;lia
    · exact hx 2 d h
  split at hd
  · rcases List.mem_append.mp hd with h | h
    · simp only [List.mem_cons,List.not_mem_nil,or_false] at h;lia
    · exact hx 4 d h
  · rcases List.mem_append.mp hd with h | h
    · simp only [List.mem_cons,List.not_mem_nil,or_false] at h;lia
    · exact hx 8 d h
open PySem.Builtin.Str in
theorem jd{q:Nat}:∀(l:List Nat) (acc:Array Nat),(∀c∈l,c < 1114112)→(∀c∈acc.toList,c < 1114112)→∀c∈(l.foldl (fun out c=>out++(reprChar q c).toArray) acc).toList,c < 1114112
  | [],acc,_,h=>h
  | x::r,acc,h1,h2=>jd r _ (fun c hc=>h1 c (by simp [hc])) fun c hc=>by
    simp only [Array.toList_append,List.mem_append] at hc
    rcases hc with hc | hc
    · exact h2 c hc
    · exact kG (h1 x (by simp)) c hc
theorem kJ{x:Str}(h:PyData.strOk x=true):PyData.strOk (reprText x)=true:=by
  unfold reprText
  refine pN fun c hc=>?_
  have hq:reprQuote x < 1114112:=by unfold reprQuote;split<;>lia
  rw [Array.toList_push] at hc
  rcases List.mem_append.mp hc with hc | hc
  · rw [←Array.foldl_toList] at hc
    exact jd _ _ (jj h) (fun c hc=>by simp at hc;lia) c hc
  · simp at hc;lia
theorem Sz.str{x:Str}{n:Nat}(h:PyData.strOk x=true)(hl:x.length≤n):Sz (10*n+2) 2 (.str x):=by
  refine⟨rfl,rfl,by simp [PyData.depth],?_,kJ h⟩
  have:=PySem.StrLaws.reprText_len x fun c hc=>Nat.lt_of_lt_of_le (jj h c hc) (by decide)
  show(reprText x).length≤_
  lia
end L2
namespace L2
open PySem PySem.Spec PyProof.Rows
section
variable{X:Cx}{K:PySem.W.Frag}{a:Expr}{fa:FE}{pos p pos2 p2:Pos}
end
end L2
namespace L2
open PySem PySem.Spec PyProof.Rows
section
variable{X:Cx}{K:PySem.W.Frag}{a:Expr}{fa:FE}
end
end L2
namespace L2
open PySem PySem.Spec PyProof.Rows
abbrev Rn:=List (Int × Bool)
def qh(R:Rn):List Int:=R.map (·.1)
def rY(W:aR)(R:Rn):List Int:=(R.filter (·.2)).flatMap fun r=>[(W.tie r.1).one,(W.tie r.1).other]
structure zl (W:aR) (R:Rn) (asked taken:List Int):Prop where
  pa:asked.Perm (qh R)
  pt:taken.Perm (rY W R)
  inw:∀k∈qh R,j3 W k
  nd:(qh R).Nodup
  nk:(rY W R).Nodup
  bd:∀t:Int,0≤t→t < W.things→W.many (qh R) t≤W.pat.getD t.toNat 0
  ak:(R.length:Int)≤W.asks
  sa:asked.Pairwise (· ≤·)
  st:taken.Pairwise (· ≤·)
end L2
namespace L2
open PySem PySem.Spec PyProof.Rows
section
variable{prog:Program}{w:World}{A:Around}{R:Result→Shared→Prop}
end
def vg(l:Addr)(wi:TI)(g:TG)(tc:TT)(te:TE)(σ:L2.St)(H:Hp)(N:L2.St→Hp→Prop):Prop:=
  wi σ H fun J H1=>∃W:Nat→Nat→L2.St→Hp→Prop,(∃m,W 0 m σ H1)∧∀i m σ' H',W i m σ' H'→
    (J.stop i H'∧N σ' H')∨(J.go i H'∧∃N2:L2.St→Hp→Prop,(∀σ2 H2,N2 σ2 H2→∃m',m' < m∧W (i+1) m' σ2 H2)∧
      ∀x H2,J.yld i H' x H2→g x σ' H2 fun σ2 H3=>tc σ2 H3 fun b H4=>if b=true then te σ2 H4 fun v H5=>∃ys,H5 l=some (.lst ys)∧ys.length < sizeLine∧N2 σ2 (aF H5 l (.lst (ys++[v]))) else N2 σ2 H4)
structure yG (cp:List (Nat × Str)) (nT:Nat) (wi:TI) (g:TG) (tc:TT) (wi2:TI) (g2:TG) (tc2:TT) (te:TE) (σ:L2.St) (H:Hp) (Q:VK):Prop where
  go:wi σ H fun J H1=>∀l,H1 l=none→
  ∃W:Nat→Nat→L2.St→Hp→Prop,(∃m,W 0 m (cN cp nT σ) (aF H1 l (.lst [])))∧∀i m σ' H',W i m σ' H'→
    (J.stop i H'∧Q (.ref l) H')∨(J.go i H'∧∃N:L2.St→Hp→Prop,(∀σ2 H2,N σ2 H2→∃m',m' < m∧W (i+1) m' σ2 H2)∧
      ∀x H2,J.yld i H' x H2→g x σ' H2 fun σ2 H3=>tc σ2 H3 fun b H4=>if b=true then vg l wi2 g2 tc2 te σ2 H4 N else N σ2 H4)
section
variable{K:PySem.W.Frag}{F H:Hp}{σ:L2.St}{e:En}{cp:List (Nat × Str)}{nT:Nat}
end
section
variable{X:Cx}{K:PySem.W.Frag}{pos:Pos}
end
section
variable{X:Cx}{K:PySem.W.Frag}{pos:Pos}
variable{o:Expr}{fo:FE}{apos cpos:Pos}
end
end L2
namespace L2
open PySem PySem.Spec PyProof.Rows
section
variable{X:Cx}{K:PySem.W.Frag}
end
end L2
namespace L2
open PySem PySem.Spec PyProof.Rows
structure ze (f:Fr):Prop where
  pos:0 < f.2
  cop:Int.gcd f.1 f.2=1
abbrev Pg:=List Int × Int
structure yV (k:Nat) (ps:List Pg):Prop where
  ne:ps≠[]
  len:ps.length≤2 ^ k
  pt:∀p∈ps,p.1.length≤2*k∧0≤p.2∧p.2≤1000*(k:Int)
end L2
namespace L2
open PySem PySem.Spec PyProof.Rows
end L2
namespace L2
open PySem PySem.Spec PyProof.Rows
section
variable{prog:Program}{w:World}{A:Around}{E:Value→Shared→Prop}{s:Shared}
end
section
variable{X:Cx}{a:Expr}{ta:TA}{p p2 pos pos2:Pos}
variable{K:PySem.W.Frag}{fs:FA}{p3:Pos}
end
end L2
namespace L2
open PySem PySem.Spec PyProof.Rows
theorem iU{α:Type}(p:α→Bool):∀(ds:List α),gZ (ds.map fun d=>PyData.bool (p d))=some (ds.map p)
  | []=>rfl
  | d::r=>by simp [gZ,iU p r]
theorem nV{α:Type}{e:En}(p:α→Bool)(ds:List α):g1 (hZ ka) e [.l (ds.map fun d=>.bool (p d))]=some (.d (.bool (ds.all p))):=by
  simp [g1,hZ,cM,ka,iU p,List.all_map]
end L2
namespace L2
open PySem PySem.Spec PyProof.Rows
mutual
def p4:Nat→PyData→Bool
  | _,.none=>true
  | _,.bool _=>true
  | _,.int i=>decide (i.natAbs < 2 ^ 128)
  | _,.str x=>PyData.strOk x&&decide (x.length≤10)
  | k,.list xs=>decide (0 < k)&&jb (k - 1) xs
  | k,.tuple xs=>decide (0 < k)&&jb (k - 1) xs
  | _,.dict _=>false
def jb:Nat→List PyData→Bool
  | _,[]=>true
  | k,x::r=>p4 k x&&jb k r
end
mutual
def wt:PyData→Nat
  | .list xs=>jo xs+1
  | .tuple xs=>jo xs+1
  | .dict _=>1
  | .none=>1
  | .bool _=>1
  | .int _=>1
  | .str _=>1
def jo:List PyData→Nat
  | []=>0
  | x::r=>wt x+jo r
end
theorem kZ:∀(ts:List Str) (k:Nat) (acc:Str),(textFrom k acc ts).length≤acc.length+piled ts
  | [],_,acc=>by show acc.length≤acc.length+0;lia
  | t::r,k,acc=>by
    have ih:=kZ r (k+1) (acc++(if k > 0 then ", " else "":String)++t)
    have e:(acc++(if k > 0 then ", " else "":String)++t).length≤acc.length+2+t.length:=by
      rw [strLen_append,strLen_append]
      have:(Str.ofString (if k > 0 then ", " else "")).length≤2:=by split<;>decide
      lia
    show(textFrom (k+1) _ r).length≤_
    rw [dR];lia
theorem oC(ts:List Str):(listText ts).length≤piled ts+2:=by
  unfold listText
  rw [strLen_append]
  have h:=kZ ts 0 "["
  have h1:(("[":Str)).length=1:=by decide
  have h2:(("]":Str)).length=1:=by decide
  lia
theorem iA:∀(ts:List Str) (k:Nat) (acc:Str),PyData.strOk acc=true→(∀t∈ts,PyData.strOk t=true)→PyData.strOk (textFrom k acc ts)=true
  | [],_,acc,h,_=>h
  | t::r,k,acc,h,hs=>iA r (k+1) _ (ce (ce h (bA _)) (hs t (by simp))) fun u hu=>hs u (by simp [hu])
theorem nh{ts:List Str}(h:∀t∈ts,PyData.strOk t=true):PyData.strOk (listText ts)=true:=ce (iA ts 0 _ (bA _) h) (bA _)
structure xO (d:PyData) (k:Nat):Prop where
  lay:d.canLay0=true
  sh:d.showable=true
  dp:d.depth≤k
  ln:d.shown.length+2≤104*wt d
  so:PyData.strOk d.shown=true
theorem gW{d:PyData}{n:Nat}{k:Nat}(h:Sz n 0 d∨Sz n 2 d)(hn:n≤102)(hw:wt d=1)(hl:d.canLay0=true)(hd:d.depth=0):xO d k:=by
  rcases h with h | h<;>exact⟨hl,h.sh,by lia,by have:=h.ln;lia,h.so⟩
mutual
theorem lh{k:Nat}:∀{d:PyData},p4 k d=true→xO d k
  | .none,_=>⟨rfl,rfl,by simp [PyData.depth],by show(Str.ofString "None").length+2≤104*1;decide,bA _⟩
  | .bool b,_=>gW (.inr Sz.bool) (by decide) rfl rfl (by simp [PyData.depth])
  | .int i,h=>by
    simp only [p4,decide_eq_true_eq] at h
    exact gW (.inr (Sz.int10 (n:=39) (m:=128) (show Bt 128 i from h) (by decide) (by decide) (Nat.lt_of_lt_of_le h (by decide)) (by decide))) (by decide) rfl rfl (by simp [PyData.depth])
  | .str x,h=>by
    simp only [p4,Bool.and_eq_true,decide_eq_true_eq] at h
    exact gW (.inr (Sz.str (n:=10) h.1 h.2)) (by decide) rfl (by simpa [PyData.canLay0] using h.1) (by simp [PyData.depth])
  | .dict _,h=>by simp [p4] at h
  | .list xs,h=>by
    simp only [p4,Bool.and_eq_true,decide_eq_true_eq] at h
    obtain⟨a1,a2,a3,a4,a5⟩:=jt h.2
    have:=oC (PyData.shownAll xs)
    refine⟨by simpa [PyData.canLay0] using a1,a2,by simp only [PyData.depth];lia,by simp only [PyData.shown,wt];lia,by simp only [PyData.shown];exact nh a5⟩
  | .tuple xs,h=>by
    simp only [p4,Bool.and_eq_true,decide_eq_true_eq] at h
    obtain⟨a1,a2,a3,a4,a5⟩:=jt h.2
    have:=gj (PyData.shownAll xs)
    refine⟨by simpa [PyData.canLay0] using a1,a2,by simp only [PyData.depth];lia,by simp only [PyData.shown,wt];lia,by simp only [PyData.shown];exact jk a5⟩
theorem jt{k:Nat}:∀{ds:List PyData},jb k ds=true→PyData.canLayAll0 ds=true∧PyData.showableAll ds=true∧PyData.depthAll ds≤k∧piled (PyData.shownAll ds)≤104*jo ds∧∀t∈PyData.shownAll ds,PyData.strOk t=true
  | [],_=>⟨rfl,rfl,by simp [PyData.depthAll],by simp [PyData.shownAll,piled],by simp [PyData.shownAll]⟩
  | d::r,h=>by
    simp only [jb,Bool.and_eq_true] at h
    obtain⟨a1,a2,a3,a4,a5⟩:=lh h.1
    obtain⟨b1,b2,b3,b4,b5⟩:=jt h.2
    refine⟨by simp only [PyData.canLayAll0,a1,b1,Bool.and_self],by simp only [PyData.showableAll,a2,b2,Bool.and_self],by simp only [PyData.depthAll];lia,by simp only [PyData.shownAll,dR,jo];lia,fun t ht=>?_⟩
    simp only [PyData.shownAll,List.mem_cons] at ht
    rcases ht with rfl | ht
    · exact a5
    · exact b5 t ht
end
end L2
namespace L2
open PySem PySem.Spec PyProof.Rows
section
variable{X:Cx}{K:PySem.W.Frag}
variable{a b:Expr}{fa fb:FE}{pos:Pos}
end
end L2
namespace L2
open PySem PySem.Spec PyProof.Rows
def tx(s:Str):List Nat:=s.cps.toList
end L2
namespace L2
open PySem PySem.Spec PyProof.Rows
end L2
namespace L2
open PySem PySem.Spec PyProof.Rows
end L2
namespace L2
open PySem PySem.Spec PyProof.Rows
section
variable{X:Cx}{K:PySem.W.Frag}{es:List Expr}{k0:Nat}{tp:Pos}{a b:Expr}{fs:FA}{p pos:Pos}
end
end L2
namespace L2
open PySem PySem.Spec PyProof.Rows
def zr(x:Nd)(b:Bool):Int:=if b=true then x.yes else x.no
def sI(T:List Nd)(i:Nat)(b:Bool):Int:=match T[i]? with
  | some x=>zr x b
  | none=> -1
def ye(T:List Nd):Prop:=∀(i j:Nat) (a b:Bool),sI T i a=sI T j b→sI T i a≠ -1→i=j∧a=b
def yO(w:Wt):Int × Int:=(w.par,w.side)
structure zy (T:List Nd) (ws:List Wt):Prop where
  unq:ye T
  rng:∀i a,sI T i a= -1∨(0 < sI T i a∧sI T i a < (T.length:Int))
  free:∀w∈ws,w.par= -1∨(0≤w.par∧w.par < (T.length:Int)∧sI T w.par.toNat (w.side==0)= -1)
  dst:(ws.map yO).Nodup
  side:∀w∈ws,w.side=0∨w.side=1
structure zA (T:List Nd) (w0 ws order:List Int):Prop where
  nd:(order++ws).Nodup
  par:∀v∈order++ws,v=0∨∃u∈order,∃b,sI T u.toNat b=v∧v≠ -1
  fst:(order=[]∧ws=w0)∨order[0]?=some 0
end L2
namespace L2
open PySem PySem.Spec PyProof.Rows
section
variable{prog:Program}{w:World}{A:Around}{E:Value→Shared→Prop}{s:Shared}
end
section
variable{X:Cx}{tg a:Expr}{ta:TA}{p pos:Pos}
end
section
variable{X:Cx}{K:PySem.W.Frag}{σ:L2.St}{tg a:Expr}{fs:FA}{p pos:Pos}
end
end L2
namespace L2
open PySem PySem.Spec PyProof.Rows
section
variable{X:Cx}{a k:Expr}{p2 pos:Pos}{fa fk:FE}{K:PySem.W.Frag}
section
variable{prog:Program}{w:World}{A:Around}{E:Value→Shared→Prop}{s:Shared}
end
end
end L2
namespace L2
open PySem PySem.Spec PyProof.Rows
section
variable{X:Cx}{a b:Expr}{ta:TA}{p p2 pos pos2:Pos}{K:PySem.W.Frag}{fs:FA}
end
section
variable{X:Cx}{o i e:Expr}{fo fi:FE}{tpos pos:Pos}{K:PySem.W.Frag}
end
end L2
namespace L2
open PySem PySem.Spec PyProof.Rows
section
variable{X:Cx}{K:PySem.W.Frag}
def xf(K:PySem.W.Frag)(neg:Bool):R2:=fun x y H Q=>∃a b xs,x=.ref a∧y=.ref b∧dj K H a xs∧dj K H b []∧Q (.bl (if neg then !xs.isEmpty else xs.isEmpty)) H
theorem uh(hu:X.A.units < cLine):c9 X (compareOp .Eq) (xf X.K false):=by
  intro pins s σ H x y v u Q I rx ry h
  exact ug hu pins s σ H x y v u Q I rx ry h
def mQ(neg:Bool):En→Rv→Rv→Option Rv:=fun e x y=>(cM e x).bind fun a=>(cM e y).bind fun b=>if a.1=true∧b.1=true∧b.2.isEmpty=true then some (.d (.bool (if neg then !a.2.isEmpty else a.2.isEmpty))) else none
theorem wa{neg:Bool}:c8 K (xf K neg) (mQ neg):=by
  intro σ H0 F H e x y z v u Q R A B hg q
  unfold mQ at hg
  obtain⟨⟨b1,xs⟩,h1,hg⟩:=Option.bind_eq_some_iff.mp hg
  obtain⟨⟨b2,ys⟩,h2,hg⟩:=Option.bind_eq_some_iff.mp hg
  split at hg
  case isFalse=>cases hg
  case isTrue hl=>
  cases hg
  obtain⟨z1,z2,z3⟩:=hl
  dsimp only at z1 z2 z3
  subst z1 z2
  have z4:ys=[]:=List.isEmpty_iff.mp z3
  subst z4
  obtain⟨p,vs,rfl,d1,s1⟩:=bD R A h1
  obtain⟨p',vs',rfl,d2,s2⟩:=bD R B h2
  have e2:vs'=[]:=by simpa only [au] using d2
  subst e2
  rw [if_pos rfl] at s1 s2
  refine⟨p,p',vs,rfl,rfl,s1,s2,?_⟩
  have e1:vs.isEmpty=xs.isEmpty:=by
    have:=d1.len
    cases xs with
    | nil=>cases vs with
      | nil=>rfl
      | cons=>simp at this
    | cons=>cases vs with
      | nil=>simp at this
      | cons=>rfl
  rw [e1]
  exact q F H _ (cj.refl _ _ _ _) R df
theorem vX{k:Nat}(hK:X.K=K)(hr:bu k X.A):gD X K .Eq (mQ false):=⟨_,hK ▸ uh hr.units0,wa⟩
theorem tG{e:En}{xs:List PyData}{neg:Bool}:mQ neg e (.l xs) (.l [])=some (.d (.bool (if neg then !xs.isEmpty else xs.isEmpty))):=by
  simp [mQ,cM]
end
end L2
namespace L2
open PySem PySem.Spec PyProof.Rows
section
open PySem.MeetsSeq2 PySem.AutoSeq1 PySem.SeqAt
end
section
variable{X:Cx}{K:PySem.W.Frag}{o a:Expr}{to te:TE}{name:Str}{apos cpos:Pos}{T id:String}{r:V→List V→Hp→VK→Prop}{fo fa:FE}
end
end L2
namespace L2
open PySem PySem.Spec PyProof.Rows
section
variable{X:Cx}{K:PySem.W.Frag}{o a:Expr}{apos cpos:Pos}{fo fa:FE}
end
end L2
namespace L2
open PySem PySem.Spec PyProof.Rows
section
variable{K:PySem.W.Frag}{F H:Hp}{σ:L2.St}{e:En}{cp:List (Nat × Str)}{nT:Nat}
end
section
variable{X:Cx}{K:PySem.W.Frag}{a b:Expr}{es:List Expr}{fa fb:FE}{fs:FA}{pos p p2 p3:Pos}{lo hi:Option Expr}
end
end L2
namespace L2
open PySem PySem.Spec PyProof.Rows
section
variable{X:Cx}{K:PySem.W.Frag}
end
end L2
namespace L2
open PySem PySem.Spec PyProof.Rows
section
variable{X:Cx}{K:PySem.W.Frag}{a b:Expr}{fa fb:FE}{pos:Pos}
end
end L2
namespace L2
open PySem PySem.Spec PyProof.Rows
section
variable{X:Cx}{K:PySem.W.Frag}
end
end L2
namespace L2
open PySem PySem.Spec PyProof.Rows
mutual
theorem hG:∀(d:PyData),dr d=true→cW d=true
  | .none,_=>rfl
  | .bool _,_=>rfl
  | .int _,_=>rfl
  | .str _,_=>rfl
  | .tuple ds,h=>by simp only [cW];exact gw ds (by simpa [dr] using h)
  | .list ds,h=>by simp [dr] at h
  | .dict _,h=>by simp [dr] at h
theorem gw:∀(ds:List PyData),eA ds=true→cu ds=true
  | [],_=>rfl
  | d::r,h=>by
    simp only [eA,Bool.and_eq_true] at h
    simp only [cu,hG d h.1,gw r h.2,Bool.and_self]
end
structure Sw (b:Bool) (n dep:Nat) (d:PyData):Prop where
  dl:bif b then cW d=true else d.hasDict=false
  sh:d.showable=true
  dp:d.depth≤dep
  ln:d.shown.length+2≤n
  so:PyData.strOk d.shown=true
theorem Sw.mono{b:Bool}{n m dep e:Nat}{d:PyData}(h:Sw b n dep d)(h1:n≤m)(h2:dep≤e):Sw b m e d:=⟨h.dl,h.sh,Nat.le_trans h.dp h2,Nat.le_trans h.ln h1,h.so⟩
theorem xO.swF{k:Nat}{d:PyData}(h:xO d k)(f:dr d=true)(b:Bool):Sw b (104*wt d) k d:=⟨by cases b;exact eh d f;exact hG d f,h.sh,h.dp,h.ln,h.so⟩
theorem Sw.all{b:Bool}{n dep:Nat}:∀{ds:List PyData},(∀d∈ds,Sw b n dep d)→(bif b then cu ds=true else PyData.hasDictAll ds=false)∧PyData.showableAll ds=true∧PyData.depthAll ds≤dep∧piled (PyData.shownAll ds)≤ds.length*n∧∀t∈PyData.shownAll ds,PyData.strOk t=true
  | [],_=>⟨by cases b<;>rfl,rfl,by simp [PyData.depthAll],by simp [PyData.shownAll,piled],by simp [PyData.shownAll]⟩
  | d::r,h=>by
    obtain⟨a1,a2,a3,a4,a5⟩:=h d (by simp)
    obtain⟨b1,b2,b3,b4,b5⟩:=Sw.all (ds:=r) fun x hx=>h x (by simp [hx])
    refine⟨?_,?_,?_,?_,?_⟩
    · cases b
      · simp only [cond_false] at a1 b1 ⊢;simp only [PyData.hasDictAll,a1,b1,Bool.or_self]
      · simp only [cond_true] at a1 b1 ⊢;simp only [cu,a1,b1,Bool.and_self]
    · simp only [PyData.showableAll,a2,b2,Bool.and_self]
    · simp only [PyData.depthAll];lia
    · simp only [PyData.shownAll,dR,List.length_cons,Nat.succ_mul];lia
    · intro t ht
      simp only [PyData.shownAll,List.mem_cons] at ht
      rcases ht with rfl | ht
      · exact a5
      · exact b5 t ht
theorem Sw.tup{b:Bool}{n dep m:Nat}{ds:List PyData}(h:∀d∈ds,Sw b n dep d)(hl:ds.length≤m):Sw b (m*n+5) (dep+1) (.tuple ds):=by
  obtain⟨b1,b2,b3,b4,b5⟩:=Sw.all h
  refine⟨by cases b<;>simpa [cW,PyData.hasDict] using b1,b2,by simp only [PyData.depth];lia,?_,by simp only [PyData.shown];exact jk b5⟩
  have h2:=gj (PyData.shownAll ds)
  have:=Nat.mul_le_mul_right n hl
  simp only [PyData.shown]
  lia
theorem Sw.ok{b:Bool}{n dep:Nat}{d:PyData}(h:Sw b n dep d)(h1:n≤16777216)(h2:dep≤60):fQ d=true:=by
  have sl:sizeLine=16777216:=sizeLine_eq
  have hd:(!d.hasDict || cW d)=true:=by
    have:=h.dl
    cases b
    · simp only [cond_false] at this;simp [this]
    · simp only [cond_true] at this;simp [this]
  have:=h.ln
  unfold fQ
  rw [hd,h.sh,decide_eq_true (Nat.le_trans h.dp h2),decide_eq_true (show d.shown.length≤sizeLine by rw [sl];lia)]
  simp
theorem Sw.repr{b:Bool}{n dep:Nat}{d:PyData}(h:Sw b n dep d)(h1:n≤16777216)(h2:dep≤60)(e:En):g1 gz e [.d d]=some (.d (.str d.shown)):=ql (h.ok h1 h2)
theorem Sw.int{b:Bool}{i:Int}(h:i.natAbs < 2 ^ 128):Sw b 200 0 (.int i):=((lh (k:=0) (d:=.int i) (by simp only [p4,decide_eq_true_eq];exact h)).swF rfl b).mono (by simp [wt]) (by decide)
theorem Sw.ints{b:Bool}{ns:List Int}{m:Nat}(h:∀r∈ns,r.natAbs < 2 ^ 128)(hl:ns.length≤m):Sw b (m*200+5) 1 (.tuple (ns.map .int)):=Sw.tup (n:=200) (dep:=0) (fun d hd=>by
  obtain⟨x,hx,rfl⟩:=List.mem_map.mp hd
  exact Sw.int (h x hx)) (by rw [List.length_map];exact hl)
end L2
namespace L2
open PySem PySem.Spec PyProof.Rows
structure S1 (n:Nat) (f:Fr):Prop where
  low:ze f
  lo:0≤f.1
  hi:f.1≤f.2
  bt:Bt n f.2
def zq(e:Int)(t:k_):Bool:=t.one==e || t.other==e
structure zB (b f g:Fr):Prop where
  pf:0 < f.2
  pg:0 < g.2
  eq:g.1*(f.2*b.1)=g.2*(f.1*b.2)
end L2
namespace L2
open PySem PySem.Spec PyProof.Rows
end L2
namespace L2
open PySem PySem.Spec PyProof.Rows
end L2
namespace L2
open PySem PySem.Spec PyProof.Rows
structure zz (O:aR) (ss ws:List Std):Prop where
  len:ss.length=ws.length
  at':∀j,(ss.getD j ([],[])).1=(ws.getD j ([],[])).1∧(ss.getD j ([],[])).2.length≤2*(ss.getD j ([],[])).1.length∧∀k∈(ss.getD j ([],[])).1,j3 O k
structure zx (O:aR) (T:List Nd):Prop where
  tie:∀(i:Nat) (x:Nd),T[i]?=some x→j3 O x.tie
  lk:∀(i:Nat) (x:Nd),T[i]?=some x→(-1≤x.yes∧x.yes < (T.length:Int))∧(-1≤x.no∧x.no < (T.length:Int))
end L2
namespace L2
open PySem PySem.Spec PyProof.Rows
section
variable{K:PySem.W.Frag}
variable{X:Cx}{σ:L2.St}{H0 H:Hp}{e:En}
end
end L2
namespace L2
open PySem PySem.Spec PyProof.Rows
section
variable{X:Cx}{a b:Expr}{ta:TA}{p p2 pos pos2:Pos}
end
end L2
namespace L2
open PySem PySem.Spec PyProof.Rows
section
variable{X:Cx}{K:PySem.W.Frag}{fs:FA}{a b:Expr}{p p2 pos pos2:Pos}
end
end L2
namespace L2
open PySem PySem.Spec PyProof.Rows
theorem aO:∀(names:List (Str × NameKind)) (n:Nat) (acc:List (Str × Addr)),cellsFrom n names acc=cellsFrom n names []++acc
  | [],_,_=>rfl
  | (x,k)::r,n,acc=>by
    unfold cellsFrom
    split
    · rw [aO r (n+1) ((x,n)::acc),aO r (n+1) [(x,n)],List.append_assoc];rfl
    · exact aO r n acc
theorem dJ:∀(names:List (Str × NameKind)) (n:Nat) (x:Str) (c:Addr),(cellsFrom n names []).lookup x=some c→∃y∈names,y.1=x∧y.2=.cell
  | [],_,_,_,h=>by simp [cellsFrom] at h
  | (z,k)::r,n,x,c,h=>by
    unfold cellsFrom at h
    split at h
    · rename_i hk
      rw [aO,List.lookup_append] at h
      cases q:(cellsFrom (n+1) r []).lookup x with
      | some d=>
        obtain⟨y,hy,e⟩:=dJ r _ x d q
        exact⟨y,List.mem_cons_of_mem _ hy,e⟩
      | none=>
        rw [q] at h
        have h':List.lookup x [(z,n)]=some c:=h
        rw [List.lookup_cons] at h'
        cases hx:x==z with
        | true=>exact⟨(z,k),List.mem_cons_self,(by simpa using hx:x=z).symm,by simpa using hk⟩
        | false=>rw [hx] at h';simp at h'
    · obtain⟨y,hy,e⟩:=dJ r n x c h
      exact⟨y,List.mem_cons_of_mem _ hy,e⟩
theorem dh:∀(names:List (Str × NameKind)) (n:Nat) (x:Str),(∃y∈names,y.1=x∧y.2=.cell)→∃c,(cellsFrom n names []).lookup x=some c
  | [],_,_,⟨_,h,_⟩=>by cases h
  | (z,k)::r,n,x,⟨y,hy,e1,e2⟩=>by
    unfold cellsFrom
    split
    · rename_i hk
      rw [aO,List.lookup_append]
      cases q:(cellsFrom (n+1) r []).lookup x with
      | some d=>exact⟨d,rfl⟩
      | none=>
        rcases List.mem_cons.mp hy with w | w
        · subst w;subst e1;exact⟨n,by simp [List.lookup_cons]⟩
        · obtain⟨c,hc⟩:=dh r (n+1) x ⟨y,w,e1,e2⟩
          rw [q] at hc;cases hc
    · rename_i hk
      rcases List.mem_cons.mp hy with w | w
      · subst w;exact absurd (by simpa using e2) hk
      · exact dh r n x ⟨y,w,e1,e2⟩
theorem iV{env:Env}:∀(names:List (Str × NameKind)) (cs:List (Str × Addr)) (x:Str),(¬∃y∈names,y.1=x∧y.2=.free)→cs.lookup x=none→(bJ env names cs).lookup x=none
  | [],_,_,_,h=>h
  | (n,k)::r,cs,x,hn,hcs=>by
    refine iV r _ x (fun⟨y,hy,z⟩=>hn ⟨y,List.mem_cons_of_mem _ hy,z⟩) ?_
    by_cases hk:(k==NameKind.free)=true
    · rw [if_pos hk,List.lookup_cons]
      cases hx:x==n with
      | true=>exact absurd ⟨(n,k),List.mem_cons_self,(by simpa using hx:x=n).symm,by simpa using hk⟩ hn
      | false=>exact hcs
    · rw [if_neg hk];exact hcs
theorem io{env:Env}:∀{names:List (Str × NameKind)} {x:Str},(names.map fun(n,k)=>if (k==NameKind.free&&env.scope.kind==.function&&env.kindOf n==some .cell) then(n,NameKind.cell) else(n,k)).lookup x=some .cell∨
    (names.map fun(n,k)=>if (k==NameKind.free&&env.scope.kind==.function&&env.kindOf n==some .cell) then(n,NameKind.cell) else(n,k)).lookup x=some .free→∃y∈names,y.1=x∧(y.2=.free∨y.2=.cell)
  | [],x,h=>by simp at h
  | (n,k)::r,x,h=>by
    have ih:=@io env r x
    rw [List.map_cons] at h
    cases hx:x==n with
    | true=>
      have e1:x=n:=by simpa using hx
      subst e1
      refine⟨(x,k),List.mem_cons_self,rfl,?_⟩
      by_cases q:(k==NameKind.free&&env.scope.kind==.function&&env.kindOf x==some .cell)=true
      · simp only [Bool.and_eq_true,beq_iff_eq] at q;exact .inl q.1.1
      · simp only [q,Bool.false_eq_true,if_false,List.lookup_cons,beq_self_eq_true,Option.some.injEq] at h
        exact h.symm
    | false=>
      have e2:∀(l:List (Str × NameKind)),((if (k==NameKind.free&&env.scope.kind==.function&&env.kindOf n==some .cell)=true then(n,NameKind.cell) else(n,k))::l).lookup x=l.lookup x:=fun l=>by
        split<;>simp [List.lookup_cons,hx]
      simp only [e2] at h
      obtain⟨y,hy,z⟩:=ih h
      exact⟨y,List.mem_cons_of_mem _ hy,z⟩
theorem qA{M:Model}{A:Around}{E:Value→Shared→Prop}{s:Shared}{scope:Scope}{globals:Addr}{closure:List (Str × Addr)}{qual:Str}{func:Option Addr}{code:Value}{env:Env}{builtins:Addr}{Q:Env→Shared→Prop}
    (hQ:∀h',h'.Ns s.heap.objs.size (fun _=>none)→(∀b o,s.heap.get? b=some o→h'.get? b=some o)→
      (∀n c,(cellsFrom (s.heap.objs.size+1) scope.names []).lookup n=some c→h'.IsCell c none∧s.heap.objs.size+1≤c)→((cellsFrom (s.heap.objs.size+1) scope.names []).Pairwise fun x y=>x.2≠y.2)→
      Q (newEnv scope s.heap.objs.size globals (cellsFrom (s.heap.objs.size+1) scope.names closure) qual func code (some env) builtins) {s with heap:=h'}):
    wpAny M A (newFunctionEnv scope globals closure [] qual func code (some env) builtins) Q E s:=by
  simp only [newFunctionEnv,Option.isSome_some,if_true]
  refine wpAny_bind (wpAny_alloc ?_)
  refine wpAny_bind (wpAny_layCells _ (fun name kind cells=>by cases hkc:kind==NameKind.cell<;>simp [hkc]) _ _ _ _ ?_)
  have ok:=cellsFrom_ok scope.names (s.heap.push {cls:=.type "dict",data:=.dict #[]}) (s.heap.objs.size+1) [] ⟨fun _ _ hm=>(nomatch hm),List.Pairwise.nil⟩ (by rw [Heap.size_push];exact Nat.le_refl _)
  rw [Heap.size_push] at ok
  rw [show({s with heap:=s.heap.push {cls:=.type "dict",data:=.dict #[]}}:Shared).heap.objs.size=s.heap.objs.size+1 from Heap.size_push ..]
  refine wpAny_bind ?_
  rw [List.forIn_nil]
  refine wpAny_pure (wpAny_pure ?_)
  exact hQ _ ((Heap.Ns.new s.heap (.type "dict")).keeps (pushCells_keeps _ _)) (fun b o e=>pushCells_keeps _ _ b o (Heap.get?_push_of_some _ e)) (fun n c e=>ok.empty n c (mem_of_lookup e)) ok.apart
def aU(X:Cx)(scope:Scope)(cp:List (Nat × Str))(tgN:List Str)(C:Addr)(s0:Shared)(H0:Hp)(fp:List Addr):Cx where
  prog:=X.prog
  w:=X.w
  K:=X.K
  mg:=X.mg
  base:=X.base
  A:=X.A
  N:=cp.map (·.2)++tgN
  s₀:=s0
  H₀:=H0
  env:=compEnvC scope (cellsFrom (C+1) scope.names (bJ X.env scope.names [])) C X.env
  outer:=X.stack
  stack:=X.stack
  ex:=fp
  fn:=fun x=>scope.names.lookup x==some .local || scope.names.lookup x==some .cell
  calm:=X.calm
  pn:=[]
  xe:=fun _ _=>False
theorem oU{X:Cx}{elt iter tg:Expr}{ifs:List Expr}{scope:Scope}{pos:Pos}{wi:TI}{g:TG}{tc:TT}{te:TE}(sc0:Scope)(N0:List Str)(cp:List (Nat × Str))(tgN:List Str)
    (hc:X.calm=true)(hsc:X.env.scope=sc0)(hN0:X.N=N0)(hi:PI X tg iter wi)
    (hg:∀C s0 H0 fp,PG (aU X scope cp tgN C s0 H0 fp) tg g)
    (ht:∀C s0 H0 fp,mF (aU X scope cp tgN C s0 H0 fp) ifs tc)
    (he:∀C s0 H0 fp,PE (aU X scope cp tgN C s0 H0 fp) elt te)
    (hk:scope.kind=.function)(hown:∀y∈scope.names,y.2=.cell→scope.names.lookup y.1=some .cell)(hnames:∀y∈scope.names,y.2=.local→scope.names.lookup y.1=some .local)
    (hfr:∀y∈scope.names,y.2=.free→scope.names.lookup y.1=some .free∧sc0.names.lookup y.1=some .cell)
    (hcp:∀p∈cp,N0[p.1]?=some p.2)(hcq:∀p∈cp,sc0.names.lookup p.2=some .cell∧scope.names.lookup p.2=some .free)
    (hs:∀x,foldedSetIterable iter X.env x=pure x:=by intro _;rfl):
    PE X (.ListComp elt [⟨tg,iter,ifs,0⟩] scope pos) (kX cp tgN.length wi g tc te):=by
  intro pins s σ H Q I h
  have hkind:∀x,X.env.kindOf x=sc0.names.lookup x:=fun x=>by unfold Env.kindOf;rw [hsc]
  have hfree:∀y∈scope.names,y.2=.free→∃c,X.env.cells.lookup y.1=some c:=fun y hy e=>I.ok.has y.1 (.inl (by rw [hkind];exact(hfr y hy e).2))
  rw [eval_ListComp]
  refine wpAny_comprehension_free (use:=none) rfl hs (eL hfree) hk hnames (wpAny_mono (hi pins s σ H _ I h.go) (fun xv s₁ h₁=>wpAny_mono h₁ (fun itv s₂ h₂=>?_) fun _ _ e=>e) fun _ _ e=>e)
  obtain⟨it,fp,tn,J,H2,rfl,I2,T,st2,f2,hq⟩:=h₂
  refine wpAny_newObj_type ?_
  have hlF:H2 s₂.heap.objs.size=none:=I2.hok.fresh (Nat.le_refl _)
  have I3:ao X pins σ (aF H2 s₂.heap.objs.size (.lst [])) {s₂ with heap:=s₂.heap.push {cls:=.type "list",data:=.seq ([]:List Value).toArray}}:=I2.lnew (t':=s₂.toks) .nil (Nat.zero_le _)
  obtain⟨W,⟨m0,w0⟩,turn⟩:=hq _ hlF
  have f3:∀b∈fp,d9 X pins (aF H2 s₂.heap.objs.size (.lst [])) b:=fun b hb=>by
    obtain⟨f0,fr⟩:=f2 b hb
    obtain⟨o,ho,_⟩:=T.obj _ _ st2 b hb
    exact⟨by rw [av (Nat.ne_of_lt (Heap.lt_size ho))];exact f0,fr⟩
  have st3:tn 0 (s₂.heap.push {cls:=.type "list",data:=.seq ([]:List Value).toArray}):=T.keep _ _ _ st2 fun b _ o e=>Heap.get?_push_of_some _ e
  generalize hD:s₂.heap.objs.size=D at*
  generalize hs3:({s₂ with heap:=s₂.heap.push {cls:=.type "list",data:=.seq ([]:List Value).toArray}}:Shared)=s₃ at*
  have hst3:tn 0 s₃.heap:=by rw [←hs3];exact st3
  refine qA (fun h₁ hns₁ old hownC apC=>?_)
  generalize hC:s₃.heap.objs.size=C at*
  have nC:∀b o,s₃.heap.get? b=some o→b≠C:=fun b o e=>by rw [←hC];exact Nat.ne_of_lt (Heap.lt_size e)
  have hHC:(aF H2 D (.lst [])) C=none:=I3.hok.fresh (by rw [hC];exact Nat.le_refl _)
  have clS:∀x c,(bJ X.env scope.names []).lookup x=some c→X.env.cells.lookup x=some c:=fun x c e=>dM _ _ x c hfree (fun _ _ z=>by simp at z) e
  have clH:∀x,(∃y∈scope.names,y.1=x∧y.2=.free)→∃c,(bJ X.env scope.names []).lookup x=some c:=fun x e=>eZ _ _ x (.inl e)
  have clN:∀x,(¬∃y∈scope.names,y.1=x∧y.2=.free)→(bJ X.env scope.names []).lookup x=none:=fun x q=>iV _ _ x q rfl
  have two:∀x c,(cellsFrom (C+1) scope.names (bJ X.env scope.names [])).lookup x=some c→(cellsFrom (C+1) scope.names []).lookup x=some c∨(bJ X.env scope.names []).lookup x=some c:=fun x c e=>by
    rw [aO,List.lookup_append] at e
    cases q:(cellsFrom (C+1) scope.names []).lookup x with
    | some d=>rw [q] at e;exact .inl e
    | none=>rw [q] at e;exact .inr e
  have ltC:∀x c,(bJ X.env scope.names []).lookup x=some c→c < C:=fun x c e=>by
    obtain⟨v,o,ho,_⟩:=I3.cell x c (clS x c e)
    rw [←hC];exact Heap.lt_size ho
  have clF:∀x,(∃y∈scope.names,y.1=x∧y.2=.free)→(cellsFrom (C+1) scope.names (bJ X.env scope.names [])).lookup x=(bJ X.env scope.names []).lookup x:=fun x ⟨y,hy,e1,e2⟩=>by
    rw [aO,List.lookup_append]
    cases q:(cellsFrom (C+1) scope.names []).lookup x with
    | none=>rfl
    | some d=>
      exfalso
      obtain⟨z,hz,z1,z2⟩:=dJ scope.names _ x d q
      have a1:=hown z hz z2
      have a2:=(hfr y hy e2).1
      rw [z1] at a1;rw [e1,a1] at a2;cases a2
  have hasC:∀x,(∃y∈scope.names,y.1=x∧(y.2=.free∨y.2=.cell))→∃c,(cellsFrom (C+1) scope.names (bJ X.env scope.names [])).lookup x=some c:=fun x ⟨y,hy,e1,e2⟩=>by
    rcases e2 with e2 | e2
    · rw [clF x ⟨y,hy,e1,e2⟩];exact clH x ⟨y,hy,e1,e2⟩
    · rw [aO,List.lookup_append]
      obtain⟨c,hc⟩:=dh scope.names (C+1) x ⟨y,hy,e1,e2⟩
      exact⟨c,by rw [hc];rfl⟩
  have ok':(aU X scope cp tgN C s₃ (aF H2 D (.lst [])) fp).Ok:=by
    refine⟨I.ok.mod,hk,I.ok.glob,I.ok.blt,by rw [←hC];exact Nat.le_refl _,fun x y c e1 e2=>?_,fun x e=>hasC x (io e),fun x c e1 e2=>?_,I.ok.hd,I.ok.frames,.inl rfl,fun b hb=>?_,fun b o e=>I3.bs b o e,?_,fun b o e hb=>?_,fun b hb z=>?_,I3.stack,fun b hb=>I3.stkFree b hb⟩
    · rcases two x c e1 with e1 | e1<;>rcases two y c e2 with e2 | e2
      · exact name_of_addr apC (mem_of_lookup e1) (mem_of_lookup e2)
      · exact(Nat.lt_irrefl _ (Nat.lt_trans (ltC y c e2) (hownC x c e1).2)).elim
      · exact(Nat.lt_irrefl _ (Nat.lt_trans (ltC x c e1) (hownC y c e2).2)).elim
      · exact I.ok.inj x y c (clS _ _ e1) (clS _ _ e2)
    · rcases two x c e2 with e2 | e2
      · show s₃.heap.objs.size≤c
        have:=(hownC x c e2).2
        lia
      · exfalso
        have e1':scope.names.lookup x=some .local∨scope.names.lookup x=some .cell:=by simpa [aU] using e1
        by_cases q:∃y∈scope.names,y.1=x∧y.2=.free
        · obtain⟨y,hy,y1,y2⟩:=q
          have z:=(hfr y hy y2).1
          rw [y1] at z
          rcases e1' with w | w<;>(rw [z] at w;cases w)
        · rw [clN x q] at e2;cases e2
    · obtain⟨f0,f1,f4,f5,f6,f7⟩:=f3 b hb
      obtain⟨o,ho,_⟩:=T.obj _ _ hst3 b hb
      exact⟨nC b o ho,fun x c e=>(two x c e).elim (fun e z=>absurd (hownC x c e).2 (by rw [z,←hC];exact Nat.not_le.mpr (Nat.lt_succ_of_lt (Heap.lt_size ho)))) (fun e=>f6 x c (clS x c e))⟩
    · exact Nat.le_trans I.ok.bsz I3.sz
    · obtain⟨f0,f1,f4,f5,f6,f7⟩:=f3 b hb
      rcases f5 with z | z
      · exact I.ok.noex b o e z
      · have:=(I.ok.bs b o e).1
        exact absurd (Nat.lt_of_lt_of_le (Heap.lt_size this) z) (Nat.lt_irrefl _)
    · obtain⟨f0,f1,f4,f5,f6,f7⟩:=f3 b hb
      rcases List.mem_cons.mp (I3.stkSub b z) with z | z
      · exact f1 z
      · exact f4 z
  have I4:ao (aU X scope cp tgN C s₃ (aF H2 D (.lst [])) fp) [] (cN cp tgN.length σ) (aF H2 D (.lst [])) {s₃ with heap:=h₁}:=by
    refine⟨ok',rfl,I3.bare,Un.kept old,⟨_,hns₁,fun i x v e1 e2 e3=>?_⟩,fun x c e=>?_,hHC,fun x c e=>(two x c e).elim (fun e=>I3.hok.fresh (by rw [hC];have:=(hownC x c e).2;lia)) (fun e=>I3.freeC x c (clS x c e)),fun p hp=>by simp [aU] at hp,I3.hok.kept old,by simp [cN,aU]⟩
    · have hlt:i < cp.length:=by
        by_cases q:i < cp.length
        · exact q
        · exfalso
          unfold cN at e2
          rw [List.getElem?_append_right (by simp;lia)] at e2
          rw [List.getElem?_replicate] at e2
          split at e2<;>cases e2
      have e1':(cp.map (·.2))[i]?=some x:=by
        have e1'':(cp.map (·.2)++tgN)[i]?=some x:=e1
        rwa [List.getElem?_append_left (by simp;exact hlt)] at e1''
      have e2':(cp.map (fun p=>(σ[p.1]?).join))[i]?=some (some v):=by
        unfold cN at e2
        rwa [List.getElem?_append_left (by simp;exact hlt)] at e2
      rw [List.getElem?_map,List.getElem?_eq_getElem hlt] at e1' e2'
      have ex:(cp[i]).2=x:=by simpa using e1'
      have ev:(σ[(cp[i]).1]?).join=some v:=by simpa using e2'
      have ev':σ[(cp[i]).1]?=some (some v):=by
        cases q:σ[(cp[i]).1]? with
        | none=>rw [q] at ev;cases ev
        | some z=>rw [q] at ev;simp only [Option.join_some] at ev;rw [ev]
      have hN:=hcp cp[i] (List.getElem_mem hlt)
      rw [←hN0] at hN
      obtain⟨hcl,hcf⟩:=hcq cp[i] (List.getElem_mem hlt)
      rw [ex] at hN hcl hcf
      obtain⟨m,hn,hl⟩:=I3.loc
      obtain⟨u,r,l⟩:=hl _ x v hN ev' (.inr (.inl (by rw [hsc];exact hcl)))
      refine⟨u,r,.inr ?_⟩
      rcases l with ⟨k1,_⟩ | ⟨k1,c,hcc,o,ho,hd⟩
      · rw [hkind,hcl] at k1;cases k1
      · have e3':(relabel scope X.env).names.lookup x=some .local∨(relabel scope X.env).names.lookup x=some .cell∨(relabel scope X.env).names.lookup x=some .free:=e3
        have nl:(relabel scope X.env).names.lookup x=some .cell∨(relabel scope X.env).names.lookup x=some .free:=by
          rcases e3' with z | z | z
          · exact absurd z (bB hcf)
          · exact .inl z
          · exact .inr z
        have fr:∃y∈scope.names,y.1=x∧y.2=.free:=⟨(x,.free),mem_of_lookup hcf,rfl,rfl⟩
        obtain⟨c',hc'⟩:=clH x fr
        have:=clS x c' hc'
        rw [hcc] at this;cases this
        exact⟨nl,c,(clF x fr).trans hc',o,old c o ho,hd⟩
    · rcases two x c e with e | e
      · exact⟨none,(hownC x c e).1⟩
      · obtain⟨v,o,ho,hd⟩:=I3.cell x c (clS x c e)
        exact⟨v,o,old c o ho,hd⟩
  have hst4:tn 0 h₁:=T.keep _ _ _ hst3 fun b _ o e=>old b o e
  have loop:codeAny (model X.prog X.w) X.A (.compLoop (.ListComp elt [⟨tg,iter,ifs,0⟩] scope pos) 0 (.ref it) (.ref D) (compEnvC scope (cellsFrom (C+1) scope.names (bJ X.env scope.names [])) C X.env))
      (compPost (model X.prog X.w) X.A X.xe none (EP X pins σ Q) (.ref D) C) {s₃ with heap:=h₁}:=by
    refine dO (fun n s'=>∃i σ' H',ao (aU X scope cp tgN C s₃ (aF H2 D (.lst [])) fp) [] σ' H' s'∧tn i s'.heap∧(∀b∈fp,H' b=none)∧W i n σ' H') ?_ (n0:=m0) ⟨0,_,_,I4,hst4,fun b hb=>(f3 b hb).1,w0⟩
    rintro n s5 ⟨i,σ5,H5,I5,st5,fr5,w5⟩
    have stat:∀{H':Hp},(∀b∈fp,H' b=none)→∀b∈fp,d9 (aU X scope cp tgN C s₃ (aF H2 D (.lst [])) fp) [] H' b:=fun hn b hb=>
      ⟨hn b hb,(ok'.exf b hb).1,ok'.exfs b hb,.inl hb,(ok'.exf b hb).2,fun p hp=>by simp [aU] at hp⟩
    rcases turn i n σ5 H5 w5 with ⟨stop,qn⟩ | ⟨go,N,hN,step⟩
    · refine bf (T.done (aU X scope cp tgN C s₃ (aF H2 D (.lst [])) fp) rfl rfl rfl hc i [] s5 σ5 H5 (fun _ _=>False) I5 (stat fr5) st5 stop) fun r s6 ⟨hr,I6⟩=>?_
      subst hr
      refine⟨fun _=>?_,fun v z=>by cases z⟩
      obtain⟨m,hn,_⟩:=I6.loc
      refine⟨m,hn,fun h' sb=>⟨.ref D,H5,?_,rfl,qn⟩⟩
      have ub:=I6.base
      have kp:∀b u,b≠C→s6.heap.get? b=some u→h'.get? b=some u:=fun b u ne e=>sb.extBut b u ne e
      have nit:∀b u,H5 b=some u→b≠C:=fun b u e z=>by
        have:=I6.free
        rw [z] at e
        rw [show H5 C=none from this] at e;cases e
      refine I3.call' (s':={s6 with heap:=h'}) (ch:=fp) I6.os ⟨fun b o e n hb hx=>kp b o (nC b o e) (ub.keep b o e n hb hx),fun b o e n hb hx=>?_,ub.free,fun b o e hx=>?_,ub.tups,ub.frzs,ub.tbls⟩ (fun b u e=>?_) I6.bare (fun b hb=>?_)
      · obtain⟨sl,q⟩:=ub.slot b o e n hb hx
        exact⟨sl,kp b _ (nC b o e) q⟩
      · obtain⟨o',q⟩:=ub.there b o e hx
        exact⟨o',kp b _ (nC b o e) q⟩
      · refine(I6.hok b u e).stay (fun c v hc q=>kp c v ?_ q) (fun _ q=>q) fun _ _ q=>q
        rcases hc with z | z
        · rw [z];exact nit b u e
        · exact nit c _ z
      · obtain⟨f0,f1,f4,f5,f6,f7⟩:=f3 b hb
        exact⟨f5,f1,f6,f7⟩
    · refine bf (T.item (aU X scope cp tgN C s₃ (aF H2 D (.lst [])) fp) rfl rfl rfl hc i [] s5 σ5 H5 (fun _ _=>False) I5 (stat fr5) st5 go) fun r s6 ⟨u,hr,h6⟩=>?_
      subst hr
      refine⟨fun z=>(by cases z),fun v z=>?_⟩
      cases z
      refine bf h6 fun _ s7 ⟨x,H7,I7,r7,y7,st7,fr7⟩=>?_
      have I7':=I7.pinned (stat fr7) (T.obj _ _ st7)
      have again:∀{σ8:L2.St} {H8:Hp} {s8:Shared},ao (aU X scope cp tgN C s₃ (aF H2 D (.lst [])) fp) ([]++eP fp s7.heap) σ8 H8 s8→N σ8 H8→∃m,m < n∧∃i σ' H',ao (aU X scope cp tgN C s₃ (aF H2 D (.lst [])) fp) [] σ' H' s8∧tn i s8.heap∧(∀b∈fp,H' b=none)∧W i m σ' H':=fun{σ8 H8 s8} I8 n8=>by
        obtain⟨m',hm,w8⟩:=hN σ8 H8 n8
        refine⟨m',hm,i+1,σ8,H8,I8.unpinned,T.keep _ _ _ st7 fun b hb o e=>(I8.pin (b,o) (List.mem_append_right _ (List.mem_append_right _ (bi hb e)))).1,fun b hb=>?_,w8⟩
        obtain⟨o,e,d⟩:=T.obj _ _ st7 b hb
        exact(I8.pin (b,o) (List.mem_append_right _ (List.mem_append_right _ (bi hb e)))).2.1
      refine bf (hg C s₃ (aF H2 D (.lst [])) fp _ s7 σ5 H7 x u _ I7' r7 (step x H7 y7)) fun _ s8 ⟨σ8,H8,I8,q8⟩=>?_
      refine bf (ht C s₃ (aF H2 D (.lst [])) fp _ s8 σ8 H8 _ I8 q8) fun ok s9 ⟨H9,I9,q9⟩=>?_
      cases ok with
      | false=>
        rw [if_neg Bool.false_ne_true] at q9 ⊢
        exact again I9 q9
      | true=>
        rw [if_pos rfl] at q9 ⊢
        refine bf (he C s₃ (aF H2 D (.lst [])) fp _ s9 σ8 H9 _ I9 q9) fun v s10 ⟨xv,H10,I10,r10,ys,hl,hz,n10⟩=>?_
        refine bf (eF _ s10 σ8 H10 (.ref D) [xv] (.ref D) [v] (fun _ H=>N σ8 H) I10 rfl (.cons r10 .nil) ⟨D,ys,xv,rfl,rfl,hl,hz,n10⟩) fun _ s11 ⟨_,H11,I11,_,q11⟩=>?_
        exact again I11 q11
  exact codeAny_compStart_list loop (T.self X.A 0 _ _ _ hst4 loop)
def v_(sc0 scope:Scope)(N0:List Str)(cp:List (Nat × Str))(W:List Nat):Bool:=
  (scope.names.all fun y=>(!(y.2==.local) || scope.names.lookup y.1==some .local)&&(!(y.2==.cell) || scope.names.lookup y.1==some .cell)&&(!(y.2==.free) || (scope.names.lookup y.1==some .free&&sc0.names.lookup y.1==some .cell)))&&
  (cp.all fun p=>N0[p.1]?==some p.2&&sc0.names.lookup p.2==some .cell&&scope.names.lookup p.2==some .free)&&decide ((cp.map (·.1)).Nodup)&&W.all fun j=>decide (cp.length≤j)
theorem md{X:Cx}{K:PySem.W.Frag}{pos:Pos}{elt iter tg:Expr}{ifs:List Expr}{scope:Scope}{fi:FI}{g:FG}{ft:FT}{fe:FE}{W:List Nat}(cp:List (Nat × Str))(tgN:List Str)
    (hKx:X.K=K)(hc:X.calm=true)(hi:PI X tg iter (fI K fi))
    (hg:∀C s0 H0 fp,PG (aU X scope cp tgN C s0 H0 fp) tg (fG K g W))
    (ht:∀C s0 H0 fp,mF (aU X scope cp tgN C s0 H0 fp) ifs (fT K ft))
    (he:∀C s0 H0 fp,PE (aU X scope cp tgN C s0 H0 fp) elt (fE K fe))
    (hk:scope.kind=.function)(hch:v_ X.env.scope scope X.N cp W=true)
    (hs:∀x,foldedSetIterable iter X.env x=pure x):
    PE X (.ListComp elt [⟨tg,iter,ifs,0⟩] scope pos) (fE K (cw cp tgN.length fi g ft fe)):=by
  subst hKx
  simp only [v_,Bool.and_eq_true,List.all_eq_true,decide_eq_true_eq] at hch
  obtain⟨⟨⟨h1,h2⟩,h3⟩,h4⟩:=hch
  refine(oU X.env.scope X.N cp tgN hc rfl rfl hi hg ht he hk (fun y hy e=>?_) (fun y hy e=>?_) (fun y hy e=>?_) (fun p hp=>?_) (fun p hp=>?_) hs).mono fun _ _ _ h=>iC h3 h4 h
  · have:=(h1 y hy).1.2;rw [e] at this;simpa using this
  · have:=(h1 y hy).1.1;rw [e] at this;simpa using this
  · have:=(h1 y hy).2;rw [e] at this;simpa using this
  · have:=(h2 p hp).1.1;simpa using this
  · have a:=(h2 p hp).1.2;have c:=(h2 p hp).2;exact⟨by simpa using a,by simpa using c⟩
end L2
namespace V56
open PySem PySem.Spec PyProof.Rows L2
variable{P:Program}{w:World}{K:W.Frag}{mg:Str→Option Value}{base:Heap}{f:Addr}{fd:FuncData}
local macro_rules|`(tactic|trivial)=>`(tactic|first|exact .inl rfl|exact .inr rfl|assumption)
local macro_rules|`(¬$n:num)=>`(@qw _ _ $n _ _ (by rfl) (by rfl) (by decide))
local macro_rules|`($a∘$b)=>`(@yB _ _ _ _ _ _ $a $b (by rfl))
def top(i:Nat):Stmt:=PySem.Challenge.pw_askedpairs_k56_asks_enough.main.body.getD i (.Pass ⟨0,0,0,0⟩)
theorem si{α:Type u}{β:Type v}{f:α→β}:List.map f []=[]:=rfl
theorem se{α:Type u}{β:Type v}{f:α→β}{a:α}{l:List α}:List.map f (a::l)=f a::List.map f l:=rfl
theorem r8{α:Type u}{l:List α}:[]++l=l:=rfl
theorem r6{α:Type u}{a:α}{l m:List α}:(a::l)++m=a::(l++m):=rfl
theorem r_{α:Type u}{a:α}{l:List α}:(a::l)[0]?=some a:=rfl
theorem sd{α:Type u}{a:α}{l:List α}{i:Nat}:(a::l)[i+1]?=l[i]?:=rfl
theorem r9{α:Type u}{β:Type v}{a:α}{f:α→Option β}:Option.bind (some a) f=f a:=rfl
theorem sj{α:Type u}{β:Type v}{a:α}{f:α→β}:Option.map f (some a)=some (f a):=rfl
abbrev cv:Stmt:=top 1
abbrev bI:Stmt:=top 2
abbrev a_:Stmt:=top 3
abbrev bH:Stmt:=top 5
abbrev fJ:Stmt:=top 7
abbrev fH:Stmt:=top 8
abbrev eT:Stmt:=top 9
abbrev kL:Stmt:=top 10
abbrev kM:Stmt:=top 11
abbrev iq:Stmt:=top 12
abbrev en:Stmt:=top 13
abbrev fL:Stmt:=top 14
abbrev ir:Stmt:=top 15
abbrev kN:Stmt:=top 16
abbrev cc:Stmt:=top 17
abbrev je:Stmt:=top 18
abbrev fK:Stmt:=top 19
abbrev gB:Stmt:=top 20
structure jr (mg:Str→Option Value):Prop where
  b_abs:mg "abs"=none
  b_len:mg "len"=none
  b_min:mg "min"=none
  b_max:mg "max"=none
  b_range:mg "range"=none
  b_repr:mg "repr"=none
  b_tuple:mg "tuple"=none
  b_int:mg "int"=none
  b_enumerate:mg "enumerate"=none
  b_all:mg "all"=none
  b_list:mg "list"=none
noncomputable def gu:FS:=(bG (vt (aw dc (aw dc (ae 0) (vC (.int 1))) (ae 1)) kx (ja (vC (.int 2)))))
noncomputable def cq:FM:=iE 2 0 [] gu
theorem fP:aE ["web","tie"] ["web","tie"] (ah cv):=⟨rfl,rfl,rfl,by decide+kernel,rfl,by decide+kernel,by decide+kernel⟩
theorem jM(h:bE K mg "things_of" cv f fd ["web","tie"])(T:jr mg):aL P w K mg base cE 1 f fd ["web","tie"] (cZ K 2 cq):=by
  have nd:=fP.nd
  exact h.fn fP rfl rfl (fun cdv A outer s H E hr=>(@aj _ _ _ _ _ (@aC _ _ _ _ _ (@me _ _ _ _ _ _ _ _ _ _ rfl (@bK _ _ _ _ _ _ _ rfl (@bK _ _ _ _ _ _ _ rfl (¬0) ab (fun _ _=>rfl)) (¬1) (fun _ _=>rfl)) (@mi _ _) (@mj _ _ _ _ ab)))))
noncomputable def eJ:FI:=(gF (ae 1))
noncomputable def bc:FT:=(aY (aw (sr false) (ae 0) (di 2 cq (aa (ae 1) (aa (ae 2) ag)))))
noncomputable def bz:FE:=(ae 2)
noncomputable def gq:FS:=(bG (aA (g1 cI) (aa (cw [(2,"thing"),(0,"web")] 1 eJ (ai 2) bc bz) ag)))
noncomputable def cn:FM:=iE 3 0 [] gq
theorem fN:aE ["web","asked","thing"] ["web","asked","thing"] (ah bI):=⟨rfl,rfl,rfl,by decide+kernel,rfl,by decide+kernel,by decide+kernel⟩
theorem jL(h:bE K mg "many_asks" bI f fd ["web","asked","thing"])(T:jr mg){f_things_of:Addr}{e_things_of:FuncData}(h_things_of:bE K mg "things_of" cv f_things_of e_things_of ["web","tie"])(G_things_of:aL P w K mg base cE 1 f_things_of e_things_of ["web","tie"] (cZ K 2 cq)):aL P w K mg base cE 2 f fd ["web","asked","thing"] (cZ K 3 cn):=by
  have nd:=fN.nd
  exact h.fn fN rfl rfl (fun cdv A outer s H E hr=>(@aj _ _ _ _ _ (@aC _ _ _ _ _ (@aT _ _ _ _ _ _ _ _ _ (@b_len _ _ rfl) (by rfl) T.b_len ((@lI _ _ _ _ _ _ _ _ _ _ _ _ _ (ah bI) ["web","asked","thing"] [(2,"thing"),(0,"web")] ["tie"] rfl rfl rfl (@jR _ _ _ _ _ rfl (¬1))
        (fun C s0 H0 fp=>(@aW _ _ _ 2 _ (show List.Nodup (["thing","web","tie"]:List Str) by decide+kernel) rfl (Or.inl rfl) (by trivial))) (fun C s0 H0 fp=>(@jU _ _ _ _ (@bx _ _ _ _ _ _ _ _ _ (@vZ _ _ _ rfl hr) (¬0) (@a' _ _ _ _ _ _ _ _ _ _ _ _ _ _ _ h_things_of G_things_of (hr.mono (by decide)) ((¬1)∘((¬2)∘ac)) (by rfl) (by decide) (by rfl) (by rfl)) (by with_unfolding_all rfl))))
        (fun C s0 H0 fp=>(¬2)) rfl (by decide+kernel) (by decide+kernel) (by decide+kernel) (by decide+kernel) (by decide+kernel) (by decide+kernel) (by decide+kernel) (by intro _;rfl))∘ac) (by decide) (by decide) (by rfl) (by rfl)))))
noncomputable def b6:FI:=(bR (aa (aw dc (ae 0) (vC (.int 0))) ag))
noncomputable def a7:FE:=(aw xY (di 3 cn (aa (ae 0) (aa (ae 1) (aa (ae 2) ag)))) (aw dc (aw dc (ae 0) (vC (.int 2))) (ae 2)))
noncomputable def cV:FS:=(aJ (iF (aY (aw tH (aA (g1 cI) (aa (ae 1) ag)) (aw dc (ae 0) (vC (.int 3)))))
    (bG (vC (.bool false)))
    er)
    (bG (aA (g1 (hZ ka)) (aa (cw [(0,"web"),(1,"asked")] 1 b6 (ai 2) et a7) ag))))
noncomputable def a9:FM:=iE 2 0 (([]++[])++[]) cV
theorem dY:aE ["web","asked"] ["web","asked"] (ah a_):=⟨rfl,rfl,rfl,by decide+kernel,rfl,by decide+kernel,by decide+kernel⟩
theorem gH(h:bE K mg "keeps_bounds" a_ f fd ["web","asked"])(T:jr mg){f_many_asks:Addr}{e_many_asks:FuncData}(h_many_asks:bE K mg "many_asks" bI f_many_asks e_many_asks ["web","asked","thing"])(G_many_asks:aL P w K mg base cE 2 f_many_asks e_many_asks ["web","asked","thing"] (cZ K 3 cn)):aL P w K mg base cE 3 f fd ["web","asked"] (cZ K 2 a9):=by
  have nd:=dY.nd
  exact h.fn dY rfl rfl (fun cdv A outer s H E hr=>(@af _ _ _ _ _ _ _ _ (@dC _ _ _ _ _ _ _ _ _ _ _ (@bx _ _ _ _ _ _ _ _ _ (@p9 _ _) (@aT _ _ _ _ _ _ _ _ _ (@b_len _ _ rfl) (by rfl) T.b_len ((¬1)∘ac) (by decide) (by decide) (by rfl) (by rfl)) (@bK _ _ _ _ _ _ _ rfl (¬0) ab (fun _ _=>rfl)) (aS _))
      (@aj _ _ _ _ _ (@aC _ _ _ _ _ (@eK _ _ _ _ _)))
      (@br _ _))
      (@aj _ _ _ _ _ (@aC _ _ _ _ _ (@aT _ _ _ _ _ _ _ _ _ (@b_all _ _ _ rfl hr) (by rfl) T.b_all ((@lI _ _ _ _ _ _ _ _ _ _ _ _ _ (ah a_) ["web","asked"] [(0,"web"),(1,"asked")] ["thing"] rfl rfl rfl (@b_ _ _ _ _ _ _ _ rfl T.b_range ((@bK _ _ _ _ _ _ _ rfl (¬0) ab (fun _ _=>rfl))∘ac) (by rfl))
        (fun C s0 H0 fp=>(@aW _ _ _ 2 _ (show List.Nodup (["web","asked","thing"]:List Str) by decide+kernel) rfl (Or.inl rfl) (by trivial))) (fun C s0 H0 fp=>(@jT _ _))
        (fun C s0 H0 fp=>(@fD _ _ _ _ _ _ _ _ _ (@yg _ _) (@a' _ _ _ _ _ _ _ _ _ _ _ _ _ _ _ h_many_asks G_many_asks (hr.mono (by decide)) ((¬0)∘((¬1)∘((¬2)∘ac))) (by rfl) (by decide) (by rfl) (by rfl)) (@bK _ _ _ _ _ _ _ rfl (@bK _ _ _ _ _ _ _ rfl (¬0) ab (fun _ _=>rfl)) (¬2) (fun _ _=>rfl)) (aS _))) rfl (by decide+kernel) (by decide+kernel) (by decide+kernel) (by decide+kernel) (by decide+kernel) (by decide+kernel) (by decide+kernel) (by intro _;rfl))∘ac) (by decide) (by decide) (by rfl) (by rfl))))))
noncomputable def gp:FS:=(bG (di 2 a9 (aa (ae 0) (aa (fX (aa (aA (g1 cI) (aa (aw dc (ae 0) (vC (.int 1))) ag)) ag)) ag))))
noncomputable def aB:FM:=iE 1 0 [] gp
theorem fM:aE ["web"] ["web"] (ah bH):=⟨rfl,rfl,rfl,by decide+kernel,rfl,by decide+kernel,by decide+kernel⟩
theorem jK(h:bE K mg "is_enough" bH f fd ["web"])(T:jr mg){f_keeps_bounds:Addr}{e_keeps_bounds:FuncData}(h_keeps_bounds:bE K mg "keeps_bounds" a_ f_keeps_bounds e_keeps_bounds ["web","asked"])(G_keeps_bounds:aL P w K mg base cE 3 f_keeps_bounds e_keeps_bounds ["web","asked"] (cZ K 2 a9)):aL P w K mg base cE 4 f fd ["web"] (cZ K 1 aB):=by
  have nd:=fM.nd
  exact h.fn fM rfl rfl (fun cdv A outer s H E hr=>(@aj _ _ _ _ _ (@aC _ _ _ _ _ (@a' _ _ _ _ _ _ _ _ _ _ _ _ _ _ _ h_keeps_bounds G_keeps_bounds (hr.mono (by decide)) ((¬0)∘((@kB _ _ _ _ _ _ _ _ rfl rfl T.b_list rfl T.b_range ((@aT _ _ _ _ _ _ _ _ _ (@b_len _ _ rfl) (by rfl) T.b_len ((@bK _ _ _ _ _ _ _ rfl (¬0) ab (fun _ _=>rfl))∘ac) (by decide) (by decide) (by rfl) (by rfl))∘ac) (by rfl) (by rfl))∘ac)) (by rfl) (by decide) (by rfl) (by rfl)))))
noncomputable def lV:FS:=(aJ (be 2 (aw aM (aw cH (aw cH (aw f9 (aw aM (ae 0) (vC (.int 2147483647))) (vC (.int 48271))) (aw f9 (aw f9 (vC (.int 7919)) (ae 1)) (ae 1))) (vC (.int 104729))) (vC (.int 2147483647))))
    (bG (aw aM (aw f9 (ae 2) (ae 2)) (vC (.int 2147483629)))))
noncomputable def eE:FM:=iE 2 1 ([2]++[]) lV
theorem kP:aE ["_law_cell","_law_k","_law_number"] ["_law_cell","_law_k"] (ah fJ):=⟨rfl,rfl,rfl,by decide+kernel,rfl,by decide+kernel,by decide+kernel⟩
theorem oO(h:bE K mg "_law_mixed" fJ f fd ["_law_cell","_law_k"])(T:jr mg):aL P w K mg base cE 1 f fd ["_law_cell","_law_k"] (cZ K 2 eE):=by
  have nd:=kP.nd
  exact h.fn kP rfl rfl (fun cdv A outer s H E hr=>(@af _ _ _ _ _ _ _ _ (@aD _ _ _ _ _ 2 _ _ nd rfl (Or.inl rfl) (@aH _ _ _ _ _ _ _ (@bT _ _ _ _ _ _ _ rfl (@bT _ _ _ _ _ _ _ rfl (@ij _ _ _ _ _ _ _ rfl (@aH _ _ _ _ _ _ _ (¬0) ab) ab) (@ij _ _ _ _ _ _ _ rfl (@ij _ _ _ _ _ _ _ rfl ab (¬1)) (¬1))) ab) ab) (by rfl) (by trivial))
      (@aj _ _ _ _ _ (@aC _ _ _ _ _ (@aH _ _ _ _ _ _ _ (@ij _ _ _ _ _ _ _ rfl (¬2) (¬2)) ab)))))
noncomputable def cQ:FT:=(nq (aY (aw wd (ae 3) (aw ly (vC (.int 10)) (vC (.int 18))))) (aY (aw vE (aA (g1 cI) (aa (ae 1) ag)) (vC (.int 900)))))
noncomputable def eu:FS:=(aJ (gA (dG cg (ae 1) (aa (aw aM (ae 3) (vC (.int 2147483629))) ag)))
    (be 3 (aw dw (ae 3) (vC (.int 2147483629)))))
noncomputable def eC:FI:=(bR (aa (vC (.int 12)) ag))
noncomputable def dk:FS:=(gA (dG cg (ae 1) (aa (di 2 eE (aa (di 2 eE (aa (ae 3) (aa (aw cH (aw f9 (vC (.int 3)) (ae 4)) (vC (.int 1))) ag))) (aa (aw cH (aw cH (ae 4) (ae 2)) (vC (.int 2))) ag))) ag)))
noncomputable def f_:FI:=(bR (aa (aA (g2 n_) (aa (aA (g1 cI) (aa (ae 0) ag)) (aa (vC (.int 63)) ag))) ag))
noncomputable def cO:FS:=(aJ (be 3 (aA (g1 mP) (aa (aw dc (ae 0) (ae 2)) ag)))
    (aJ (iF (aY (aw vE (ae 3) (aw ly (vC (.int 10)) (vC (.int 18)))))
    (ec ([4]++[]) eC (ai 4) dk)
    er)
    (aJ (iu (2 ^ 4200) cQ eu)
    (iF (aY (aw wd (ae 3) (vC (.int 2147483629))))
    (gA (dG cg (ae 1) (aa (aw aM (ae 3) (vC (.int 2147483629))) ag)))
    er))))
noncomputable def lU:FS:=(aJ (be 1 (eH ag))
    (aJ (ec ([2]++([3]++((([4]++[])++[])++(([]++[3])++([]++[]))))) f_ (ai 2) cO)
    (bG (ae 1))))
noncomputable def fx:FM:=iE 1 4 ([1]++(([2]++([3]++((([4]++[])++[])++(([]++[3])++([]++[])))))++[])) lU
theorem kO:aE ["_law_script","_law_drawn","_law_k","_law_cell","_law_j"] ["_law_script"] (ah fH):=⟨rfl,rfl,rfl,by decide+kernel,rfl,by decide+kernel,by decide+kernel⟩
theorem oM(h:bE K mg "_law_draws" fH f fd ["_law_script"])(T:jr mg){fLmixed:Addr}{eLmixed:FuncData}(hLmixed:bE K mg "_law_mixed" fJ fLmixed eLmixed ["_law_cell","_law_k"])(GLmixed:aL P w K mg base cE 1 fLmixed eLmixed ["_law_cell","_law_k"] (cZ K 2 eE)):aL P w K mg base cE 2 f fd ["_law_script"] (cZ K 1 fx):=by
  have nd:=kO.nd
  exact h.fn kO rfl rfl (fun cdv A outer s H E hr=>(@af _ _ _ _ _ _ _ _ (@aD _ _ _ _ _ 1 _ _ nd rfl (Or.inl rfl) (@cA _ _ _ _ _ ac) (by rfl) (by trivial))
      (@af _ _ _ _ _ _ _ _ (@eS _ _ _ _ _ _ _ _ _ _ _ PassesOwn.never rfl (@b_ _ _ _ _ _ _ _ rfl T.b_range ((@aT _ _ _ _ _ _ _ _ _ (@b_min _ _ rfl) (by rfl) T.b_min ((@aT _ _ _ _ _ _ _ _ _ (@b_len _ _ rfl) (by rfl) T.b_len ((¬0)∘ac) (by decide) (by decide) (by rfl) (by rfl))∘(ab∘ac)) (by decide) (by decide) (by rfl) (by rfl))∘ac) (by rfl)) (@aW _ _ _ 2 _ nd rfl (Or.inl rfl) (by trivial))
      (@af _ _ _ _ _ _ _ _ (@aD _ _ _ _ _ 3 _ _ nd rfl (Or.inl rfl) (@aT _ _ _ _ _ _ _ _ _ (@b_abs _ _) (by rfl) T.b_abs ((@bK _ _ _ _ _ _ _ rfl (¬0) (¬2) (fun _ _=>rfl))∘ac) (by decide) (by decide) (by rfl) (by rfl)) (by rfl) (by trivial))
      (@af _ _ _ _ _ _ _ _ (@dC _ _ _ _ _ _ _ _ _ _ _ (@bx _ _ _ _ _ _ _ _ _ (@v0 _ _) (¬3) (@sM _ _ _ _ _ _ _ ab ab) (aS _))
      (@aj _ _ _ _ _ (@eS _ _ _ _ _ _ _ _ _ _ _ PassesOwn.never rfl (@b_ _ _ _ _ _ _ _ rfl T.b_range (ab∘ac) (by rfl)) (@aW _ _ _ 4 _ nd rfl (Or.inl rfl) (by trivial))
      (@aj _ _ _ _ _ (@fF _ _ _ _ _ (@el _ _ _ _ _ _ _ _ _ rfl (¬1) ((@a' _ _ _ _ _ _ _ _ _ _ _ _ _ _ _ hLmixed GLmixed (hr.mono (by decide)) ((@a' _ _ _ _ _ _ _ _ _ _ _ _ _ _ _ hLmixed GLmixed (hr.mono (by decide)) ((¬3)∘((@bT _ _ _ _ _ _ _ rfl (@ij _ _ _ _ _ _ _ rfl ab (¬4)) ab)∘ac)) (by rfl) (by decide) (by rfl) (by rfl))∘((@bT _ _ _ _ _ _ _ rfl (@bT _ _ _ _ _ _ _ rfl (¬4) (¬2)) ab)∘ac)) (by rfl) (by decide) (by rfl) (by rfl))∘ac) (by rfl) (by rfl) (by rfl) (by rfl) (by rfl)) (by rfl))) (by intro _;rfl)))
      (@br _ _))
      (@af _ _ _ _ _ _ _ _ (@kD _ _ _ _ _ _ _ _ _ PassesOwn.never (@xa _ _ _ _ (@uU _ _ _ _ _ _ _ _ (@bx _ _ _ _ _ _ _ _ _ (@vY _ _) (¬3) (@sM _ _ _ _ _ _ _ ab ab) (aS _)) (@rp _ _ _ _ _ (@bx _ _ _ _ _ _ _ _ _ (@v0 _ _) (@aT _ _ _ _ _ _ _ _ _ (@b_len _ _ rfl) (by rfl) T.b_len ((¬1)∘ac) (by decide) (by decide) (by rfl) (by rfl)) ab (aS _)))))
      (@af _ _ _ _ _ _ _ _ (@fF _ _ _ _ _ (@el _ _ _ _ _ _ _ _ _ rfl (¬1) ((@aH _ _ _ _ _ _ _ (¬3) ab)∘ac) (by rfl) (by rfl) (by rfl) (by rfl) (by rfl)) (by rfl))
      (@aj _ _ _ _ _ (@aD _ _ _ _ _ 3 _ _ nd rfl (Or.inl rfl) (@eR _ _ _ _ _ _ _ (¬3) ab) (by rfl) (by trivial)))))
      (@aj _ _ _ _ _ (@dC _ _ _ _ _ _ _ _ _ _ _ (@bx _ _ _ _ _ _ _ _ _ (@vY _ _) (¬3) ab (aS _))
      (@aj _ _ _ _ _ (@fF _ _ _ _ _ (@el _ _ _ _ _ _ _ _ _ rfl (¬1) ((@aH _ _ _ _ _ _ _ (¬3) ab)∘ac) (by rfl) (by rfl) (by rfl) (by rfl) (by rfl)) (by rfl)))
      (@br _ _)))))) (by intro _;rfl))
      (@aj _ _ _ _ _ (@aC _ _ _ _ _ (¬1))))))
noncomputable def lq:FS:=(aJ (iF (aY (aw (du false) (ae 0) (eH ag)))
    (bG (vC (.int 0)))
    er)
    (bG (dG gc (ae 0) (aa (vC (.int 0)) ag))))
noncomputable def aV:FM:=iE 1 0 (([]++[])++[]) lq
theorem ms:aE ["_law_drawn"] ["_law_drawn"] (ah eT):=⟨rfl,rfl,rfl,by decide+kernel,rfl,by decide+kernel,by decide+kernel⟩
theorem qD(h:bE K mg "_law_next" eT f fd ["_law_drawn"])(T:jr mg):aL P w K mg base cE 1 f fd ["_law_drawn"] (cZ K 1 aV):=by
  have nd:=ms.nd
  exact h.fn ms rfl rfl (fun cdv A outer s H E hr=>(@af _ _ _ _ _ _ _ _ (@dC _ _ _ _ _ _ _ _ _ _ _ (@bx _ _ _ _ _ _ _ _ _ (@ls _ _ _ rfl hr) (¬0) (@cA _ _ _ _ _ ac) (aS _))
      (@aj _ _ _ _ _ (@aC _ _ _ _ _ ab))
      (@br _ _))
      (@aj _ _ _ _ _ (@aC _ _ _ _ _ (@ro _ _ _ _ _ _ _ _ _ rfl (¬0) (ab∘ac) (by rfl) (by rfl) (by rfl) (by rfl) (by rfl))))))
noncomputable def eY:FT:=(aY (aw (du true) (ae 1) (vC (.int 0))))
noncomputable def gK:FS:=(pF 0 1 (aa (ae 1) (aa (aw aM (ae 0) (ae 1)) ag)))
noncomputable def rR:FS:=(aJ (iu (2 ^ 4200) eY gK)
    (bG (aA (g1 mP) (aa (ae 0) ag))))
noncomputable def kl:FM:=iE 2 0 ([0,1]++[]) rR
theorem pH:aE ["_law_one","_law_other"] ["_law_one","_law_other"] (ah kL):=⟨rfl,rfl,rfl,by decide+kernel,rfl,by decide+kernel,by decide+kernel⟩
theorem t9(h:bE K mg "_law_gcd" kL f fd ["_law_one","_law_other"])(T:jr mg):aL P w K mg base cE 1 f fd ["_law_one","_law_other"] (cZ K 2 kl):=by
  have nd:=pH.nd
  exact h.fn pH rfl rfl (fun cdv A outer s H E hr=>(@af _ _ _ _ _ _ _ _ (@kD _ _ _ _ _ _ _ _ _ PassesOwn.never (@bx _ _ _ _ _ _ _ _ _ (@yh _ _ _ rfl hr) (¬1) ab (aS _))
      (@aj _ _ _ _ _ (@uS _ _ _ _ _ 0 1 _ _ _ _ _ _ _ _ _ rfl nd rfl rfl (by decide) rfl rfl ((¬1)∘((@aH _ _ _ _ _ _ _ (¬0) (¬1))∘ac)) (by rfl) (by rfl))))
      (@aj _ _ _ _ _ (@aC _ _ _ _ _ (@aT _ _ _ _ _ _ _ _ _ (@b_abs _ _) (by rfl) T.b_abs ((¬0)∘ac) (by decide) (by decide) (by rfl) (by rfl))))))
noncomputable def rS:FS:=(aJ (be 2 (di 2 kl (aa (ae 0) (aa (ae 1) ag))))
    (bG (cB (aa (aw dw (ae 0) (ae 2)) (aa (aw dw (ae 1) (ae 2)) ag)))))
noncomputable def i9:FM:=iE 2 1 ([2]++[]) rS
theorem pI:aE ["_law_top","_law_bottom","_law_common"] ["_law_top","_law_bottom"] (ah kM):=⟨rfl,rfl,rfl,by decide+kernel,rfl,by decide+kernel,by decide+kernel⟩
theorem t_(h:bE K mg "_law_low" kM f fd ["_law_top","_law_bottom"])(T:jr mg){fLgcd:Addr}{eLgcd:FuncData}(hLgcd:bE K mg "_law_gcd" kL fLgcd eLgcd ["_law_one","_law_other"])(GLgcd:aL P w K mg base cE 1 fLgcd eLgcd ["_law_one","_law_other"] (cZ K 2 kl)):aL P w K mg base cE 2 f fd ["_law_top","_law_bottom"] (cZ K 2 i9):=by
  have nd:=pI.nd
  exact h.fn pI rfl rfl (fun cdv A outer s H E hr=>(@af _ _ _ _ _ _ _ _ (@aD _ _ _ _ _ 2 _ _ nd rfl (Or.inl rfl) (@a' _ _ _ _ _ _ _ _ _ _ _ _ _ _ _ hLgcd GLgcd (hr.mono (by decide)) ((¬0)∘((¬1)∘ac)) (by rfl) (by decide) (by rfl) (by rfl)) (by rfl) (by trivial))
      (@aj _ _ _ _ _ (@aC _ _ _ _ _ (@aX _ _ _ _ _ _ ((@eR _ _ _ _ _ _ _ (¬0) (¬2))∘((@eR _ _ _ _ _ _ _ (¬1) (¬2))∘ac)))))))
noncomputable def nE:FS:=(aJ (iF (aY (ae 1))
    (bG (aw su (ae 0) (vC (.bool true))))
    er)
    (bG (aw su (ae 0) (vC (.bool false)))))
noncomputable def h_:FM:=iE 2 0 (([]++[])++[]) nE
theorem mv:aE ["_law_found","_law_due_here"] ["_law_found","_law_due_here"] (ah iq):=⟨rfl,rfl,rfl,by decide+kernel,rfl,by decide+kernel,by decide+kernel⟩
theorem qE(h:bE K mg "_law_says" iq f fd ["_law_found","_law_due_here"])(T:jr mg):aL P w K mg base cE 1 f fd ["_law_found","_law_due_here"] (cZ K 2 h_):=by
  have nd:=mv.nd
  exact h.fn mv rfl rfl (fun cdv A outer s H E hr=>(@af _ _ _ _ _ _ _ _ (@dC _ _ _ _ _ _ _ _ _ _ _ (@jS _ _ _ _ (¬1) (by intro _;rfl))
      (@aj _ _ _ _ _ (@aC _ _ _ _ _ (@fD _ _ _ _ _ _ _ _ _ (@p_ _ _) (¬0) (@eK _ _ _ _ _) (aS _))))
      (@br _ _))
      (@aj _ _ _ _ _ (@aC _ _ _ _ _ (@fD _ _ _ _ _ _ _ _ _ (@p_ _ _) (¬0) (@eK _ _ _ _ _) (aS _))))))
noncomputable def ee:FS:=(aJ (iF (aY (aw (du false) (ae 1) (vC (.int 0))))
    (bG (aw dc (eH (aa (cB (aa (vC (.int 1)) (aa (vC (.int 2)) ag))) (aa (cB (aa (vC (.int 1)) (aa (vC (.int 3)) ag))) (aa (cB (aa (vC (.int 2)) (aa (vC (.int 3)) ag))) (aa (cB (aa (vC (.int 1)) (aa (vC (.int 1)) ag))) (aa (cB (aa (vC (.int 0)) (aa (vC (.int 1)) ag))) (aa (cB (aa (vC (.int 3)) (aa (vC (.int 4)) ag))) ag))))))) (aw aM (ae 0) (vC (.int 6)))))
    er)
    (aJ (iF (aY (aw (du false) (ae 1) (vC (.int 1))))
    (aJ (be 2 (aw cH (vC (.int 2)) (aw aM (ae 0) (vC (.int 9)))))
    (bG (di 2 i9 (aa (aw cH (vC (.int 1)) (aw aM (aw dw (ae 0) (vC (.int 9))) (aw eN (ae 2) (vC (.int 1))))) (aa (ae 2) ag)))))
    er)
    (aJ (iF (aY (aw (du false) (ae 1) (vC (.int 2))))
    (aJ (be 2 (aw cH (vC (.int 1)) (aw aM (ae 0) (vC (.int 100)))))
    (bG (di 2 i9 (aa (aw aM (aw dw (ae 0) (vC (.int 100))) (aw cH (ae 2) (vC (.int 1)))) (aa (ae 2) ag)))))
    er)
    (bG (cB (aa (vC (.int 1)) (aa (vC (.int 1)) ag)))))))
noncomputable def cm:FM:=iE 2 1 (([]++[])++((([2]++[])++[])++((([2]++[])++[])++[]))) ee
theorem jf:aE ["_law_number","_law_kind","_law_bottom"] ["_law_number","_law_kind"] (ah en):=⟨rfl,rfl,rfl,by decide+kernel,rfl,by decide+kernel,by decide+kernel⟩
theorem mY(h:bE K mg "_law_chance" en f fd ["_law_number","_law_kind"])(T:jr mg){fLlow:Addr}{eLlow:FuncData}(hLlow:bE K mg "_law_low" kM fLlow eLlow ["_law_top","_law_bottom"])(GLlow:aL P w K mg base cE 2 fLlow eLlow ["_law_top","_law_bottom"] (cZ K 2 i9)):aL P w K mg base cE 3 f fd ["_law_number","_law_kind"] (cZ K 2 cm):=by
  have nd:=jf.nd
  exact h.fn jf rfl rfl (fun cdv A outer s H E hr=>(@af _ _ _ _ _ _ _ _ (@dC _ _ _ _ _ _ _ _ _ _ _ (@bx _ _ _ _ _ _ _ _ _ (@ls _ _ _ rfl hr) (¬1) ab (aS _))
      (@aj _ _ _ _ _ (@aC _ _ _ _ _ (@bK _ _ _ _ _ _ _ rfl (@cA _ _ _ _ _ ((@aX _ _ _ _ _ _ (ab∘(ab∘ac)))∘((@aX _ _ _ _ _ _ (ab∘(ab∘ac)))∘((@aX _ _ _ _ _ _ (ab∘(ab∘ac)))∘((@aX _ _ _ _ _ _ (ab∘(ab∘ac)))∘((@aX _ _ _ _ _ _ (ab∘(ab∘ac)))∘((@aX _ _ _ _ _ _ (ab∘(ab∘ac)))∘ac))))))) (@aH _ _ _ _ _ _ _ (¬0) ab) (fun _ _=>rfl))))
      (@br _ _))
      (@af _ _ _ _ _ _ _ _ (@dC _ _ _ _ _ _ _ _ _ _ _ (@bx _ _ _ _ _ _ _ _ _ (@ls _ _ _ rfl hr) (¬1) ab (aS _))
      (@af _ _ _ _ _ _ _ _ (@aD _ _ _ _ _ 2 _ _ nd rfl (Or.inl rfl) (@bT _ _ _ _ _ _ _ rfl ab (@aH _ _ _ _ _ _ _ (¬0) ab)) (by rfl) (by trivial))
      (@aj _ _ _ _ _ (@aC _ _ _ _ _ (@a' _ _ _ _ _ _ _ _ _ _ _ _ _ _ _ hLlow GLlow (hr.mono (by decide)) ((@bT _ _ _ _ _ _ _ rfl ab (@aH _ _ _ _ _ _ _ (@eR _ _ _ _ _ _ _ (¬0) ab) (@mf _ _ _ _ _ _ _ (¬2) ab)))∘((¬2)∘ac)) (by rfl) (by decide) (by rfl) (by rfl)))))
      (@br _ _))
      (@af _ _ _ _ _ _ _ _ (@dC _ _ _ _ _ _ _ _ _ _ _ (@bx _ _ _ _ _ _ _ _ _ (@ls _ _ _ rfl hr) (¬1) ab (aS _))
      (@af _ _ _ _ _ _ _ _ (@aD _ _ _ _ _ 2 _ _ nd rfl (Or.inl rfl) (@bT _ _ _ _ _ _ _ rfl ab (@aH _ _ _ _ _ _ _ (¬0) ab)) (by rfl) (by trivial))
      (@aj _ _ _ _ _ (@aC _ _ _ _ _ (@a' _ _ _ _ _ _ _ _ _ _ _ _ _ _ _ hLlow GLlow (hr.mono (by decide)) ((@aH _ _ _ _ _ _ _ (@eR _ _ _ _ _ _ _ (¬0) ab) (@bT _ _ _ _ _ _ _ rfl (¬2) ab))∘((¬2)∘ac)) (by rfl) (by decide) (by rfl) (by rfl)))))
      (@br _ _))
      (@aj _ _ _ _ _ (@aC _ _ _ _ _ (@aX _ _ _ _ _ _ (ab∘(ab∘ac)))))))))
noncomputable def lX:FS:=(bG (aw dc (eH (aa (aw aM (ae 0) (vC (.int 7))) (aa (aw cH (vC (.int 5)) (aw aM (ae 0) (vC (.int 2)))) (aa (aw aM (ae 0) (vC (.int 1001))) (aa (aw eN (vC (.int 1000)) (aw aM (ae 0) (vC (.int 3)))) ag))))) (aw aM (ae 1) (vC (.int 4)))))
noncomputable def fy:FM:=iE 2 0 [] lX
theorem kR:aE ["_law_number","_law_kind"] ["_law_number","_law_kind"] (ah fL):=⟨rfl,rfl,rfl,by decide+kernel,rfl,by decide+kernel,by decide+kernel⟩
theorem oQ(h:bE K mg "_law_worth" fL f fd ["_law_number","_law_kind"])(T:jr mg):aL P w K mg base cE 1 f fd ["_law_number","_law_kind"] (cZ K 2 fy):=by
  have nd:=kR.nd
  exact h.fn kR rfl rfl (fun cdv A outer s H E hr=>(@aj _ _ _ _ _ (@aC _ _ _ _ _ (@bK _ _ _ _ _ _ _ rfl (@cA _ _ _ _ _ ((@aH _ _ _ _ _ _ _ (¬0) ab)∘((@bT _ _ _ _ _ _ _ rfl ab (@aH _ _ _ _ _ _ _ (¬0) ab))∘((@aH _ _ _ _ _ _ _ (¬0) ab)∘((@mf _ _ _ _ _ _ _ ab (@aH _ _ _ _ _ _ _ (¬0) ab))∘ac))))) (@aH _ _ _ _ _ _ _ (¬1) ab) (fun _ _=>rfl)))))
noncomputable def h9:FI:=(bR (aa (ae 2) ag))
noncomputable def dm:FS:=(aJ (be 8 (di 1 aV (aa (ae 0) ag)))
    (aJ (be 9 (aw dc (eH (aa (aw aM (ae 8) (ae 1)) (aa (vC (.int 0)) (aa (aw aM (ae 7) (ae 1)) (aa (aw aM (ae 8) (ae 1)) (aa (aw aM (ae 8) (vC (.int 2))) (aa (aw aM (ae 8) (ae 1)) ag))))))) (ae 3)))
    (aJ (be 10 (aw aM (aw cH (aw cH (ae 9) (vC (.int 1))) (aw aM (aw dw (ae 8) (vC (.int 12))) (aw eN (ae 1) (vC (.int 1))))) (ae 1)))
    (aJ (iF (aY (aw (du false) (ae 3) (vC (.int 4))))
    (pE (cB (aa (vC (.int 0)) (aa (vC (.int 1)) ag))) (de (aK (ai 9) (aK (ai 10) cD))))
    er)
    (aJ (be 11 (di 1 aV (aa (ae 0) ag)))
    (aJ (be 12 (cB (aa (aA (g2 n_) (aa (ae 9) (aa (ae 10) ag))) (aa (aA (g2 hV) (aa (ae 9) (aa (ae 10) ag))) ag))))
    (gA (dG cg (ae 6) (aa (aw cH (ae 12) (cB (aa (di 2 cm (aa (ae 11) (aa (ae 4) ag))) (aa (di 2 fy (aa (aw dw (ae 11) (vC (.int 10007))) (aa (ae 5) ag))) ag)))) ag)))))))))
noncomputable def nF:FS:=(aJ (be 3 (aw aM (di 1 aV (aa (ae 0) ag)) (vC (.int 6))))
    (aJ (be 4 (aw aM (di 1 aV (aa (ae 0) ag)) (vC (.int 4))))
    (aJ (be 5 (aw aM (di 1 aV (aa (ae 0) ag)) (vC (.int 4))))
    (aJ (be 6 (eH ag))
    (aJ (ec ([7]++([8]++([9]++([10]++((([9]++([10]++[]))++[])++([11]++([12]++[]))))))) h9 (ai 7) dm)
    (bG (aA (g1 cy) (aa (ae 6) ag))))))))
noncomputable def ia:FM:=iE 3 10 ([3]++([4]++([5]++([6]++(([7]++([8]++([9]++([10]++((([9]++([10]++[]))++[])++([11]++([12]++[])))))))++[]))))) nF
theorem mw:aE ["_law_drawn","_law_things","_law_many","_law_shape","_law_odds","_law_worths","_law_found","_law_k","_law_number","_law_one","_law_other","_law_cell","_law_ends"] ["_law_drawn","_law_things","_law_many"] (ah ir):=⟨rfl,rfl,rfl,by decide+kernel,rfl,by decide+kernel,by decide+kernel⟩
theorem qF(h:bE K mg "_law_ties" ir f fd ["_law_drawn","_law_things","_law_many"])(T:jr mg){fLnext:Addr}{eLnext:FuncData}(hLnext:bE K mg "_law_next" eT fLnext eLnext ["_law_drawn"])(GLnext:aL P w K mg base cE 1 fLnext eLnext ["_law_drawn"] (cZ K 1 aV)){fLchance:Addr}{eLchance:FuncData}(hLchance:bE K mg "_law_chance" en fLchance eLchance ["_law_number","_law_kind"])(GLchance:aL P w K mg base cE 3 fLchance eLchance ["_law_number","_law_kind"] (cZ K 2 cm)){fLworth:Addr}{eLworth:FuncData}(hLworth:bE K mg "_law_worth" fL fLworth eLworth ["_law_number","_law_kind"])(GLworth:aL P w K mg base cE 1 fLworth eLworth ["_law_number","_law_kind"] (cZ K 2 fy)):aL P w K mg base cE 4 f fd ["_law_drawn","_law_things","_law_many"] (cZ K 3 ia):=by
  have nd:=mw.nd
  exact h.fn mw rfl rfl (fun cdv A outer s H E hr=>(@af _ _ _ _ _ _ _ _ (@aD _ _ _ _ _ 3 _ _ nd rfl (Or.inl rfl) (@aH _ _ _ _ _ _ _ (@a' _ _ _ _ _ _ _ _ _ _ _ _ _ _ _ hLnext GLnext (hr.mono (by decide)) ((¬0)∘ac) (by rfl) (by decide) (by rfl) (by rfl)) ab) (by rfl) (by trivial))
      (@af _ _ _ _ _ _ _ _ (@aD _ _ _ _ _ 4 _ _ nd rfl (Or.inl rfl) (@aH _ _ _ _ _ _ _ (@a' _ _ _ _ _ _ _ _ _ _ _ _ _ _ _ hLnext GLnext (hr.mono (by decide)) ((¬0)∘ac) (by rfl) (by decide) (by rfl) (by rfl)) ab) (by rfl) (by trivial))
      (@af _ _ _ _ _ _ _ _ (@aD _ _ _ _ _ 5 _ _ nd rfl (Or.inl rfl) (@aH _ _ _ _ _ _ _ (@a' _ _ _ _ _ _ _ _ _ _ _ _ _ _ _ hLnext GLnext (hr.mono (by decide)) ((¬0)∘ac) (by rfl) (by decide) (by rfl) (by rfl)) ab) (by rfl) (by trivial))
      (@af _ _ _ _ _ _ _ _ (@aD _ _ _ _ _ 6 _ _ nd rfl (Or.inl rfl) (@cA _ _ _ _ _ ac) (by rfl) (by trivial))
      (@af _ _ _ _ _ _ _ _ (@eS _ _ _ _ _ _ _ _ _ _ _ PassesOwn.never rfl (@b_ _ _ _ _ _ _ _ rfl T.b_range ((¬2)∘ac) (by rfl)) (@aW _ _ _ 7 _ nd rfl (Or.inl rfl) (by trivial))
      (@af _ _ _ _ _ _ _ _ (@aD _ _ _ _ _ 8 _ _ nd rfl (Or.inl rfl) (@a' _ _ _ _ _ _ _ _ _ _ _ _ _ _ _ hLnext GLnext (hr.mono (by decide)) ((¬0)∘ac) (by rfl) (by decide) (by rfl) (by rfl)) (by rfl) (by trivial))
      (@af _ _ _ _ _ _ _ _ (@aD _ _ _ _ _ 9 _ _ nd rfl (Or.inl rfl) (@bK _ _ _ _ _ _ _ rfl (@cA _ _ _ _ _ ((@aH _ _ _ _ _ _ _ (¬8) (¬1))∘(ab∘((@aH _ _ _ _ _ _ _ (¬7) (¬1))∘((@aH _ _ _ _ _ _ _ (¬8) (¬1))∘((@aH _ _ _ _ _ _ _ (¬8) ab)∘((@aH _ _ _ _ _ _ _ (¬8) (¬1))∘ac))))))) (¬3) (fun _ _=>rfl)) (by rfl) (by trivial))
      (@af _ _ _ _ _ _ _ _ (@aD _ _ _ _ _ 10 _ _ nd rfl (Or.inl rfl) (@aH _ _ _ _ _ _ _ (@bT _ _ _ _ _ _ _ rfl (@bT _ _ _ _ _ _ _ rfl (¬9) ab) (@aH _ _ _ _ _ _ _ (@eR _ _ _ _ _ _ _ (¬8) ab) (@mf _ _ _ _ _ _ _ (¬1) ab))) (¬1)) (by rfl) (by trivial))
      (@af _ _ _ _ _ _ _ _ (@dC _ _ _ _ _ _ _ _ _ _ _ (@bx _ _ _ _ _ _ _ _ _ (@ls _ _ _ rfl hr) (¬3) ab (aS _))
      (@aj _ _ _ _ _ (@uR _ _ _ _ _ _ _ _ (@aX _ _ _ _ _ _ (ab∘(ab∘ac))) (@lJ _ _ _ _ _ _ _ _ rfl rfl (@dB _ _ _ _ _ _ _ _ (@aW _ _ _ 9 _ nd rfl (Or.inl rfl) (by trivial)) (@dB _ _ _ _ _ _ _ _ (@aW _ _ _ 10 _ nd rfl (Or.inl rfl) (by trivial)) (@jQ _ _) (by rfl)) (by rfl)) (eB (eB lz)) (by rfl) (by rfl)) (by rfl) (by rfl) (by rfl)))
      (@br _ _))
      (@af _ _ _ _ _ _ _ _ (@aD _ _ _ _ _ 11 _ _ nd rfl (Or.inl rfl) (@a' _ _ _ _ _ _ _ _ _ _ _ _ _ _ _ hLnext GLnext (hr.mono (by decide)) ((¬0)∘ac) (by rfl) (by decide) (by rfl) (by rfl)) (by rfl) (by trivial))
      (@af _ _ _ _ _ _ _ _ (@aD _ _ _ _ _ 12 _ _ nd rfl (Or.inl rfl) (@aX _ _ _ _ _ _ ((@aT _ _ _ _ _ _ _ _ _ (@b_min _ _ rfl) (by rfl) T.b_min ((¬9)∘((¬10)∘ac)) (by decide) (by decide) (by rfl) (by rfl))∘((@aT _ _ _ _ _ _ _ _ _ (@b_max _ _ rfl) (by rfl) T.b_max ((¬9)∘((¬10)∘ac)) (by decide) (by decide) (by rfl) (by rfl))∘ac))) (by rfl) (by trivial))
      (@aj _ _ _ _ _ (@fF _ _ _ _ _ (@el _ _ _ _ _ _ _ _ _ rfl (¬6) ((@bT _ _ _ _ _ _ _ rfl (¬12) (@aX _ _ _ _ _ _ ((@a' _ _ _ _ _ _ _ _ _ _ _ _ _ _ _ hLchance GLchance (hr.mono (by decide)) ((¬11)∘((¬4)∘ac)) (by rfl) (by decide) (by rfl) (by rfl))∘((@a' _ _ _ _ _ _ _ _ _ _ _ _ _ _ _ hLworth GLworth (hr.mono (by decide)) ((@eR _ _ _ _ _ _ _ (¬11) ab)∘((¬5)∘ac)) (by rfl) (by decide) (by rfl) (by rfl))∘ac))))∘ac) (by rfl) (by rfl) (by rfl) (by rfl) (by rfl)) (by rfl))))))))) (by intro _;rfl))
      (@aj _ _ _ _ _ (@aC _ _ _ _ _ (@aT _ _ _ _ _ _ _ _ _ (@b_tuple _ _ rfl) (by rfl) T.b_tuple ((¬6)∘ac) (by decide) (by decide) (by rfl) (by rfl))))))))))
noncomputable def jE:FI:=(bR (aa (ae 3) ag))
noncomputable def gL:FS:=(gA (dG cg (ae 7) (aa (aw dc (eH (aa (vC (.int 20)) (aa (aw cH (vC (.int 1)) (aw aM (di 1 aV (aa (ae 0) ag)) (vC (.int 3)))) (aa (aw aM (di 1 aV (aa (ae 0) ag)) (vC (.int 21))) ag)))) (ae 6)) ag)))
noncomputable def rT:FS:=(aJ (be 3 (aw aM (di 1 aV (aa (ae 0) ag)) (aw cH (ae 1) (vC (.int 1)))))
    (aJ (be 4 (aw f9 (aw aM (di 1 aV (aa (ae 0) ag)) (aw cH (ae 2) (vC (.int 1)))) (aA (g1 kb) (aa (aw tH (ae 3) (vC (.int 1))) ag))))
    (aJ (be 5 (di 3 ia (aa (ae 0) (aa (aA (g2 hV) (aa (vC (.int 2)) (aa (ae 3) ag))) (aa (ae 4) ag)))))
    (aJ (be 6 (aw aM (di 1 aV (aa (ae 0) ag)) (vC (.int 3))))
    (aJ (be 7 (eH ag))
    (aJ (ec ([8]++[]) jE (ai 8) gL)
    (aJ (be 9 (aw dc (eH (aa (vC (.int 40)) (aa (aw cH (vC (.int 1)) (aw aM (di 1 aV (aa (ae 0) ag)) (aA (g2 hV) (aa (vC (.int 1)) (aa (ae 4) ag))))) (aa (aw aM (di 1 aV (aa (ae 0) ag)) (vC (.int 41))) ag)))) (aw aM (di 1 aV (aa (ae 0) ag)) (vC (.int 3)))))
    (bG (cB (aa (ae 3) (aa (ae 5) (aa (aA (g1 cy) (aa (ae 7) ag)) (aa (ae 9) ag)))))))))))))
noncomputable def km:FM:=iE 3 7 ([3]++([4]++([5]++([6]++([7]++(([8]++[])++([9]++[]))))))) rT
theorem pJ:aE ["_law_drawn","_law_most","_law_ties_here","_law_things","_law_many","_law_rows","_law_way","_law_patience","_law_k","_law_asks"] ["_law_drawn","_law_most","_law_ties_here"] (ah kN):=⟨rfl,rfl,rfl,by decide+kernel,rfl,by decide+kernel,by decide+kernel⟩
theorem ua(h:bE K mg "_law_web" kN f fd ["_law_drawn","_law_most","_law_ties_here"])(T:jr mg){fLties:Addr}{eLties:FuncData}(hLties:bE K mg "_law_ties" ir fLties eLties ["_law_drawn","_law_things","_law_many"])(GLties:aL P w K mg base cE 4 fLties eLties ["_law_drawn","_law_things","_law_many"] (cZ K 3 ia)){fLnext:Addr}{eLnext:FuncData}(hLnext:bE K mg "_law_next" eT fLnext eLnext ["_law_drawn"])(GLnext:aL P w K mg base cE 1 fLnext eLnext ["_law_drawn"] (cZ K 1 aV)):aL P w K mg base cE 5 f fd ["_law_drawn","_law_most","_law_ties_here"] (cZ K 3 km):=by
  have nd:=pJ.nd
  exact h.fn pJ rfl rfl (fun cdv A outer s H E hr=>(@af _ _ _ _ _ _ _ _ (@aD _ _ _ _ _ 3 _ _ nd rfl (Or.inl rfl) (@aH _ _ _ _ _ _ _ (@a' _ _ _ _ _ _ _ _ _ _ _ _ _ _ _ hLnext GLnext (hr.mono (by decide)) ((¬0)∘ac) (by rfl) (by decide) (by rfl) (by rfl)) (@bT _ _ _ _ _ _ _ rfl (¬1) ab)) (by rfl) (by trivial))
      (@af _ _ _ _ _ _ _ _ (@aD _ _ _ _ _ 4 _ _ nd rfl (Or.inl rfl) (@ij _ _ _ _ _ _ _ rfl (@aH _ _ _ _ _ _ _ (@a' _ _ _ _ _ _ _ _ _ _ _ _ _ _ _ hLnext GLnext (hr.mono (by decide)) ((¬0)∘ac) (by rfl) (by decide) (by rfl) (by rfl)) (@bT _ _ _ _ _ _ _ rfl (¬2) ab)) (@aT _ _ _ _ _ _ _ _ _ (@b_int _ _) (by rfl) T.b_int ((@fD _ _ _ _ _ _ _ _ _ (@p9 _ _) (¬3) ab (aS _))∘ac) (by decide) (by decide) (by rfl) (by rfl))) (by rfl) (by trivial))
      (@af _ _ _ _ _ _ _ _ (@aD _ _ _ _ _ 5 _ _ nd rfl (Or.inl rfl) (@a' _ _ _ _ _ _ _ _ _ _ _ _ _ _ _ hLties GLties (hr.mono (by decide)) ((¬0)∘((@aT _ _ _ _ _ _ _ _ _ (@b_max _ _ rfl) (by rfl) T.b_max (ab∘((¬3)∘ac)) (by decide) (by decide) (by rfl) (by rfl))∘((¬4)∘ac))) (by rfl) (by decide) (by rfl) (by rfl)) (by rfl) (by trivial))
      (@af _ _ _ _ _ _ _ _ (@aD _ _ _ _ _ 6 _ _ nd rfl (Or.inl rfl) (@aH _ _ _ _ _ _ _ (@a' _ _ _ _ _ _ _ _ _ _ _ _ _ _ _ hLnext GLnext (hr.mono (by decide)) ((¬0)∘ac) (by rfl) (by decide) (by rfl) (by rfl)) ab) (by rfl) (by trivial))
      (@af _ _ _ _ _ _ _ _ (@aD _ _ _ _ _ 7 _ _ nd rfl (Or.inl rfl) (@cA _ _ _ _ _ ac) (by rfl) (by trivial))
      (@af _ _ _ _ _ _ _ _ (@eS _ _ _ _ _ _ _ _ _ _ _ PassesOwn.never rfl (@b_ _ _ _ _ _ _ _ rfl T.b_range ((¬3)∘ac) (by rfl)) (@aW _ _ _ 8 _ nd rfl (Or.inl rfl) (by trivial))
      (@aj _ _ _ _ _ (@fF _ _ _ _ _ (@el _ _ _ _ _ _ _ _ _ rfl (¬7) ((@bK _ _ _ _ _ _ _ rfl (@cA _ _ _ _ _ (ab∘((@bT _ _ _ _ _ _ _ rfl ab (@aH _ _ _ _ _ _ _ (@a' _ _ _ _ _ _ _ _ _ _ _ _ _ _ _ hLnext GLnext (hr.mono (by decide)) ((¬0)∘ac) (by rfl) (by decide) (by rfl) (by rfl)) ab))∘((@aH _ _ _ _ _ _ _ (@a' _ _ _ _ _ _ _ _ _ _ _ _ _ _ _ hLnext GLnext (hr.mono (by decide)) ((¬0)∘ac) (by rfl) (by decide) (by rfl) (by rfl)) ab)∘ac)))) (¬6) (fun _ _=>rfl))∘ac) (by rfl) (by rfl) (by rfl) (by rfl) (by rfl)) (by rfl))) (by intro _;rfl))
      (@af _ _ _ _ _ _ _ _ (@aD _ _ _ _ _ 9 _ _ nd rfl (Or.inl rfl) (@bK _ _ _ _ _ _ _ rfl (@cA _ _ _ _ _ (ab∘((@bT _ _ _ _ _ _ _ rfl ab (@aH _ _ _ _ _ _ _ (@a' _ _ _ _ _ _ _ _ _ _ _ _ _ _ _ hLnext GLnext (hr.mono (by decide)) ((¬0)∘ac) (by rfl) (by decide) (by rfl) (by rfl)) (@aT _ _ _ _ _ _ _ _ _ (@b_max _ _ rfl) (by rfl) T.b_max (ab∘((¬4)∘ac)) (by decide) (by decide) (by rfl) (by rfl))))∘((@aH _ _ _ _ _ _ _ (@a' _ _ _ _ _ _ _ _ _ _ _ _ _ _ _ hLnext GLnext (hr.mono (by decide)) ((¬0)∘ac) (by rfl) (by decide) (by rfl) (by rfl)) ab)∘ac)))) (@aH _ _ _ _ _ _ _ (@a' _ _ _ _ _ _ _ _ _ _ _ _ _ _ _ hLnext GLnext (hr.mono (by decide)) ((¬0)∘ac) (by rfl) (by decide) (by rfl) (by rfl)) ab) (fun _ _=>rfl)) (by rfl) (by trivial))
      (@aj _ _ _ _ _ (@aC _ _ _ _ _ (@aX _ _ _ _ _ _ ((¬3)∘((¬5)∘((@aT _ _ _ _ _ _ _ _ _ (@b_tuple _ _ rfl) (by rfl) T.b_tuple ((¬7)∘ac) (by decide) (by decide) (by rfl) (by rfl))∘((¬9)∘ac)))))))))))))))
noncomputable def cK:FI:=(gF (aw dc (ae 0) (vC (.int 1))))
noncomputable def bj:FT:=(aY (aw (sr false) (ae 0) (vt (ae 1) kx (ja (vC (.int 2))))))
noncomputable def bP:FE:=(ae 1)
noncomputable def dP:FI:=(bR (aa (aw dc (ae 0) (vC (.int 0))) ag))
noncomputable def bQ:FE:=(aA (g1 cI) (aa (cw [(1,"_law_thing")] 1 cK (ai 1) bj bP) ag))
noncomputable def gY:FS:=(bG (cw [(0,"_law_web_here")] 1 dP (ai 1) et bQ))
noncomputable def bF:FM:=iE 1 0 [] gY
theorem gC:aE ["_law_web_here"] ["_law_web_here"] (ah cc):=⟨rfl,rfl,rfl,by decide+kernel,rfl,by decide+kernel,by decide+kernel⟩
theorem ky(h:bE K mg "_law_loads_of" cc f fd ["_law_web_here"])(T:jr mg):aL P w K mg base cE 1 f fd ["_law_web_here"] (cZ K 1 bF):=by
  have nd:=gC.nd
  exact h.fn gC rfl rfl (fun cdv A outer s H E hr=>(@aj _ _ _ _ _ (@aC _ _ _ _ _ (@md _ _ _ _ _ _ _ _ _ _ _ _ _ [(0,"_law_web_here")] ["_law_thing"] rfl rfl (@b_ _ _ _ _ _ _ _ rfl T.b_range ((@bK _ _ _ _ _ _ _ rfl (¬0) ab (fun _ _=>rfl))∘ac) (by rfl))
        (fun C s0 H0 fp=>(@aW _ _ _ 1 _ (show List.Nodup (["_law_web_here","_law_thing"]:List Str) by decide+kernel) rfl (Or.inr rfl) (by trivial))) (fun C s0 H0 fp=>(@jT _ _))
        (fun C s0 H0 fp=>(@aT _ _ _ _ _ _ _ _ _ (@b_len _ _ rfl) (by rfl) T.b_len ((@md _ _ _ _ _ _ _ _ _ _ _ _ _ [(1,"_law_thing")] ["_law_tie"] rfl rfl (@jR _ _ _ _ _ rfl (@bK _ _ _ _ _ _ _ rfl (¬0) ab (fun _ _=>rfl)))
        (fun C s0 H0 fp=>(@aW _ _ _ 1 _ (show List.Nodup (["_law_thing","_law_tie"]:List Str) by decide+kernel) rfl (Or.inl rfl) (by trivial))) (fun C s0 H0 fp=>(@jU _ _ _ _ (@bx _ _ _ _ _ _ _ _ _ (@vZ _ _ _ rfl hr) (¬0) (@me _ _ _ _ _ _ _ _ _ _ rfl (¬1) (@mi _ _) (@mj _ _ _ _ ab)) (by with_unfolding_all rfl))))
        (fun C s0 H0 fp=>(¬1)) rfl (by rfl) (by intro _;rfl))∘ac) (by decide) (by decide) (by rfl) (by rfl))) rfl (by rfl) (by intro _;rfl)))))
noncomputable def gN:FI:=(kh (aa (di 1 bF (aa (ae 0) ag)) ag))
noncomputable def eX:FT:=(aY (aw tH (ae 2) (aw dc (aw dc (ae 0) (vC (.int 2))) (ae 1))))
noncomputable def ff:FE:=(ae 1)
noncomputable def nD:FS:=(aJ (iF (aY (aw tH (aA (g1 cI) (aa (aw dc (ae 0) (vC (.int 1))) ag)) (aw dc (ae 0) (vC (.int 3)))))
    (bG (vC (.bool false)))
    er)
    (bG (aw (mQ false) (cw [(0,"_law_web_here")] 2 gN (de (aK (ai 1) (aK (ai 2) cD))) eX ff) (eH ag))))
noncomputable def i8:FM:=iE 1 0 (([]++[])++[]) nD
theorem pG:aE ["_law_web_here"] ["_law_web_here"] (ah je):=⟨rfl,rfl,rfl,by decide+kernel,rfl,by decide+kernel,by decide+kernel⟩
theorem t5(h:bE K mg "_law_due" je f fd ["_law_web_here"])(T:jr mg){fLloads_of:Addr}{eLloads_of:FuncData}(hLloads_of:bE K mg "_law_loads_of" cc fLloads_of eLloads_of ["_law_web_here"])(GLloads_of:aL P w K mg base cE 1 fLloads_of eLloads_of ["_law_web_here"] (cZ K 1 bF)):aL P w K mg base cE 2 f fd ["_law_web_here"] (cZ K 1 i8):=by
  have nd:=pG.nd
  exact h.fn pG rfl rfl (fun cdv A outer s H E hr=>(@af _ _ _ _ _ _ _ _ (@dC _ _ _ _ _ _ _ _ _ _ _ (@bx _ _ _ _ _ _ _ _ _ (@p9 _ _) (@aT _ _ _ _ _ _ _ _ _ (@b_len _ _ rfl) (by rfl) T.b_len ((@bK _ _ _ _ _ _ _ rfl (¬0) ab (fun _ _=>rfl))∘ac) (by decide) (by decide) (by rfl) (by rfl)) (@bK _ _ _ _ _ _ _ rfl (¬0) ab (fun _ _=>rfl)) (aS _))
      (@aj _ _ _ _ _ (@aC _ _ _ _ _ (@eK _ _ _ _ _)))
      (@br _ _))
      (@aj _ _ _ _ _ (@aC _ _ _ _ _ (@fD _ _ _ _ _ _ _ _ _ (@vX _ _ _ rfl hr) (@lI _ _ _ _ _ _ _ _ _ _ _ _ _ (ah je) ["_law_web_here"] [(0,"_law_web_here")] ["_law_thing","_law_many"] rfl rfl rfl (@mh _ _ _ _ _ _ _ _ _ rfl rfl T.b_enumerate ((@a' _ _ _ _ _ _ _ _ _ _ _ _ _ _ _ hLloads_of GLloads_of (hr.mono (by decide)) ((¬0)∘ac) (by rfl) (by decide) (by rfl) (by rfl))∘ac) (by rfl))
        (fun C s0 H0 fp=>(@lJ _ _ _ _ _ _ _ _ rfl rfl (@dB _ _ _ _ _ _ _ _ (@aW _ _ _ 1 _ (show List.Nodup (["_law_web_here","_law_thing","_law_many"]:List Str) by decide+kernel) rfl (Or.inl rfl) (by trivial)) (@dB _ _ _ _ _ _ _ _ (@aW _ _ _ 2 _ (show List.Nodup (["_law_web_here","_law_thing","_law_many"]:List Str) by decide+kernel) rfl (Or.inl rfl) (by trivial)) (@jQ _ _) (by rfl)) (by rfl)) (eB (eB lz)) (by rfl) (by rfl))) (fun C s0 H0 fp=>(@jU _ _ _ _ (@bx _ _ _ _ _ _ _ _ _ (@p9 _ _) (¬2) (@bK _ _ _ _ _ _ _ rfl (@bK _ _ _ _ _ _ _ rfl (¬0) ab (fun _ _=>rfl)) (¬1) (fun _ _=>rfl)) (aS _))))
        (fun C s0 H0 fp=>(¬1)) rfl (by decide+kernel) (by decide+kernel) (by decide+kernel) (by decide+kernel) (by decide+kernel) (by decide+kernel) (by decide+kernel) (by intro _;rfl)) (@cA _ _ _ _ _ ac) (aS _))))))
noncomputable def lW:FS:=(aJ (be 1 (aA (g1 gz) (aa (ae 0) ag)))
    (bG (jl (di 2 h_ (aa (di 1 aB (aa (ae 0) ag)) (aa (di 1 i8 (aa (ae 0) ag)) ag))) (aw (du false) (aA (g1 gz) (aa (ae 0) ag)) (ae 1)))))
noncomputable def cL:FM:=iE 1 1 ([1]++[]) lW
theorem kQ:aE ["_law_web_here","_law_handed"] ["_law_web_here"] (ah fK):=⟨rfl,rfl,rfl,by decide+kernel,rfl,by decide+kernel,by decide+kernel⟩
theorem oP(h:bE K mg "_law_right" fK f fd ["_law_web_here"])(T:jr mg){fLsays:Addr}{eLsays:FuncData}(hLsays:bE K mg "_law_says" iq fLsays eLsays ["_law_found","_law_due_here"])(GLsays:aL P w K mg base cE 1 fLsays eLsays ["_law_found","_law_due_here"] (cZ K 2 h_)){f_is_enough:Addr}{e_is_enough:FuncData}(h_is_enough:bE K mg "is_enough" bH f_is_enough e_is_enough ["web"])(G_is_enough:aL P w K mg base cE 4 f_is_enough e_is_enough ["web"] (cZ K 1 aB)){fLdue:Addr}{eLdue:FuncData}(hLdue:bE K mg "_law_due" je fLdue eLdue ["_law_web_here"])(GLdue:aL P w K mg base cE 2 fLdue eLdue ["_law_web_here"] (cZ K 1 i8)):aL P w K mg base cE 5 f fd ["_law_web_here"] (cZ K 1 cL):=by
  have nd:=kQ.nd
  exact h.fn kQ rfl rfl (fun cdv A outer s H E hr=>(@af _ _ _ _ _ _ _ _ (@aD _ _ _ _ _ 1 _ _ nd rfl (Or.inl rfl) (@aT _ _ _ _ _ _ _ _ _ (@b_repr _ _ _ rfl hr) (by rfl) T.b_repr ((¬0)∘ac) (by decide) (by decide) (by rfl) (by rfl)) (by rfl) (by trivial))
      (@aj _ _ _ _ _ (@aC _ _ _ _ _ (@pe _ _ _ _ _ _ _ _ (@a' _ _ _ _ _ _ _ _ _ _ _ _ _ _ _ hLsays GLsays (hr.mono (by decide)) ((@a' _ _ _ _ _ _ _ _ _ _ _ _ _ _ _ h_is_enough G_is_enough (hr.mono (by decide)) ((¬0)∘ac) (by rfl) (by decide) (by rfl) (by rfl))∘((@a' _ _ _ _ _ _ _ _ _ _ _ _ _ _ _ hLdue GLdue (hr.mono (by decide)) ((¬0)∘ac) (by rfl) (by decide) (by rfl) (by rfl))∘ac)) (by rfl) (by decide) (by rfl) (by rfl)) (@pj _ _ _ _ _ _ (@fD _ _ _ _ _ _ _ _ _ (@ls _ _ _ rfl hr) (@aT _ _ _ _ _ _ _ _ _ (@b_repr _ _ _ rfl hr) (by rfl) T.b_repr ((¬0)∘ac) (by decide) (by decide) (by rfl) (by rfl)) (¬1) (aS _))))))))
noncomputable def yo:FI:=(gF (eH (aa (aA (g2 hV) (aa (vC (.int 0)) (aa (aw eN (aA (g1 cI) (aa (aw dc (ae 3) (vC (.int 1))) ag)) (vC (.int 1))) ag))) (aa (vC (.int 40)) (aa (vC (.int 0)) (aa (aw cH (aA (g1 cI) (aa (aw dc (ae 3) (vC (.int 1))) ag)) (vC (.int 1))) ag))))))
noncomputable def xV:FS:=(iF (k8 (aY (di 1 cL (aa (cB (aa (aw dc (ae 3) (vC (.int 0))) (aa (aw dc (ae 3) (vC (.int 1))) (aa (aA (g1 cy) (aa (ae 4) ag)) (aa (ae 9) ag))))) ag))))
    (bG (vC (.bool false)))
    er)
noncomputable def xZ:FI:=(kh (aa (ae 4) ag))
noncomputable def vD:FE:=(aA (g2 hV) (aa (vC (.int 0)) (aa (aw cH (ae 3) (aw f9 (ae 0) (aA (g1 kb) (aa (aw (du false) (ae 2) (ae 1)) ag)))) ag)))
noncomputable def yp:FI:=(gF (eH (aa (vw qk (vC (.int 1))) (aa (vC (.int 1)) ag))))
noncomputable def xW:FS:=(aJ (be 8 (cw [(7,"_law_more"),(6,"_law_at")] 2 xZ (de (aK (ai 2) (aK (ai 3) cD))) et vD))
    (iF (k8 (aY (di 1 cL (aa (cB (aa (aw dc (ae 3) (vC (.int 0))) (aa (aw dc (ae 3) (vC (.int 1))) (aa (aA (g1 cy) (aa (ae 8) ag)) (aa (aA (g1 cI) (aa (aw dc (ae 3) (vC (.int 1))) ag)) ag))))) ag))))
    (bG (vC (.bool false)))
    er))
noncomputable def y0:FI:=(bR (aa (vC (.int 4)) ag))
noncomputable def vT:FS:=(aJ (be 3 (di 3 km (aa (ae 1) (aa (vC (.int 12)) (aa (vC (.int 16)) ag)))))
    (aJ (be 4 (di 1 bF (aa (ae 3) ag)))
    (aJ (be 5 (cB (aa (aw dc (ae 3) (vC (.int 0))) (aa (aw dc (ae 3) (vC (.int 1))) (aa (aA (g1 cy) (aa (ae 4) ag)) (aa (aA (g1 cI) (aa (aw dc (ae 3) (vC (.int 1))) ag)) ag))))))
    (aJ (iF (vK (k8 (aY (di 1 cL (aa (ae 3) ag)))) (aY (aw jC (di 1 aB (aa (ae 5) ag)) (vC (.bool true)))))
    (bG (vC (.bool false)))
    er)
    (aJ (be 6 (aw aM (di 1 aV (aa (ae 1) ag)) (aA (g2 hV) (aa (vC (.int 1)) (aa (aw dc (ae 3) (vC (.int 0))) ag)))))
    (aJ (ec ([7]++([8]++([]++[]))) yp (ai 7) xW)
    (ec ([9]++([]++[])) yo (ai 9) xV)))))))
noncomputable def rV:FS:=(aJ (be 1 (di 1 fx (aa (ae 0) ag)))
    (aJ (ec ([2]++([3]++([4]++([5]++(([]++[])++([6]++(([7]++([8]++([]++[])))++([9]++([]++[]))))))))) y0 (ai 2) vT)
    (bG (jl (aw su (di 1 aB (aa (cB (aa (vC (.int 0)) (aa (cB ag) (aa (cB ag) (aa (vC (.int 0)) ag))))) ag)) (vC (.bool true))) (aw su (di 1 aB (aa (cB (aa (vC (.int 3)) (aa (cB ag) (aa (cB (aa (vC (.int 0)) (aa (vC (.int 0)) (aa (vC (.int 0)) ag)))) (aa (vC (.int 0)) ag))))) ag)) (vC (.bool true)))))))
noncomputable def ib:FM:=iE 1 9 ([1]++(([2]++([3]++([4]++([5]++(([]++[])++([6]++(([7]++([8]++([]++[])))++([9]++([]++[])))))))))++[])) rV
theorem pK:aE ["_law_script","_law_drawn","_law_k","_law_web_here","_law_loads","_law_just","_law_at","_law_more","_law_patience","_law_asks"] ["_law_script"] (ah gB):=⟨rfl,rfl,rfl,by decide+kernel,rfl,by decide+kernel,by decide+kernel⟩
theorem uc(h:bE K mg "law" gB f fd ["_law_script"])(T:jr mg){fLdraws:Addr}{eLdraws:FuncData}(hLdraws:bE K mg "_law_draws" fH fLdraws eLdraws ["_law_script"])(GLdraws:aL P w K mg base cE 2 fLdraws eLdraws ["_law_script"] (cZ K 1 fx)){fLweb:Addr}{eLweb:FuncData}(hLweb:bE K mg "_law_web" kN fLweb eLweb ["_law_drawn","_law_most","_law_ties_here"])(GLweb:aL P w K mg base cE 5 fLweb eLweb ["_law_drawn","_law_most","_law_ties_here"] (cZ K 3 km)){fLloads_of:Addr}{eLloads_of:FuncData}(hLloads_of:bE K mg "_law_loads_of" cc fLloads_of eLloads_of ["_law_web_here"])(GLloads_of:aL P w K mg base cE 1 fLloads_of eLloads_of ["_law_web_here"] (cZ K 1 bF)){fLnext:Addr}{eLnext:FuncData}(hLnext:bE K mg "_law_next" eT fLnext eLnext ["_law_drawn"])(GLnext:aL P w K mg base cE 1 fLnext eLnext ["_law_drawn"] (cZ K 1 aV)){f_is_enough:Addr}{e_is_enough:FuncData}(h_is_enough:bE K mg "is_enough" bH f_is_enough e_is_enough ["web"])(G_is_enough:aL P w K mg base cE 4 f_is_enough e_is_enough ["web"] (cZ K 1 aB)){fLright:Addr}{eLright:FuncData}(hLright:bE K mg "_law_right" fK fLright eLright ["_law_web_here"])(GLright:aL P w K mg base cE 5 fLright eLright ["_law_web_here"] (cZ K 1 cL)):aL P w K mg base cE 6 f fd ["_law_script"] (cZ K 1 ib):=by
  have nd:=pK.nd
  exact h.fn pK rfl rfl (fun cdv A outer s H E hr=>(@af _ _ _ _ _ _ _ _ (@aD _ _ _ _ _ 1 _ _ nd rfl (Or.inl rfl) (@a' _ _ _ _ _ _ _ _ _ _ _ _ _ _ _ hLdraws GLdraws (hr.mono (by decide)) ((¬0)∘ac) (by rfl) (by decide) (by rfl) (by rfl)) (by rfl) (by trivial))
      (@af _ _ _ _ _ _ _ _ (@eS _ _ _ _ _ _ _ _ _ _ _ PassesOwn.never rfl (@b_ _ _ _ _ _ _ _ rfl T.b_range (ab∘ac) (by rfl)) (@aW _ _ _ 2 _ nd rfl (Or.inl rfl) (by trivial))
      (@af _ _ _ _ _ _ _ _ (@aD _ _ _ _ _ 3 _ _ nd rfl (Or.inl rfl) (@a' _ _ _ _ _ _ _ _ _ _ _ _ _ _ _ hLweb GLweb (hr.mono (by decide)) ((¬1)∘(ab∘(ab∘ac))) (by rfl) (by decide) (by rfl) (by rfl)) (by rfl) (by trivial))
      (@af _ _ _ _ _ _ _ _ (@aD _ _ _ _ _ 4 _ _ nd rfl (Or.inl rfl) (@a' _ _ _ _ _ _ _ _ _ _ _ _ _ _ _ hLloads_of GLloads_of (hr.mono (by decide)) ((¬3)∘ac) (by rfl) (by decide) (by rfl) (by rfl)) (by rfl) (by trivial))
      (@af _ _ _ _ _ _ _ _ (@aD _ _ _ _ _ 5 _ _ nd rfl (Or.inl rfl) (@aX _ _ _ _ _ _ ((@bK _ _ _ _ _ _ _ rfl (¬3) ab (fun _ _=>rfl))∘((@bK _ _ _ _ _ _ _ rfl (¬3) ab (fun _ _=>rfl))∘((@aT _ _ _ _ _ _ _ _ _ (@b_tuple _ _ rfl) (by rfl) T.b_tuple ((¬4)∘ac) (by decide) (by decide) (by rfl) (by rfl))∘((@aT _ _ _ _ _ _ _ _ _ (@b_len _ _ rfl) (by rfl) T.b_len ((@bK _ _ _ _ _ _ _ rfl (¬3) ab (fun _ _=>rfl))∘ac) (by decide) (by decide) (by rfl) (by rfl))∘ac))))) (by rfl) (by trivial))
      (@af _ _ _ _ _ _ _ _ (@dC _ _ _ _ _ _ _ _ _ _ _ (@xa _ _ _ _ (@xb _ _ _ _ _ _ _ _ (@lK _ _ _ _ _ (@jS _ _ _ _ (@a' _ _ _ _ _ _ _ _ _ _ _ _ _ _ _ hLright GLright (hr.mono (by decide)) ((¬3)∘ac) (by rfl) (by decide) (by rfl) (by rfl)) (by intro _;rfl))) (@uV _ _ _ _ _ (@bx _ _ _ _ _ _ _ _ _ (@qa _ _) (@a' _ _ _ _ _ _ _ _ _ _ _ _ _ _ _ h_is_enough G_is_enough (hr.mono (by decide)) ((¬5)∘ac) (by rfl) (by decide) (by rfl) (by rfl)) (@eK _ _ _ _ _) (aS _)))))
      (@aj _ _ _ _ _ (@aC _ _ _ _ _ (@eK _ _ _ _ _)))
      (@br _ _))
      (@af _ _ _ _ _ _ _ _ (@aD _ _ _ _ _ 6 _ _ nd rfl (Or.inr rfl) (@aH _ _ _ _ _ _ _ (@a' _ _ _ _ _ _ _ _ _ _ _ _ _ _ _ hLnext GLnext (hr.mono (by decide)) ((¬1)∘ac) (by rfl) (by decide) (by rfl) (by rfl)) (@aT _ _ _ _ _ _ _ _ _ (@b_max _ _ rfl) (by rfl) T.b_max (ab∘((@bK _ _ _ _ _ _ _ rfl (¬3) ab (fun _ _=>rfl))∘ac)) (by decide) (by decide) (by rfl) (by rfl))) (by rfl) (by trivial))
      (@af _ _ _ _ _ _ _ _ (@eS _ _ _ _ _ _ _ _ _ _ _ PassesOwn.never rfl (@jR _ _ _ _ _ rfl (@cA _ _ _ _ _ ((@wZ _ _ _ _ _ ab)∘(ab∘ac)))) (@aW _ _ _ 7 _ nd rfl (Or.inr rfl) (by trivial))
      (@af _ _ _ _ _ _ _ _ (@m8 _ _ _ (8) _ _ _ _ _ _ _ _ _ _ _ _ _ (ah gB) ["_law_script","_law_drawn","_law_k","_law_web_here","_law_loads","_law_just","_law_at","_law_more","_law_patience","_law_asks"] [(7,"_law_more"),(6,"_law_at")] ["_law_thing","_law_many"] rfl rfl rfl (@mh _ _ _ _ _ _ _ _ _ rfl rfl T.b_enumerate ((¬4)∘ac) (by rfl))
        (fun C s0 H0 fp=>(@lJ _ _ _ _ _ _ _ _ rfl rfl (@dB _ _ _ _ _ _ _ _ (@aW _ _ _ 2 _ (show List.Nodup (["_law_more","_law_at","_law_thing","_law_many"]:List Str) by decide+kernel) rfl (Or.inl rfl) (by trivial)) (@dB _ _ _ _ _ _ _ _ (@aW _ _ _ 3 _ (show List.Nodup (["_law_more","_law_at","_law_thing","_law_many"]:List Str) by decide+kernel) rfl (Or.inl rfl) (by trivial)) (@jQ _ _) (by rfl)) (by rfl)) (eB (eB lz)) (by rfl) (by rfl))) (fun C s0 H0 fp=>(@jT _ _))
        (fun C s0 H0 fp=>(@aT _ _ _ _ _ _ _ _ _ (@b_max _ _ rfl) (by rfl) T.b_max (ab∘((@bT _ _ _ _ _ _ _ rfl (¬3) (@ij _ _ _ _ _ _ _ rfl (¬0) (@aT _ _ _ _ _ _ _ _ _ (@b_int _ _) (by rfl) T.b_int ((@fD _ _ _ _ _ _ _ _ _ (@ls _ _ _ rfl hr) (¬2) (¬1) (aS _))∘ac) (by decide) (by decide) (by rfl) (by rfl))))∘ac)) (by decide) (by decide) (by rfl) (by rfl))) rfl (by decide+kernel) (by decide+kernel) (by decide+kernel) (by decide+kernel) (by decide+kernel) (by decide+kernel) (by decide+kernel) nd rfl rfl (by rfl) (by intro _;rfl))
      (@aj _ _ _ _ _ (@dC _ _ _ _ _ _ _ _ _ _ _ (@lK _ _ _ _ _ (@jS _ _ _ _ (@a' _ _ _ _ _ _ _ _ _ _ _ _ _ _ _ hLright GLright (hr.mono (by decide)) ((@aX _ _ _ _ _ _ ((@bK _ _ _ _ _ _ _ rfl (¬3) ab (fun _ _=>rfl))∘((@bK _ _ _ _ _ _ _ rfl (¬3) ab (fun _ _=>rfl))∘((@aT _ _ _ _ _ _ _ _ _ (@b_tuple _ _ rfl) (by rfl) T.b_tuple ((¬8)∘ac) (by decide) (by decide) (by rfl) (by rfl))∘((@aT _ _ _ _ _ _ _ _ _ (@b_len _ _ rfl) (by rfl) T.b_len ((@bK _ _ _ _ _ _ _ rfl (¬3) ab (fun _ _=>rfl))∘ac) (by decide) (by decide) (by rfl) (by rfl))∘ac)))))∘ac) (by rfl) (by decide) (by rfl) (by rfl)) (by intro _;rfl)))
      (@aj _ _ _ _ _ (@aC _ _ _ _ _ (@eK _ _ _ _ _)))
      (@br _ _)))) (by intro _;rfl))
      (@aj _ _ _ _ _ (@eS _ _ _ _ _ _ _ _ _ _ _ PassesOwn.never rfl (@jR _ _ _ _ _ rfl (@cA _ _ _ _ _ ((@aT _ _ _ _ _ _ _ _ _ (@b_max _ _ rfl) (by rfl) T.b_max (ab∘((@mf _ _ _ _ _ _ _ (@aT _ _ _ _ _ _ _ _ _ (@b_len _ _ rfl) (by rfl) T.b_len ((@bK _ _ _ _ _ _ _ rfl (¬3) ab (fun _ _=>rfl))∘ac) (by decide) (by decide) (by rfl) (by rfl)) ab)∘ac)) (by decide) (by decide) (by rfl) (by rfl))∘(ab∘(ab∘((@bT _ _ _ _ _ _ _ rfl (@aT _ _ _ _ _ _ _ _ _ (@b_len _ _ rfl) (by rfl) T.b_len ((@bK _ _ _ _ _ _ _ rfl (¬3) ab (fun _ _=>rfl))∘ac) (by decide) (by decide) (by rfl) (by rfl)) ab)∘ac)))))) (@aW _ _ _ 9 _ nd rfl (Or.inl rfl) (by trivial))
      (@aj _ _ _ _ _ (@dC _ _ _ _ _ _ _ _ _ _ _ (@lK _ _ _ _ _ (@jS _ _ _ _ (@a' _ _ _ _ _ _ _ _ _ _ _ _ _ _ _ hLright GLright (hr.mono (by decide)) ((@aX _ _ _ _ _ _ ((@bK _ _ _ _ _ _ _ rfl (¬3) ab (fun _ _=>rfl))∘((@bK _ _ _ _ _ _ _ rfl (¬3) ab (fun _ _=>rfl))∘((@aT _ _ _ _ _ _ _ _ _ (@b_tuple _ _ rfl) (by rfl) T.b_tuple ((¬4)∘ac) (by decide) (by decide) (by rfl) (by rfl))∘((¬9)∘ac)))))∘ac) (by rfl) (by decide) (by rfl) (by rfl)) (by intro _;rfl)))
      (@aj _ _ _ _ _ (@aC _ _ _ _ _ (@eK _ _ _ _ _)))
      (@br _ _))) (by intro _;rfl))))))))) (by intro _;rfl))
      (@aj _ _ _ _ _ (@aC _ _ _ _ _ (@pe _ _ _ _ _ _ _ _ (@fD _ _ _ _ _ _ _ _ _ (@p_ _ _) (@a' _ _ _ _ _ _ _ _ _ _ _ _ _ _ _ h_is_enough G_is_enough (hr.mono (by decide)) ((@aX _ _ _ _ _ _ (ab∘((@aX _ _ _ _ _ _ ac)∘((@aX _ _ _ _ _ _ ac)∘(ab∘ac)))))∘ac) (by rfl) (by decide) (by rfl) (by rfl)) (@eK _ _ _ _ _) (aS _)) (@pj _ _ _ _ _ _ (@fD _ _ _ _ _ _ _ _ _ (@p_ _ _) (@a' _ _ _ _ _ _ _ _ _ _ _ _ _ _ _ h_is_enough G_is_enough (hr.mono (by decide)) ((@aX _ _ _ _ _ _ (ab∘((@aX _ _ _ _ _ _ ac)∘((@aX _ _ _ _ _ _ (ab∘(ab∘(ab∘ac))))∘(ab∘ac)))))∘ac) (by rfl) (by decide) (by rfl) (by rfl)) (@eK _ _ _ _ _) (aS _)))))))))
local macro_rules | `(tactic| simp? [$ts,*]) => `(tactic| simp [$ts,*, iE, ko, aJ, iF, bG, er, be, gA, pE, pF, rk, aY, aw, vw, ae, vC, eH, ag, aa, cB, aA, di, nq, vK, k8, y_, jl, xN, sT, vt, kx, ja, dG, cg, wy, gc, e_, mL, dg, bS, qe, nj, de, aK, ai, cD, bL, ar, aN, tY, c_, j', hX, jB, l9, l7, l5, l4, kc, fj, kd, i3, j_, sv, i4, nZ, sx, n9, l8, n5, n6, kf, ke, i5, kg, sC, li, lj, lm, lp, rX, iX, iW, hU, l6, List.replicate, -List.map_nil, -List.map_cons, -List.nil_append, -List.cons_append, -Option.bind_some, -Option.map_some, -getElem?_pos, -List.append_nil, si, se, r8, r6, r_, sd, r9, sj])
theorem pX{n k:Int}(h:0 < k):0≤n % k:=Int.emod_nonneg _ (Int.ne_of_gt h)
theorem pY{n k:Int}(h:0 < k):n % k < k:=Int.emod_lt_of_pos _ h
def nx:List Int→Int
  | []=>0
  | d::_=>d
def fY(ds:List Int):Prop:=∀d∈ds,0≤d∧d < 2147483648
theorem sL{ds:List Int}(h:fY ds):0≤nx ds∧nx ds < 2147483648:=by
  cases ds with
  | nil=>exact⟨Int.le_refl 0,by show(0:Int) < 2147483648;decide⟩
  | cons d r=>exact h d (by simp)
theorem xM{ds:List Int}(h:fY ds):fY ds.tail:=fun d hd=>h d (List.mem_of_mem_tail hd)
theorem vj(ds:List Int):aV [.l (ds.map .int)]=some (.d (.int (nx ds)),[.l (ds.tail.map .int)]):=by
  have hq:∀e:En,e[0]?=some (some (.l (ds.map .int)))→du false e (.s 0) (.l [])=some (.d (.bool (ds.map PyData.int).isEmpty)):=fun e he=>nY he (kT ds).1
  cases ds with
  | nil=>simp? [aV,lq,hq,nx]
  | cons d r=>simp? [aV,lq,hq,nx]
theorem fW{ds:List Int}(hd:fY ds):∃(n:Int) (ds':List Int),aV [.l (ds.map .int)]=some (.d (.int n),[.l (ds'.map .int)])∧0≤n∧n < 2147483648∧fY ds':=⟨nx ds,ds.tail,vj ds,(sL hd).1,(sL hd).2,xM hd⟩
theorem mB(cell k:Int)(h0:0≤k)(h1:k≤1000):∃r,eE [.d (.int cell),.d (.int k)]=some (.d (.int r),[.d (.int cell),.d (.int k)])∧0≤r∧r < 2147483648:=by
  have a1:gf (cell % 2147483647) 48271=true:=jJ (by decide) (by decide)
  have a2:gf 7919 k=true:=lF (by decide) (by decide)
  have a3:gf (7919*k) k=true:=jJ (by lia) (by lia)
  have a4:gf ((cell % 2147483647*48271+7919*k*k+104729) % 2147483647) ((cell % 2147483647*48271+7919*k*k+104729) % 2147483647)=true:=jJ (by lia) (by lia)
  refine⟨_,by simp? [eE,lV,az,fm,a1,a2,a3,a4];rfl,?_,?_⟩
  · lia
  · lia
theorem jz{ds:List Int}(h:fY ds){r:Int}(h0:0≤r)(h1:r < 2147483648):fY (ds++[r]):=fun d hd=>by
  rcases List.mem_append.mp hd with hd | hd
  · exact h d hd
  · simp at hd;subst hd;exact⟨h0,h1⟩
abbrev dE(ns ds:List Int)(v2 v3 v4:Option Sv):En:=[some (.d (.list (ns.map .int))),some (.l (ds.map .int)),v2,v3,v4]
inductive DI (ns:List Int) (i:Nat):En→Prop
  | mk {ds v2 v3 v4} (hd:fY ds) (hl:ds.length≤1000*i):DI ns i (dE ns ds v2 v3 v4)
inductive DJ (ns:List Int) (k cell:Int) (n i:Nat):En→Prop
  | mk {ds v4} (hd:fY ds) (hl:ds.length=n+i):DJ ns k cell n i (dE ns ds (some (.d (.int k))) (some (.d (.int cell))) v4)
inductive DW (ns:List Int) (k:Int) (v4:Option Sv) (n:Nat):En→Prop
  | mk {cell ds} (hc:0≤cell) (hd:fY ds) (hl:ds.length≤max n 900):DW ns k v4 n (dE ns ds (some (.d (.int k))) (some (.d (.int cell))) v4)
theorem rE(ns:List Int)(hn:ns.length≤63):∃ds,fx [.d (.list (ns.map .int))]=some (.l (ds.map .int),[.d (.list (ns.map .int))])∧fY ds:=by
  have inner:∀(cell k:Int) (ds:List Int) (v4:Option Sv),0≤k→k≤63→fY ds→ds.length≤63000→∃ds' v4',(∀W,ec W eC (ai 4) dk (dE ns ds (some (.d (.int k))) (some (.d (.int cell))) v4)=some (.nx (dE ns ds' (some (.d (.int k))) (some (.d (.int cell))) v4')))∧fY ds'∧ds'.length=ds.length+12:=by
    intro cell k ds v4 k0 k1 hd hl
    obtain⟨e',h1,h2⟩:=dt (own:=[]) (g:=ai 4) (f:=dk) (DJ ns k cell ds.length) (aI 0 12) 0 (dE ns ds (some (.d (.int k))) (some (.d (.int cell))) v4) (fun i x e hx hI=>by
      obtain⟨rfl,hi⟩:=dS hx
      obtain⟨hd',hl'⟩:=hI
      rename_i ds' v4'
      obtain⟨r1,c1,_,_⟩:=mB cell (3*(0+(i:Int))+1) (by lia) (by lia)
      obtain⟨r2,c2,c3,c4⟩:=mB r1 (0+(i:Int)+k+2) (by lia) (by lia)
      have a1:gf 3 (0+(i:Int))=true:=lF (by decide) (by decide)
      refine⟨_,dE ns (ds'++[r2]) (some (.d (.int k))) (some (.d (.int cell))) (some (.d (.int (0+(i:Int))))),rfl,?_,a8,.mk (jz hd' c3 c4) (by simp;lia)⟩
      have hlen:ds'.length < 1000000:=by lia
      simp only [Int.zero_add] at a1 c1 c2
      simp? [dE,dk,c1,c2,fm,a1,hlen]) (.mk hd rfl)
    obtain⟨hd',hl'⟩:=h2
    rename_i ds' v4'
    rw [cX] at hl'
    refine⟨ds',v4',fun W=>?_,hd',by lia⟩
    rw [dU (show eC _=some (aI 0 12,[],_) from bZ (n:=12) rfl (by decide) (by decide))]
    exact h1
  have wh:∀(cell k:Int) (ds:List Int) (v4:Option Sv),0≤cell→fY ds→ds.length≤63100→∃cell' ds',iu (2 ^ 4200) cQ eu (dE ns ds (some (.d (.int k))) (some (.d (.int cell))) v4)=some (.nx (dE ns ds' (some (.d (.int k))) (some (.d (.int cell'))) v4))∧0≤cell'∧fY ds'∧ds'.length≤max ds.length 900:=by
    intro cell k ds v4 hc hd hl
    have tst:∀(cell:Int) (ds:List Int),cQ (dE ns ds (some (.d (.int k))) (some (.d (.int cell))) v4)=some (decide (1000000000000000000≤cell)&&decide ((ds.length:Int) < 900),dE ns ds (some (.d (.int k))) (some (.d (.int cell))) v4):=by
      intro cell ds
      by_cases h:(1000000000000000000:Int)≤cell
      · simp? [dE,cQ,fq,fB,h]
      · simp? [dE,cQ,fq,fB,h]
    obtain⟨e0,e',h1,hI,h3⟩:=iD (ft:=cQ) (f:=eu) (DW ns k v4 ds.length)
      (fun e=>1000000 - sG 1 e) (fun e hI=>by
        obtain⟨hc',hd',hl'⟩:=hI
        rename_i cell' ds'
        rw [tst]
        by_cases c1:(1000000000000000000:Int)≤cell'
        · by_cases c2:(ds'.length:Int) < 900
          · refine .inr ⟨_,dE ns (ds'++[cell' % 2147483629]) (some (.d (.int k))) (some (.d (.int (cell' / 2147483629)))) v4,by rw [decide_eq_true c1,decide_eq_true c2];rfl,?_,.mk (by lia) (jz hd' (by lia) (by lia)) (by simp;lia),?_⟩
            · have hlen:ds'.length < 1000000:=by lia
              have b8:Bt 8000 2147483629:=g9 (by decide) (by decide)
              simp? [dE,eu,az,dy,b8,hlen]
            · simp [sG,dE];lia
          · exact .inl ⟨_,by rw [decide_eq_true c1,decide_eq_false c2];rfl,trivial⟩
        · exact .inl ⟨_,by rw [decide_eq_false c1];rfl,trivial⟩) (2 ^ 4200) _ (.mk hc hd (by lia)) (ma (m:=20) (Nat.lt_of_le_of_lt (Nat.sub_le _ _) (by decide)) (by decide))
    obtain⟨hc',hd',hl'⟩:=hI
    rename_i cell' ds'
    rw [tst] at h3
    have h4:=(Prod.mk.inj (Option.some.inj h3)).2
    subst h4
    exact⟨cell',ds',h1,hc',hd',hl'⟩
  have turn:∀(i:Nat) (ds:List Int) (v3 v4:Option Sv) (hi:i < ns.length),fY ds→ds.length≤1000*i→∃ds2 v3' v4',cO (dE ns ds (some (.d (.int (i:Int)))) v3 v4)=some (.nx (dE ns ds2 (some (.d (.int (i:Int)))) v3' v4'))∧fY ds2∧ds2.length≤1000*(i+1):=by
    intro i ds v3 v4 hi hd hl
    have hcell:atI (ns.map PyData.int) (i:Int)=some (.int ns[i]):=by
      rw [ed (by lia) (by rw [List.length_map];lia)]
      simp [hi]
    have c0:(0:Int)≤(ns[i].natAbs:Int):=by lia
    have st:be 3 (aA (g1 mP) (aa (aw dc (ae 0) (ae 2)) ag)) (dE ns ds (some (.d (.int (i:Int)))) v3 v4)=some (.nx (dE ns ds (some (.d (.int (i:Int)))) (some (.d (.int (ns[i].natAbs:Int)))) v4)):=by
      simp? [dE,hcell]
    generalize (ns[i].natAbs:Int)=cell at c0 st
    have mid:∃ds1 v4',iF (aY (aw vE (ae 3) (aw ly (vC (.int 10)) (vC (.int 18))))) (ec ([4]++[]) eC (ai 4) dk) er (dE ns ds (some (.d (.int (i:Int)))) (some (.d (.int cell))) v4)=some (.nx (dE ns ds1 (some (.d (.int (i:Int)))) (some (.d (.int cell))) v4'))∧fY ds1∧ds1.length≤ds.length+12:=by
      by_cases cb:cell < 1000000000000000000
      · obtain⟨ds1,v4',f1,f2,f3⟩:=inner cell (i:Int) ds v4 (by lia) (by lia) hd (by lia)
        refine⟨ds1,v4',?_,f2,by lia⟩
        rw [xq (e1:=dE ns ds (some (.d (.int (i:Int)))) (some (.d (.int cell))) v4) (by simp? [dE,fq,fB,cb])]
        exact f1 _
      · refine⟨ds,v4,?_,hd,by lia⟩
        rw [xo (e1:=dE ns ds (some (.d (.int (i:Int)))) (some (.d (.int cell))) v4) (by simp? [dE,fq,fB,cb])]
        rfl
    obtain⟨ds1,v4',m1,m2,m3⟩:=mid
    obtain⟨cell2,ds2,w1,w2,w3,w4⟩:=wh cell (i:Int) ds1 v4' c0 m2 (by lia)
    by_cases c2:(2147483629:Int)≤cell2
    · refine⟨ds2++[cell2 % 2147483629],some (.d (.int cell2)),v4',?_,jz w3 (by lia) (by lia),by simp;lia⟩
      have hlen:ds2.length < 1000000:=by lia
      unfold cO
      rw [bC st,bC m1,bC w1]
      simp? [dE,c2,az,hlen]
    · refine⟨ds2,some (.d (.int cell2)),v4',?_,w3,by lia⟩
      unfold cO
      rw [bC st,bC m1,bC w1]
      simp? [dE,c2]
  obtain⟨e',h1,hI⟩:=dt (own:=[]) (g:=ai 2) (f:=cO) (DI ns) (aI 0 (min (ns.length:Int) 63).toNat) 0 (dE ns [] none none none) (fun i x e hx hI=>by
    obtain⟨rfl,hi⟩:=dS hx
    obtain⟨hd,hl⟩:=hI
    rename_i ds v2 v3 v4
    rw [Nat.zero_add] at hl ⊢
    obtain⟨ds2,v3',v4',t1,t2,t3⟩:=turn i ds v3 v4 (by lia) hd hl
    exact⟨dE ns ds (some (.d (.int (i:Int)))) v3 v4,_,by simp [ai,dE],t1,a8,.mk t2 t3⟩) (.mk (fun d hd=>by cases hd) (by simp))
  obtain⟨hd,hl⟩:=hI
  rename_i ds v2 v3 v4
  refine⟨ds,?_,hd⟩
  have hf:∀W,ec W f_ (ai 2) cO (dE ns [] none none none)=some (.nx (dE ns ds v2 v3 v4)):=fun W=>by
    rw [dU (show f_ _=some (aI 0 (min (ns.length:Int) 63).toNat,[],dE ns [] none none none) from bZ (n:=min (ns.length:Int) 63) (by simp? [dE]) (by lia) (by lia))]
    exact h1
  unfold dE at hf
  simp only [List.map_nil] at hf
  simp? [fx,lU,hf]
theorem xI(a b:Int)(hb:Bt 4000 b):kl [.d (.int a),.d (.int b)]=some (.d (.int (Int.gcd a b)),[.d (.int a),.d (.int b)]):=by
  have tst:∀x y:Int,eY [some (.d (.int x)),some (.d (.int y))]=some (!(y==0),[some (.d (.int x)),some (.d (.int y))]):=fun x y=>by simp? [eY]
  obtain⟨e0,e',h1,⟨x,y,he,hg,hy⟩,h3⟩:=iD (ft:=eY) (f:=gK) (fun e=>∃x y,e=[some (.d (.int x)),some (.d (.int y))]∧Int.gcd x y=Int.gcd a b∧Bt 4000 y) (oH 1) (fun e ⟨x,y,he,hg,hy⟩=>by
    subst he
    rw [tst]
    by_cases c:y=0
    · subst c;exact .inl ⟨_,rfl,trivial⟩
    · refine .inr ⟨_,[some (.d (.int y)),some (.d (.int (x.fmod y)))],by rw [beq_false_of_ne c];rfl,by simp? [gK,tI c],⟨y,x.fmod y,rfl,by rw [ol,hg],?_⟩,?_⟩
      · have:=gy x c
        exact Bt.of_le hy (by lia)
      · have:=gy x c
        simpa [oH] using this) (2 ^ 4200) _ ⟨a,b,rfl,rfl,hb⟩ (ma (m:=4000) (by simpa [oH,Bt] using hb) (by decide))
  subst he
  rw [tst] at h3
  have h4:=Prod.mk.inj (Option.some.inj h3)
  have hy0:y=0:=by simpa using h4.1
  subst hy0
  have h5:=h4.2
  subst h5
  have hs:iu (2 ^ 4200) eY gK [some (.d (.int a)),some (.d (.int b))]=some (.nx [some (.d (.int x)),some (.d (.int 0))]):=h1
  have hg':(x.natAbs:Int)=(Int.gcd a b:Int):=by rw [←hg];simp
  simp only [kl,rR,iE,ko,aJ,iF,bG,er,be,gA,pE,pF,rk,aY,aw,vw,ae,vC,eH,ag,aa,cB,aA,di,nq,vK,k8,y_,jl,xN,sT,vt,kx,ja,dG,cg,wy,gc,e_,mL,dg,bS,qe,nj,de,aK,ai,cD,bL,ar,aN,tY,c_,j',hX,jB,l9,l7,l5,l4,kc,fj,kd,i3,j_,sv,i4,nZ,sx,n9,l8,n5,n6,kf,ke,i5,kg,sC,li,lj,lm,lp,rX,iX,iW,hU,l6,List.replicate, -List.map_nil, -List.map_cons, -List.nil_append, -List.cons_append, -Option.bind_some, -Option.map_some, -getElem?_pos, -List.append_nil,si,se,r8,r6,r_,sd,r9,sj]
  simp? [hs,hg']
theorem sQ(t b:Int)(hb:0 < b)(h:Bt 4000 b):i9 [.d (.int t),.d (.int b)]=some (.d (.tuple [.int (cz t b).1,.int (cz t b).2]),[.d (.int t),.d (.int b)]):=by
  have g0:=l_ (t:=t) (b:=b) (by lia)
  have g1:(Int.gcd t b:Int)≠0:=by lia
  have g8:Bt 8000 (Int.gcd t b:Int):=(tJ (t:=t) (by lia) h).mono (by decide)
  have e:cz t b=(t.fdiv (Int.gcd t b:Int),b.fdiv (Int.gcd t b:Int)):=by unfold cz;rw [if_neg (by lia)]
  rw [e]
  simp? [i9,rS,xI t b h,qj g1 g8]
theorem rW{i:Int}{n:Nat}(h1: -2147483648 < i)(h2:i < 2147483648)(hn:31≤n):Bt n i:=Bt.mono (m:=31) (by unfold Bt;lia) hn
def nK(t b:Int):Prop:=0≤t∧t≤b∧1≤b∧b≤100∧Int.gcd t b=1
theorem pP(n k:Int)(hn:0≤n):∃t b,cm [.d (.int n),.d (.int k)]=some (.d (.tuple [.int t,.int b]),[.d (.int n),.d (.int k)])∧nK t b:=by
  have b9:Bt 8000 9:=g9 (by decide) (by decide)
  have b100:Bt 8000 100:=g9 (by decide) (by decide)
  have low:∀t b:Int,0 < b→0≤t→t≤b→b≤100→nK (cz t b).1 (cz t b).2:=fun t b hb h0 h1 h2=>by
    obtain⟨r1,r2,r3,r4⟩:=lE hb h0 h1 h2
    exact⟨r1,r2,r3,r4,oD (by lia)⟩
  by_cases c0:k=0
  · subst c0
    obtain⟨x,hx,ha⟩:=gX (xs:=[PyData.tuple [.int 1,.int 2],.tuple [.int 1,.int 3],.tuple [.int 2,.int 3],.tuple [.int 1,.int 1],.tuple [.int 0,.int 1],.tuple [.int 3,.int 4]]) (i:=n % 6) (by lia) (by simp;lia)
    obtain⟨t,b,rfl,hc⟩:∃t b,x=.tuple [.int t,.int b]∧nK t b:=by
      simp only [List.mem_cons,List.not_mem_nil,or_false] at hx
      rcases hx with rfl | rfl | rfl | rfl | rfl | rfl<;>exact⟨_,_,rfl,by unfold nK;decide⟩
    exact⟨t,b,by simp? [cm,ee,az,ha],hc⟩
  · by_cases c1:k=1
    · subst c1
      have hm:(n / 9) % (2+n % 9 - 1) < 2+n % 9 - 1:=Int.emod_lt_of_pos _ (by lia)
      have hm0:0≤(n / 9) % (2+n % 9 - 1):=Int.emod_nonneg _ (by lia)
      refine⟨_,_,?_,low (1+(n / 9) % (2+n % 9 - 1)) (2+n % 9) (by lia) (by lia) (by lia) (by lia)⟩
      have hpos:∀e:En,aM e (.d (.int (n / 9))) (.d (.int (2+n % 9 - 1)))=_:=fun e=>az (by lia)
      have hl:=sQ (1+(n / 9) % (2+n % 9 - 1)) (2+n % 9) (by lia) (rW (by lia) (by lia) (by decide))
      simp? [cm,ee,az,dy,b9,hpos,hl]
    · by_cases c2:k=2
      · subst c2
        have hm:(n / 100) % (1+n % 100+1) < 1+n % 100+1:=Int.emod_lt_of_pos _ (by lia)
        have hm0:0≤(n / 100) % (1+n % 100+1):=Int.emod_nonneg _ (by lia)
        refine⟨_,_,?_,low ((n / 100) % (1+n % 100+1)) (1+n % 100) (by lia) (by lia) (by lia) (by lia)⟩
        have hpos:∀e:En,aM e (.d (.int (n / 100))) (.d (.int (1+n % 100+1)))=_:=fun e=>az (by lia)
        have hl:=sQ ((n / 100) % (1+n % 100+1)) (1+n % 100) (by lia) (rW (by lia) (by lia) (by decide))
        simp? [cm,ee,az,dy,b100,hpos,hl]
      · refine⟨1,1,?_,by unfold nK;decide⟩
        simp? [cm,ee,c0,c1,c2]
theorem rF(n k:Int):∃r,fy [.d (.int n),.d (.int k)]=some (.d (.int r),[.d (.int n),.d (.int k)])∧0≤r∧r≤1000:=by
  obtain⟨x,hx,ha⟩:=gX (xs:=[PyData.int (n % 7),.int (5+n % 2),.int (n % 1001),.int (1000 - n % 3)]) (i:=k % 4) (by lia) (by simp;lia)
  obtain⟨r,rfl,hr⟩:∃r,x=.int r∧0≤r∧r≤1000:=by
    simp only [List.mem_cons,List.not_mem_nil,or_false] at hx
    rcases hx with rfl | rfl | rfl | rfl<;>exact⟨_,rfl,by lia,by lia⟩
  exact⟨r,by simp? [fy,lX,az,ha],hr⟩
abbrev tE(ds:List Int)(things many shape odds ws:Int)(ts:List k_)(v7 v8 v9 v10 v11 v12:Option Sv):En:=[some (.l (ds.map .int)),some (.d (.int things)),some (.d (.int many)),some (.d (.int shape)),some (.d (.int odds)),some (.d (.int ws)),some (.l (ts.map aQ)),v7,v8,v9,v10,v11,v12]
inductive TR (things many shape odds ws:Int) (ts:List k_) (k:Option Sv):En→Prop
  | mk {t ds w8 w9 w10 w11 w12} (hd:fY ds) (ht:t.Ok things):TR things many shape odds ws ts k (tE ds things many shape odds ws (ts++[t]) k w8 w9 w10 w11 w12)
inductive TI (things many a b c:Int) (i:Nat):En→Prop
  | mk {ts ds w7 w8 w9 w10 w11 w12} (hd:fY ds) (hl:ts.length=i) (ht:∀t∈ts,t.Ok things):TI things many a b c i (tE ds things many a b c ts w7 w8 w9 w10 w11 w12)
theorem xJ(ds:List Int)(things many shape odds ws:Int)(ts:List k_)(k:Int)(v8 v9 v10 v11 v12:Option Sv)(hd:fY ds)(h2:2≤things)(h12:things≤100)(s0:0≤shape)(s1:shape < 6)(k0:0≤k)(hl:ts.length≤1000):
    ∃e',dm (tE ds things many shape odds ws ts (some (.d (.int k))) v8 v9 v10 v11 v12)=some (.nx e')∧TR things many shape odds ws ts (some (.d (.int k))) e':=by
  obtain⟨n,d1,tn, -, -,hd1⟩:=fW hd
  obtain⟨m,d2,tm,m0, -,hd2⟩:=fW hd1
  obtain⟨x,hx,ha⟩:=gX (xs:=[PyData.int (n % things),.int 0,.int (k % things),.int (n % things),.int (n % 2),.int (n % things)]) (i:=shape) s0 (by simp;lia)
  have tp:0 < things:=Int.lt_of_lt_of_le (by decide) h2
  have tq:0 < things - 1:=Int.sub_pos_of_lt (Int.lt_of_lt_of_le (by decide) h2)
  have nt:0≤n % things∧n % things < things:=⟨pX tp,pY tp⟩
  have kt:0≤k % things∧k % things < things:=⟨pX tp,pY tp⟩
  obtain⟨one,rfl,o0,o1⟩:∃r,x=.int r∧0≤r∧r < things:=by
    simp only [List.mem_cons,List.not_mem_nil,or_false] at hx
    rcases hx with rfl | rfl | rfl | rfl | rfl | rfl<;>exact⟨_,rfl,by lia,by lia⟩
  have r0:0≤(n / 12) % (things - 1):=pX tq
  have r1:(n / 12) % (things - 1) < things - 1:=pY tq
  have q0:0≤(one+1+(n / 12) % (things - 1)) % things:=pX tp
  have q1:(one+1+(n / 12) % (things - 1)) % things < things:=pY tp
  have qn:(one+1+(n / 12) % (things - 1)) % things≠one:=fun z=>by
    by_cases c:one+1+(n / 12) % (things - 1) < things
    · rw [Int.emod_eq_of_lt (by lia) c] at z;lia
    · have e:(one+1+(n / 12) % (things - 1)) % things=(one+1+(n / 12) % (things - 1) - things) % things:=by rw [Int.sub_emod_right]
      rw [e,Int.emod_eq_of_lt (by lia) (by lia)] at z;lia
  obtain⟨t,b,c1,c2,c3,c4,c5,c6⟩:=pP m odds m0
  obtain⟨w,w1,w2,w3⟩:=rF (m / 10007) ws
  have b12:Bt 8000 12:=g9 (by decide) (by decide)
  have b107:Bt 8000 10007:=g9 (by decide) (by decide)
  have g1:∀(e:En) (i:Int),aM e (.d (.int i)) (.d (.int things))=some (.d (.int (i % things))):=fun e i=>az tp
  have g2:∀(e:En) (i:Int),aM e (.d (.int i)) (.d (.int (things - 1)))=some (.d (.int (i % (things - 1)))):=fun e i=>az tq
  have hlen:ts.length < 1000000:=by lia
  by_cases c:shape=4
  · subst c
    refine⟨tE d2 things many 4 odds ws (ts++[⟨0,1,t,b,w⟩]) (some (.d (.int k))) (some (.d (.int n))) (some (.d (.int 0))) (some (.d (.int 1))) (some (.d (.int m))) (some (.d (.tuple [.int 0,.int 1]))),?_,.mk hd2 ⟨by show(0:Int)≤0;decide,by show(0:Int) < 1;decide,by show(1:Int) < things;lia,c2,c3,c4,c5,w2,w3,c6⟩⟩
    simp? [tE,dm,tn,tm,az,g1,g2,dy,b12,b107,ha,c1,w1,nX,aQ,hlen]
    decide
  · refine⟨tE d2 things many shape odds ws (ts++[⟨min one ((one+1+(n / 12) % (things - 1)) % things),max one ((one+1+(n / 12) % (things - 1)) % things),t,b,w⟩]) (some (.d (.int k))) (some (.d (.int n))) (some (.d (.int one))) (some (.d (.int ((one+1+(n / 12) % (things - 1)) % things)))) (some (.d (.int m))) (some (.d (.tuple [.int (min one ((one+1+(n / 12) % (things - 1)) % things)),.int (max one ((one+1+(n / 12) % (things - 1)) % things))]))),?_,.mk hd2 ⟨by show 0≤min _ _;lia,by show min _ _ < max _ _;lia,by show max _ _ < _;lia,c2,c3,c4,c5,w2,w3,c6⟩⟩
    simp? [tE,dm,tn,tm,az,g1,g2,dy,b12,b107,ha,c1,w1,nX,aQ,hlen,c]
theorem vm(ds:List Int)(things many:Int)(hd:fY ds)(h2:2≤things)(h12:things≤100)(m0:0≤many)(m1:many≤1000):∃(ts:List k_) (ds':List Int),ia [.l (ds.map .int),.d (.int things),.d (.int many)]=some (.d (.tuple (ts.map aQ)),[.l (ds'.map .int),.d (.int things),.d (.int many)])∧fY ds'∧(ts.length:Int)=many∧∀t∈ts,t.Ok things:=by
  obtain⟨n0,d1,t0, -, -,hd1⟩:=fW hd
  obtain⟨n1,d2,t1, -, -,hd2⟩:=fW hd1
  obtain⟨n2,d3,t2, -, -,hd3⟩:=fW hd2
  obtain⟨e',h1,hI⟩:=dt (own:=[]) (g:=ai 7) (f:=dm) (TI things many (n0 % 6) (n1 % 4) (n2 % 4)) (aI 0 many.toNat) 0 (tE d3 things many (n0 % 6) (n1 % 4) (n2 % 4) [] none none none none none none) (fun i x e hx hI=>by
    obtain⟨rfl,hi⟩:=dS hx
    obtain⟨hd',hl,ht⟩:=hI
    rename_i ts ds' w7 w8 w9 w10 w11 w12
    obtain⟨e9,s1,⟨s2,s3⟩⟩:=xJ ds' things many (n0 % 6) (n1 % 4) (n2 % 4) ts (0+(i:Int)) w8 w9 w10 w11 w12 hd' h2 h12 (pX (by decide)) (pY (by decide)) (by lia) (by lia)
    exact⟨_,_,rfl,s1,a8,.mk s2 (by simp;lia) fun z hz=>by
      rcases List.mem_append.mp hz with hz | hz
      · exact ht z hz
      · simp at hz;subst hz;exact s3⟩) (.mk hd3 rfl fun t ht=>by cases ht)
  obtain⟨hd',hl,ht⟩:=hI
  rename_i ts ds' w7 w8 w9 w10 w11 w12
  refine⟨ts,ds',?_,hd',by rw [hl,cX];lia,ht⟩
  have hf:∀W,ec W h9 (ai 7) dm (tE d3 things many (n0 % 6) (n1 % 4) (n2 % 4) [] none none none none none none)=some (.nx (tE ds' things many (n0 % 6) (n1 % 4) (n2 % 4) ts w7 w8 w9 w10 w11 w12)):=fun W=>by
    rw [dU (show h9 _=some (aI 0 many.toNat,[],tE d3 things many (n0 % 6) (n1 % 4) (n2 % 4) [] none none none none none none) from bZ (n:=many) (by simp? [tE]) (by lia) (by lia))]
    exact h1
  unfold tE at hf
  simp only [List.map_nil] at hf
  simp? [ia,nF,t0,t1,t2,az,hf]
abbrev wE(ds:List Int)(most tn things many:Int)(ts:List k_)(way:Int)(ps:List Int)(v8 v9:Option Sv):En:=[some (.l (ds.map .int)),some (.d (.int most)),some (.d (.int tn)),some (.d (.int things)),some (.d (.int many)),some (.d (.tuple (ts.map aQ))),some (.d (.int way)),some (.l (ps.map .int)),v8,v9]
inductive WI (most tn things many:Int) (ts:List k_) (way:Int) (i:Nat):En→Prop
  | mk {ps ds w8} (hd:fY ds) (hpl:ps.length=i) (hps:∀p∈ps,0≤p∧p≤20):WI most tn things many ts way i (wE ds most tn things many ts way ps w8 none)
theorem xK(ds:List Int)(most tn:Int)(hd:fY ds)(m0:0≤most)(m1:most≤12)(k0:0≤tn)(k1:tn≤16):∃(W:aR) (ds':List Int),km [.l (ds.map .int),.d (.int most),.d (.int tn)]=some (.d (ap W),[.l (ds'.map .int),.d (.int most),.d (.int tn)])∧fY ds'∧W.Ok∧W.things≤most∧(W.ties.length:Int)≤tn:=by
  obtain⟨n0,d1,t0, -, -,hd1⟩:=fW hd
  obtain⟨n1,d2,t1, -, -,hd2⟩:=fW hd1
  have mp:0 < most+1:=Int.lt_add_one_of_le m0
  have kp:0 < tn+1:=Int.lt_add_one_of_le k0
  have g0:∀(e:En),aM e (.d (.int n0)) (.d (.int (most+1)))=some (.d (.int (n0 % (most+1)))):=fun e=>az mp
  have g1':∀(e:En),aM e (.d (.int n1)) (.d (.int (tn+1)))=some (.d (.int (n1 % (tn+1)))):=fun e=>az kp
  have th0:0≤n0 % (most+1):=pX mp
  have th1:n0 % (most+1) < most+1:=pY mp
  have ti0:0≤n1 % (tn+1):=pX kp
  have ti1:n1 % (tn+1) < tn+1:=pY kp
  clear mp kp
  generalize n0 % (most+1)=things at th0 th1 g0
  generalize n1 % (tn+1)=tm at ti0 ti1 g1'
  obtain⟨many,hmany,mm,m00,m01⟩:∃many:Int,many=tm*(if decide (1 < things)=true then 1 else 0)∧(1 < things∨many=0)∧0≤many∧many≤tn:=by
    by_cases c:1 < things
    · exact⟨tm,by simp [c],.inl c,ti0,by lia⟩
    · exact⟨0,by simp [c],.inr rfl,by lia,by lia⟩
  have gm:∀e:En,f9 e (.d (.int tm)) (.d (.int (if decide (1 < things)=true then 1 else 0)))=some (.d (.int many)):=fun e=>by
    rw [fm (jJ (by split<;>decide) (by split<;>decide)),hmany]
  have gi:∀e:En,g1 kb e [.d (.bool (decide (1 < things)))]=some (.d (.int (if decide (1 < things)=true then 1 else 0))):=fun e=>rfl
  generalize (if decide (1 < things)=true then 1 else 0:Int)=one at gm gi
  obtain⟨ts,d3,t3,hd3,hlen,hts⟩:=vm d2 (max 2 things) many hd2 (by lia) (by lia) m00 (by lia)
  obtain⟨n4,d4,t4, -, -,hd4⟩:=fW hd3
  obtain⟨e',h1,hI⟩:=dt (own:=[]) (g:=ai 8) (f:=gL) (WI most tn things many ts (n4 % 3)) (aI 0 things.toNat) 0 (wE d4 most tn things many ts (n4 % 3) [] none none) (fun i x e hx hI=>by
    obtain⟨rfl,hi⟩:=dS hx
    obtain⟨hd5,hpl,hps⟩:=hI
    rename_i ps d5 w8
    obtain⟨p1,d6,t6, -, -,hd6⟩:=fW hd5
    obtain⟨p2,d7,t7, -, -,hd7⟩:=fW hd6
    obtain⟨z,hz,ha⟩:=gX (xs:=[PyData.int 20,.int (1+p1 % 3),.int (p2 % 21)]) (i:=n4 % 3) (pX (by decide)) (pY (k:=3) (by decide))
    obtain⟨p,rfl,hp⟩:∃r,z=.int r∧0≤r∧r≤20:=by
      simp only [List.mem_cons,List.not_mem_nil,or_false] at hz
      rcases hz with rfl | rfl | rfl<;>exact⟨_,rfl,by lia,by lia⟩
    refine⟨wE d5 most tn things many ts (n4 % 3) ps (some (.d (.int (0+(i:Int))))) none,wE d7 most tn things many ts (n4 % 3) (ps++[p]) (some (.d (.int (0+(i:Int))))) none,rfl,?_,a8,.mk hd7 (by simp;lia) fun q hq=>by
      rcases List.mem_append.mp hq with hq | hq
      · exact hps q hq
      · simp at hq;subst hq;exact hp⟩
    have hlen:ps.length < 1000000:=by lia
    simp? [wE,gL,t6,t7,az,ha,hlen]) (.mk hd4 rfl fun p hp=>by cases hp)
  obtain⟨hd5,hpl,hps⟩:=hI
  rename_i ps d5 w8
  have hf:∀W,ec W jE (ai 8) gL (wE d4 most tn things many ts (n4 % 3) [] none none)=some (.nx (wE d5 most tn things many ts (n4 % 3) ps w8 none)):=fun W=>by
    rw [dU (show jE _=some (aI 0 things.toNat,[],wE d4 most tn things many ts (n4 % 3) [] none none) from bZ (n:=things) (by simp? [wE]) (by lia) (by lia))]
    exact h1
  obtain⟨p1,d6,t6, -, -,hd6⟩:=fW hd5
  obtain⟨p2,d7,t7, -, -,hd7⟩:=fW hd6
  obtain⟨p3,d8,t8, -, -,hd8⟩:=fW hd7
  have xp:0 < max 1 many:=Int.lt_of_lt_of_le Int.zero_lt_one (Int.le_max_left _ _)
  have gx:∀(e:En),aM e (.d (.int p1)) (.d (.int (max 1 many)))=some (.d (.int (p1 % max 1 many))):=fun e=>az xp
  have x0:0≤p1 % max 1 many:=pX xp
  have x1:p1 % max 1 many < max 1 many:=pY xp
  obtain⟨z,hz,ha⟩:=gX (xs:=[PyData.int 40,.int (1+p1 % max 1 many),.int (p2 % 41)]) (i:=p3 % 3) (pX (by decide)) (pY (k:=3) (by decide))
  obtain⟨asks,rfl,hasks⟩:∃r,z=.int r∧0≤r∧r≤40:=by
    simp only [List.mem_cons,List.not_mem_nil,or_false] at hz
    rcases hz with rfl | rfl | rfl<;>exact⟨_,rfl,by lia,by lia⟩
  rw [cX] at hpl
  refine⟨⟨things,ts,ps,asks⟩,d8,?_,hd8,⟨th0,by show things≤12;lia,fun t ht=>?_,by show ts.length≤16;lia,by show(ps.length:Int)=things;lia,hps,hasks.1,hasks.2⟩,by show things≤most;lia,by show(ts.length:Int)≤tn;lia⟩
  · unfold wE at hf
    simp only [List.map_nil] at hf
    simp? [km,rT,t0,t1,g0,g1',gm,gi,t3,t4,az,hf,t6,t7,t8,gx,ha,ap]
  · rcases mm with c | c
    · have:=hts t ht
      rw [show max 2 things=things by lia] at this
      exact this
    · have:ts=[]:=List.length_eq_zero_iff.mp (by lia)
      subst this;cases ht
theorem vk(a b:Bool):h_ [.d (.bool a),.d (.bool b)]=some (.d (.bool (a==b)),[.d (.bool a),.d (.bool b)]):=by
  have gi:∀(e:En) (x y:Bool),su e (.d (.bool x)) (.d (.bool y))=some (.d (.bool (x==y))):=fun e x y=>rfl
  cases a<;>cases b<;>simp? [h_,nE,gi]
theorem vz{W:aR}(ok:W.Ok)(b:Bool):Sw b 64025 5 (ap W):=by
  have t0:=ok.t0;have t1:=ok.t1;have a0:=ok.a0;have a1:=ok.a1;have wl:=ok.len;have pl:=ok.pl
  have T2:∀d∈W.ties.map aQ,Sw b 1000 3 d:=fun d hd=>by
    obtain⟨t,ht,rfl⟩:=List.mem_map.mp hd
    have o:=ok.ties t ht
    have o0:=o.o0;have o1:=o.o1;have o2:=o.o2;have c0:=o.c0;have c1:=o.c1;have b1:=o.b1;have w0:=o.w0;have w1:=o.w1
    have hd:p4 2 (aQ t)=true:=by
      simp only [aQ,p4,jb,Bool.and_eq_true,decide_eq_true_eq,Nat.reducePow]
      exact⟨by decide,by lia,by lia,⟨by decide,by lia,by lia,trivial⟩,by lia,trivial⟩
    exact((lh hd).swF rfl b).mono (by simp [aQ,wt,jo]) (by decide)
  have T3:Sw b 16005 4 (.tuple (W.ties.map aQ)):=Sw.tup (n:=1000) (dep:=3) (m:=16) T2 (by simpa using wl)
  have P1:Sw b 16005 4 (.tuple (W.pat.map .int)):=(Sw.ints (m:=12) (fun r hr=>by have:=ok.pat r hr;lia) (by lia)).mono (by decide) (by decide)
  have i1:Sw b 16005 4 (.int W.things):=(Sw.int (by lia)).mono (by decide) (by decide)
  have i2:Sw b 16005 4 (.int W.asks):=(Sw.int (by lia)).mono (by decide) (by decide)
  exact Sw.tup (n:=16005) (dep:=4) (m:=4) (fun d hd=>by
    simp only [List.mem_cons,List.not_mem_nil,or_false] at hd
    rcases hd with rfl | rfl | rfl | rfl
    · exact i1
    · exact T3
    · exact P1
    · exact i2) (by simp)
theorem wf{W:aR}(e:En):dc e (.d (ap W)) (.d (.int 0))=some (.d (.int W.things)):=by rw [e7,i4,li];rfl
theorem tK{W:aR}(e:En):dc e (.d (ap W)) (.d (.int 1))=some (.d (.tuple (W.ties.map aQ))):=by rw [e7,i4,lj];rfl
theorem yY{W:aR}(e:En):dc e (.d (ap W)) (.d (.int 2))=some (.d (.tuple (W.pat.map .int))):=by rw [e7,i4,lm];rfl
theorem yZ{W:aR}(e:En):dc e (.d (ap W)) (.d (.int 3))=some (.d (.int W.asks)):=by rw [e7,i4,lp];rfl
def rH:PyData→En
  | .tuple [a,b]=>[some (.d a),some (.d b)]
  | _=>[]
theorem sR{cs:En}{i j:Nat}(hi:i=cs.length)(hj:j=cs.length+1){x a b:PyData}(hx:x=.tuple [a,b])(t:En)(ht:t.length=2):de (aK (ai i) (aK (ai j) cD)) x (cs++t)=some (cs++rH x):=by
  subst hx hi hj
  match t,ht with
  | [p,q],_=>simp [de,aK,ai,cD,rH]
def tN(th:Int)(t:k_):Bool:=t.one==th || t.other==th
def cnt(W:aR)(th:Int):Int:=((W.ties.filter (tN th)).length:Nat)
theorem pQ(W:aR):(List.range W.ties.length).map (fun i=>W.tie (Int.ofNat i))=W.ties:=by
  refine List.ext_getElem? fun i=>?_
  rw [List.getElem?_map]
  by_cases h:i < W.ties.length
  · rw [List.getElem?_range h,Option.map_some]
    have:=j3.get (W:=W) (k:=(i:Int)) ⟨by lia,by lia⟩
    rw [Int.toNat_natCast] at this
    exact this.symm
  · rw [List.getElem?_eq_none (by simp;lia),List.getElem?_eq_none (by lia)];rfl
theorem oF{W:aR}{th:Int}:W.many W.rng th=cnt W th:=by
  unfold aR.many cnt aR.rng
  rw [List.filter_map,List.length_map]
  conv=>rhs;rw [←pQ W]
  rw [List.filter_map,List.length_map]
  rfl
theorem nL{W:aR}{th:Int}:0≤cnt W th∧cnt W th≤W.ties.length:=by
  unfold cnt
  have:=List.length_filter_le (tN th) W.ties
  lia
theorem va{W:aR}:∀k∈W.rng,j3 W k:=fun k hk=>by
  unfold aR.rng at hk
  obtain⟨i,hi,rfl⟩:=List.mem_map.mp hk
  have:=List.mem_range.mp hi
  exact⟨by simp,by simp;lia⟩
theorem mq{W:aR}:W.rng.length=W.ties.length:=by simp [aR.rng]
theorem mN{W:aR}{k:Int}(hk:j3 W k):cq [.d (ap W),.d (.int k)]=some (.d (.tuple [.int (W.tie k).one,.int (W.tie k).other]),[.d (ap W),.d (.int k)]):=by
  have g1':=tK (W:=W)
  have a:=nB hk
  generalize W.ties.map aQ=TT at*
  generalize ap W=WW at*
  simp? [cq,gu,g1',a,aQ]
theorem qd{W:aR}{th:Int}(hl:W.ties.length≤16):cn [.d (ap W),.d (.list (W.rng.map .int)),.d (.int th)]=some (.d (.int (cnt W th)),[.d (ap W),.d (.list (W.rng.map .int)),.d (.int th)]):=by
  let cs:En:=[some (.d (.int th)),some (.d (ap W))]
  have hc:∀x∈W.rng.map PyData.int,bc (cs++[some (.d x)])=some (wF (fun k=>W.has k th) x,cs++[some (.d x)]):=fun x hx=>by
    obtain⟨k,hk,rfl⟩:=List.mem_map.mp hx
    have t:=mN (va k hk)
    show bc [some (.d (.int th)),some (.d (ap W)),some (.d (.int k))]=some (W.has k th,[some (.d (.int th)),some (.d (ap W)),some (.d (.int k))])
    unfold aR.has
    generalize (W.tie k).one=o1 at*
    generalize (W.tie k).other=o2 at*
    generalize ap W=WW at*
    simp? [bc,t]
  have he:∀x∈W.rng.map PyData.int,wF (fun k=>W.has k th) x=true→bz (cs++[some (.d x)])=some (.d (id x),cs++[some (.d x)]):=fun x hx _=>by
    simp? [cs,bz]
  have rl:=mq (W:=W)
  obtain⟨t',hf⟩:=cR (cs:=cs) (ft:=bc) (fe:=bz) (b:=wF (fun k=>W.has k th)) (y:=id) (W.rng.map PyData.int) none [] hc he (by simp;lia)
  have hv:=dF (cp:=[(2,"thing"),(0,"web")]) (nT:=1) (fi:=eJ) (g:=ai 2) (ft:=bc) (fe:=bz) (e:=[some (.d (ap W)),some (.d (.list (W.rng.map PyData.int))),some (.d (.int th))]) (cs:=cs) (t:=[none]) (t':=[t']) (qm (fa:=ae 1) rfl) rfl rfl hf
  have hlen:(([]++List.map id (List.filter (wF (fun k=>W.has k th)) (W.rng.map PyData.int))).length:Int)=cnt W th:=by
    rw [←oF]
    unfold aR.many
    simp [List.filter_map]
    rfl
  generalize []++List.map id (List.filter (wF (fun k=>W.has k th)) (W.rng.map PyData.int))=out at*
  generalize W.rng.map PyData.int=RR at*
  generalize ap W=WW at*
  simp? [cn,gq,hv,hlen]
def j2(W:aR)(i:Nat):Bool:=decide (cnt W i≤W.pat.getD i 0)
def ny(W:aR):Bool:=decide ((W.ties.length:Int)≤W.asks)&&(List.range W.things.toNat).all (j2 W)
theorem nP{W:aR}(ok:W.Ok):a9 [.d (ap W),.d (.list (W.rng.map .int))]=some (.d (.bool (ny W)),[.d (ap W),.d (.list (W.rng.map .int))]):=by
  have t0:=ok.t0;have t1:=ok.t1;have pl:=ok.pl
  have g0':=wf (W:=W)
  have g2':=yY (W:=W)
  have g3':=yZ (W:=W)
  have rl:=mq (W:=W)
  let cs:En:=[some (.d (ap W)),some (.d (.list (W.rng.map .int)))]
  obtain⟨t',hf⟩:=cR (cs:=cs) (ft:=et) (fe:=a7) (b:=fun _=>true) (y:=fun x=>match x with | .int i=>.bool (j2 W i.toNat) | _=>.none) (aI 0 W.things.toNat) none [] (fun x hx=>rfl) (fun x hx _=>by
    obtain⟨i,hi,rfl⟩:=List.mem_map.mp hx
    have il:=List.mem_range.mp hi
    rw [Int.zero_add]
    have em:=qd (W:=W) (th:=(i:Int)) ok.len
    have pa:=j7 (ns:=W.pat) (k:=(i:Int)) (by lia) (by lia)
    rw [Int.toNat_natCast] at pa
    show a7 [some (.d (ap W)),some (.d (.list (W.rng.map .int))),some (.d (.int (i:Int)))]=some (.d (.bool (j2 W i)),[some (.d (ap W)),some (.d (.list (W.rng.map .int))),some (.d (.int (i:Int)))])
    unfold j2
    generalize W.pat.getD i 0=q at*
    generalize cnt W i=c at*
    generalize W.rng.map PyData.int=RR at*
    generalize W.pat.map PyData.int=PP at*
    generalize ap W=WW at*
    simp? [a7,em,g2',pa]) (by simp [cX];lia)
  have hi:b6 [some (.d (ap W)),some (.d (.list (W.rng.map .int)))]=some (aI 0 W.things.toNat,[],[some (.d (ap W)),some (.d (.list (W.rng.map .int)))]):=by
    generalize W.rng.map PyData.int=RR at*
    generalize ap W=WW at*
    exact bZ (n:=W.things) (by simp? [g0']) (by lia) (by lia)
  have hv:=dF (cp:=[(0,"web"),(1,"asked")]) (nT:=1) (fi:=b6) (g:=ai 2) (ft:=et) (fe:=a7) (cs:=cs) (t:=[none]) (t':=[t']) hi rfl rfl hf
  have eo:[]++((aI 0 W.things.toNat).filter fun _=>true).map (fun x=>match x with | .int i=>PyData.bool (j2 W i.toNat) | _=>.none)=(List.range W.things.toNat).map fun i=>.bool (j2 W i):=by
    rw [List.nil_append,List.filter_eq_self.mpr (fun _ _=>rfl)]
    unfold aI
    rw [List.map_map]
    exact List.map_congr_left fun i _=>by show PyData.bool (j2 W ((0:Int)+(i:Int)).toNat)=_;rw [Int.zero_add,Int.toNat_natCast]
  rw [eo] at hv
  have ga:=fun e=>nV (e:=e) (j2 W) (List.range W.things.toNat)
  unfold ny
  generalize (List.range W.things.toNat).all (j2 W)=bb at*
  generalize ((List.range W.things.toNat).map fun i=>PyData.bool (j2 W i))=out at*
  have gl:∀e:En,g1 cI e [.d (.list (W.rng.map .int))]=some (.d (.int (W.ties.length:Int))):=fun e=>by
    show some (Rv.d (.int ((W.rng.map PyData.int).length:Int)))=_
    rw [List.length_map,rl]
  generalize W.rng.map PyData.int=RR at*
  generalize (W.ties.length:Int)=n at*
  generalize ap W=WW at*
  by_cases c:n≤W.asks
  · have c':¬W.asks < n:=by lia
    simp? [a9,cV,hv,ga,gl,g3',c,c']
  · have c':W.asks < n:=by lia
    simp? [a9,cV,gl,g3',c,c']
theorem fV{W:aR}(ok:W.Ok):aB [.d (ap W)]=some (.d (.bool (ny W)),[.d (ap W)]):=by
  have k:=nP ok
  have g1':=tK (W:=W)
  have wl:=ok.len
  have lr:fX (aa (aA (g1 cI) (aa (aw dc (ae 0) (vC (.int 1))) ag)) ag) [some (.d (ap W))]=some (.l (W.rng.map .int),[some (.d (ap W))]):=by
    have gl:∀e:En,g1 cI e [.d (.tuple (W.ties.map aQ))]=some (.d (.int (W.ties.length:Int))):=fun e=>by
      show some (Rv.d (.int ((W.ties.map aQ).length:Int)))=_
      rw [List.length_map]
    have e0:W.rng=jV W.ties.length:=rfl
    rw [e0]
    generalize W.ties.map aQ=TT at*
    generalize W.ties.length=n at*
    generalize ap W=WW at*
    simp? [fX,g1',gl]
    lia
  generalize W.rng.map PyData.int=RR at*
  generalize ap W=WW at*
  simp? [aB,gp,lr,k]
def ej(W:aR):List Int:=(List.range W.things.toNat).map fun(i:Nat)=>cnt W (i:Int)
theorem jG{W:aR}:(ej W).length=W.things.toNat:=by simp [ej]
theorem sE{W:aR}:∀p∈ej W,0≤p∧p≤W.ties.length:=fun p hp=>by
  obtain⟨i,hi,rfl⟩:=List.mem_map.mp hp
  exact nL
theorem ou{W:aR}(wl:W.ties.length≤16){th:Int}:cw [(1,"_law_thing")] 1 cK (ai 1) bj bP [some (.d (ap W)),some (.d (.int th))]=some (.l ((W.ties.filter (tN th)).map aQ),[some (.d (ap W)),some (.d (.int th))]):=by
  have g1':=tK (W:=W)
  obtain⟨t',hf⟩:=cR (cs:=[some (.d (.int th))]) (ft:=bj) (fe:=bP) (b:=fun x=>match x with | .tuple [.int a,.int b,_,_]=>a==th || b==th | _=>false) (y:=id) (W.ties.map aQ) none [] (fun x hx=>by
    obtain⟨t,ht,rfl⟩:=List.mem_map.mp hx
    show bj [some (.d (.int th)),some (.d (aQ t))]=some (t.one==th || t.other==th,[some (.d (.int th)),some (.d (aQ t))])
    unfold aQ
    simp? [bj]) (fun x hx _=>by simp? [bP]) (by simp;lia)
  have hi:cK [some (.d (ap W)),some (.d (.int th))]=some (W.ties.map aQ,[],[some (.d (ap W)),some (.d (.int th))]):=tM (by
    generalize W.ties.map aQ=TT at*
    generalize ap W=WW at*
    simp? [g1'])
  have hv:=dF (cp:=[(1,"_law_thing")]) (nT:=1) (fi:=cK) (g:=ai 1) (ft:=bj) (fe:=bP) (cs:=[some (.d (.int th))]) (t:=[none]) (t':=[t']) hi rfl rfl hf
  rw [hv]
  have e:[]++((W.ties.map aQ).filter fun x=>match x with | .tuple [.int a,.int b,_,_]=>a==th || b==th | _=>false).map id=(W.ties.filter (tN th)).map aQ:=by
    rw [List.nil_append,List.map_id,List.filter_map]
    rfl
  rw [e]
theorem mz{W:aR}(ok:W.Ok):bF [.d (ap W)]=some (.l ((ej W).map .int),[.d (ap W)]):=by
  have t0:=ok.t0;have t1:=ok.t1
  have g0':=wf (W:=W)
  obtain⟨t',hf⟩:=cR (cs:=[some (.d (ap W))]) (ft:=et) (fe:=bQ) (b:=fun _=>true) (y:=fun x=>match x with | .int i=>.int (cnt W i) | _=>.none) (aI 0 W.things.toNat) none [] (fun x hx=>rfl) (fun x hx _=>by
    obtain⟨i,hi,rfl⟩:=List.mem_map.mp hx
    rw [Int.zero_add]
    have il:=ou (W:=W) ok.len (th:=(i:Int))
    show bQ [some (.d (ap W)),some (.d (.int (i:Int)))]=some (.d (.int (cnt W i)),[some (.d (ap W)),some (.d (.int (i:Int)))])
    have gl:∀e:En,g1 cI e [.l ((W.ties.filter (tN i)).map aQ)]=some (.d (.int (cnt W i))):=fun e=>by
      show some (Rv.d (.int (((W.ties.filter (tN i)).map aQ).length:Int)))=_
      rw [List.length_map];rfl
    generalize (W.ties.filter (tN i)).map aQ=FF at*
    generalize cnt W i=c at*
    generalize ap W=WW at*
    simp? [bQ,il,gl]) (by simp [cX];lia)
  have hi:dP [some (.d (ap W))]=some (aI 0 W.things.toNat,[],[some (.d (ap W))]):=by
    generalize ap W=WW at*
    exact bZ (n:=W.things) (by simp? [g0']) (by lia) (by lia)
  have hv:=dF (cp:=[(0,"_law_web_here")]) (nT:=1) (fi:=dP) (g:=ai 1) (ft:=et) (fe:=bQ) (cs:=[some (.d (ap W))]) (t:=[none]) (t':=[t']) hi rfl rfl hf
  have eo:[]++((aI 0 W.things.toNat).filter fun _=>true).map (fun x=>match x with | .int i=>PyData.int (cnt W i) | _=>.none)=(ej W).map .int:=by
    rw [List.nil_append,List.filter_eq_self.mpr (fun _ _=>rfl)]
    unfold aI ej
    rw [List.map_map,List.map_map]
    exact List.map_congr_left fun i _=>by show PyData.int (cnt W ((0:Int)+(i:Int)))=PyData.int (cnt W (i:Int));rw [Int.zero_add]
  rw [eo] at hv
  generalize (ej W).map PyData.int=out at*
  generalize ap W=WW at*
  simp? [bF,gY,hv]
theorem cG(W:aR):cC 0 ((ej W).map .int)=(List.range W.things.toNat).map fun(i:Nat)=>.tuple [.int (i:Int),.int (cnt W i)]:=by
  refine List.ext_getElem? fun i=>?_
  rw [ey,List.getElem?_map,List.getElem?_map]
  unfold ej
  rw [List.getElem?_map]
  by_cases h:i < W.things.toNat
  · rw [List.getElem?_range h];simp
  · rw [List.getElem?_eq_none (by simp;lia)];rfl
theorem xH{W:aR}(ok:W.Ok):i8 [.d (ap W)]=some (.d (.bool (ny W)),[.d (ap W)]):=by
  have t0:=ok.t0;have t1:=ok.t1;have pl:=ok.pl
  have g1':=tK (W:=W)
  have g2':=yY (W:=W)
  have g3':=yZ (W:=W)
  have tl:=mz ok
  obtain⟨t',_,hf⟩:=dN (cs:=[some (.d (ap W))]) (g:=de (aK (ai 1) (aK (ai 2) cD))) (ft:=eX) (fe:=ff) (b:=fun x=>match x with | .tuple [.int i,.int _]=> !j2 W i.toNat | _=>false) (y:=fun x=>match x with | .tuple [.int i,.int _]=>.int i | _=>.none) (u:=rH) 2 (cC 0 ((ej W).map .int)) [none,none] [] rfl (fun x hx t ht=>by
      rw [cG] at hx
      obtain⟨i,hi,rfl⟩:=List.mem_map.mp hx
      exact sR (cs:=[some (.d (ap W))]) rfl rfl rfl t ht) (fun x hx=>by
      rw [cG] at hx
      obtain⟨i,hi,rfl⟩:=List.mem_map.mp hx
      rfl) (fun x hx=>by
      rw [cG] at hx
      obtain⟨i,hi,rfl⟩:=List.mem_map.mp hx
      have il:=List.mem_range.mp hi
      have pa:=j7 (ns:=W.pat) (k:=(i:Int)) (by lia) (by lia)
      rw [Int.toNat_natCast] at pa
      show eX [some (.d (ap W)),some (.d (.int (i:Int))),some (.d (.int (cnt W i)))]=some (!j2 W i,[some (.d (ap W)),some (.d (.int (i:Int))),some (.d (.int (cnt W i)))])
      unfold j2
      generalize W.pat.getD i 0=q at*
      generalize cnt W i=c at*
      generalize W.pat.map PyData.int=PP at*
      generalize ap W=WW at*
      have e:decide (q < c)= !decide (c≤q):=by by_cases z:q < c<;>simp [z]<;>lia
      simp? [eX,g2',pa,e]) (fun x hx _=>by
      rw [cG] at hx
      obtain⟨i,hi,rfl⟩:=List.mem_map.mp hx
      show ff [some (.d (ap W)),some (.d (.int (i:Int))),some (.d (.int (cnt W i)))]=some (.d (.int (i:Int)),[some (.d (ap W)),some (.d (.int (i:Int))),some (.d (.int (cnt W i)))])
      simp? [ff]) (by simp [dq,jG];lia)
  have hi:gN [some (.d (ap W))]=some (cC 0 ((ej W).map .int),[],[some (.d (ap W))]):=by
    generalize (ej W).map PyData.int=LL at*
    generalize ap W=WW at*
    simp? [gN,kh,pM,tl]
  have hv:=dF (cp:=[(0,"_law_web_here")]) (nT:=2) (fi:=gN) (g:=de (aK (ai 1) (aK (ai 2) cD))) (ft:=eX) (fe:=ff) (cs:=[some (.d (ap W))]) (t:=[none,none]) (t':=t') hi rfl rfl hf
  rw [List.nil_append,cG] at hv
  obtain⟨out,ho⟩:∃out,out=(((List.range W.things.toNat).map fun(i:Nat)=>PyData.tuple [.int (i:Int),.int (cnt W i)]).filter (fun x=>match x with | .tuple [.int i,.int _]=> !j2 W i.toNat | _=>false)).map (fun x=>match x with | .tuple [.int i,.int _]=>PyData.int i | _=>.none):=⟨_,rfl⟩
  rw [←ho] at hv
  have em:out.isEmpty=(List.range W.things.toNat).all (j2 W):=by
    rw [ho,List.isEmpty_map,List.filter_map,List.isEmpty_map,Bool.eq_iff_iff,List.isEmpty_iff,List.filter_eq_nil_iff,List.all_eq_true]
    refine forall_congr' fun i=>forall_congr' fun _=>?_
    show ¬(!j2 W ((i:Int)).toNat)=true↔ _
    rw [Int.toNat_natCast]
    simp
  have ge:=fun e=>tG (e:=e) (xs:=out) (neg:=false)
  rw [em] at ge
  unfold ny
  have gl:∀e:En,g1 cI e [.d (.tuple (W.ties.map aQ))]=some (.d (.int (W.ties.length:Int))):=fun e=>by
    show some (Rv.d (.int ((W.ties.map aQ).length:Int)))=_
    rw [List.length_map]
  generalize (List.range W.things.toNat).all (j2 W)=bb at*
  generalize W.ties.map aQ=TT at*
  generalize (W.ties.length:Int)=n at*
  generalize ap W=WW at*
  by_cases c:n≤W.asks
  · have c':¬W.asks < n:=by lia
    simp? [i8,nD,hv,ge,gl,g1',g3',c,c']
  · have c':W.asks < n:=by lia
    simp? [i8,nD,gl,g1',g3',c,c']
theorem jX{W:aR}(ok:W.Ok):cL [.d (ap W)]=some (.d (.bool true),[.d (ap W)]):=by
  have sA:=vz ok true
  have gr:=sA.repr (by decide) (by decide)
  have ge:=fun e=>qi (e:=e) sA.so
  have r1:=fV ok
  have r2:=xH ok
  have r3:=vk (ny W) (ny W)
  rw [beq_self_eq_true] at r3
  generalize ny W=bb at*
  generalize (ap W).shown=SH at*
  generalize ap W=WW at*
  simp? [cL,lW,gr,ge,r1,r2,r3]
def wP(W:aR)(ps:List Int)(a:Int):aR:=⟨W.things,W.ties,ps,a⟩
theorem pU{W:aR}(ok:W.Ok){ps:List Int}{a:Int}(hl:ps.length=W.things.toNat)(hp:∀p∈ps,0≤p∧p≤20)(a0:0≤a)(a1:a≤40):(wP W ps a).Ok:=
  ⟨ok.t0,ok.t1,ok.ties,ok.len,by show(ps.length:Int)=W.things;have:=ok.t0;lia,hp,a0,a1⟩
theorem qs{W:aR}:ny (wP W (ej W) W.ties.length)=true:=by
  unfold ny
  rw [Bool.and_eq_true,List.all_eq_true]
  refine⟨decide_eq_true (Int.le_refl _),fun i hi=>?_⟩
  have il:i < W.things.toNat:=List.mem_range.mp hi
  have e:(ej W).getD i 0=cnt W i:=by
    unfold ej
    rw [List.getD_eq_getElem?_getD,List.getElem?_map,List.getElem?_range il]
    rfl
  unfold j2
  show decide (cnt W i≤(ej W).getD i 0)=true
  rw [e]
  exact decide_eq_true (Int.le_refl _)
abbrev bw(ns ds:List Int)(v2:Option Sv)(W:aR)(v5 v6 v7 v8 v9:Option Sv):En:=[some (.d (.list (ns.map .int))),some (.l (ds.map .int)),v2,some (.d (ap W)),some (.l ((ej W).map .int)),v5,v6,v7,v8,v9]
def ig(W:aR)(more at_:Int):List Int:=(List.range W.things.toNat).map fun(i:Nat)=>max 0 (cnt W i+more*(if (i:Int)=at_ then 1 else 0))
theorem oS{ns ds:List Int}{W:aR}(ok:W.Ok){v2 v5 v8 v9:Option Sv}{more at_:Int}(hm:more= -1∨more=1):cw [(7,"_law_more"),(6,"_law_at")] 2 xZ (de (aK (ai 2) (aK (ai 3) cD))) et vD (bw ns ds v2 W v5 (some (.d (.int at_))) (some (.d (.int more))) v8 v9)=some (.l ((ig W more at_).map .int),bw ns ds v2 W v5 (some (.d (.int at_))) (some (.d (.int more))) v8 v9):=by
  have t1:=ok.t1
  obtain⟨t',_,hf⟩:=dN (cs:=[some (.d (.int more)),some (.d (.int at_))]) (g:=de (aK (ai 2) (aK (ai 3) cD))) (ft:=et) (fe:=vD) (b:=fun _=>true) (y:=fun x=>match x with | .tuple [.int i,.int m]=>.int (max 0 (m+more*(if i=at_ then 1 else 0))) | _=>.none) (u:=rH) 2 (cC 0 ((ej W).map .int)) [none,none] [] rfl (fun x hx t ht=>by
      rw [cG] at hx
      obtain⟨i,hi,rfl⟩:=List.mem_map.mp hx
      exact sR (cs:=[some (.d (.int more)),some (.d (.int at_))]) rfl rfl rfl t ht) (fun x hx=>by
      rw [cG] at hx
      obtain⟨i,hi,rfl⟩:=List.mem_map.mp hx
      rfl) (fun x hx=>rfl) (fun x hx _=>by
      rw [cG] at hx
      obtain⟨i,hi,rfl⟩:=List.mem_map.mp hx
      show vD [some (.d (.int more)),some (.d (.int at_)),some (.d (.int (i:Int))),some (.d (.int (cnt W i)))]=some (.d (.int (max 0 (cnt W i+more*(if (i:Int)=at_ then 1 else 0)))),[some (.d (.int more)),some (.d (.int at_)),some (.d (.int (i:Int))),some (.d (.int (cnt W i)))])
      have gm:∀(e:En) (j:Int),f9 e (.d (.int more)) (.d (.int j))=some (.d (.int (more*j))):=fun e j=>fm (lF (by lia) (by lia))
      have ge:∀e:En,du false e (.d (.int (i:Int))) (.d (.int at_))=some (.d (.bool ((i:Int)==at_))):=fun e=>by rw [jB];rfl
      have gi:∀e:En,g1 kb e [.d (.bool ((i:Int)==at_))]=some (.d (.int (if (i:Int)=at_ then 1 else 0))):=fun e=>by
        by_cases c:(i:Int)=at_
        · rw [beq_iff_eq.mpr c,if_pos c];rfl
        · rw [beq_false_of_ne c,if_neg c];rfl
      have gx:∀(e:En) (j:Int),g2 hV e [.d (.int 0),.d (.int j)]=some (.d (.int (max 0 j))):=fun e j=>fj
      generalize (if (i:Int)=at_ then(1:Int) else 0)=q at*
      generalize cnt W i=c at*
      generalize ((i:Int)==at_)=bb at*
      simp? [vD,gm,ge,gi,gx]) (by simp [dq,jG];lia)
  have hv:=nu (cp:=[(7,"_law_more"),(6,"_law_at")]) (nT:=2) (fi:=xZ) (g:=de (aK (ai 2) (aK (ai 3) cD))) (ft:=et) (fe:=vD) (e:=bw ns ds v2 W v5 (some (.d (.int at_))) (some (.d (.int more))) v8 v9) (cs:=[some (.d (.int more)),some (.d (.int at_))]) (t:=[none,none]) (t':=t') (show xZ (bw ns ds v2 W v5 (some (.d (.int at_))) (some (.d (.int more))) v8 v9)=some (cC 0 ((ej W).map .int),[(4,(ej W).map .int)],bw ns ds v2 W v5 (some (.d (.int at_))) (some (.d (.int more))) v8 v9) from rfl) rfl rfl rfl hf
  rw [hv]
  have eo:[]++((cC 0 ((ej W).map .int)).filter fun _=>true).map (fun x=>match x with | .tuple [.int i,.int m]=>PyData.int (max 0 (m+more*(if i=at_ then 1 else 0))) | _=>.none)=(ig W more at_).map .int:=by
    rw [List.nil_append,List.filter_eq_self.mpr (fun _ _=>rfl),cG]
    unfold ig
    rw [List.map_map,List.map_map]
    rfl
  rw [eo]
theorem uv{W:aR}(ok:W.Ok){more at_:Int}(hm:more= -1∨more=1):(wP W (ig W more at_) W.ties.length).Ok:=pU ok (by simp [ig]) (fun p hp=>by
  obtain⟨i,hi,rfl⟩:=List.mem_map.mp hp
  have c:=nL (W:=W) (th:=(i:Int))
  have wl:=ok.len
  rcases hm with rfl | rfl<;>(split<;>lia)) (by lia) (by have:=ok.len;lia)
theorem kj{W:aR}(e:En):g1 cI e [.d (.tuple (W.ties.map aQ))]=some (.d (.int (W.ties.length:Int))):=by
  show some (Rv.d (.int ((W.ties.map aQ).length:Int)))=_
  rw [List.length_map]
theorem i_{ns ds:List Int}{W:aR}(ok:W.Ok){v2 v5 v8 v9:Option Sv}{more at_:Int}(hm:more= -1∨more=1):xW (bw ns ds v2 W v5 (some (.d (.int at_))) (some (.d (.int more))) v8 v9)=some (.nx (bw ns ds v2 W v5 (some (.d (.int at_))) (some (.d (.int more))) (some (.l ((ig W more at_).map .int))) v9)):=by
  have pc:=oS (ns:=ns) (ds:=ds) ok (v2:=v2) (v5:=v5) (v8:=v8) (v9:=v9) (at_:=at_) hm
  have r:=jX (uv ok (at_:=at_) hm)
  change cL [.d (.tuple [.int W.things,.tuple (W.ties.map aQ),.tuple ((ig W more at_).map .int),.int (W.ties.length:Int)])]=some (.d (.bool true),[.d (.tuple [.int W.things,.tuple (W.ties.map aQ),.tuple ((ig W more at_).map .int),.int (W.ties.length:Int)])]) at r
  have g0':=wf (W:=W)
  have g1':=tK (W:=W)
  have gl:=kj (W:=W)
  simp only [bw] at*
  generalize (ig W more at_).map PyData.int=PP at*
  generalize W.ties.map aQ=TT at*
  generalize (W.ties.length:Int)=n at*
  generalize (ej W).map PyData.int=LL at*
  generalize ap W=WW at*
  simp? [xW,pc,r,g0',g1',gl]
theorem mH{ns ds:List Int}{W:aR}(ok:W.Ok){v2 v5 v6 v7 v8:Option Sv}{a:Int}(a0:0≤a)(a1:a≤40):xV (bw ns ds v2 W v5 v6 v7 v8 (some (.d (.int a))))=some (.nx (bw ns ds v2 W v5 v6 v7 v8 (some (.d (.int a))))):=by
  have wl:=ok.len
  have r:=jX (pU ok (ps:=ej W) jG (fun p hp=>by have:=sE p hp;lia) a0 a1)
  change cL [.d (.tuple [.int W.things,.tuple (W.ties.map aQ),.tuple ((ej W).map .int),.int a])]=some (.d (.bool true),[.d (.tuple [.int W.things,.tuple (W.ties.map aQ),.tuple ((ej W).map .int),.int a])]) at r
  have g0':=wf (W:=W)
  have g1':=tK (W:=W)
  simp only [bw] at*
  generalize W.ties.map aQ=TT at*
  generalize (ej W).map PyData.int=LL at*
  generalize ap W=WW at*
  simp? [xV,r,g0',g1']
inductive LI (ns:List Int):En→Prop
  | mk {ds v2 v3 v4 v5 v6 v7 v8 v9} (hd:fY ds):LI ns [some (.d (.list (ns.map .int))),some (.l (ds.map .int)),v2,v3,v4,v5,v6,v7,v8,v9]
theorem oB{ns ds:List Int}{v2 v3 v4 v5 v6 v7 v8 v9:Option Sv}(hd:fY ds):∃e2,vT [some (.d (.list (ns.map .int))),some (.l (ds.map .int)),v2,v3,v4,v5,v6,v7,v8,v9]=some (.nx e2)∧LI ns e2:=by
  obtain⟨W,d1,tw,hd1,ok, -, -⟩:=xK ds 12 16 hd (by decide) (by decide) (by decide) (by decide)
  have wl:=ok.len;have t0:=ok.t0
  have tl:=mz ok
  have tr:=jX ok
  have oj:=pU ok (ps:=ej W) (a:=W.ties.length) jG (fun p hp=>by have:=sE p hp;lia) (by lia) (by lia)
  have tj:=fV oj
  rw [qs] at tj
  obtain⟨J,hJ⟩:∃J,J=PyData.tuple [.int W.things,.tuple (W.ties.map aQ),.tuple ((ej W).map .int),.int (W.ties.length:Int)]:=⟨_,rfl⟩
  change aB [.d (.tuple [.int W.things,.tuple (W.ties.map aQ),.tuple ((ej W).map .int),.int (W.ties.length:Int)])]=some (.d (.bool true),[.d (.tuple [.int W.things,.tuple (W.ties.map aQ),.tuple ((ej W).map .int),.int (W.ties.length:Int)])]) at tj
  rw [←hJ] at tj
  obtain⟨n1,d2,t1,a1, -,hd2⟩:=fW hd1
  have g0':=wf (W:=W)
  have g1':=tK (W:=W)
  have gl:=kj (W:=W)
  have gx:∀(e:En) (i j:Int),g2 hV e [.d (.int i),.d (.int j)]=some (.d (.int (max i j))):=fun e i j=>fj
  have gm:∀e:En,aM e (.d (.int n1)) (.d (.int (max 1 W.things)))=some (.d (.int (n1 % max 1 W.things))):=fun e=>az (by lia)
  obtain⟨q,hq⟩:∃q,q=n1 % max 1 W.things:=⟨_,rfl⟩
  rw [←hq] at gm
  have m1:=fun v8=>i_ (ns:=ns) (ds:=d2) ok (v2:=v2) (v5:=some (.d J)) (v8:=v8) (v9:=v9) (more:= -1) (at_:=q) (.inl rfl)
  have m2:=fun v8=>i_ (ns:=ns) (ds:=d2) ok (v2:=v2) (v5:=some (.d J)) (v8:=v8) (v9:=v9) (more:=1) (at_:=q) (.inr rfl)
  have hf1:ec ([7]++([8]++([]++[]))) yp (ai 7) xW (bw ns d2 v2 W (some (.d J)) (some (.d (.int q))) v7 v8 v9)=some (.nx (bw ns d2 v2 W (some (.d J)) (some (.d (.int q))) (some (.d (.int 1))) (some (.l ((ig W 1 q).map .int))) v9)):=by
    rw [dU (show yp (bw ns d2 v2 W (some (.d J)) (some (.d (.int q))) v7 v8 v9)=some ([.int (-1),.int 1],[],bw ns d2 v2 W (some (.d J)) (some (.d (.int q))) v7 v8 v9) from oq rfl)]
    have ga:∀(i:Int) (v7 v8:Option Sv),ai 7 (.int i) (bw ns d2 v2 W (some (.d J)) (some (.d (.int q))) v7 v8 v9)=some (bw ns d2 v2 W (some (.d J)) (some (.d (.int q))) (some (.d (.int i))) v8 v9):=fun i v7 v8=>rfl
    simp only [hR,ga,Option.bind_some,m1,m2]
    rw [if_pos a8,if_pos a8]
  obtain⟨V7,h7⟩:∃V7:Option Sv,V7=some (.d (.int 1)):=⟨_,rfl⟩
  obtain⟨V8,h8⟩:∃V8:Option Sv,V8=some (.l ((ig W 1 q).map .int)):=⟨_,rfl⟩
  rw [←h7,←h8] at hf1
  have as:=fun(a:Int) (a0:0≤a) (a1:a≤40)=>mH (ns:=ns) (ds:=d2) ok (v2:=v2) (v5:=some (.d J)) (v6:=some (.d (.int q))) (v7:=V7) (v8:=V8) a0 a1
  have s1:=as (max 0 ((W.ties.length:Int) - 1)) (by lia) (by lia)
  have s2:=as 40 (by decide) (by decide)
  have s3:=as 0 (by decide) (by decide)
  have s4:=as ((W.ties.length:Int)+1) (by lia) (by lia)
  have hf2:ec ([9]++([]++[])) yo (ai 9) xV (bw ns d2 v2 W (some (.d J)) (some (.d (.int q))) V7 V8 v9)=some (.nx (bw ns d2 v2 W (some (.d J)) (some (.d (.int q))) V7 V8 (some (.d (.int ((W.ties.length:Int)+1)))))):=by
    have hi:yo (bw ns d2 v2 W (some (.d J)) (some (.d (.int q))) V7 V8 v9)=some ([.int (max 0 ((W.ties.length:Int) - 1)),.int 40,.int 0,.int ((W.ties.length:Int)+1)],[],bw ns d2 v2 W (some (.d J)) (some (.d (.int q))) V7 V8 v9):=oq (by
      simp only [bw]
      generalize W.ties.map aQ=TT at*
      generalize (W.ties.length:Int)=n at*
      generalize (ej W).map PyData.int=LL at*
      generalize ap W=WW at*
      simp? [g1',gl,gx])
    rw [dU hi]
    have ga:∀(i:Int) (v9:Option Sv),ai 9 (.int i) (bw ns d2 v2 W (some (.d J)) (some (.d (.int q))) V7 V8 v9)=some (bw ns d2 v2 W (some (.d J)) (some (.d (.int q))) V7 V8 (some (.d (.int i)))):=fun i v9=>rfl
    simp only [hR,ga,Option.bind_some,s1,s2,s3,s4]
    rw [if_pos a8,if_pos a8,if_pos a8,if_pos a8]
  refine⟨bw ns d2 v2 W (some (.d J)) (some (.d (.int q))) V7 V8 (some (.d (.int ((W.ties.length:Int)+1)))),?_,.mk hd2⟩
  unfold vT
  refine(bC (e1:=[some (.d (.list (ns.map .int))),some (.l (d1.map .int)),v2,some (.d (ap W)),v4,v5,v6,v7,v8,v9]) ?_).trans ?_
  · simp? [tw]
  refine(bC (e1:=bw ns d1 v2 W v5 v6 v7 v8 v9) ?_).trans ?_
  · simp only [bw]
    generalize (ej W).map PyData.int=LL at*
    generalize ap W=WW at*
    simp? [tl]
  refine(bC (e1:=bw ns d1 v2 W (some (.d J)) v6 v7 v8 v9) ?_).trans ?_
  · rw [hJ]
    simp only [bw]
    generalize (ej W).map PyData.int=LL at*
    generalize W.ties.map aQ=TT at*
    generalize (W.ties.length:Int)=n at*
    generalize ap W=WW at*
    simp? [g0',g1',gl]
  refine(bC (e1:=bw ns d1 v2 W (some (.d J)) v6 v7 v8 v9) ?_).trans ?_
  · have gb:∀e:En,jC e (.d (.bool true)) (.d (.bool true))=some (.d (.bool false)):=fun e=>rfl
    simp only [bw]
    generalize (ej W).map PyData.int=LL at*
    generalize ap W=WW at*
    simp? [tr,tj,gb]
  refine(bC (e1:=bw ns d2 v2 W (some (.d J)) (some (.d (.int q))) v7 v8 v9) ?_).trans ?_
  · simp only [bw]
    generalize (ej W).map PyData.int=LL at*
    generalize ap W=WW at*
    simp? [t1,g0',gx,gm]
  refine(bC hf1).trans ?_
  exact hf2
def W0:aR:=⟨0,[],[],0⟩
def W3:aR:=⟨3,[],[0,0,0],0⟩
theorem oA(ns:List Int)(hl:ns.length≤63):∃as',ib [.d (.list (ns.map .int))]=some (.d (.bool true),as'):=by
  obtain⟨ds,td,hd⟩:=rE ns hl
  obtain⟨e2,h1,hI⟩:=dt (own:=[]) (g:=ai 2) (f:=vT) (fun _=>LI ns) (aI 0 4) 0 [some (.d (.list (ns.map .int))),some (.l (ds.map .int)),none,none,none,none,none,none,none,none] (fun i x e hx hI=>by
    obtain⟨hd⟩:=hI
    rename_i ds v2 v3 v4 v5 v6 v7 v8 v9
    obtain⟨e2,k1,k2⟩:=oB (ns:=ns) (v2:=some (.d x)) (v3:=v3) (v4:=v4) (v5:=v5) (v6:=v6) (v7:=v7) (v8:=v8) (v9:=v9) hd
    exact⟨_,e2,rfl,k1,a8,k2⟩) (.mk hd)
  obtain⟨hd2⟩:=hI
  rename_i ds2 v2 v3 v4 v5 v6 v7 v8 v9
  have hfor:=fun Wl=>dU (W:=Wl) (g:=ai 2) (f:=vT) (show y0 [some (.d (.list (ns.map .int))),some (.l (ds.map .int)),none,none,none,none,none,none,none,none]=some (aI 0 4,[],[some (.d (.list (ns.map .int))),some (.l (ds.map .int)),none,none,none,none,none,none,none,none]) from rfl)
  rw [h1] at hfor
  have o0:W0.Ok:=⟨by decide,by decide,(by intro t h;cases h),by decide,by decide,(by intro t h;cases h),by decide,by decide⟩
  have o3:W3.Ok:=⟨by decide,by decide,(by intro t h;cases h),by decide,by decide,(by intro p h;simp [W3] at h;lia),by decide,by decide⟩
  have z0:=fV o0
  have z3:=fV o3
  rw [show ny W0=true by decide] at z0
  rw [show ny W3=true by decide] at z3
  change aB [.d (.tuple [.int 0,.tuple [],.tuple [],.int 0])]=some (.d (.bool true),[.d (.tuple [.int 0,.tuple [],.tuple [],.int 0])]) at z0
  change aB [.d (.tuple [.int 3,.tuple [],.tuple [.int 0,.int 0,.int 0],.int 0])]=some (.d (.bool true),[.d (.tuple [.int 3,.tuple [],.tuple [.int 0,.int 0,.int 0],.int 0])]) at z3
  have gb:∀e:En,su e (.d (.bool true)) (.d (.bool true))=some (.d (.bool true)):=fun e=>rfl
  simp? [ib,rV,td,hfor,z0,z3,gb]
def kE(P:Params)(k:Str)(t:Tok)(v:Value):DictEntry:=⟨PyData.keyHash P k,.str k t,v⟩
def kF(n:Str)(s:Stmt)(doc pm:Value)(c:Addr):Obj:=⟨.type "function",none,.func (W.fnOf n n (bO s) (bo s) (ah s) .none .none doc pm none (.ref c) .none),#[]⟩
def kI(n:Int):Value:=.int n 0
def kC(n:Str)(a:Nat)(l:List Value)(z:Nat):Obj:=⟨.type "code",none,.fields (Value.str n a::Value.str n (a+1)::Value.str "/claim/cut.py" (a+2)::l++[Value.str "/claim/cut.py" z]).toArray,#[]⟩
def vF:Value:=.str "askedpairs.stands" 187
def y3:Value:=.str "askedpairs.greedy" 209
def fw:Value:=.str "law_askedpairs_k56_asks_enough" 218
def kK(P:Params):W.Frag:=[(3,⟨.type "dict",none,.dict (List.toArray [kE P "__name__" 165 (.str "law_askedpairs_k56_asks_enough" 218),kE P "__doc__" 166 (.none),kE P "__package__" 167 (.none),kE P "__loader__" 168 (.builtin "__main__.__loader__#opaque"),kE P "__spec__" 169 (.none),kE P "__annotations__" 170 (.ref 6),kE P "__builtins__" 171 (.ref 4),kE P "__file__" 173 (.str "/claim/cut.py" 172),kE P "__cached__" 174 (.none),kE P "things_of" 196 (.ref 21),kE P "many_asks" 202 (.ref 26),kE P "keeps_bounds" 208 (.ref 31),kE P "is_enough" 217 (.ref 38),kE P "_law_mixed" 228 (.ref 45),kE P "_law_draws" 239 (.ref 52),kE P "_law_next" 246 (.ref 59),kE P "_law_gcd" 254 (.ref 66),kE P "_law_low" 263 (.ref 73),kE P "_law_says" 271 (.ref 80),kE P "_law_chance" 280 (.ref 87),kE P "_law_worth" 288 (.ref 94),kE P "_law_ties" 307 (.ref 101),kE P "_law_web" 323 (.ref 108),kE P "_law_loads_of" 329 (.ref 113),kE P "_law_due" 335 (.ref 118),kE P "_law_right" 343 (.ref 125),kE P "law" 349 (.ref 130)]) 27,#[]⟩),
  (21,kF "things_of" cv (.none) vF 20),
  (20,kC "things_of" 189 [kI 2,kI 2,kI 0,kI 0,kI 3,.ref 15,.bool true,kI 181,.ref 16,.none,.ref 17,.ref 18,.ref 19,kI 194,kI 2] 195),
  (26,kF "many_asks" bI (.none) vF 25),
  (25,kC "many_asks" 197 [kI 4,kI 3,kI 0,kI 0,kI 3,.ref 22,.bool true,kI 181,.ref 23,.none,.none,.none,.ref 24,kI 200,kI 4] 201),
  (31,kF "keeps_bounds" a_ (.none) vF 30),
  (30,kC "keeps_bounds" 203 [kI 6,kI 2,kI 0,kI 0,kI 3,.ref 27,.bool true,kI 181,.ref 28,.none,.none,.none,.ref 29,kI 206,kI 6] 207),
  (38,kF "is_enough" bH (.none) y3 37),
  (37,kC "is_enough" 211 [kI 11,kI 1,kI 0,kI 0,kI 3,.ref 32,.bool true,kI 181,.ref 33,.none,.ref 34,.ref 35,.ref 36,kI 215,kI 11] 216),
  (45,kF "_law_mixed" fJ (.none) fw 44),
  (44,kC "_law_mixed" 220 [kI 14,kI 2,kI 0,kI 0,kI 3,.ref 39,.bool true,kI 181,.ref 40,.none,.ref 41,.ref 42,.ref 43,kI 226,kI 14] 227),
  (52,kF "_law_draws" fH (.none) fw 51),
  (51,kC "_law_draws" 229 [kI 17,kI 1,kI 0,kI 0,kI 3,.ref 46,.bool true,kI 181,.ref 47,.none,.ref 48,.ref 49,.ref 50,kI 237,kI 17] 238),
  (59,kF "_law_next" eT (.none) fw 58),
  (58,kC "_law_next" 240 [kI 30,kI 1,kI 0,kI 0,kI 3,.ref 53,.bool true,kI 181,.ref 54,.none,.ref 55,.ref 56,.ref 57,kI 244,kI 30] 245),
  (66,kF "_law_gcd" kL (.none) fw 65),
  (65,kC "_law_gcd" 247 [kI 34,kI 2,kI 0,kI 0,kI 3,.ref 60,.bool true,kI 181,.ref 61,.none,.ref 62,.ref 63,.ref 64,kI 252,kI 34] 253),
  (73,kF "_law_low" kM (.none) fw 72),
  (72,kC "_law_low" 255 [kI 38,kI 2,kI 0,kI 0,kI 3,.ref 67,.bool true,kI 181,.ref 68,.none,.ref 69,.ref 70,.ref 71,kI 261,kI 38] 262),
  (80,kF "_law_says" iq (.none) fw 79),
  (79,kC "_law_says" 264 [kI 41,kI 2,kI 0,kI 0,kI 3,.ref 74,.bool true,kI 181,.ref 75,.none,.ref 76,.ref 77,.ref 78,kI 269,kI 41] 270),
  (87,kF "_law_chance" en (.none) fw 86),
  (86,kC "_law_chance" 272 [kI 45,kI 2,kI 0,kI 0,kI 3,.ref 81,.bool true,kI 181,.ref 82,.none,.ref 83,.ref 84,.ref 85,kI 278,kI 45] 279),
  (94,kF "_law_worth" fL (.none) fw 93),
  (93,kC "_law_worth" 281 [kI 55,kI 2,kI 0,kI 0,kI 3,.ref 88,.bool true,kI 181,.ref 89,.none,.ref 90,.ref 91,.ref 92,kI 286,kI 55] 287),
  (101,kF "_law_ties" ir (.none) fw 100),
  (100,kC "_law_ties" 289 [kI 57,kI 3,kI 0,kI 0,kI 3,.ref 95,.bool true,kI 181,.ref 96,.none,.ref 97,.ref 98,.ref 99,kI 305,kI 57] 306),
  (108,kF "_law_web" kN (.none) fw 107),
  (107,kC "_law_web" 308 [kI 72,kI 3,kI 0,kI 0,kI 3,.ref 102,.bool true,kI 181,.ref 103,.none,.ref 104,.ref 105,.ref 106,kI 321,kI 72] 322),
  (113,kF "_law_loads_of" cc (.none) fw 112),
  (112,kC "_law_loads_of" 324 [kI 82,kI 1,kI 0,kI 0,kI 3,.ref 109,.bool true,kI 181,.ref 110,.none,.none,.none,.ref 111,kI 327,kI 82] 328),
  (118,kF "_law_due" je (.none) fw 117),
  (117,kC "_law_due" 330 [kI 84,kI 1,kI 0,kI 0,kI 3,.ref 114,.bool true,kI 181,.ref 115,.none,.none,.none,.ref 116,kI 333,kI 84] 334),
  (125,kF "_law_right" fK (.none) fw 124),
  (124,kC "_law_right" 336 [kI 88,kI 1,kI 0,kI 0,kI 3,.ref 119,.bool true,kI 181,.ref 120,.none,.ref 121,.ref 122,.ref 123,kI 341,kI 88] 342),
  (130,kF "law" gB (.none) fw 129),
  (129,kC "law" 344 [kI 91,kI 1,kI 0,kI 0,kI 3,.ref 126,.bool true,kI 181,.ref 127,.none,.none,.none,.ref 128,kI 347,kI 91] 348)]
def kA:List Addr:=[3,21,20,26,25,31,30,38,37,45,44,52,51,59,58,66,65,73,72,80,79,87,86,94,93,101,100,108,107,113,112,118,117,125,124,130,129]
def kq:Program:={PySem.Challenge.pw_askedpairs_k56_asks_enough with main:={PySem.Challenge.pw_askedpairs_k56_asks_enough.main with body:=[top 1,top 2,top 3,top 5,top 7,top 8,top 9,top 10,top 11,top 12,top 13,top 14,top 15,top 16,top 17,top 18,top 19,top 20]}}
def kH:W.Hook:=W.kHook kK kA (fun _=>by kernel_rfl)
theorem left:W.LeftO PySem.Challenge.pw_askedpairs_k56_asks_enough kq [] (fun s=>W.xlAt kq [] s&&W.recOk (W.RowW.records (W.OpenRow.toRowW (W.OpenLaw.row PySem.Challenge.rw_askedpairs_k56_asks_enough))) s) (W.Hook.obs kH) (W.Hook.val kH) 1266:=fun w=>by kernel_rfl
theorem tV{P:List Value→Prop}(h:∀a0,P [a0]):∀us:List Value,us.length=1→P us:=fun us e=>match us,e with | [a0],_=>h a0
theorem sJ{P:List Value→Prop}(h:∀a0 a1,P [a0,a1]):∀us:List Value,us.length=2→P us:=fun us e=>match us,e with | [a0,a1],_=>h a0 a1
theorem yx{P:List Value→Prop}(h:∀a0 a1 a2,P [a0,a1,a2]):∀us:List Value,us.length=3→P us:=fun us e=>match us,e with | [a0,a1,a2],_=>h a0 a1 a2
theorem hm{w:World}{h:Heap}{mg:Str→Option Value}{n:Str}{s:Stmt}{a:Addr}{ps:List Str}(c:Addr)(d p:Value)(X:(kK w.params).In h)(G:h.Ns mainGlobals mg)
    (e:(W.nsIn (kK w.params) mainGlobals n,List.lookup a (kK w.params),W.codeIn (kK w.params) (.ref c) n,W.keepIn (kK w.params) (.ref a))=(some (some (.ref a)),some (kF n s d p c),true,true))
    (b:∀(kV doc pm:Value) (an:Option Addr) (cdv ct:Value) (us:List Value),us.length=ps.length→bindArgs (W.fnOf n n (bO s) (bo s) (ah s) .none kV doc pm an cdv ct) ⟨us,[]⟩=pure (ps.zip us)):
    bE (kK w.params) mg n s a (W.fnOf n n (bO s) (bo s) (ah s) .none .none d p none (.ref c) .none) ps:=tL X G (congrArg (·.1) e) (congrArg (·.2.1) e) (congrArg (·.2.2.1) e) (congrArg (·.2.2.2) e) b
theorem all_mk{l:W.OpenLaw}{w:World}{h:Heap}{mg:Str→Option Value}{fa:Addr}(X:(kK w.params).In h)(G:h.Ns mainGlobals mg)(hfa:mg "law"=some (.ref fa)):
    ∃fd:FuncData,(∀(s:Shared) (v:Value),BindsTo s fd ⟨[v],[]⟩ [("_law_script",v)])∧∀base:Heap,(kK w.params).In base→base.Ns mainGlobals mg→aL l.prog w (kK w.params) mg base cE 6 fa fd ["_law_script"] (cZ (kK w.params) 1 ib):=by
  have e:=hfa.symm.trans (W.mg_of X G (show W.nsIn (kK w.params) mainGlobals "law"=some (some (.ref 130)) by kernel_rfl))
  cases e
  have T:jr mg:=⟨W.mg_none_of X G (show W.nsIn (kK w.params) mainGlobals "abs"=some none by kernel_rfl),W.mg_none_of X G (show W.nsIn (kK w.params) mainGlobals "len"=some none by kernel_rfl),W.mg_none_of X G (show W.nsIn (kK w.params) mainGlobals "min"=some none by kernel_rfl),W.mg_none_of X G (show W.nsIn (kK w.params) mainGlobals "max"=some none by kernel_rfl),W.mg_none_of X G (show W.nsIn (kK w.params) mainGlobals "range"=some none by kernel_rfl),W.mg_none_of X G (show W.nsIn (kK w.params) mainGlobals "repr"=some none by kernel_rfl),W.mg_none_of X G (show W.nsIn (kK w.params) mainGlobals "tuple"=some none by kernel_rfl),W.mg_none_of X G (show W.nsIn (kK w.params) mainGlobals "int"=some none by kernel_rfl),W.mg_none_of X G (show W.nsIn (kK w.params) mainGlobals "enumerate"=some none by kernel_rfl),W.mg_none_of X G (show W.nsIn (kK w.params) mainGlobals "all"=some none by kernel_rfl),W.mg_none_of X G (show W.nsIn (kK w.params) mainGlobals "list"=some none by kernel_rfl)⟩
  have h_things_of:bE (kK w.params) mg "things_of" cv 21 _ ["web","tie"]:=hm 20 (.none) vF X G (by kernel_rfl) fun _ _ _ _ _ _=>sJ fun _ _=>rfl
  have h_many_asks:bE (kK w.params) mg "many_asks" bI 26 _ ["web","asked","thing"]:=hm 25 (.none) vF X G (by kernel_rfl) fun _ _ _ _ _ _=>yx fun _ _ _=>rfl
  have h_keeps_bounds:bE (kK w.params) mg "keeps_bounds" a_ 31 _ ["web","asked"]:=hm 30 (.none) vF X G (by kernel_rfl) fun _ _ _ _ _ _=>sJ fun _ _=>rfl
  have h_is_enough:bE (kK w.params) mg "is_enough" bH 38 _ ["web"]:=hm 37 (.none) y3 X G (by kernel_rfl) fun _ _ _ _ _ _=>tV fun _=>rfl
  have hLmixed:bE (kK w.params) mg "_law_mixed" fJ 45 _ ["_law_cell","_law_k"]:=hm 44 (.none) fw X G (by kernel_rfl) fun _ _ _ _ _ _=>sJ fun _ _=>rfl
  have hLdraws:bE (kK w.params) mg "_law_draws" fH 52 _ ["_law_script"]:=hm 51 (.none) fw X G (by kernel_rfl) fun _ _ _ _ _ _=>tV fun _=>rfl
  have hLnext:bE (kK w.params) mg "_law_next" eT 59 _ ["_law_drawn"]:=hm 58 (.none) fw X G (by kernel_rfl) fun _ _ _ _ _ _=>tV fun _=>rfl
  have hLgcd:bE (kK w.params) mg "_law_gcd" kL 66 _ ["_law_one","_law_other"]:=hm 65 (.none) fw X G (by kernel_rfl) fun _ _ _ _ _ _=>sJ fun _ _=>rfl
  have hLlow:bE (kK w.params) mg "_law_low" kM 73 _ ["_law_top","_law_bottom"]:=hm 72 (.none) fw X G (by kernel_rfl) fun _ _ _ _ _ _=>sJ fun _ _=>rfl
  have hLsays:bE (kK w.params) mg "_law_says" iq 80 _ ["_law_found","_law_due_here"]:=hm 79 (.none) fw X G (by kernel_rfl) fun _ _ _ _ _ _=>sJ fun _ _=>rfl
  have hLchance:bE (kK w.params) mg "_law_chance" en 87 _ ["_law_number","_law_kind"]:=hm 86 (.none) fw X G (by kernel_rfl) fun _ _ _ _ _ _=>sJ fun _ _=>rfl
  have hLworth:bE (kK w.params) mg "_law_worth" fL 94 _ ["_law_number","_law_kind"]:=hm 93 (.none) fw X G (by kernel_rfl) fun _ _ _ _ _ _=>sJ fun _ _=>rfl
  have hLties:bE (kK w.params) mg "_law_ties" ir 101 _ ["_law_drawn","_law_things","_law_many"]:=hm 100 (.none) fw X G (by kernel_rfl) fun _ _ _ _ _ _=>yx fun _ _ _=>rfl
  have hLweb:bE (kK w.params) mg "_law_web" kN 108 _ ["_law_drawn","_law_most","_law_ties_here"]:=hm 107 (.none) fw X G (by kernel_rfl) fun _ _ _ _ _ _=>yx fun _ _ _=>rfl
  have hLloads_of:bE (kK w.params) mg "_law_loads_of" cc 113 _ ["_law_web_here"]:=hm 112 (.none) fw X G (by kernel_rfl) fun _ _ _ _ _ _=>tV fun _=>rfl
  have hLdue:bE (kK w.params) mg "_law_due" je 118 _ ["_law_web_here"]:=hm 117 (.none) fw X G (by kernel_rfl) fun _ _ _ _ _ _=>tV fun _=>rfl
  have hLright:bE (kK w.params) mg "_law_right" fK 125 _ ["_law_web_here"]:=hm 124 (.none) fw X G (by kernel_rfl) fun _ _ _ _ _ _=>tV fun _=>rfl
  have h_law:bE (kK w.params) mg "law" gB 130 _ ["_law_script"]:=hm 129 (.none) fw X G (by kernel_rfl) fun _ _ _ _ _ _=>tV fun _=>rfl
  refine⟨W.fnOf "law" "law" (bO gB) (bo gB) (ah gB) .none .none (.none) fw none (.ref 129) .none,fun s v=>.of_eq rfl,fun base _ _=>?_⟩
  have G_things_of:=jM (P:=l.prog) (w:=w) (base:=base) h_things_of T
  have G_many_asks:=jL (P:=l.prog) (w:=w) (base:=base) h_many_asks T h_things_of G_things_of
  have G_keeps_bounds:=gH (P:=l.prog) (w:=w) (base:=base) h_keeps_bounds T h_many_asks G_many_asks
  have G_is_enough:=jK (P:=l.prog) (w:=w) (base:=base) h_is_enough T h_keeps_bounds G_keeps_bounds
  have GLmixed:=oO (P:=l.prog) (w:=w) (base:=base) hLmixed T
  have GLdraws:=oM (P:=l.prog) (w:=w) (base:=base) hLdraws T hLmixed GLmixed
  have GLnext:=qD (P:=l.prog) (w:=w) (base:=base) hLnext T
  have GLgcd:=t9 (P:=l.prog) (w:=w) (base:=base) hLgcd T
  have GLlow:=t_ (P:=l.prog) (w:=w) (base:=base) hLlow T hLgcd GLgcd
  have GLsays:=qE (P:=l.prog) (w:=w) (base:=base) hLsays T
  have GLchance:=mY (P:=l.prog) (w:=w) (base:=base) hLchance T hLlow GLlow
  have GLworth:=oQ (P:=l.prog) (w:=w) (base:=base) hLworth T
  have GLties:=qF (P:=l.prog) (w:=w) (base:=base) hLties T hLnext GLnext hLchance GLchance hLworth GLworth
  have GLweb:=ua (P:=l.prog) (w:=w) (base:=base) hLweb T hLties GLties hLnext GLnext
  have GLloads_of:=ky (P:=l.prog) (w:=w) (base:=base) hLloads_of T
  have GLdue:=t5 (P:=l.prog) (w:=w) (base:=base) hLdue T hLloads_of GLloads_of
  have GLright:=oP (P:=l.prog) (w:=w) (base:=base) hLright T hLsays GLsays h_is_enough G_is_enough hLdue GLdue
  have G_law:=uc (P:=l.prog) (w:=w) (base:=base) h_law T hLdraws GLdraws hLweb GLweb hLloads_of GLloads_of hLnext GLnext h_is_enough G_is_enough hLright GLright
  exact G_law
def xr(K:W.Frag):Sp:=fun vs H Q _=>∃(a:Addr) (ns:List Int),vs=[.ref a]∧dj K H a (ns.map V.int)∧ns.length≤63∧∀H',Q (.bl true) H'
theorem tT{K:W.Frag}{vs:List V}{H:Hp}{Q:VK}{E:XK}(h:xr K vs H Q E):cZ K 1 ib vs H Q E:=by
  obtain⟨a,ns,rfl,hS,hl,q⟩:=h
  obtain⟨as',hm⟩:=oA ns hl
  exact lM hS hm q
theorem walk{l:W.OpenLaw}{q:Program}{loose:List Str}{XP:(Str→Option Value)→Heap→Prop}{YP:World→Heap→Prop}{d:DefRec}{K:Params→W.Frag}(hn:l.most=some 63)(hdf:d.params.defaults=[])
    (hY:∀(w:World) (h:Heap),YP w h→(K w.params).In h)
    (F:∀(w:World) (mg:Str→Option Value) (fa:Addr) (h:Heap),(K w.params).In h→h.Ns mainGlobals mg→mg d.name=some (.ref fa)→
      ∃fd:FuncData,(∀(s:Shared) (u:Value),BindsTo s fd ⟨[u],[]⟩ [("_law_script",u)])∧∀base:Heap,(K w.params).In base→base.Ns mainGlobals mg→aL l.prog w (K w.params) mg base cE 6 fa fd ["_law_script"] (cZ (K w.params) 1 ib)):
    W.WalkO q loose XP YP l.row.toRowW d [] (fun f vs=>PySem.call f vs):=
  L2.walk_of (n:=63) (k:=6) (x:="_law_script") (CX:=fun _=>cE) (sp:=fun w=>cZ (K w.params) 1 ib) hn (by decide) hdf ⟨rfl,by decide,by decide,rfl⟩ hY F (fun _ _ a ns hl _ hS=>tT ⟨a,ns,rfl,hS,hl,fun _=>rfl⟩) fun _ _ _ _ _ z=>z
end V56
open PySem PySem.W PyProof.Rows
set_option maxRecDepth 100000 in
set_option maxHeartbeats 0 in
theorem PySem.Challenge.cw_askedpairs_k56_asks_enough_holds : PySem.Challenge.rw_askedpairs_k56_asks_enough.Holds := by
  w_on;o_law
  refine holds_open (q:=V56.kq) (loose:=[]) (Xt:=fun s=>xlAt V56.kq [] s&&recOk (RowW.records (OpenRow.toRowW (OpenLaw.row PySem.Challenge.rw_askedpairs_k56_asks_enough))) s) (XP:=XL V56.kq []) (Yf:=Hook.obs V56.kH) (Ya:=Hook.val V56.kH) (YP:=Hook.says V56.kH) (N:=1266) V56.left (Hook.of V56.kH) (Hook.keeps V56.kH) (fun s e=>xl_of s (Bool.and_eq_true_iff.mp e).1) XL.keeps (by rfl) (by rfl) (by rfl) (fun s e=>recFacts_of (Bool.and_eq_true_iff.mp e).2) (by rfl) (by assumption) (by decide+kernel) ⟨rfl,rfl,rfl,rfl,rfl,by decide+kernel⟩ ?hw ?hc
  case hw=>w_witness2
  case hc=>exact V56.walk (l:=PySem.Challenge.rw_askedpairs_k56_asks_enough) rfl rfl (fun w h Y=>kIn_of Y) (fun w mg fa h KX G hmg=>V56.all_mk KX G hmg)
