import PyProof.Rows.All
import Wide.All
import OpenK.AllK
import Wide.FinOn
import Lean
import PyProof.EqAt
import PyProof.EqKinds
import PyProof.TupleCall
import PyProof.ReprRoads
import PyProof.IsInstance
import PyProof.IsInstanceH
import PyProof.FitsBits
import PyProof.CompFree
import PyProof.Rows.SumAny
import PyProof.Rows.SortShell
import PyProof.Rows.TupAdd
import PyProof.NeKinds
import PyProof.ConsumeWalk
import PyProof.ZipIter
import PyProof.TupleIter
import PyProof.LayNew
import PyProof.Draws
import PyProof.EnumFor
import PyProof.EnumMake
import PyProof.ListRange
import PyProof.CollectIter
import KE.KRevIter
import PyProof.ListMulRoad
import PyProof.TupleOps
import PyProof.TupleOfStr
import PyProof.WalksMore
import PyProof.FactsAll.range_iterator
import PyProof.IsRules
import PyProof.CompUse
import PyProof.P3In
import PyProof.EqLayable
import KE.KIsAll
import PyProof.Rows.FactsN_isinstance
import PyProof.CallStr
import PyProof.Rows.StrWeight2
import PyProof.Rows.FStr
import PyProof.StrLawsRepr
import PyProof.Rows.SetFrom
import KE.KIntText
import KE.KRevSl
import PySem.Challenge.RW_askedpairs_k19_papers_made_up
set_option Elab.async false
set_option linter.all false
set_option maxRecDepth 100000
namespace L2
open PySem PySem.Spec PyProof.Rows
abbrev oA:=Sum Int Str
def A8:oA→Value→Bool
  | .inl k,v=>Value.isInt k v
  | .inr x,v=>Value.isStrOf x v
def Fs(w:World):oA→Int
  | .inl k=>hashInt k
  | .inr x=>hashStr w x
theorem bS:∀{k:oA} {v:Value},A8 k v=true→(∃i t,k=Sum.inl i∧v=Value.int i t)∨(∃x t,k=Sum.inr x∧v=Value.str x t)
  | .inl i,v,h=>by
    obtain⟨t,e⟩:=Value.isInt_shape (k:=i) (v:=v) h
    exact .inl ⟨i,t,rfl,e⟩
  | .inr x,v,h=>by
    obtain⟨t,e⟩:=Value.isStrOf_shape (x:=x) (v:=v) h
    exact .inr ⟨x,t,rfl,e⟩
theorem BQ(a b:Int):decide ((Sum.inl a:oA)=Sum.inl b)=(a==b):=by
  by_cases e:a=b
  · subst e;simp
  · have h:¬(Sum.inl a:oA)=Sum.inl b:=fun q=>e (Sum.inl.inj q)
    rw [decide_eq_false h]
    exact(beq_eq_false_iff_ne.mpr e).symm
theorem BU(a b:Str):decide ((Sum.inr a:oA)=Sum.inr b)=decide (a=b):=by
  by_cases e:a=b
  · subst e;simp
  · have h:¬(Sum.inr a:oA)=Sum.inr b:=fun q=>e (Sum.inr.inj q)
    rw [decide_eq_false h,decide_eq_false e]
theorem BR(a:Int)(b:Str):decide ((Sum.inl a:oA)=Sum.inr b)=false:=decide_eq_false (fun q=>nomatch q)
theorem BS(a:Str)(b:Int):decide ((Sum.inr a:oA)=Sum.inl b)=false:=decide_eq_false (fun q=>nomatch q)
def uA(prog:Program)(w:World):PySem.KeyKind prog w oA where
  is:=A8
  hash:=Fs w
  inj:=fun v a b ha hb=>by
    rcases bS ha with ⟨i,t,rfl,rfl⟩ | ⟨x,t,rfl,rfl⟩
    · rcases bS hb with ⟨j,u,rfl,e⟩ | ⟨y,u,rfl,e⟩
      · injection e with e1 _;rw [e1]
      · exact nomatch e
    · rcases bS hb with ⟨j,u,rfl,e⟩ | ⟨y,u,rfl,e⟩
      · exact nomatch e
      · injection e with e1 _;rw [e1]
  byValue:=fun k v h=>by
    rcases bS h with ⟨i,t,rfl,rfl⟩ | ⟨x,t,rfl,rfl⟩<;>rfl
  pyHash:=fun hv h=>by
    rcases bS hv with ⟨i,t,rfl,rfl⟩ | ⟨x,t,rfl,rfl⟩
    · exact wpAny_pyHash_int h
    · exact wpAny_pyHash_str h
  eqBool:=fun hu hv h=>by
    rcases bS hu with ⟨i,t,rfl,rfl⟩ | ⟨x,t,rfl,rfl⟩
    · rcases bS hv with ⟨j,u,rfl,rfl⟩ | ⟨y,u,rfl,rfl⟩
      · rw [BQ] at h;exact wpAny_eqBool_int h
      · rw [BR] at h;exact SeqAt.EqAt.int_str i t y u _ _ _ _ h
    · rcases bS hv with ⟨j,u,rfl,rfl⟩ | ⟨y,u,rfl,rfl⟩
      · rw [BS] at h;exact SeqAt.EqAt.str_int x t j u _ _ _ _ h
      · rw [BU] at h;exact wpAny_eqBool_str h
  «strs»:=fun k x t v h=>by
    rcases bS h with ⟨i,u,rfl,e⟩ | ⟨y,u,rfl,e⟩
    · exact nomatch e
    · injection e with e1 _
      subst e1
      cases v<;>rfl
end L2
namespace L2
open PySem PySem.Spec PyProof.Rows
inductive V where
  | non | bl (b:Bool) | int (i:Int) | str (x:Str) | byt (b:Array UInt8) | flt (b:UInt64) | ref (a:Addr) | ty (n:String)
  deriving DecidableEq
def bI:V→Value→Prop
  | .non,u=>u=Value.none
  | .bl b,u=>u=Value.bool b
  | .int i,u=>∃t,u=Value.int i t
  | .str x,u=>∃t,u=Value.str x t
  | .byt b,u=>∃t,u=Value.bytes b t
  | .flt b,u=>∃t,u=Value.float b t
  | .ref a,u=>u=Value.ref a
  | .ty n,u=>u=Value.type n
abbrev aR:List V→List Value→Prop:=Paired bI
theorem aR.length{xs:List V}{us:List Value}(r:aR xs us):xs.length=us.length:=Paired.length r
theorem aR.get:∀{xs:List V} {us:List Value} {i:Nat} {x:V},aR xs us→xs[i]?=some x→∃u,us[i]?=some u∧bI x u
  | _,_,_,_,.nil,e=>by simp at e
  | _,_,0,_,.cons r _,e=>by simp at e;subst e;exact⟨_,rfl,r⟩
  | _,_,i+1,x,.cons _ t,e=>by
    obtain⟨u,h1,h2⟩:=aR.get (i:=i) (x:=x) t (by simpa using e)
    exact⟨u,by simpa using h1,h2⟩
theorem aR.set{x:V}{u:Value}(r:bI x u):∀{xs:List V} {us:List Value} (i:Nat),aR xs us→aR (xs.set i x) (us.set i u)
  | _,_,_,.nil=>.nil
  | _,_,0,.cons _ t=>.cons r t
  | _,_,i+1,.cons q t=>.cons q (aR.set r i t)
theorem aR.append:∀{xs ys:List V} {us ws:List Value},aR xs us→aR ys ws→aR (xs++ys) (us++ws)
  | _,_,_,_,.nil,s=>s
  | _,_,_,_,.cons r t,s=>.cons r (aR.append t s)
theorem aR.take:∀{xs:List V} {us:List Value} (n:Nat),aR xs us→aR (xs.take n) (us.take n)
  | _,_,0,_=>.nil
  | _,_,_+1,.nil=>.nil
  | _,_,n+1,.cons r t=>.cons r (aR.take n t)
theorem aR.drop:∀{xs:List V} {us:List Value} (n:Nat),aR xs us→aR (xs.drop n) (us.drop n)
  | _,_,0,r=>r
  | _,_,_+1,.nil=>.nil
  | _,_,n+1,.cons _ t=>aR.drop n t
def Do:Option V→Option Value→Prop
  | some v,some u=>bI v u
  | none,none=>True
  | _,_=>False
def KV{κ:Type}:List (κ × V)→List (κ × Value)→Prop:=Paired fun(p:κ × V) (q:κ × Value)=>p.1=q.1∧bI p.2 q.2
def kV:oA→V
  | .inl i=>.int i
  | .inr x=>.str x
inductive HO where
  /-- a list -/
  | lst (xs:List V)
  /-- a tuple (never changes) -/
  | tup (xs:List V)
  /-- a dict whose keys are ints and texts; one whose keys are tuples of ints and texts (the empty one is both) -/
  | dK (kvs:List (oA × V)) | dT (kvs:List (List oA × V))
  /-- a set of ints: its members, its size -/
  | set (S:Int→Bool) (n:Nat)
  /-- an instance of the class at C, its dict at dx, its attributes -/
  | ins (C dx:Addr) (fs:List (Str × V))
  /-- the dict of the instance at x -/
  | own (x:Addr)
  /-- the dict of an exception -/
  | xd (fs:List (Str × V))
  /-- a bound method, f of x -/
  | met (f x:Addr)
  /-- a range object lo, lo + 1, .. below hi -/
  | rng (lo hi:Int)
  /-- a thing that is known to the object (the script; a dict while a loop walks it): read, never written while it is so -/
  | frz (o:Obj) (u:HO)
  /-- a code object's table -/
  | tbl (ps:Array Value)
  /-- any other thing, by what is true of its one object (a def of one's own: SetO a S n := HO.ext fun h => ..) -/
  | ext (φ:Heap→Prop)
abbrev Hp:=Addr→Option HO
def bj(H:Hp)(a:Addr)(o:HO):Hp:=fun b=>if b=a then some o else H b
theorem ax{H:Hp}{a:Addr}{o:HO}:bj H a o a=some o:=by unfold bj;rw [if_pos rfl]
theorem aA{H:Hp}{a b:Addr}{o:HO}(h:b≠a):bj H a o b=H b:=by unfold bj;rw [if_neg h]
theorem eh{H:Hp}{a b:Addr}{o:HO}(h:H a=some o)(h':H b=none):a≠b:=by
  intro e;subst e;rw [h] at h';cases h'
section
variable(P:Program)(w:World)
def gG(H:Hp)(h:Heap)(a:Addr):HO→Prop
  | .lst xs=>xs.length≤sizeLine∧∃(its:List Value) (n:Nat),aR xs its∧h.get? a=some {cls:=.type "list",data:=.seq its.toArray n}
  | .tup xs=>xs.length≤sizeLine∧∃its:List Value,aR xs its∧IsTup h a its.toArray
  | .dK kvs=>kvs.length≤sizeLine∧(a==sysModules)=false∧∃vs,KV kvs vs∧h.DictOf (uA P w) a vs
  | .dT kvs=>kvs.length≤sizeLine∧(a==sysModules)=false∧∃xs:List (List oA × Addr × Value),
      Paired (fun(p:List oA × V) (q:List oA × Addr × Value)=>p.1=q.1∧H q.2.1=some (.tup (p.1.map kV))∧bI p.2 q.2.2) kvs xs∧
      ∃o es ep,h.get? a=some o∧o.ExactDict∧o.data=.dict es ep∧es.toList=xs.map (entryOfKey (tupleKind (uA P w)))∧(xs.map (·.1)).Nodup
  | .set S n=>h.SetOf (intKind P w) a S n
  | .ins C dx fs=>H dx=some (.own a)∧fs.length≤1000∧dx≠a∧h.get? a=some (PySem.W.instObj C dx)∧
      ∃mA,h.Ns1 dx mA∧(∀f,Do (fs.lookup f) (mA f))∧PySem.Within mA (fs.map (·.1))
  | .own _=>∃o,h.get? a=some o
  | .xd fs=>∃mA,h.Ns1 a mA∧∀f,Do (fs.lookup f) (mA f)
  | .rng lo hi=>∃t u v,h.get? a=some {cls:=.type "range",data:=.fields #[.int lo t,.int hi u,.int 1 v]}
  | .frz o u=>h.get? a=some o∧gG H h a u
  | .tbl ps=>h.get? a=some {cls:=.none,data:=.fields ps}
  | .met f x=>h.get? a=some (PySem.W.methodObj (.ref f) (.ref x))
  | .ext φ=>φ h∧(∃o,h.get? a=some o)∧∀h1 h2:Heap,φ h1→(∀o,h1.get? a=some o→h2.get? a=some o)→φ h2
def mX(H:Hp)(h:Heap):Prop:=∀a o,H a=some o→gG P w H h a o
end
section
variable{P:Program}{w:World}{H H':Hp}{h h':Heap}{a:Addr}{o:HO}
theorem gG.lt(x:gG P w H h a o):a < h.objs.size:=by
  cases o with
  | lst xs=>obtain⟨_,_,_,_,e⟩:=x;exact Heap.lt_size e
  | tup xs=>obtain⟨_,_,_,p⟩:=x;exact p.lt
  | dK kvs=>obtain⟨_,_,_,_,o,_,_,e,_⟩:=x;exact Heap.lt_size e
  | dT kvs=>obtain⟨_,_,_,_,o,_,_,e,_⟩:=x;exact Heap.lt_size e
  | set S n=>obtain⟨o,_,_,_,e,_⟩:=x;exact Heap.lt_size e
  | ins C dx fs=>obtain⟨_,_,_,e,_⟩:=x;exact Heap.lt_size e
  | own y=>obtain⟨_,e⟩:=x;exact Heap.lt_size e
  | xd fs=>obtain⟨_,⟨_,_,_,e,_⟩,_⟩:=x;exact Heap.lt_size e
  | rng lo hi=>obtain⟨_,_,_,e⟩:=x;exact Heap.lt_size e
  | frz ob u=>obtain⟨e,_⟩:=x;exact Heap.lt_size e
  | tbl ps=>exact Heap.lt_size (show h.get? a=some _ from x)
  | met f y=>exact Heap.lt_size (show h.get? a=some _ from x)
  | ext φ=>obtain⟨_,⟨_,e⟩,_⟩:=x;exact Heap.lt_size e
theorem Paired.mapP{α β:Type}{F G:α→β→Prop}:∀{l₁:List α} {l₂:List β},Paired F l₁ l₂→(∀a b,F a b→G a b)→Paired G l₁ l₂
  | _,_,.nil,_=>.nil
  | _,_,.cons r t,f=>.cons (f _ _ r) (Paired.mapP t f)
theorem gG.stay(x:gG P w H h a o)(k:∀b u,(b=a∨H b=some (.own a))→h.get? b=some u→h'.get? b=some u)
    (ho:∀b,H b=some (.own a)→H' b=some (.own a))(ht:∀b xs,H b=some (.tup xs)→H' b=some (.tup xs)):gG P w H' h' a o:=by
  induction o with
  | lst xs=>obtain⟨z,its,n,r,e⟩:=x;exact⟨z,its,n,r,k _ _ (.inl rfl) e⟩
  | tup xs=>obtain⟨z,its,r,ob,e,c⟩:=x;exact⟨z,its,r,ob,k _ _ (.inl rfl) e,c⟩
  | dK kvs=>obtain⟨z,y,vs,r,ob,es,ep,e,c⟩:=x;exact⟨z,y,vs,r,ob,es,ep,k _ _ (.inl rfl) e,c⟩
  | dT kvs=>
    obtain⟨z,y,xs,r,ob,es,ep,e,c⟩:=x
    exact⟨z,y,xs,Paired.mapP r fun p q z=>⟨z.1,ht _ _ z.2.1,z.2.2⟩,ob,es,ep,k _ _ (.inl rfl) e,c⟩
  | set S n=>obtain⟨ob,es,ep,t,e,c⟩:=x;exact⟨ob,es,ep,t,k _ _ (.inl rfl) e,c⟩
  | ins C dx fs=>
    obtain⟨d,z,ne,e,mA,⟨od,es,ep,e2,c⟩,r⟩:=x
    exact⟨ho _ d,z,ne,k _ _ (.inl rfl) e,mA,⟨od,es,ep,k _ _ (.inr d) e2,c⟩,r⟩
  | own y=>obtain⟨ob,e⟩:=x;exact⟨ob,k _ _ (.inl rfl) e⟩
  | xd fs=>obtain⟨mA,⟨od,es,ep,e,c⟩,r⟩:=x;exact⟨mA,⟨od,es,ep,k _ _ (.inl rfl) e,c⟩,r⟩
  | rng lo hi=>obtain⟨t,u,v,e⟩:=x;exact⟨t,u,v,k _ _ (.inl rfl) e⟩
  | frz ob u ih=>obtain⟨e,q⟩:=x;exact⟨k _ _ (.inl rfl) e,ih q⟩
  | tbl ps=>
    have e:h.get? a=some {cls:=.none,data:=.fields ps}:=x
    show h'.get? a=some {cls:=.none,data:=.fields ps}
    exact k a _ (.inl rfl) e
  | met f y=>
    have e:h.get? a=some (PySem.W.methodObj (.ref f) (.ref y)):=x
    show h'.get? a=some (PySem.W.methodObj (.ref f) (.ref y))
    exact k a _ (.inl rfl) e
  | ext φ=>obtain⟨p,⟨o,e⟩,st⟩:=x;exact⟨st _ _ p fun o q=>k _ _ (.inl rfl) q,⟨o,k _ _ (.inl rfl) e⟩,st⟩
theorem mX.lt(x:mX P w H h)(e:H a=some o):a < h.objs.size:=(x a o e).lt
theorem mX.fresh(x:mX P w H h)(e:h.objs.size≤a):H a=none:=by
  cases q:H a with
  | none=>rfl
  | some u=>exact absurd (Nat.lt_of_lt_of_le (x.lt q) e) (Nat.lt_irrefl _)
theorem mX.kept(x:mX P w H h)(k:∀b u,h.get? b=some u→h'.get? b=some u):mX P w H h':=fun a o e=>
  (x a o e).stay (fun b u _ q=>k b u q) (fun _ q=>q) fun _ _ q=>q
theorem mX.laid(x:mX P w H h)(k:∀b u,h.get? b=some u→h'.get? b=some u)(hp:h.objs.size≤a)(new:gG P w (bj H a o) h' a o):mX P w (bj H a o) h':=fun b u e=>by
  have hn:=x.fresh hp
  by_cases hb:b=a
  · subst hb;rw [ax] at e;cases e;exact new
  · rw [aA hb] at e
    exact(x b u e).stay (fun c v _ q=>k c v q) (fun c q=>by rw [aA (eh q hn)];exact q) fun c xs q=>by rw [aA (eh q hn)];exact q
end
def Rd(H:Hp)(a:Addr)(u:HO):Prop:=H a=some u∨∃o,H a=some (.frz o u)
theorem Rd.ok{P:Program}{w:World}{H:Hp}{h:Heap}{a:Addr}{u:HO}(r:Rd H a u)(x:mX P w H h):gG P w H h a u:=by
  rcases r with r | ⟨o,r⟩
  · exact x a u r
  · obtain⟨_,q⟩:=x a _ r
    exact q
def EJ:Option HO→Prop
  | some (.lst _)=>True
  | some (.dK _)=>True
  | some (.dT _)=>True
  | some (.set _ _)=>True
  | some (.ins _ _ _)=>True
  | some (.ext _)=>True
  | _=>False
section
variable{P:Program}{w:World}{H:Hp}{h h':Heap}{x e:Addr}{o':HO}
theorem mX.write(ok:mX P w H h)(mu:EJ (H x))(he:e=x∨H e=some (.own x))(k:∀b u,b≠e→h.get? b=some u→h'.get? b=some u)(heo:∃u,h'.get? e=some u)
    (new:gG P w (bj H x o') h' x o'):mX P w (bj H x o') h':=fun b u q=>by
  have nown:∀c y,H c=some (.own y)→c≠x:=fun c y r z=>by subst z;rw [r] at mu;exact mu
  have ntup:∀c xs,H c=some (.tup xs)→c≠x:=fun c xs r z=>by subst z;rw [r] at mu;exact mu
  by_cases hb:b=x
  · subst hb;rw [ax] at q;cases q;exact new
  · rw [aA hb] at q
    by_cases hbe:b=e
    · have q':H b=some (.own x):=by
        rcases he with z | z
        · exact absurd (hbe.trans z) hb
        · rw [hbe];exact z
      rw [q] at q';cases q'
      obtain⟨v,hv⟩:=heo
      exact⟨v,by rw [hbe];exact hv⟩
    · refine(ok b u q).stay (fun c v hc r=>k c v ?_ r) (fun c r=>by rw [aA (nown c b r)];exact r) fun c xs r=>by rw [aA (ntup c xs r)];exact r
      rcases hc with rfl | hc
      · exact hbe
      · rintro rfl
        rcases he with z | z
        · exact nown c b hc z
        · rw [hc] at z;cases z;exact hb rfl
end
structure Un (fs ex:List Addr) (H H':Hp) (h h':Heap):Prop where
  keep:∀b o,h.get? b=some o→H b=none→b∉fs→b∉ex→h'.get? b=some o
  slot:∀b o,h.get? b=some o→H b=none→b∈fs→b∉ex→∃sl,h'.get? b=some {o with slots:=sl}
  free:∀b o,h.get? b=some o→H b=none→b∉ex→H' b=none
  there:∀b o,h.get? b=some o→b∉ex→∃o',h'.get? b=some o'
  tups:∀b xs,H b=some (.tup xs)→H' b=some (.tup xs)
  frzs:∀b o u,H b=some (.frz o u)→H' b=some (.frz o u)
  tbls:∀b ps,H b=some (.tbl ps)→∃more,H' b=some (.tbl (ps++more))
section
variable{fs fs' ex ex':List Addr}{H H1 H2:Hp}{h h1 h2 h':Heap}{a x e:Addr}{o:HO}
theorem Un.any(u:Un fs ex H H1 h h1){b:Addr}{ob:Obj}(q:h.get? b=some ob)(n:H b=none)(hx:b∉ex):∃sl,h1.get? b=some {ob with slots:=sl}:=by
  by_cases hb:b∈fs
  · exact u.slot b ob q n hb hx
  · exact⟨ob.slots,u.keep b ob q n hb hx⟩
theorem Un.kept(k:∀b u,h.get? b=some u→h'.get? b=some u):Un fs ex H H h h':=
  ⟨fun b ob q _ _ _=>k b ob q,fun b ob q _ _ _=>⟨ob.slots,k b ob q⟩,fun _ _ _ n _=>n,fun b ob q _=>⟨ob,k b ob q⟩,fun _ _ q=>q,fun _ _ _ q=>q,fun _ ps q=>⟨#[],by rw [q];simp⟩⟩
theorem Un.refl:Un fs ex H H h h:=Un.kept fun _ _ q=>q
theorem Un.laid(k:∀b u,h.get? b=some u→h'.get? b=some u)(hp:h.objs.size≤a)(hn:H a=none):Un fs ex H (bj H a o) h h' where
  keep:=fun b u q _ _ _=>k b u q
  slot:=fun b u q _ _ _=>⟨u.slots,k b u q⟩
  free:=fun b u q n _=>by rw [aA (Nat.ne_of_lt (Nat.lt_of_lt_of_le (Heap.lt_size q) hp))];exact n
  there:=fun b u q _=>⟨u,k b u q⟩
  tups:=fun b xs q=>by rw [aA (eh q hn)];exact q
  frzs:=fun b u xs q=>by rw [aA (eh q hn)];exact q
  tbls:=fun b ps q=>⟨#[],by rw [aA (eh q hn),q];simp⟩
theorem Un.write(mu:EJ (H x))(he:e=x∨H e=some (.own x))(k:∀b u,b≠e→h.get? b=some u→h'.get? b=some u)(heo:∃u,h'.get? e=some u):Un fs ex H (bj H x o) h h':=by
  have hx:∀b,H b=none→b≠x:=fun b n z=>by subst z;rw [n] at mu;exact mu
  have hb:∀b,H b=none→b≠e:=fun b n z=>by
    subst z
    rcases he with r | r
    · exact hx b n r
    · rw [n] at r;cases r
  have hm:∀b u,H b=some u→¬EJ (some u)→b≠x:=fun b u q nm z=>by subst z;rw [q] at mu;exact nm mu
  refine⟨fun b u q n _ _=>k b u (hb b n) q,fun b u q n _ _=>⟨u.slots,k b u (hb b n) q⟩,fun b u q n _=>by rw [aA (hx b n)];exact n,fun b u q _=>?_,
    fun b xs q=>by rw [aA (hm b _ q fun z=>z)];exact q,fun b u xs q=>by rw [aA (hm b _ q fun z=>z)];exact q,fun b ps q=>⟨#[],by rw [aA (hm b _ q fun z=>z),q];simp⟩⟩
  by_cases hbe:b=e
  · subst hbe;exact heo
  · exact⟨u,k b u hbe q⟩
end
def EU(h:Heap)(H:Hp):List Addr:=(List.range h.objs.size).filter fun a=>(H a).isSome
def qb(h:Heap)(H:Hp):Heap:=PySem.W.hideAll h (EU h H)
theorem vi(h:Heap)(H:Hp):(qb h H).objs.size=h.objs.size:=PySem.W.hideAll_size _ _
theorem wX{h:Heap}{H:Hp}{b:Addr}{o:Obj}(e:h.get? b=some o)(n:H b=none):(qb h H).get? b=some o:=
  PySem.W.hideAll_get _ e fun hm=>by
    have q:(H b).isSome=true:=(List.mem_filter.mp hm).2
    rw [n] at q;simp at q
theorem zq{h:Heap}{H:Hp}{b:Addr}{o:Obj}(e:(qb h H).get? b=some o):h.get? b=some o∧H b=none:=by
  have e':h.get? b=some o:=PySem.W.of_hideAll (EU h H) e
  refine⟨e',?_⟩
  cases q:H b with
  | none=>rfl
  | some x=>
    have hm:b∈EU h H:=List.mem_filter.mpr ⟨List.mem_range.mpr (Heap.lt_size e'),by simp [q]⟩
    have z:(qb h H).get? b=none:=PySem.W.hideAll_none (EU h H) hm
    rw [z] at e;cases e
def pW(g h:Heap)(L:Addr):List (Addr × Obj):=(List.range h.objs.size).filterMap fun a=>if a=L∨(g.get? a).isSome=true then none else(h.get? a).map fun o=>(a,o)
theorem nI{g h:Heap}{L:Addr}{p:Addr × Obj}(hp:p∈pW g h L):p.1≠L∧g.get? p.1=none∧h.get? p.1=some p.2:=by
  obtain⟨b,_,e⟩:=List.mem_filterMap.mp hp
  split at e
  · cases e
  · rename_i hn
    cases q:h.get? b with
    | none=>rw [q] at e;simp at e
    | some u=>
      rw [q] at e
      simp only [Option.map_some,Option.some.injEq] at e
      subst e
      refine⟨fun z=>hn (.inl z),?_,q⟩
      show g.get? b=none
      cases r:g.get? b with
      | none=>rfl
      | some v=>exact(hn (.inr (by simp [r]))).elim
def eT(g h:Heap)(L d:Addr):List (Addr × Obj):=(pW g h L).filter fun p=>decide (p.1≠d)
theorem xq{g h:Heap}{L:Addr}:News g L h (pW g h L):=fun p hp=>let ⟨a,b,c⟩:=nI hp;⟨c,a,b⟩
end L2
namespace L2
open PySem PySem.Spec PyProof.Rows
structure Mod (K:PySem.W.Frag) (mg:Str→Option Value) (base:Heap):Prop where
  kin:K.In base
  glob:base.Ns mainGlobals mg
  blt:∃mb,base.Ns builtinsNs mb∧∀x:Str,x≠"__name__"→mb x=bootBuiltins x
  nolimit:base.NoLimit
structure Cx where
  prog:Program
  w:World
  K:PySem.W.Frag
  mg:Str→Option Value
  base:Heap
  A:Around
  N:List Str
  s₀:Shared
  H₀:Hp
  env:Env
  outer:List Env
  stack:List Env
  ex:List Addr
  fn:Str→Bool
  calm:Bool
  pn:List (Addr × Obj)
  xe:Value→Shared→Prop
def wM(l:List Env):List Addr:=l.filterMap (·.frame)
abbrev Cx.fs(X:Cx):List Addr:=wM X.outer
def yL(sc:Scope)(x:Str):Prop:=sc.names.lookup x=some .local∨sc.names.lookup x=some .cell∨sc.names.lookup x=some .free
def Br(sc:Scope)(x:Str):Prop:=sc.names.lookup x=some .local∨sc.names.lookup x=some .cell
def E1(env:Env)(h:Heap)(m:Str→Option Value)(x:Str)(u:Value):Prop:=
  (env.kindOf x=some .local∧m x=some u)∨((env.kindOf x=some .cell∨env.kindOf x=some .free)∧∃c,env.cells.lookup x=some c∧h.IsCell c (some u))
structure Cx.Ok (X:Cx):Prop where
  mod:Mod X.K X.mg X.base
  kind:X.env.scope.kind=.function
  glob:X.env.globals=mainGlobals
  blt:X.env.builtins=builtinsNs
  above:X.s₀.heap.objs.size≤X.env.locals
  inj:∀x y c,X.env.cells.lookup x=some c→X.env.cells.lookup y=some c→x=y
  has:∀x,(X.env.kindOf x=some .cell∨X.env.kindOf x=some .free)→∃c,X.env.cells.lookup x=some c
  cab:∀x c,X.fn x=true→X.env.cells.lookup x=some c→X.s₀.heap.objs.size≤c
  hd:X.calm=true→X.A.handled=none
  frames:X.A.frames=some X.stack
  stk:X.stack=X.outer∨(X.stack=X.env::X.outer∧X.env.frame=some X.env.locals)
  exf:∀b∈X.ex,b≠X.env.locals∧∀x c,X.env.cells.lookup x=some c→c≠b
  bs:∀b o,X.base.get? b=some o→X.s₀.heap.get? b=some o∧X.H₀ b=none
  bsz:X.base.objs.size≤X.s₀.heap.objs.size
  noex:∀b o,X.base.get? b=some o→b∉X.ex
  exfs:∀b∈X.ex,b∉X.fs
  funs:X.s₀.heap.FunFrames X.base X.outer
  frf:∀b∈X.fs,X.H₀ b=none
structure aF (X:Cx) (pins:List (Addr × Obj)) (σ:List (Option V)) (H:Hp) (s:Shared):Prop where
  ok:X.Ok
  os:s.os=X.s₀.os
  bare:AllBare s.gens
  base:Un X.fs X.ex X.H₀ H X.s₀.heap s.heap
  loc:∃m,s.heap.Ns X.env.locals m∧∀(i:Nat) (x:Str) (v:V),X.N[i]?=some x→σ[i]?=some (some v)→yL X.env.scope x→∃u,bI v u∧E1 X.env s.heap m x u
  cell:∀x c,X.env.cells.lookup x=some c→∃v,s.heap.IsCell c v
  free:H X.env.locals=none
  freeC:∀x c,X.env.cells.lookup x=some c→H c=none
  pin:∀p∈X.pn++pins,s.heap.get? p.1=some p.2∧H p.1=none∧p.1≠X.env.locals∧p.1∉X.fs∧∀v,p.2.data≠.cell v
  hok:mX X.prog X.w H s.heap
  len:σ.length=X.N.length
section
variable{X:Cx}{pins:List (Addr × Obj)}{σ:List (Option V)}{H H':Hp}{s:Shared}{h':Heap}
theorem Cx.Ok.nofr(ok:X.Ok){b:Addr}{o:Obj}(e:X.base.get? b=some o):b∉X.fs:=fun hb=>by
  have:=(ok.funs.mem hb).1
  rw [e] at this;cases this
theorem aF.bs(I:aF X pins σ H s):∀b o,X.base.get? b=some o→s.heap.get? b=some o∧H b=none:=fun b o e=>
  ⟨I.base.keep b o (I.ok.bs b o e).1 (I.ok.bs b o e).2 (I.ok.nofr e) (I.ok.noex b o e),I.base.free b o (I.ok.bs b o e).1 (I.ok.bs b o e).2 (I.ok.noex b o e)⟩
theorem aF.bk(I:aF X pins σ H s):∀b o,X.base.get? b=some o→s.heap.get? b=some o:=fun b o e=>(I.bs b o e).1
theorem aF.mod(I:aF X pins σ H s):Mod X.K X.mg X.base:=I.ok.mod
theorem aF.kIn(I:aF X pins σ H s):X.K.In s.heap:=I.ok.mod.kin.keeps I.bk
theorem aF.fr(I:aF X pins σ H s):∃m,Fr X.base X.env.locals s.heap m:=
  let ⟨m,hn,_⟩:=I.loc
  ⟨m,hn,I.bk,Nat.le_trans I.ok.bsz I.ok.above⟩
theorem aF.lt(I:aF X pins σ H s):X.env.locals < s.heap.objs.size:=let ⟨_,hn,_⟩:=I.loc;hn.lt
theorem aF.sz(I:aF X pins σ H s):X.s₀.heap.objs.size≤s.heap.objs.size:=Nat.le_trans I.ok.above (Nat.le_of_lt I.lt)
theorem aF.nofs(I:aF X pins σ H s){a:Addr}(h:s.heap.objs.size≤a):a∉X.fs:=fun hb=>by
  obtain⟨_,o,ho,_⟩:=I.ok.funs.mem hb
  exact absurd (Nat.lt_of_lt_of_le (Heap.lt_size ho) (Nat.le_trans I.sz h)) (Nat.lt_irrefl _)
theorem aF.cne(I:aF X pins σ H s):∀x c,X.env.cells.lookup x=some c→c≠X.env.locals:=fun x c e z=>by
  obtain⟨v,o,ho,hd⟩:=I.cell x c e
  obtain⟨m,⟨o',es,ep,ho',hd',_⟩,_⟩:=I.loc
  rw [z,ho'] at ho;cases ho;rw [hd'] at hd;cases hd
theorem aF.funs(I:aF X pins σ H s):s.heap.FunFrames X.base X.outer:=by
  have all:∀(l:List Env),(∀b∈wM l,b∈X.fs)→X.s₀.heap.FunFrames X.base l→s.heap.FunFrames X.base l:=by
    intro l
    induction l with
    | nil=>intro _ _;trivial
    | cons env r ih=>
      intro hs hl
      obtain⟨hk,⟨L,o,hf,hn,ho,hd⟩,hr⟩:=hl
      have hL:L∈X.fs:=hs L (by unfold wM;rw [List.filterMap_cons,hf];exact List.mem_cons_self)
      obtain⟨sl,e⟩:=I.base.slot L o ho (I.ok.frf L hL) hL fun z=>I.ok.exfs L z hL
      exact⟨hk,⟨L,_,hf,hn,e,hd⟩,ih (fun b hb=>hs b (by unfold wM;rw [List.filterMap_cons,hf];exact List.mem_cons_of_mem _ hb)) hr⟩
  exact all X.outer (fun _ hb=>hb) I.ok.funs
theorem aF.stack(I:aF X pins σ H s):s.heap.FunFrames X.base X.stack:=by
  rcases I.ok.stk with e | ⟨e,hf⟩
  · rw [e];exact I.funs
  · rw [e]
    obtain⟨m,hn,_⟩:=I.loc
    refine .cons (by rw [I.ok.kind];decide) hf hn ?_ I.funs
    exact Heap.get?_none_of_le (Nat.le_trans I.ok.bsz I.ok.above)
theorem aF.stkSub(I:aF X pins σ H s):∀b∈wM X.stack,b∈X.env.locals::X.fs:=fun b hb=>by
  rcases I.ok.stk with e | ⟨e,hf⟩
  · rw [e] at hb;exact List.mem_cons_of_mem _ hb
  · rw [e] at hb
    unfold wM at hb
    rw [List.filterMap_cons,hf] at hb
    exact hb
theorem aF.stkFree(I:aF X pins σ H s):∀b∈wM X.stack,H b=none:=fun b hb=>by
  rcases List.mem_cons.mp (I.stkSub b hb) with e | hb
  · rw [e];exact I.free
  · obtain⟨_,o,ho,_⟩:=I.ok.funs.mem hb
    exact I.base.free b o ho (I.ok.frf b hb) fun z=>I.ok.exfs b z hb
theorem aF.step{g':Array GenState}{t':Nat}{d':Drawn}{ch:List Addr}(I:aF X pins σ H s)
    (hch:∀b∈ch,(b∈X.ex∨X.s₀.heap.objs.size≤b)∧b≠X.env.locals∧(∀x c,X.env.cells.lookup x=some c→c≠b)∧∀p∈X.pn++pins,p.1≠b)
    (keep:∀b o,b≠X.env.locals→b∉X.fs→b∉ch→s.heap.get? b=some o→H b=none→h'.get? b=some o)
    (slot:∀b o,b≠X.env.locals→b∈X.fs→b∉ch→s.heap.get? b=some o→H b=none→∃sl,h'.get? b=some {o with slots:=sl})(free:∀b o,b∉ch→s.heap.get? b=some o→H b=none→H' b=none)
    (there:∀b o,b∉ch→s.heap.get? b=some o→∃o',h'.get? b=some o')
    (tups:∀b xs,H b=some (.tup xs)→H' b=some (.tup xs))(frzs:∀b o u,H b=some (.frz o u)→H' b=some (.frz o u))(tbls:∀b ps,H b=some (.tbl ps)→∃more,H' b=some (.tbl (ps++more)))
    (ns:∀m,s.heap.Ns X.env.locals m→h'.Ns X.env.locals m)(hok:mX X.prog X.w H' h')(hg:AllBare g'):
    aF X pins σ H' {s with heap:=h',gens:=g',drawn:=d',toks:=t'}:=by
  have neL:∀b o,X.s₀.heap.get? b=some o→b≠X.env.locals:=fun b o e=>Nat.ne_of_lt (Nat.lt_of_lt_of_le (Heap.lt_size e) I.ok.above)
  have neC:∀b o,X.s₀.heap.get? b=some o→b∉X.ex→b∉ch:=fun b o e hx hb=>by
    rcases(hch b hb).1 with z | z
    · exact hx z
    · exact absurd (Nat.lt_of_lt_of_le (Heap.lt_size e) z) (Nat.lt_irrefl _)
  have cellK:∀x c,X.env.cells.lookup x=some c→∀v,s.heap.IsCell c v→h'.IsCell c v:=fun x c e v ⟨o,ho,hd⟩=>by
    have nch:c∉ch:=fun z=>(hch c z).2.2.1 x c e rfl
    by_cases hc:c∈X.fs
    · obtain⟨sl,q⟩:=slot c o (I.cne x c e) hc nch ho (I.freeC x c e)
      exact⟨_,q,hd⟩
    · exact⟨o,keep c o (I.cne x c e) hc nch ho (I.freeC x c e),hd⟩
  refine⟨I.ok,I.os,hg,⟨fun b o e n hb hx=>?_,fun b o e n hb hx=>?_,fun b o e n hx=>?_,fun b o e hx=>?_,fun b xs e=>tups b xs (I.base.tups b xs e),fun b o xs e=>frzs b o xs (I.base.frzs b o xs e),fun b ps e=>?_⟩,?_,fun x c e=>?_,?_,fun x c e=>?_,fun p hp=>?_,hok,I.len⟩
  · exact keep b o (neL b o e) hb (neC b o e hx) (I.base.keep b o e n hb hx) (I.base.free b o e n hx)
  · obtain⟨sl,e1⟩:=I.base.slot b o e n hb hx
    obtain⟨sl',e2⟩:=slot b _ (neL b o e) hb (neC b o e hx) e1 (I.base.free b o e n hx)
    exact⟨sl',e2⟩
  · obtain⟨o',e1⟩:=I.base.there b o e hx
    exact free b o' (neC b o e hx) e1 (I.base.free b o e n hx)
  · obtain⟨o',e1⟩:=I.base.there b o e hx
    exact there b o' (neC b o e hx) e1
  · obtain⟨m1,e1⟩:=I.base.tbls b ps e
    obtain⟨m2,e2⟩:=tbls b _ e1
    exact⟨m1++m2,by rw [e2,Array.append_assoc]⟩
  · obtain⟨m,hn,hl⟩:=I.loc
    refine⟨m,ns m hn,fun i x v e1 e2 e3=>?_⟩
    obtain⟨u,r,l⟩:=hl i x v e1 e2 e3
    refine⟨u,r,?_⟩
    rcases l with l | ⟨k,c,e,z⟩
    · exact .inl l
    · exact .inr ⟨k,c,e,cellK x c e _ z⟩
  · obtain⟨v,z⟩:=I.cell x c e
    exact⟨v,cellK x c e v z⟩
  · obtain⟨m,⟨o,_,_,ho,_⟩,_⟩:=I.loc
    exact free _ o (fun z=>(hch _ z).2.1 rfl) ho I.free
  · obtain⟨v,o,ho,hd⟩:=I.cell x c e
    exact free c o (fun z=>(hch c z).2.2.1 x c e rfl) ho (I.freeC x c e)
  · obtain⟨e,n,ne,nf,d⟩:=I.pin p hp
    have nch:p.1∉ch:=fun z=>(hch p.1 z).2.2.2 p hp rfl
    exact⟨keep p.1 p.2 ne nf nch e n,free p.1 p.2 nch e n,ne,nf,d⟩
theorem aF.un{t':Nat}(I:aF X pins σ H s)(u:Un X.fs [] H H' s.heap h')(hok:mX X.prog X.w H' h'):aF X pins σ H' {s with heap:=h',toks:=t'}:=by
  obtain⟨m,⟨o,es,ep,ho,r⟩,_⟩:=id I.loc
  obtain⟨sl,hL⟩:=u.any ho I.free (by simp)
  exact I.step (g':=s.gens) (d':=s.drawn) (ch:=[]) (fun _ z=>nomatch z) (fun b o _ hb _ e n=>u.keep b o e n hb (by simp)) (fun b o _ hb _ e n=>u.slot b o e n hb (by simp)) (fun b o _ e n=>u.free b o e n (by simp)) (fun b o _ e=>u.there b o e (by simp)) u.tups u.frzs u.tbls (fun m' hm=>by
    obtain⟨o',es',ep',ho',r'⟩:=hm
    rw [ho] at ho';cases ho'
    exact⟨_,es',ep',hL,r'⟩) hok I.bare
theorem aF.call{g':Array GenState}{t':Nat}{d':Drawn}{ch:List Addr}(I:aF X pins σ H s)(u:Un (wM X.stack) ch H H' s.heap h')(hok:mX X.prog X.w H' h')(hg:AllBare g')
    (hch:∀b∈ch,(b∈X.ex∨X.s₀.heap.objs.size≤b)∧b≠X.env.locals∧(∀x c,X.env.cells.lookup x=some c→c≠b)∧∀p∈X.pn++pins,p.1≠b):
    aF X pins σ H' {s with heap:=h',gens:=g',drawn:=d',toks:=t'}:=by
  obtain⟨m,⟨o,es,ep,ho,r⟩,_⟩:=id I.loc
  obtain⟨sl,hL⟩:=u.any ho I.free fun z=>(hch _ z).2.1 rfl
  exact I.step (ch:=ch) hch (fun b o hL hb hc e n=>u.keep b o e n (fun z=>(List.mem_cons.mp (I.stkSub b z)).elim hL hb) hc) (fun b o _ _ hc e n=>u.any e n hc) (fun b o hc e n=>u.free b o e n hc) (fun b o hc e=>u.there b o e hc) u.tups u.frzs u.tbls (fun m' hm=>by
    obtain⟨o',es',ep',ho',r'⟩:=hm
    rw [ho] at ho';cases ho'
    exact⟨_,es',ep',hL,r'⟩) hok hg
theorem aF.turned{t':Nat}{it:Addr}(I:aF X pins σ H s)(k:∀b o,b≠it→s.heap.get? b=some o→h'.get? b=some o)(hn:H it=none)(hL:it≠X.env.locals)
    (h1:it∈X.ex∨X.s₀.heap.objs.size≤it)(h2:∀x c,X.env.cells.lookup x=some c→c≠it)(h3:∀p∈X.pn++pins,p.1≠it):aF X pins σ H {s with heap:=h',toks:=t'}:=by
  have nit:∀b u,H b=some u→b≠it:=fun b u e z=>by rw [z,hn] at e;cases e
  refine I.step (g':=s.gens) (d':=s.drawn) (ch:=[it]) (fun b hb=>?_) (fun b o _ _ hc e _=>k b o (fun z=>hc (by simp [z])) e) (fun b o _ _ hc e _=>⟨o.slots,k b o (fun z=>hc (by simp [z])) e⟩) (fun _ _ _ _ n=>n)
    (fun b o hc e=>⟨o,k b o (fun z=>hc (by simp [z])) e⟩) (fun _ _ e=>e) (fun _ _ _ e=>e) (fun b ps e=>⟨#[],by rw [e];simp⟩) (fun m hm=>?_) (fun b u e=>?_) I.bare
  · have e:b=it:=by simpa using hb
    subst e
    exact⟨h1,hL,h2,h3⟩
  · obtain⟨o,es,ep,ho,r⟩:=hm
    exact⟨o,es,ep,k _ o (Ne.symm hL) ho,r⟩
  · refine(I.hok b u e).stay (fun c v hc q=>k c v ?_ q) (fun _ q=>q) fun _ _ q=>q
    rcases hc with z | z
    · rw [z];exact nit b u e
    · exact nit c _ z
theorem aF.tok(I:aF X pins σ H s)(t:Nat):aF X pins σ H {s with toks:=t}:=I.un (h':=s.heap) (t':=t) Un.refl I.hok
theorem aF.kept{t':Nat}(I:aF X pins σ H s)(k:∀b u,s.heap.get? b=some u→h'.get? b=some u):aF X pins σ H {s with heap:=h',toks:=t'}:=I.un (Un.kept k) (I.hok.kept k)
theorem aF.laid{a:Addr}{o:HO}{t':Nat}(I:aF X pins σ H s)(k:∀b u,s.heap.get? b=some u→h'.get? b=some u)(hp:s.heap.objs.size≤a)(new:gG X.prog X.w (bj H a o) h' a o):
    aF X pins σ (bj H a o) {s with heap:=h',toks:=t'}:=I.un (Un.laid k hp (I.hok.fresh hp)) (I.hok.laid k hp new)
theorem aF.write{x e:Addr}{o:HO}{t':Nat}(I:aF X pins σ H s)(mu:EJ (H x))(he:e=x∨H e=some (.own x))(k:∀b u,b≠e→s.heap.get? b=some u→h'.get? b=some u)(heo:∃u,h'.get? e=some u)
    (new:gG X.prog X.w (bj H x o) h' x o):aF X pins σ (bj H x o) {s with heap:=h',toks:=t'}:=I.un (Un.write mu he k heo) (I.hok.write mu he k heo new)
theorem aF.pins_of{pins':List (Addr × Obj)}(I:aF X pins σ H s)(h:∀p∈pins',s.heap.get? p.1=some p.2∧H p.1=none∧p.1≠X.env.locals∧p.1∉X.fs∧∀v,p.2.data≠.cell v):aF X pins' σ H s:=
  ⟨I.ok,I.os,I.bare,I.base,I.loc,I.cell,I.free,I.freeC,fun p hp=>(List.mem_append.mp hp).elim (fun z=>I.pin p (List.mem_append_left _ z)) (h p),I.hok,I.len⟩
theorem rD{N:List Str}(hN:N.Nodup){i j:Nat}{x:Str}(a:N[i]?=some x)(b:N[j]?=some x):i=j:=by
  obtain⟨h1,e1⟩:=List.getElem?_eq_some_iff.mp a
  obtain⟨h2,e2⟩:=List.getElem?_eq_some_iff.mp b
  exact(List.getElem_inj hN).mp (e1.trans e2.symm)
theorem vQ{M:Model}{A:Around}{E:Value→Shared→Prop}{i:Nat}{x:Str}{v:V}{u:Value}{Q:Unit→Shared→Prop}(I:aF X pins σ H s)(hN:X.N.Nodup)(hi:X.N[i]?=some x)(hx:Br X.env.scope x)(r:bI v u)
    (h:∀s',aF X pins (σ.set i (some v)) H s'→(∃a,Heap.SameBut a s.heap s'.heap∧(a=X.env.locals∨X.env.cells.lookup x=some a))→Q () s')(hf:X.fn x=true∨X.env.scope.names.lookup x=some .local:=by first | exact .inl rfl | exact .inr rfl | assumption):wpAny M A (storeName X.env x u) Q E s:=by
  obtain⟨m,hn,hl⟩:=id I.loc
  have hcls:(X.env.scope.kind==.class || (X.env.scope.kind==.module&&X.env.locals != X.env.globals))=false:=by rw [I.ok.kind];rfl
  have hiσ:i < σ.length:=by rw [I.len];exact(List.getElem?_eq_some_iff.mp hi).1
  have cne:=I.cne
  have tracked:∀{a:Addr} {h':Heap},(∃o,s.heap.get? a=some o∧H a=none)→Heap.SameBut a s.heap h'→mX X.prog X.w H h':=fun{a h'} ha hs b ob e=>by
    obtain⟨_,_,hfree⟩:=ha
    refine(I.hok b ob e).stay (fun c w' hc q=>(hs.2 c ?_).trans q) (fun _ q=>q) fun _ _ q=>q
    rintro rfl
    rcases hc with rfl | hc
    · rw [hfree] at e;cases e
    · rw [hfree] at hc;cases hc
  rcases hx with hk | hk
  · refine wpAny_storeName_local hk hn (fun h' hn' hs=>?_) hcls
    obtain⟨oL,_,_,hoL,_⟩:=id hn
    refine h _ ⟨I.ok,I.os,I.bare,⟨fun b o e n hb hx=>?_,fun b o e n hb hx=>?_,I.base.free,fun b o e hx=>?_,I.base.tups,I.base.frzs,I.base.tbls⟩,⟨_,hn',fun j y v' e1 e2 e3=>?_⟩,fun y c e=>?_,I.free,I.freeC,fun p hp=>?_,tracked ⟨oL,hoL,I.free⟩ hs,by simpa using I.len⟩ ⟨_,hs,.inl rfl⟩
    · exact(hs.2 b (Nat.ne_of_lt (Nat.lt_of_lt_of_le (Heap.lt_size e) I.ok.above))).trans (I.base.keep b o e n hb hx)
    · obtain⟨sl,e1⟩:=I.base.slot b o e n hb hx
      exact⟨sl,(hs.2 b (Nat.ne_of_lt (Nat.lt_of_lt_of_le (Heap.lt_size e) I.ok.above))).trans e1⟩
    · obtain⟨o',e1⟩:=I.base.there b o e hx
      exact⟨o',(hs.2 b (Nat.ne_of_lt (Nat.lt_of_lt_of_le (Heap.lt_size e) I.ok.above))).trans e1⟩
    · by_cases hj:j=i
      · subst hj
        rw [hi] at e1;cases e1
        rw [List.getElem?_set_self hiσ] at e2
        cases e2
        exact⟨u,r,.inl ⟨hk,by simp⟩⟩
      · rw [List.getElem?_set_ne (Ne.symm hj)] at e2
        obtain⟨u',r',q⟩:=hl j y v' e1 e2 e3
        refine⟨u',r',?_⟩
        rcases q with ⟨k,e⟩ | ⟨k,c,e,z⟩
        · refine .inl ⟨k,?_⟩
          have:y≠x:=fun e=>hj (rD hN e1 (e ▸ hi))
          simp [this,e]
        · exact .inr ⟨k,c,e,z.sameBut hs (cne y c e)⟩
    · obtain⟨w',z⟩:=I.cell y c e
      exact⟨w',z.sameBut hs (cne y c e)⟩
    · obtain⟨e,n,ne,nf,d⟩:=I.pin p hp
      exact⟨(hs.2 p.1 ne).trans e,n,ne,nf,d⟩
  · have hfn:X.fn x=true:=by
      rcases hf with z | z
      · exact z
      · rw [z] at hk;cases hk
    obtain⟨c,hc⟩:=I.ok.has x (.inl hk)
    obtain⟨w',z⟩:=I.cell x c hc
    refine wpAny_storeName_cell I.ok.kind hk hc z (fun h' hc' hs=>?_)
    obtain⟨oc,hoc,hocd⟩:=id z
    refine h {s with heap:=h'} ⟨I.ok,I.os,I.bare,⟨fun b o e n hb hx=>?_,fun b o e n hb hx=>?_,I.base.free,fun b o e hx=>?_,I.base.tups,I.base.frzs,I.base.tbls⟩,⟨m,hn.sameBut hs (Ne.symm (cne x c hc)),fun j y v' e1 e2 e3=>?_⟩,fun y c' e=>?_,I.free,I.freeC,fun p hp=>?_,tracked ⟨oc,hoc,I.freeC x c hc⟩ hs,by simpa using I.len⟩ ⟨c,hs,.inr hc⟩
    · exact(hs.2 b (Nat.ne_of_lt (Nat.lt_of_lt_of_le (Heap.lt_size e) (I.ok.cab x c hfn hc)))).trans (I.base.keep b o e n hb hx)
    · obtain⟨sl,e1⟩:=I.base.slot b o e n hb hx
      exact⟨sl,(hs.2 b (Nat.ne_of_lt (Nat.lt_of_lt_of_le (Heap.lt_size e) (I.ok.cab x c hfn hc)))).trans e1⟩
    · obtain⟨o',e1⟩:=I.base.there b o e hx
      exact⟨o',(hs.2 b (Nat.ne_of_lt (Nat.lt_of_lt_of_le (Heap.lt_size e) (I.ok.cab x c hfn hc)))).trans e1⟩
    · by_cases hj:j=i
      · subst hj
        rw [hi] at e1;cases e1
        rw [List.getElem?_set_self hiσ] at e2
        cases e2
        exact⟨u,r,.inr ⟨.inl hk,c,hc,hc'⟩⟩
      · rw [List.getElem?_set_ne (Ne.symm hj)] at e2
        obtain⟨u',r',q⟩:=hl j y v' e1 e2 e3
        refine⟨u',r',?_⟩
        rcases q with q | ⟨k,c',e,z'⟩
        · exact .inl q
        · refine .inr ⟨k,c',e,z'.sameBut hs ?_⟩
          rintro rfl
          exact hj (rD hN e1 (I.ok.inj _ _ _ e hc ▸ hi))
    · by_cases hcc:c'=c
      · subst hcc;exact⟨_,hc'⟩
      · obtain⟨w2,z2⟩:=I.cell y c' e
        exact⟨w2,z2.sameBut hs hcc⟩
    · obtain⟨e,n,ne,nf,d⟩:=I.pin p hp
      refine⟨(hs.2 p.1 ?_).trans e,n,ne,nf,d⟩
      intro q
      rw [q,hoc] at e
      have q':oc=p.2:=Option.some.inj e
      exact d w' (by rw [←q'];exact hocd)
theorem lD{M:Model}{A:Around}{E:Value→Shared→Prop}{i:Nat}{x:Str}{v:V}{u:Value}{Q:Unit→Shared→Prop}(I:aF X pins σ H s)(hN:X.N.Nodup)(hi:X.N[i]?=some x)(hx:Br X.env.scope x)(r:bI v u)
    (h:∀s',aF X pins (σ.set i (some v)) H s'→Q () s')(hf:X.fn x=true∨X.env.scope.names.lookup x=some .local:=by first | exact .inl rfl | exact .inr rfl | assumption):wpAny M A (storeName X.env x u) Q E s:=
  vQ I hN hi hx r (fun s' I' _=>h s' I') hf
theorem aF.call'{s':Shared}{ch:List Addr}(I:aF X pins σ H s)(ho:s'.os=s.os)(u:Un (wM X.stack) ch H H' s.heap s'.heap)(hok:mX X.prog X.w H' s'.heap)(hg:AllBare s'.gens)
    (hch:∀b∈ch,(b∈X.ex∨X.s₀.heap.objs.size≤b)∧b≠X.env.locals∧(∀x c,X.env.cells.lookup x=some c→c≠b)∧∀p∈X.pn++pins,p.1≠b):aF X pins σ H' s':=by
  obtain⟨h',g',d',t',o'⟩:=s'
  have e:o'=s.os:=ho
  subst e
  exact I.call (g':=g') (t':=t') (d':=d') u hok hg hch
end
abbrev XK:=Value→Option Addr→Hp→Prop
abbrev St:=List (Option V)
abbrev VK:=V→Hp→Prop
abbrev TE:=St→Hp→VK→Prop
abbrev TT:=St→Hp→(Bool→Hp→Prop)→Prop
abbrev TA:=St→Hp→(List V→Hp→Prop)→Prop
structure sr where
  nx:St→Hp→Prop
  rt:VK
  bk:St→Hp→Prop:=fun _ _=>False
  ct:St→Hp→Prop:=fun _ _=>False
abbrev TS:=sr→St→Hp→Prop
def EP(X:Cx)(pins:List (Addr × Obj))(σ:St)(Q:VK)(u:Value)(s':Shared):Prop:=∃v H',aF X pins σ H' s'∧bI v u∧Q v H'
def TP(X:Cx)(pins:List (Addr × Obj))(σ:St)(Q:Bool→Hp→Prop)(b:Bool)(s':Shared):Prop:=∃H',aF X pins σ H' s'∧Q b H'
def AP(X:Cx)(pins:List (Addr × Obj))(σ:St)(Q:List V→Hp→Prop)(us:List Value)(s':Shared):Prop:=∃vs H',aF X pins σ H' s'∧aR vs us∧Q vs H'
def SP(X:Cx)(pins:List (Addr × Obj))(D:sr)(f:Flow)(s':Shared):Prop:=
  match f with
  | .next=>∃σ' H',aF X pins σ' H' s'∧D.nx σ' H'
  | .brk=>∃σ' H',aF X pins σ' H' s'∧D.bk σ' H'
  | .cont=>∃σ' H',aF X pins σ' H' s'∧D.ct σ' H'
  | .ret u=>∃v σ' H',aF X pins σ' H' s'∧bI v u∧D.rt v H'
def PE(X:Cx)(e:Expr)(t:TE):Prop:=
  ∀(pins:List (Addr × Obj)) (s:Shared) (σ:St) (H:Hp) (Q:VK),aF X pins σ H s→t σ H Q→wpAny (model X.prog X.w) X.A (eval e X.env) (EP X pins σ Q) X.xe s
def PT(X:Cx)(e:Expr)(t:TT):Prop:=
  ∀(pins:List (Addr × Obj)) (s:Shared) (σ:St) (H:Hp) (Q:Bool→Hp→Prop),aF X pins σ H s→t σ H Q→wpAny (model X.prog X.w) X.A (isTrue e X.env (eval e X.env)) (TP X pins σ Q) X.xe s
def PW(X:Cx)(e:Expr)(t:TT):Prop:=
  ∀(whole:Sem Value) (pins:List (Addr × Obj)) (s:Shared) (σ:St) (H:Hp) (Q:Bool→Hp→Prop),aF X pins σ H s→t σ H Q→wpAny (model X.prog X.w) X.A (isTrue e X.env whole) (TP X pins σ Q) X.xe s
theorem PW.pt{X:Cx}{e:Expr}{t:TT}(h:PW X e t):PT X e t:=h _
def PA(X:Cx)(es:List Expr)(t:TA):Prop:=
  ∀(pos:Pos) (pins:List (Addr × Obj)) (s:Shared) (σ:St) (H:Hp) (Q:List V→Hp→Prop),aF X pins σ H s→t σ H Q→wpAny (model X.prog X.w) X.A (spliced (backTo pos (starEach es X.env))) (AP X pins σ Q) X.xe s
def PS(X:Cx)(st:Stmt)(t:TS):Prop:=
  ∀(pins:List (Addr × Obj)) (s:Shared) (σ:St) (H:Hp) (D:sr),aF X pins σ H s→t D σ H→wpAny (model X.prog X.w) X.A (exec st X.env) (SP X pins D) X.xe s
def mD(X:Cx)(st:List Stmt)(t:TS):Prop:=
  ∀(pins:List (Addr × Obj)) (s:Shared) (σ:St) (H:Hp) (D:sr),aF X pins σ H s→t D σ H→wpAny (model X.prog X.w) X.A (execs st X.env) (SP X pins D) X.xe s
theorem ci{α:Type}{t:Sem α}{Q Q':α→Shared→Prop}{M:Model}{A:Around}{E:Value→Shared→Prop}{s:Shared}(h:wpAny M A t Q E s)(hQ:∀a s,Q a s→Q' a s):wpAny M A t Q' E s:=wpAny_mono h hQ fun _ _ x=>x
end L2
namespace L2
open PySem PySem.Spec PyProof.Rows
section
variable{X:Cx}
def EA(i:Nat):TE:=fun σ H Q=>∃v,σ[i]?=some (some v)∧Q v H
def tC(v:V):TE:=fun _ H Q=>Q v H
theorem lR{i:Nat}{x:Str}{pos:Pos}(hN:X.N[i]?=some x)(hv:yL X.env.scope x)(hd:(x==("__debug__":Str))=false:=by decide)(hcd:(x==("__classdict__":Str))=false:=by decide):PE X (.Name x pos) (EA i):=by
  intro pins s σ H Q I h
  obtain⟨v,e,h⟩:=h
  obtain⟨m,hn,hl⟩:=I.loc
  obtain⟨u,r,l⟩:=hl i x v hN e hv
  have fin:EP X pins σ Q u s:=⟨v,H,I,r,h⟩
  rcases l with ⟨hk,hm⟩ | ⟨hk,c,hc,hcell⟩
  · exact wpAny_Name (wpAny_loadName_local I.ok.kind hk hn hm fin) hd
  · rcases hk with hk | hk
    · exact wpAny_Name (wpAny_loadName_cell I.ok.kind hk hc hcell fin) hd
    · exact wpAny_Name (wpAny_loadName_free I.ok.kind hk hc hcell fin hcd) hd
theorem xH{i j pos}:PE X (.Constant (.int i) j pos) (tC (.int i)):=fun _ _ _ H _ I h=>wpAny_Constant_int ⟨.int i,H,I.tok _,⟨_,rfl⟩,h⟩
theorem D2{b j pos}:PE X (.Constant (.bool b) j pos) (tC (.bl b)):=fun _ _ _ H _ I h=>Constant_bool ⟨.bl b,H,I,rfl,h⟩
def Gl(X:Cx)(x:Str):Prop:=X.env.kindOf x=some .globalImplicit
theorem uu{E:Value→Shared→Prop}{pins:List (Addr × Obj)}{s:Shared}{σ:St}{H:Hp}{x:Str}{u:Value}{pos:Pos}{Q:Value→Shared→Prop}(I:aF X pins σ H s)(hg:Gl X x)(hm:X.mg x=some u)(h:Q u s)
    (hd:(x==("__debug__":Str))=false:=by decide):wpAny (model X.prog X.w) X.A (eval (.Name x pos) X.env) Q E s:=
  Calls.Name_function_global I.ok.kind hg (Calls.loadGlobal_global (by rw [I.ok.glob];exact I.mod.glob.keeps I.bk) hm h) hd
theorem gj{E:Value→Shared→Prop}{pins:List (Addr × Obj)}{s:Shared}{σ:St}{H:Hp}{x:Str}{u:Value}{pos:Pos}{Q:Value→Shared→Prop}(I:aF X pins σ H s)(hg:Gl X x)(hm:X.mg x=none)(hv:bootBuiltins x=some u)(h:Q u s)
    (hn:x≠"__name__":=by decide)(hd:(x==("__debug__":Str))=false:=by decide):wpAny (model X.prog X.w) X.A (eval (.Name x pos) X.env) Q E s:=by
  obtain⟨mb,h1,h2⟩:=I.mod.blt
  exact Calls.Name_function_global I.ok.kind hg (Calls.loadGlobal_builtin (by rw [I.ok.glob];exact I.mod.glob.keeps I.bk) hm (by rw [I.ok.blt];exact h1.keeps I.bk) ((h2 x hn).trans hv) h) hd
theorem zM{x:Str}{v:V}{u:Value}{pos:Pos}(hg:Gl X x)(hm:X.mg x=some u)(r:bI v u)(hd:(x==("__debug__":Str))=false:=by decide):PE X (.Name x pos) (tC v):=
  fun _ _ _ H _ I h=>uu I hg hm ⟨v,H,I,r,h⟩ hd
variable{a b:Expr}{ta tb:TE}{pos:Pos}
def tB(t:TE):TT:=fun σ H Q=>t σ H fun x H1=>∃c,x=.bl c∧Q c H1
theorem Cv{e:Expr}{t:TE}(h:PE X e t)(he:∀whole,isTrue e X.env whole=(do let v ←whole;standAt e.pos;holding [v] (truthy v)):=by intro _;rfl):PT X e (tB t):=by
  intro pins s σ H Q I hw
  refine isTrue_plain (ci (h pins s σ H _ I hw) fun v s1 ⟨x,H1,I1,r1,q1⟩=>?_) (he _)
  obtain⟨d,rfl,q⟩:=q1
  cases r1
  exact wpAny_truthy_bool ⟨H1,I1,q⟩
variable{tA tB':TT}{eT:List Expr}
def Em(t u:TT):TT:=fun σ H Q=>t σ H fun c H1=>if c=true then u σ H1 Q else Q false H1
def Gd(t u:TT):TT:=fun σ H Q=>t σ H fun c H1=>if c=true then Q true H1 else u σ H1 Q
def Et(t:TT):TT:=fun σ H Q=>t σ H fun c H1=>Q (!c) H1
theorem Ac(ha:PT X a tA):PW X (.BoolOp .And [a] pos) tA:=by
  intro wh pins s σ H Q I h
  refine isTrue_and (ci (ha pins s σ H Q I h) fun c s1 e=>?_)
  cases c with
  | true=>exact isTrue_and_nil e
  | false=>exact e
theorem Cz(ha:PT X a tA):PW X (.BoolOp .Or [a] pos) tA:=by
  intro wh pins s σ H Q I h
  refine isTrue_or (ci (ha pins s σ H Q I h) fun c s1 e=>?_)
  cases c with
  | false=>exact isTrue_or_nil e
  | true=>exact e
theorem Cy(ha:PT X a tA)(hb:PW X (.BoolOp .And (b::eT) pos) tB'):PW X (.BoolOp .And (a::b::eT) pos) (Em tA tB'):=by
  intro wh pins s σ H Q I h
  refine isTrue_and (ci (ha pins s σ H _ I h) fun c s1 ⟨H1,I1,q1⟩=>?_)
  cases c with
  | true=>exact hb wh pins s1 σ H1 Q I1 q1
  | false=>exact⟨H1,I1,q1⟩
theorem D8(ha:PT X a tA)(hb:PW X (.BoolOp .Or (b::eT) pos) tB'):PW X (.BoolOp .Or (a::b::eT) pos) (Gd tA tB'):=by
  intro wh pins s σ H Q I h
  refine isTrue_or (ci (ha pins s σ H _ I h) fun c s1 ⟨H1,I1,q1⟩=>?_)
  cases c with
  | true=>exact⟨H1,I1,q1⟩
  | false=>exact hb wh pins s1 σ H1 Q I1 q1
theorem Cu(ha:PT X a tA):PT X (.UnaryOp .Not a pos) (Et tA):=by
  intro pins s σ H Q I h
  exact isTrue_not (ha pins s σ H (fun c H1=>Q (!c) H1) I h)
def Eo(ta tb:TE):TE:=fun σ H Q=>ta σ H fun x H1=>∃c,x=.bl c∧if c=true then tb σ H1 Q else Q (.bl false) H1
def FL(ta tb:TE):TE:=fun σ H Q=>ta σ H fun x H1=>∃c,x=.bl c∧if c=true then Q (.bl true) H1 else tb σ H1 Q
def Eu(ta:TE):TE:=fun σ H Q=>ta σ H fun x H1=>∃c,x=.bl c∧Q (.bl (!c)) H1
theorem Ck{op}{t:TE}(h:PE X a t):PE X (.BoolOp op [a] pos) t:=fun pins s σ H Q I hw=>BoolOp_one (h pins s σ H Q I hw)
theorem Ci(ha:PE X a ta)(hb:PE X (.BoolOp .And (b::eT) pos) tb):PE X (.BoolOp .And (a::b::eT) pos) (Eo ta tb):=by
  intro pins s σ H Q I h
  refine BoolOp_and (ci (ha pins s σ H _ I h) fun v s1 ⟨x,H1,I1,r1,q1⟩=>?_)
  obtain⟨c,rfl,q1⟩:=q1
  cases r1
  refine wpAny_truthy_bool ?_
  cases c with
  | true=>exact hb pins s1 σ H1 Q I1 q1
  | false=>exact⟨.bl false,H1,I1,rfl,q1⟩
theorem D3(ha:PE X a ta)(hb:PE X (.BoolOp .Or (b::eT) pos) tb):PE X (.BoolOp .Or (a::b::eT) pos) (FL ta tb):=by
  intro pins s σ H Q I h
  refine BoolOp_or (ci (ha pins s σ H _ I h) fun v s1 ⟨x,H1,I1,r1,q1⟩=>?_)
  obtain⟨c,rfl,q1⟩:=q1
  cases r1
  refine wpAny_truthy_bool ?_
  cases c with
  | false=>exact hb pins s1 σ H1 Q I1 q1
  | true=>exact⟨.bl true,H1,I1,rfl,q1⟩
theorem Cj(ha:PE X a ta):PE X (.UnaryOp .Not a pos) (Eu ta):=by
  intro pins s σ H Q I h
  refine UnaryOp_ (ci (ha pins s σ H _ I h) fun v s1 ⟨x,H1,I1,r1,q1⟩=>?_)
  obtain⟨c,rfl,q1⟩:=q1
  cases r1
  exact not_of (wpAny_truthy_bool ⟨.bl (!c),H1,I1,rfl,q1⟩)
def Gv(t:TT)(ta tb:TE):TE:=fun σ H Q=>t σ H fun c H1=>if c=true then ta σ H1 Q else tb σ H1 Q
theorem xG{c:Expr}(hc:PT X c tA)(ha:PE X a ta)(hb:PE X b tb):PE X (.IfExp c a b pos) (Gv tA ta tb):=by
  intro pins s σ H Q I h
  refine wpAny_IfExp (ci (hc pins s σ H _ I h) fun d s1 ⟨H1,I1,q1⟩=>?_)
  cases d with
  | true=>exact ha pins s1 σ H1 Q I1 q1
  | false=>exact hb pins s1 σ H1 Q I1 q1
end
end L2
namespace L2
open PySem PySem.Spec PyProof.Rows
def cX(K:PySem.W.Frag)(H:Hp)(a:Addr)(xs:List V):Prop:=
  Rd H a (.lst xs)∨
    ∃(o:Obj) (its:Array Value) (n:Nat),K.lookup a=some o∧o.cls=.type "list"∧o.dict=none∧o.data=.seq its n∧its.size≤sizeLine∧aR xs its.toList
def cg(K:PySem.W.Frag)(H:Hp)(a:Addr)(xs:List V):Prop:=
  Rd H a (.tup xs)∨
    ∃(o:Obj) (its:Array Value) (n:Nat),K.lookup a=some o∧o.cls=.type "tuple"∧o.data=.seq its n∧its.size≤sizeLine∧aR xs its.toList
def E6:Value→Option V
  | .none=>some .non
  | .bool b=>some (.bl b)
  | .int i _=>some (.int i)
  | .str x _=>some (.str x)
  | .bytes b _=>some (.byt b)
  | .float b _=>some (.flt b)
  | .ref a=>some (.ref a)
  | .type n=>some (.ty n)
  | _=>none
theorem bI.abs{x:V}{u:Value}(r:bI x u):E6 u=some x:=by
  cases x with
  | non=>cases r;rfl
  | bl _=>cases r;rfl
  | int _=>obtain⟨t,rfl⟩:=r;rfl
  | str _=>obtain⟨t,rfl⟩:=r;rfl
  | byt _=>obtain⟨t,rfl⟩:=r;rfl
  | flt _=>obtain⟨t,rfl⟩:=r;rfl
  | ref _=>cases r;rfl
  | ty _=>cases r;rfl
theorem bI.inj{x y:V}{u:Value}(r:bI x u)(q:bI y u):x=y:=Option.some.inj (r.abs.symm.trans q.abs)
theorem aR.inj:∀{xs ys:List V} {us:List Value},aR xs us→aR ys us→xs=ys
  | _,_,_,.nil,.nil=>rfl
  | _,_,_,.cons r t,.cons r' t'=>by rw [r.inj r',aR.inj t t']
section
variable{X:Cx}{pins:List (Addr × Obj)}{σ:St}{H:Hp}{s:Shared}{a:Addr}{xs ys:List V}
theorem cX.of{K:PySem.W.Frag}(h:H a=some (.lst xs)):cX K H a xs:=.inl (.inl h)
theorem cg.of{K:PySem.W.Frag}(h:H a=some (.tup xs)):cg K H a xs:=.inl (.inl h)
theorem aF.list(I:aF X pins σ H s)(h:cX X.K H a xs):∃its:List Value,aR xs its∧PlainL s.heap a its.toArray∧xs.length≤sizeLine:=by
  rcases h with h | ⟨o,its,n,hk,hc,hd,hs,hz,r⟩
  · obtain⟨z,its,n,r,e⟩:=h.ok I.hok
    exact⟨its,r,⟨_,n,e,rfl,rfl,rfl⟩,z⟩
  · refine⟨its.toList,r,⟨o,n,I.kIn a o hk,hc,hd,by simpa using hs⟩,?_⟩
    have e:=r.length
    simp only [Array.length_toList] at e
    lia
theorem aF.tuple(I:aF X pins σ H s)(h:cg X.K H a xs):∃its:List Value,aR xs its∧IsTup s.heap a its.toArray∧xs.length≤sizeLine:=by
  rcases h with h | ⟨o,its,n,hk,hc,hs,hz,r⟩
  · obtain⟨z,its,r,p⟩:=h.ok I.hok
    exact⟨its,r,p,z⟩
  · refine⟨its.toList,r,⟨o,I.kIn a o hk,hc,n,by simpa using hs⟩,?_⟩
    have e:=r.length
    simp only [Array.length_toList] at e
    lia
theorem aF.list_inj(I:aF X pins σ H s)(h:cX X.K H a xs)(h':cX X.K H a ys):xs=ys:=by
  obtain⟨its,r,⟨o,n,e,_,_,d⟩,_⟩:=I.list h
  obtain⟨its',r',⟨o',n',e',_,_,d'⟩,_⟩:=I.list h'
  rw [e] at e';cases e'
  rw [d] at d'
  injection d' with d1 _
  have:its=its':=by simpa using congrArg Array.toList d1
  subst this
  exact r.inj r'
theorem aF.tuple_inj(I:aF X pins σ H s)(h:cg X.K H a xs)(h':cg X.K H a ys):xs=ys:=by
  obtain⟨its,r,⟨o,e,_,n,d⟩,_⟩:=I.tuple h
  obtain⟨its',r',⟨o',e',_,n',d'⟩,_⟩:=I.tuple h'
  rw [e] at e';cases e'
  rw [d] at d'
  injection d' with d1 _
  have:its=its':=by simpa using congrArg Array.toList d1
  subst this
  exact r.inj r'
end
abbrev Cx.wish(X:Cx)(E:Value→Shared→Prop):Cx:={X with xe:=E}
abbrev Cx.nox(X:Cx):Cx:=X.wish fun _ _=>False
theorem Cx.Ok.wish{X:Cx}(ok:X.Ok)(E:Value→Shared→Prop):(X.wish E).Ok:=
  ⟨ok.mod,ok.kind,ok.glob,ok.blt,ok.above,ok.inj,ok.has,ok.cab,ok.hd,ok.frames,ok.stk,ok.exf,ok.bs,ok.bsz,ok.noex,ok.exfs,ok.funs,ok.frf⟩
theorem Cx.Ok.unwish{X:Cx}{E:Value→Shared→Prop}(ok:(X.wish E).Ok):X.Ok:=
  ⟨ok.mod,ok.kind,ok.glob,ok.blt,ok.above,ok.inj,ok.has,ok.cab,ok.hd,ok.frames,ok.stk,ok.exf,ok.bs,ok.bsz,ok.noex,ok.exfs,ok.funs,ok.frf⟩
section
variable{X:Cx}{pins:List (Addr × Obj)}{σ:St}{H:Hp}{s:Shared}{E:Value→Shared→Prop}
theorem aF.wish(I:aF X pins σ H s)(E:Value→Shared→Prop):aF (X.wish E) pins σ H s:=⟨I.ok.wish E,I.os,I.bare,I.base,I.loc,I.cell,I.free,I.freeC,I.pin,I.hok,I.len⟩
theorem aF.unwish(I:aF (X.wish E) pins σ H s):aF X pins σ H s:=⟨I.ok.unwish,I.os,I.bare,I.base,I.loc,I.cell,I.free,I.freeC,I.pin,I.hok,I.len⟩
theorem SP.unwish{D:sr}{f:Flow}{s':Shared}(h:SP (X.wish E) pins D f s'):SP X pins D f s':=by
  cases f with
  | next=>obtain⟨σ',H',I,q⟩:=h;exact⟨σ',H',I.unwish,q⟩
  | brk=>obtain⟨σ',H',I,q⟩:=h;exact⟨σ',H',I.unwish,q⟩
  | cont=>obtain⟨σ',H',I,q⟩:=h;exact⟨σ',H',I.unwish,q⟩
  | ret u=>obtain⟨v,σ',H',I,r,q⟩:=h;exact⟨v,σ',H',I.unwish,r,q⟩
theorem mD.nox{st:List Stmt}{t:TS}(h:mD X.nox st t):mD X st t:=fun pins s σ H D I hw=>
  wpAny_mono (h pins s σ H D (I.wish _) hw) (fun _ _ q=>q.unwish) fun _ _ z=>False.elim z
end
section
variable{X:Cx}{st:Stmt}{eT:List Stmt}{t u:TS}{e:Expr}{te:TE}{pos:Pos}
def Es:TS:=fun D σ H=>D.nx σ H
def FR(t u:TS):TS:=fun D σ H=>t {D with nx:=u D} σ H
theorem zY:mD X [] Es:=fun _ _ σ H _ I h=>wpAny_execs_nil ⟨σ,H,I,h⟩
theorem xY(h1:PS X st t)(h2:mD X eT u):mD X (st::eT) (FR t u):=by
  intro pins s σ H D I h
  refine wpAny_execs_cons (ci (h1 pins s σ H {D with nx:=u D} I h) fun f s1 q=>?_)
  cases f with
  | next=>
    obtain⟨σ',H',I',q⟩:=q
    exact h2 pins s1 σ' H' D I' q
  | ret v=>exact q
  | brk=>exact q
  | cont=>exact q
theorem zZ(h1:PS X st t):mD X [st] t:=by
  intro pins s σ H D I h
  refine wpAny_execs_cons (ci (h1 pins s σ H D I h) fun f s1 q=>?_)
  cases f with
  | next=>exact wpAny_execs_nil q
  | ret v=>exact q
  | brk=>exact q
  | cont=>exact q
theorem aF.quiet{pins:List (Addr × Obj)}{σ:St}{H:Hp}{s:Shared}(I:aF X pins σ H s):interactive X.env=false:=by simp [interactive,I.ok.kind]
def Er(te:TE):TS:=fun D σ H=>te σ H fun _ H1=>D.nx σ H1
theorem zX(he:PE X e te)(hs:swapsWith e none pos.line X.env=pure false:=by rfl):PS X (.Expr e pos) (Er te):=by
  intro pins s σ H D I h
  exact wpAny_Expr_any (ci (he pins s σ H _ I h) fun v s1 ⟨x,H1,I1,r1,q1⟩=>⟨σ,H1,I1,q1⟩) I.quiet hs
def FQ(te:TE):TS:=fun D σ H=>te σ H D.rt
theorem Ct(he:PE X e te):PS X (.Return (some e) pos) (FQ te):=by
  intro pins s σ H D I h
  exact wpAny_Return_some (ci (he pins s σ H _ I h) fun v s1 ⟨x,H1,I1,r1,q1⟩=>⟨x,σ,H1,I1,r1,q1⟩)
def FF(c:TT)(t u:TS):TS:=fun D σ H=>c σ H fun b H1=>if b=true then t D σ H1 else u D σ H1
theorem D7{c:Expr}{a b:List Stmt}{tc:TT}(hc:PT X c tc)(ha:mD X a t)(hb:mD X b u):PS X (.If c a b pos) (FF tc t u):=by
  intro pins s σ H D I h
  refine wpAny_If (ci (hc pins s σ H _ I h) fun d s1 ⟨H1,I1,q1⟩=>?_)
  cases d with
  | true=>exact ha pins s1 σ H1 D I1 q1
  | false=>exact hb pins s1 σ H1 D I1 q1
end
abbrev TG:=V→St→Hp→(St→Hp→Prop)→Prop
abbrev yK:=List V→St→Hp→(St→Hp→Prop)→Prop
def PG(X:Cx)(target:Expr)(t:TG):Prop:=
  ∀(pins:List (Addr × Obj)) (s:Shared) (σ:St) (H:Hp) (v:V) (u:Value) (Q:St→Hp→Prop),aF X pins σ H s→bI v u→t v σ H Q→
    wpAny (model X.prog X.w) X.A (assign target X.env u) (fun _ s'=>∃σ' H',aF X pins σ' H' s'∧Q σ' H') X.xe s
def wb(X:Cx)(ts:List Expr)(t:yK):Prop:=
  ∀(pins:List (Addr × Obj)) (s:Shared) (σ:St) (H:Hp) (vs:List V) (us:List Value) (Q:St→Hp→Prop),aF X pins σ H s→aR vs us→t vs σ H Q→
    wpAny (model X.prog X.w) X.A (assignInOrder ((assignEach ts X.env).map (·.2)) us) (fun _ s'=>∃σ' H',aF X pins σ' H' s'∧Q σ' H') X.xe s
abbrev Bv:=V→V→V→Hp→(Hp→Prop)→Prop
def Dn(X:Cx)(t:Bv):Prop:=
  ∀(pins:List (Addr × Obj)) (s:Shared) (σ:St) (H:Hp) (o i v:V) (ov iv u:Value) (Q:Hp→Prop),aF X pins σ H s→bI o ov→bI i iv→bI v u→t o i v H Q→
    wpAny (model X.prog X.w) X.A (setItem ov iv u) (fun _ s'=>∃H',aF X pins σ H' s'∧Q H') X.xe s
section
variable{X:Cx}{pos:Pos}
def AY(i:Nat):TG:=fun v σ H Q=>Q (σ.set i (some v)) H
theorem zO{i:Nat}{x:Str}(hN:X.N.Nodup)(hi:X.N[i]?=some x)(hx:Br X.env.scope x)(hf:X.fn x=true∨X.env.scope.names.lookup x=some .local:=by first | exact .inl rfl | exact .inr rfl | assumption):PG X (.Name x pos) (AY i):=by
  intro pins s σ H v u Q I r h
  exact wpAny_assign_Name (lD I hN hi hx r (fun s' I'=>⟨_,H,I',h⟩) hf)
def E_:yK:=fun vs σ H Q=>vs=[]∧Q σ H
def Dy(t:TG)(u:yK):yK:=fun vs σ H Q=>∃v r,vs=v::r∧t v σ H fun σ' H'=>u r σ' H' Q
theorem zQ:wb X [] E_:=by
  intro pins s σ H vs us Q I r h
  obtain⟨e,h⟩:=h
  subst e
  cases r
  exact assignInOrder_nil ⟨σ,H,I,h⟩
theorem xN{e:Expr}{es:List Expr}{t:TG}{u:yK}(h1:PG X e t)(h2:wb X es u)
    (hs:(assignEach (e::es) X.env).map (·.2)=assign e X.env::(assignEach es X.env).map (·.2):=by rfl):wb X (e::es) (Dy t u):=by
  intro pins s σ H vs us Q I r h
  obtain⟨v,vr,e1,h⟩:=h
  subst e1
  cases r with
  | cons r rr=>
    rw [hs]
    refine assignInOrder_cons (ci (h1 pins s σ H _ _ _ I r h) fun _ s1 ⟨σ1,H1,I1,q1⟩=>?_)
    exact h2 pins s1 σ1 H1 _ _ Q I1 rr q1
def zc(K:PySem.W.Frag)(n:Nat)(t:yK):TG:=fun v σ H Q=>∃a xs,v=.ref a∧cg K H a xs∧xs.length=n∧t xs σ H Q
theorem Cn{es:List Expr}{k:Nat}{t:yK}{n:Nat}(hc:X.calm=true)(h:wb X es t)
    (hn:(assignEach es X.env).length=n:=by rfl)(hst:(assignEach es X.env).findIdx? (·.1)=none:=by rfl):PG X (.Tuple es k pos) (zc X.K n t):=by
  intro pins s σ H v u Q I r hw
  obtain⟨a,xs,e1,hq,hl,hw⟩:=hw
  subst e1
  cases r
  obtain⟨its,rv,ht,hz⟩:=I.tuple hq
  refine assign_Tuple_tuple (I.ok.hd hc) ht (by simp [hn,←hl,rv.length]) hst fun h' hx=>?_
  have I1:aF X pins σ H {s with heap:=h'}:=I.kept (t':=s.toks) fun b o e=>hx b o (Nat.ne_of_lt (Heap.lt_size e)) e
  exact h pins _ σ H xs _ Q I1 (by simpa using rv) hw
def Fc(to ti:TE)(t:Bv):TG:=fun v σ H Q=>to σ H fun o H1=>ti σ H1 fun i H2=>t o i v H2 fun H3=>Q σ H3
theorem xM{o i:Expr}{to ti:TE}{t:Bv}(ho:PE X o to)(hi:PE X i ti)(hs:Dn X t)
    (ha:∀v,assign (.Subscript o i pos) X.env v=(do
      let ov ←holding [v] (eval o X.env)
      let iv ←holding [v,ov] (eval i X.env)
      standAt pos
      holding [v,ov,iv] (setItem ov iv v)
      release [v,ov,iv] []):=by intro _;rfl):PG X (.Subscript o i pos) (Fc to ti t):=by
  intro pins s σ H v u Q I r h
  rw [ha]
  refine wpAny_bind (wpAny_holding (ci (ho pins s σ H _ I h) fun ov s1 ⟨x,H1,I1,r1,q1⟩=>?_))
  refine wpAny_bind (wpAny_holding (ci (hi pins s1 σ H1 _ I1 q1) fun iv s2 ⟨y,H2,I2,r2,q2⟩=>?_))
  refine wpAny_bind (wpAny_standAt (wpAny_bind (wpAny_holding (ci (hs pins s2 σ H2 x y v ov iv u _ I2 r1 r2 r q2) fun _ s3 ⟨H3,I3,q3⟩=>?_))))
  exact wpAny_release ⟨σ,H3,I3,q3⟩
def Ep(te:TE)(g:TG):TS:=fun D σ H=>te σ H fun x H1=>g x σ H1 D.nx
theorem s_{tg e:Expr}{te:TE}{g:TG}(he:PE X e te)(hg:PG X tg g)(hs:swapsWithSole [tg] e pos.line X.env=pure false:=by rfl)(hw:swappedStores [tg] e X.env=pure none:=by rfl)
    (h1:(assignEach [tg] X.env).map (·.2)=[assign tg X.env]:=by rfl):PS X (.Assign [tg] e pos) (Ep te g):=by
  intro pins s σ H D I h
  refine wpAny_Assign_stores (ci (he pins s σ H _ I h) fun v s1 ⟨x,H1,I1,r1,q1⟩=>?_) hs hw
  rw [h1]
  exact ci (hg pins s1 σ H1 x v _ I1 r1 q1) fun _ s2 q=>q
theorem xW{i:Nat}{x:Str}{e:Expr}{te:TE}{pos':Pos}(hN:X.N.Nodup)(hi:X.N[i]?=some x)(hx:Br X.env.scope x)(he:PE X e te)(hs:swapsWith e (some (.Name x pos')) pos.line X.env=pure false:=by rfl)(hf:X.fn x=true∨X.env.scope.names.lookup x=some .local:=by first | exact .inl rfl | exact .inr rfl | assumption):
    PS X (.Assign [.Name x pos'] e pos) (Ep te (AY i)):=by
  intro pins s σ H D I h
  refine wpAny_Assign_Name (ci (he pins s σ H _ I h) fun v s1 ⟨y,H1,I1,r1,q1⟩=>?_) hs
  exact lD I1 hN hi hx r1 (fun s2 I2=>⟨_,H1,I2,q1⟩) hf
def FP(i j:Nat)(ta:TA):TS:=fun D σ H=>ta σ H fun vs H1=>∃v w,vs=[v,w]∧D.nx ((σ.set i (some v)).set j (some w)) H1
theorem Cs{i j:Nat}{x y:Str}{a b:Expr}{ta:TA}{px py pt:Pos}{kt k2 pt2}(hc:X.calm=true)(hN:X.N.Nodup)(hi:X.N[i]?=some x)(hj:X.N[j]?=some y)(hij:i≠j)
    (hx:X.env.scope.names.lookup x=some .local)(hy:X.env.scope.names.lookup y=some .local)(ha:PA X [a,b] ta)
    (hw:swappedStores [.Tuple [.Name x px,.Name y py] kt pt] (.Tuple [a,b] k2 pt2) X.env=pure (some [x,y]))
    (hs:swapsWithSole [.Tuple [.Name x px,.Name y py] kt pt] (.Tuple [a,b] k2 pt2) pos.line X.env=pure false:=by rfl):
    PS X (.Assign [.Tuple [.Name x px,.Name y py] kt pt] (.Tuple [a,b] k2 pt2) pos) (FP i j ta):=by
  intro pins s σ H D I h
  rw [exec_Assign_arm]
  refine wpAny_bind (wpAny_standAt ?_)
  rw [hs]
  refine wpAny_bind (wpAny_pure ?_)
  rw [if_neg (by decide)]
  refine wpAny_bind (Tuple_ (ci (ha _ pins s σ H _ I h) fun us s1 ⟨vs,H1,I1,r1,q1⟩=>?_))
  obtain⟨v,w,e1,q1⟩:=q1
  subst e1
  obtain⟨u1,u2,rfl,rv,rw'⟩:∃u1 u2,us=[u1,u2]∧bI v u1∧bI w u2:=by
    cases r1 with
    | cons p q=>
      cases q with
      | cons p' q'=>
        cases q'
        exact⟨_,_,rfl,p,p'⟩
  refine wpAny_newObj_type ?_ (by show 2≤sizeLine;decide)
  have I2:aF X pins σ H1 {s1 with heap:=s1.heap.push {cls:=.type "tuple",data:=.seq [u1,u2].toArray}}:=I1.kept (t':=s1.toks) fun b o e=>Heap.get?_push_of_some _ e
  rw [hw]
  refine wpAny_bind (wpAny_pure ?_)
  show wpAny (model X.prog X.w) X.A (do rule "assign.swapped-stores";let items ←unpackItems (.ref s1.heap.objs.size) 2 none;assignInOrder [fun v=>bindName X.env y v,fun v=>bindName X.env x v] items.reverse;pure Flow.next) _ _ _
  refine wpAny_bind (wpAny_rule (wpAny_bind (unpackItems_tuple (items:=#[u1,u2]) (I.ok.hd hc) (IsTup.new s1.heap _) fun h' hx'=>?_)))
  have I3:=I2.kept (h':=h') (t':=s1.toks) fun b o e=>hx' b o (Nat.ne_of_lt (Heap.lt_size e)) e
  show wpAny _ _ (assignInOrder [fun v=>bindName X.env y v,fun v=>bindName X.env x v] [u2,u1] >>= fun _=>pure Flow.next) _ _ _
  refine wpAny_bind (assignInOrder_cons (wpAny_bindName (lD I3 hN hj (.inl hy) rw' (fun s2 I4=>?_) (.inr hy))))
  refine assignInOrder_cons (wpAny_bindName (lD I4 hN hi (.inl hx) rv (fun s3 I5=>assignInOrder_nil (wpAny_pure ?_)) (.inr hx)))
  rw [List.set_comm _ _ (Ne.symm hij)] at I5
  exact⟨_,H1,I5,q1⟩
end
section
variable{X:Cx}{pos:Pos}
def C1(c:TT)(tb:TS):TS:=fun D σ H=>∃W:Nat→St→Hp→Prop,(∃m,W m σ H)∧∀m σ H,W m σ H→
  c σ H fun b H1=>if b=true then ∃N:St→Hp→Prop,(∀σ' H',N σ' H'→∃m',m' < m∧W m' σ' H')∧tb {D with nx:=N,ct:=N,bk:=D.nx} σ H1 else D.nx σ H1
theorem xX{c:Expr}{body:List Stmt}{tc:TT}{tb:TS}(hp:PassesOwn (model X.prog X.w) X.A X.env X.xe)(hc:PT X c tc)(hb:mD X body tb):PS X (.While c body [] pos) (C1 tc tb):=by
  intro pins s σ H D I h
  obtain⟨W,⟨m0,w0⟩,turn⟩:=h
  refine wpAny_While (codeAny_whileLoop (fun n s'=>∃σ' H',aF X pins σ' H' s'∧W n σ' H') ?_ m0 ⟨σ,H,I,w0⟩)
  rintro n s1 ⟨σ1,H1,I1,w1⟩
  refine wpAny_passesOwn hp (ci (hc pins s1 σ1 H1 _ I1 (turn n σ1 H1 w1)) fun b s2 ⟨H2,I2,q2⟩=>?_)
  cases b with
  | true=>
    obtain⟨N,hN,q2⟩:=q2
    rw [if_pos rfl]
    refine wpAny_passesOwn hp (ci (hb pins s2 σ1 H2 _ I2 q2) fun f s3 q3=>?_)
    cases f with
    | next=>
      obtain⟨σ3,H3,I3,n3⟩:=q3
      obtain⟨m',hm,w3⟩:=hN σ3 H3 n3
      exact⟨m',hm,σ3,H3,I3,w3⟩
    | cont=>
      obtain⟨σ3,H3,I3,n3⟩:=q3
      obtain⟨m',hm,w3⟩:=hN σ3 H3 n3
      exact⟨m',hm,σ3,H3,I3,w3⟩
    | brk=>exact q3
    | ret v=>exact q3
  | false=>
    rw [if_neg Bool.false_ne_true]
    exact wpAny_execs_nil ⟨σ1,H2,I2,q2⟩
end
structure It where
  go:Nat→Hp→Prop
  yld:Nat→Hp→V→Hp→Prop
  stop:Nat→Hp→Prop
def hX(X:Cx)(pins:List (Addr × Obj))(H:Hp)(b:Addr):Prop:=
  H b=none∧b≠X.env.locals∧b∉X.fs∧(b∈X.ex∨X.s₀.heap.objs.size≤b)∧(∀x c,X.env.cells.lookup x=some c→c≠b)∧∀p∈X.pn++pins,p.1≠b
theorem aF.fpOk{X:Cx}{pins:List (Addr × Obj)}{σ:St}{H H':Hp}{s:Shared}{b:Addr}(I:aF X pins σ H s)(hb:s.heap.objs.size≤b)(hn:H' b=none):hX X pins H' b:=by
  refine⟨hn,Nat.ne_of_gt (Nat.lt_of_lt_of_le I.lt hb),I.nofs hb,.inr (Nat.le_trans I.sz hb),fun x c e z=>?_,fun p hp z=>?_⟩
  · obtain⟨v,q⟩:=I.cell x c e
    exact absurd (Nat.lt_of_lt_of_le q.lt (by rw [z];exact hb)) (Nat.lt_irrefl _)
  · exact absurd (Nat.lt_of_lt_of_le (Heap.lt_size (I.pin p hp).1) (by rw [z];exact hb)) (Nat.lt_irrefl _)
structure mY (P:Program) (w:World) (K:PySem.W.Frag) (tg:Expr) (J:It) (fp:List Addr) (it:Addr) (tn:Nat→Heap→Prop):Prop where
  mem:it∈fp
  obj:∀i h,tn i h→∀b∈fp,∃o,h.get? b=some o∧∀v,o.data≠.cell v
  keep:∀i h h',tn i h→(∀b∈fp,∀o,h.get? b=some o→h'.get? b=some o)→tn i h'
  item:∀(X:Cx),X.prog=P→X.w=w→X.K=K→X.calm=true→∀(i:Nat) (pins:List (Addr × Obj)) (s:Shared) (σ:St) (H:Hp) (E:Value→Shared→Prop),aF X pins σ H s→(∀b∈fp,hX X pins H b)→tn i s.heap→J.go i H→
    wpAny (model P w) X.A (pyNext (.ref it)) (fun r s1=>∃u,r=some u∧
      wpAny (model P w) X.A (letOwnedTupleGo tg (.ref it) u) (fun _ s2=>∃x H',aF X pins σ H' s2∧bI x u∧J.yld i H x H'∧tn (i+1) s2.heap∧∀b∈fp,H' b=none) E s1) E s
  done:∀(X:Cx),X.prog=P→X.w=w→X.K=K→X.calm=true→∀(i:Nat) (pins:List (Addr × Obj)) (s:Shared) (σ:St) (H:Hp) (E:Value→Shared→Prop),aF X pins σ H s→(∀b∈fp,hX X pins H b)→tn i s.heap→J.stop i H→
    wpAny (model P w) X.A (pyNext (.ref it)) (fun r s1=>r=none∧aF X pins σ H s1) E s
  self:∀(A:Around) (i:Nat) (s:Shared) (Q:Value→Shared→Prop) (E:Value→Shared→Prop),tn i s.heap→Q (.ref it) s→wpAny (model P w) A (pyIter (.ref it)) Q E s
abbrev TI:=St→Hp→(It→Hp→Prop)→Prop
def FY(X:Cx)(pins:List (Addr × Obj))(σ:St)(tg:Expr)(R:It→Hp→Prop)(itv:Value)(s2:Shared):Prop:=
  ∃(it:Addr) (fp:List Addr) (tn:Nat→Heap→Prop) (J:It) (H':Hp),itv=.ref it∧aF X pins σ H' s2∧mY X.prog X.w X.K tg J fp it tn∧tn 0 s2.heap∧(∀b∈fp,hX X pins H' b)∧R J H'
def PI(X:Cx)(tg iter:Expr)(wi:TI):Prop:=
  ∀(pins:List (Addr × Obj)) (s:Shared) (σ:St) (H:Hp) (R:It→Hp→Prop),aF X pins σ H s→wi σ H R→
    wpAny (model X.prog X.w) X.A (eval iter X.env) (fun v s1=>wpAny (model X.prog X.w) X.A (pyIter v) (FY X pins σ tg R) X.xe s1) X.xe s
theorem uk{M:Model}{A:Around}{E:Value→Shared→Prop}{s:Shared}{tg:Expr}{it:Addr}{u:Value}{o:Obj}{n:String}{vs:Array Value}{Q:Unit→Shared→Prop}(ho:s.heap.get? it=some o)(hc:o.cls=.type n)(hd:o.data=.fields vs)
    (hn:["enumerate","zip","dict_itemiterator","dict_reverseitemiterator","odict_iterator","itertools.zip_longest","itertools.pairwise"].contains n=false)(hQ:Q () s):wpAny M A (letOwnedTupleGo tg (.ref it) u) Q E s:=by
  unfold letOwnedTupleGo
  cases tg<;>first
    | exact wpAny_pure hQ
    | (cases u<;>first
        | exact wpAny_pure hQ
        | (refine wpAny_bind (wpAny_load ho ?_)
           rw [hc,hd]
           show wpAny M A (if (["enumerate","zip","dict_itemiterator","dict_reverseitemiterator","odict_iterator","itertools.zip_longest","itertools.pairwise"].contains n&&vs[0]?==some (rawInt _))=true then _ else _) Q E s
           rw [if_neg (by intro h;rw [hn,Bool.false_and] at h;cases h)]
           exact wpAny_pure hQ))
def EX(K:PySem.W.Frag)(a:Addr):It:=
  ⟨fun i H=>∃xs x,cX K H a xs∧xs[i]?=some x,fun i H x H'=>H'=H∧∀xs,cX K H a xs→xs[i]?=some x,fun i H=>∃xs,cX K H a xs∧xs.length≤i⟩
def EY(K:PySem.W.Frag)(a:Addr):It:=
  ⟨fun i H=>∃xs x,cg K H a xs∧xs[i]?=some x,fun i H x H'=>H'=H∧∀xs,cg K H a xs→xs[i]?=some x,fun i H=>∃xs,cg K H a xs∧xs.length≤i⟩
def EI(lo:Int)(n:Nat):It:=⟨fun i _=>i < n,fun i H x H'=>H'=H∧x=.int (lo+i),fun i _=>n≤i⟩
theorem vV{P:Program}{w:World}{K:PySem.W.Frag}{tg:Expr}(a it:Addr):mY P w K tg (EX K a) [it] it (fun i h=>h.IsListIter it a i) where
  mem:=by simp
  obj:=fun i h st b hb=>by
    have e:b=it:=by simpa using hb
    subst e
    obtain⟨o,e,c,d⟩:=st
    exact⟨o,e,fun v z=>by rw [d] at z;cases z⟩
  keep:=fun i h h' st k=>st.at fun o e=>k it (by simp) o e
  item:=by
    intro X hP hw hK hc i pins s σ H E I hf st hg
    subst hP hw hK
    obtain⟨xs,x,hq,hx⟩:=hg
    obtain⟨its,rv,p,hz⟩:=I.list hq
    obtain⟨u,hu,ru⟩:=rv.get hx
    obtain⟨f0,f1,f2,f3,f4,f5⟩:=hf it (by simp)
    refine wpAny_pyNext_list_item st p.isList (x:=u) (by simpa using hu) fun h' st' sb=>?_
    have I1:aF X pins σ H {s with heap:=h'}:=I.turned (t':=s.toks) (fun b o hb e=>(sb.2 b hb).trans e) f0 f1 f3 f4 f5
    obtain⟨o,e,c,d⟩:=id st'
    exact⟨u,rfl,uk (s:={s with heap:=h'}) e c d (by decide) ⟨x,H,I1,ru,⟨rfl,fun ys hy=>by rw [I.list_inj hy hq];exact hx⟩,st',fun b hb=>(hf b hb).1⟩⟩
  done:=by
    intro X hP hw hK hc i pins s σ H E I hf st hg
    subst hP hw hK
    obtain⟨xs,hq,hx⟩:=hg
    obtain⟨its,rv,p,hz⟩:=I.list hq
    obtain⟨f0,f1,f2,f3,f4,f5⟩:=hf it (by simp)
    have hl:=rv.length
    exact wpAny_pyNext_list_end (I.ok.hd hc) st p.isList (by simp;lia) fun h' eb=>⟨rfl,I.turned (t':=s.toks) (fun b o hb e=>eb b o hb e) f0 f1 f3 f4 f5⟩
  self:=fun _ _ _ _ _ st h=>wpAny_pyIter_listiter st h
theorem tK{P:Program}{w:World}{K:PySem.W.Frag}{tg:Expr}(a it:Addr):mY P w K tg (EY K a) [it] it (fun i h=>h.IsTupleIter it a i) where
  mem:=by simp
  obj:=fun i h st b hb=>by
    have e:b=it:=by simpa using hb
    subst e
    obtain⟨o,e,c,d⟩:=st
    exact⟨o,e,fun v z=>by rw [d] at z;cases z⟩
  keep:=fun i h h' st k=>st.at fun o e=>k it (by simp) o e
  item:=by
    intro X hP hw hK hc i pins s σ H E I hf st hg
    subst hP hw hK
    obtain⟨xs,x,hq,hx⟩:=hg
    obtain⟨its,rv,p,hz⟩:=I.tuple hq
    obtain⟨u,hu,ru⟩:=rv.get hx
    obtain⟨f0,f1,f2,f3,f4,f5⟩:=hf it (by simp)
    refine wpAny_pyNext_tuple_item st (show s.heap.IsTuple a its.toArray from p) (x:=u) (by simpa using hu) fun h' st' sb=>?_
    have I1:aF X pins σ H {s with heap:=h'}:=I.turned (t':=s.toks) (fun b o hb e=>(sb.2 b hb).trans e) f0 f1 f3 f4 f5
    obtain⟨o,e,c,d⟩:=id st'
    exact⟨u,rfl,uk (s:={s with heap:=h'}) e c d (by decide) ⟨x,H,I1,ru,⟨rfl,fun ys hy=>by rw [I.tuple_inj hy hq];exact hx⟩,st',fun b hb=>(hf b hb).1⟩⟩
  done:=by
    intro X hP hw hK hc i pins s σ H E I hf st hg
    subst hP hw hK
    obtain⟨xs,hq,hx⟩:=hg
    obtain⟨its,rv,p,hz⟩:=I.tuple hq
    obtain⟨f0,f1,f2,f3,f4,f5⟩:=hf it (by simp)
    have hl:=rv.length
    exact wpAny_pyNext_tuple_end (I.ok.hd hc) st (show s.heap.IsTuple a its.toArray from p) (by simp;lia) fun h' eb=>⟨rfl,I.turned (t':=s.toks) (fun b o hb e=>eb b o hb e) f0 f1 f3 f4 f5⟩
  self:=fun _ _ _ _ _ st h=>wpAny_pyIter_tupleiter st h
theorem tJ{P:Program}{w:World}{K:PySem.W.Frag}{tg:Expr}(it:Addr)(lo:Int)(n:Nat):mY P w K tg (EI lo n) [it] it (fun i h=>IsRangeIter h it (lo+(i:Nat)*1) ((n:Int) - (i:Nat)) 1) where
  mem:=by simp
  obj:=fun i h st b hb=>by
    have e:b=it:=by simpa using hb
    subst e
    exact⟨_,st,fun v z=>by
      have z':Data.fields _=Data.cell v:=z
      cases z'⟩
  keep:=fun i h h' st k=>k it (by simp) _ st
  item:=by
    intro X hP hw hK hc i pins s σ H E I hf st hg
    subst hP hw hK
    obtain⟨f0,f1,f2,f3,f4,f5⟩:=hf it (by simp)
    have W:=Walks.range (prog:=X.prog) (w:=X.w) (I.ok.hd hc) it lo 1 n
    refine W.item i s _ _ hg st fun v h' tk hv st' kk=>?_
    obtain⟨t,rfl⟩:=hv
    have I1:aF X pins σ H {s with heap:=h',toks:=tk}:=I.turned (fun b o hb e=>kk b o (by simpa using hb) e) f0 f1 f3 f4 f5
    refine⟨_,rfl,uk (s:={s with heap:=h',toks:=tk}) (n:="range_iterator") st' rfl rfl (by decide) ⟨.int (lo+i),H,I1,⟨t,?_⟩,⟨rfl,rfl⟩,st',fun b hb=>(hf b hb).1⟩⟩
    rw [Int.mul_one]
  done:=by
    intro X hP hw hK hc i pins s σ H E I hf st hg
    subst hP hw hK
    obtain⟨f0,f1,f2,f3,f4,f5⟩:=hf it (by simp)
    exact wpAny_pyNext_range_end (I.ok.hd hc) st (by have:n≤i:=hg;lia) fun h' eb=>⟨rfl,I.turned (t':=s.toks) (fun b o hb e=>eb b o hb e) f0 f1 f3 f4 f5⟩
  self:=fun _ _ _ _ _ st h=>wpAny_pyIter_rangeiter st h
end L2
namespace L2
open PySem PySem.Spec PyProof.Rows
section
variable{X:Cx}{tg:Expr}
def A0(K:PySem.W.Frag)(tl:TE):TI:=fun σ H R=>tl σ H fun x H1=>∃a,x=.ref a∧(∃xs,cX K H1 a xs)∧R (EX K a) H1
def DG(K:PySem.W.Frag)(tl:TE):TI:=fun σ H R=>tl σ H fun x H1=>∃a,x=.ref a∧(∃xs,cg K H1 a xs)∧R (EY K a) H1
theorem zR{l:Expr}{tl:TE}(hl:PE X l tl):PI X tg l (A0 X.K tl):=by
  intro pins s σ H R I h
  refine ci (hl pins s σ H _ I h) fun v s1 ⟨x,H1,I1,r1,q1⟩=>?_
  obtain⟨a,e,⟨xs,hq⟩,q⟩:=q1
  subst e
  cases r1
  obtain⟨its,rv,p,hz⟩:=I1.list hq
  refine wpAny_pyIter_list p.isList ?_
  refine⟨s1.heap.objs.size,[s1.heap.objs.size],_,_,H1,rfl,I1.kept (t':=s1.toks) fun b o e=>Heap.get?_push_of_some _ e,vV a _,⟨_,Heap.get?_push_size _ rfl,rfl,rfl⟩,fun b hb=>?_,q⟩
  have e:b=s1.heap.objs.size:=by simpa using hb
  subst e
  exact I1.fpOk (Nat.le_refl _) (I1.hok.fresh (Nat.le_refl _))
theorem Co{l:Expr}{tl:TE}(hl:PE X l tl):PI X tg l (DG X.K tl):=by
  intro pins s σ H R I h
  refine ci (hl pins s σ H _ I h) fun v s1 ⟨x,H1,I1,r1,q1⟩=>?_
  obtain⟨a,e,⟨xs,hq⟩,q⟩:=q1
  subst e
  cases r1
  obtain⟨its,rv,p,hz⟩:=I1.tuple hq
  refine wpAny_pyIter_tuple (show s1.heap.IsTuple a its.toArray from p) ?_
  refine⟨s1.heap.objs.size,[s1.heap.objs.size],_,_,H1,rfl,I1.kept (t':=s1.toks) fun b o e=>Heap.get?_push_of_some _ e,tK a _,⟨_,Heap.get?_push_size _ rfl,rfl,rfl⟩,fun b hb=>?_,q⟩
  have e:b=s1.heap.objs.size:=by simpa using hb
  subst e
  exact I1.fpOk (Nat.le_refl _) (I1.hok.fresh (Nat.le_refl _))
theorem ye{pins:List (Addr × Obj)}{σ:St}{H:Hp}{s:Shared}{R:It→Hp→Prop}{E:Value→Shared→Prop}{lo hi:Int}{t u v:Tok}{tk:Nat}(I:aF X pins σ H s)(h1: -(2 ^ 62)≤lo)(h2:lo < 2 ^ 62)(h3: -(2 ^ 62)≤hi)(h4:hi < 2 ^ 62)
    (q:R (EI lo (hi - lo).toNat) H):wpAny (model X.prog X.w) X.A (pyIter (.ref s.heap.objs.size)) (FY X pins σ tg R) E {s with heap:=s.heap.push {cls:=.type "range",data:=.fields #[.int lo t,.int hi u,.int 1 v]},toks:=tk}:=by
  refine wpAny_pyIter_range (IsRange.new ..) (small_one h1 h2 h3 h4) ?_
  have I1:aF X pins σ H {s with heap:=s.heap.push {cls:=.type "range",data:=.fields #[.int lo t,.int hi u,.int 1 v]},toks:=tk}:=I.kept fun b o e=>Heap.get?_push_of_some _ e
  refine⟨(s.heap.push {cls:=.type "range",data:=.fields #[.int lo t,.int hi u,.int 1 v]}).objs.size,[(s.heap.push {cls:=.type "range",data:=.fields #[.int lo t,.int hi u,.int 1 v]}).objs.size],_,_,H,rfl,
    I1.kept (t':=tk) fun b o e=>Heap.get?_push_of_some _ e,tJ _ lo (hi - lo).toNat,?_,fun b hb=>?_,q⟩
  · have e1:lo+((0:Nat):Int)*1=lo:=by simp
    have e2:(((hi - lo).toNat:Nat):Int) - ((0:Nat):Int)=Builtin.Range.rangeSize lo hi 1:=by rw [rangeSize_one];split<;>lia
    show IsRangeIter _ _ (lo+((0:Nat):Int)*1) ((((hi - lo).toNat:Nat):Int) - ((0:Nat):Int)) 1
    rw [e1,e2]
    exact Heap.get?_push_size _ rfl
  · have e:b=(s.heap.push {cls:=.type "range",data:=.fields #[.int lo t,.int hi u,.int 1 v]}).objs.size:=by simpa using hb
    subst e
    exact I1.fpOk (Nat.le_refl _) (I1.hok.fresh (Nat.le_refl _))
def DE(ta:TA):TI:=fun σ H R=>ta σ H fun vs H1=>∃j:Int,vs=[.int j]∧ -(2 ^ 62)≤j∧j < 2 ^ 62∧R (EI 0 j.toNat) H1
theorem vD{a:Expr}{ta:TA}{p pos:Pos}(hg:Gl X "range")(hm:X.mg "range"=none)(ha:PA X [a] ta)(hs:starEach [a] X.env=[(false,eval a X.env)]:=by rfl):PI X tg (.Call (.Name "range" p) [a] [] pos) (DE ta):=by
  intro pins s σ H R I h
  refine Call_ (gj I hg hm boot_range (PyProof.Rows.callWith_type1 (ci (ha pos pins s σ H _ I h) fun us s1 ⟨vs,H1,I1,r1,q1⟩=>?_) hs rfl))
  obtain⟨j,e,q1,q2,q⟩:=q1
  subst e
  cases r1 with
  | cons r rr=>
    cases rr
    obtain⟨t,rfl⟩:=r
    exact call_range_1 (ye I1 (by lia) (by lia) q1 q2 (by simpa using q))
def FD(wi:TI)(g:TG)(tb:TS):TS:=fun D σ H=>wi σ H fun J H1=>∃W:Nat→Nat→St→Hp→Prop,(∃m,W 0 m σ H1)∧∀i m σ H,W i m σ H→
  (J.stop i H∧D.nx σ H)∨(J.go i H∧∃N:St→Hp→Prop,(∀σ' H',N σ' H'→∃m',m' < m∧W (i+1) m' σ' H')∧∀x H',J.yld i H x H'→g x σ H' fun σ2 H2=>tb {D with nx:=N,ct:=N,bk:=D.nx} σ2 H2)
def kv(fp:List Addr)(h:Heap):List (Addr × Obj):=fp.filterMap fun b=>(h.get? b).map fun o=>(b,o)
theorem cP{fp:List Addr}{h:Heap}{b:Addr}{o:Obj}(hb:b∈fp)(e:h.get? b=some o):(b,o)∈kv fp h:=List.mem_filterMap.mpr ⟨b,hb,by rw [e];rfl⟩
theorem vt{fp:List Addr}{h:Heap}{p:Addr × Obj}(hp:p∈kv fp h):p.1∈fp∧h.get? p.1=some p.2:=by
  obtain⟨b,hb,e⟩:=List.mem_filterMap.mp hp
  cases q:h.get? b with
  | none=>rw [q] at e;cases e
  | some o=>
    rw [q] at e
    have e':(b,o)=p:=Option.some.inj e
    subst e'
    exact⟨hb,q⟩
theorem aF.pinned{pins:List (Addr × Obj)}{σ:St}{H:Hp}{s:Shared}{fp:List Addr}(I:aF X pins σ H s)(hf:∀b∈fp,hX X pins H b)(ho:∀b∈fp,∃o,s.heap.get? b=some o∧∀v,o.data≠.cell v):aF X (pins++kv fp s.heap) σ H s:=
  I.pins_of fun p hp=>(List.mem_append.mp hp).elim (fun z=>I.pin p (List.mem_append_right _ z)) fun z=>by
    obtain⟨hb,e⟩:=vt z
    obtain⟨f0,f1,f2,_⟩:=hf p.1 hb
    obtain⟨o,e',d⟩:=ho p.1 hb
    rw [e] at e';cases e'
    exact⟨e,f0,f1,f2,d⟩
theorem aF.unpinned{pins pl:List (Addr × Obj)}{σ:St}{H:Hp}{s:Shared}(I:aF X (pins++pl) σ H s):aF X pins σ H s:=I.pins_of fun p hp=>I.pin p (List.mem_append_right _ (List.mem_append_left _ hp))
theorem Cr{iter:Expr}{body:List Stmt}{wi:TI}{g:TG}{tb:TS}{pos:Pos}(hp:PassesOwn (model X.prog X.w) X.A X.env X.xe)(hc:X.calm=true)(hi:PI X tg iter wi)(hg:PG X tg g)(hb:mD X body tb)
    (hs:∀x,foldedSetIterable iter X.env x=pure x:=by intro _;rfl):PS X (.For tg iter body [] pos) (FD wi g tb):=by
  intro pins s σ H D I h
  refine wpAny_For (ci (hi pins s σ H _ I h) fun v s1 h1=>ci h1 fun itv s2 h2=>?_) hs
  obtain⟨it,fp,tn,J,H2,e,I2,T,st2,f2,W,⟨m0,w0⟩,turn⟩:=h2
  subst e
  have stat:∀{H':Hp},(∀b∈fp,H' b=none)→∀b∈fp,hX X pins H' b:=fun hn b hb=>⟨hn b hb,(f2 b hb).2⟩
  refine codeAny_forLoop_any (fun n s'=>∃i σ' H',aF X pins σ' H' s'∧tn i s'.heap∧(∀b∈fp,H' b=none)∧W i n σ' H') ?_ m0 ⟨0,σ,H2,I2,st2,fun b hb=>(f2 b hb).1,w0⟩
  rintro n s3 ⟨i,σ3,H3,I3,st3,fr3,w3⟩
  rcases turn i n σ3 H3 w3 with ⟨stop,qn⟩ | ⟨go,N,hN,step⟩
  · refine wpAny_passesOwn hp (ci (T.done X rfl rfl rfl hc i pins s3 σ3 H3 X.xe I3 (stat fr3) st3 stop) fun r s4 ⟨hr,I4⟩=>?_)
    subst hr
    exact wpAny_execs_nil ⟨σ3,H3,I4,qn⟩
  · refine wpAny_passesOwn hp (ci (T.item X rfl rfl rfl hc i pins s3 σ3 H3 X.xe I3 (stat fr3) st3 go) fun r s4 ⟨u,hr,h4⟩=>?_)
    subst hr
    refine wpAny_passesOwn hp (ci h4 fun _ s5 ⟨x,H5,I5,r5,y5,st5,fr5⟩=>?_)
    have I5':=I5.pinned (stat fr5) (T.obj _ _ st5)
    refine wpAny_passesOwn hp (ci (hg _ s5 σ3 H5 x u _ I5' r5 (step x H5 y5)) fun _ s6 ⟨σ6,H6,I6,q6⟩=>?_)
    refine wpAny_passesOwn hp (ci (hb _ s6 σ6 H6 _ I6 q6) fun f s7 q7=>?_)
    have again:∀{σ7:St} {H7:Hp},aF X (pins++kv fp s5.heap) σ7 H7 s7→N σ7 H7→∃m,m < n∧∃i σ' H',aF X pins σ' H' s7∧tn i s7.heap∧(∀b∈fp,H' b=none)∧W i m σ' H':=fun{σ7 H7} I7 n7=>by
      obtain⟨m',hm,w7⟩:=hN σ7 H7 n7
      refine⟨m',hm,i+1,σ7,H7,I7.unpinned,T.keep _ _ _ st5 fun b hb o e=>(I7.pin (b,o) (List.mem_append_right _ (List.mem_append_right _ (cP hb e)))).1,fun b hb=>?_,w7⟩
      obtain⟨o,e,d⟩:=T.obj _ _ st5 b hb
      exact(I7.pin (b,o) (List.mem_append_right _ (List.mem_append_right _ (cP hb e)))).2.1
    cases f with
    | next=>obtain⟨σ7,H7,I7,n7⟩:=q7;exact again I7 n7
    | cont=>obtain⟨σ7,H7,I7,n7⟩:=q7;exact again I7 n7
    | brk=>obtain⟨σ7,H7,I7,q7⟩:=q7;exact⟨σ7,H7,I7.unpinned,q7⟩
    | ret v=>obtain⟨x7,σ7,H7,I7,r7,q7⟩:=q7;exact⟨x7,σ7,H7,I7.unpinned,r7,q7⟩
end
end L2
namespace L2
open PySem PySem.Spec PyProof.Rows
abbrev R2:=V→V→Hp→VK→Prop
def i6(X:Cx)(f:Value→Value→Sem Value)(r:R2):Prop:=
  ∀(pins:List (Addr × Obj)) (s:Shared) (σ:St) (H:Hp) (x y:V) (v u:Value) (Q:VK),aF X pins σ H s→bI x v→bI y u→r x y H Q→
    wpAny (model X.prog X.w) X.A (f v u) (EP X pins σ Q) X.xe s
def EL(X:Cx)(f:Value→Sem Value)(r:V→Hp→VK→Prop):Prop:=
  ∀(pins:List (Addr × Obj)) (s:Shared) (σ:St) (H:Hp) (x:V) (v:Value) (Q:VK),aF X pins σ H s→bI x v→r x H Q→
    wpAny (model X.prog X.w) X.A (f v) (EP X pins σ Q) X.xe s
def ey(X:Cx)(f:Value)(r:List V→Hp→VK→Prop):Prop:=
  ∀(pins:List (Addr × Obj)) (s:Shared) (σ:St) (H:Hp) (xs:List V) (us:List Value) (Q:VK),aF X pins σ H s→aR xs us→r xs H Q→
    wpAny (model X.prog X.w) X.A (call f us) (EP X pins σ Q) X.xe s
def Ew(r:R2)(ta tb:TE):TE:=fun σ H Q=>ta σ H fun x H1=>tb σ H1 fun y H2=>r x y H2 Q
def Ge(r:V→Hp→VK→Prop)(ta:TE):TE:=fun σ H Q=>ta σ H fun x H1=>r x H1 Q
def rI(C:Int→Int→Prop)(g:Int→Int→V):R2:=fun x y H Q=>∃i j,x=.int i∧y=.int j∧C i j∧Q (g i j) H
def vH(g:Int→Int→V):R2:=fun x y H Q=>∃i j,x=.int i∧y=.int j∧Q (g i j) H
def rU(g:Int→V):V→Hp→VK→Prop:=fun x H Q=>∃i,x=.int i∧Q (g i) H
section
variable{X:Cx}{a b c:Expr}{ta tb tc:TE}{pos:Pos}
theorem Bw(ha:PE X a ta)(hb:PE X b tb){pins:List (Addr × Obj)}{s:Shared}{σ:St}{H:Hp}{R:V→V→Hp→Prop}(I:aF X pins σ H s)
    (h:ta σ H fun x H1=>tb σ H1 fun y H2=>R x y H2){Q:Value→Shared→Prop}{f:Value→Value→Sem Value}
    (hf:∀v u s2 x y H2,aF X pins σ H2 s2→bI x v→bI y u→R x y H2→wpAny (model X.prog X.w) X.A (f v u) Q X.xe s2):
    wpAny (model X.prog X.w) X.A (eval a X.env) (fun v s₁=>wpAny (model X.prog X.w) X.A (eval b X.env) (fun u s₂=>wpAny (model X.prog X.w) X.A (f v u) Q X.xe s₂) X.xe s₁) X.xe s:=by
  refine ci (ha pins s σ H _ I h) fun v s1 ⟨x,H1,I1,r1,q1⟩=>?_
  refine ci (hb pins s1 σ H1 _ I1 q1) fun u s2 ⟨y,H2,I2,r2,q2⟩=>?_
  exact hf v u s2 x y H2 I2 r1 r2 q2
theorem Bd{op:Operator}{r:R2}(ho:i6 X (binaryOp op) r)(ha:PE X a ta)(hb:PE X b tb):PE X (.BinOp a op b pos) (Ew r ta tb):=by
  intro pins s σ H Q I h
  exact wpAny_BinOp (Bw ha hb I h fun v u s2 x y H2 I2 rx ry q=>ho pins s2 σ H2 x y v u Q I2 rx ry q)
theorem D5{op:UnaryOp}{r:V→Hp→VK→Prop}(ho:EL X (unaryOp op) r)(ha:PE X a ta):PE X (.UnaryOp op a pos) (Ge r ta):=by
  intro pins s σ H Q I h
  exact UnaryOp_ (ci (ha pins s σ H _ I h) fun v s1 ⟨x,H1,I1,r1,q1⟩=>ho pins s1 σ H1 x v Q I1 r1 q1)
theorem DV{f:Value→Value→Sem Value}{C:Int→Int→Prop}{g:Int→Int→Int}
    (rule:∀(i j:Int) (t u:Tok) (s:Shared) (Q:Value→Shared→Prop) (E:Value→Shared→Prop),C i j→Q (.int (g i j) s.toks) {s with toks:=s.toks+1}→wpAny (model X.prog X.w) X.A (f (.int i t) (.int j u)) Q E s):
    i6 X f (rI C fun i j=>.int (g i j)):=by
  intro pins s σ H x y v u Q I rx ry h
  obtain⟨i,j,rfl,rfl,hc,q⟩:=h
  obtain⟨t,rfl⟩:=rx
  obtain⟨t',rfl⟩:=ry
  exact rule i j t t' s _ _ hc ⟨.int (g i j),H,I.tok _,⟨_,rfl⟩,q⟩
theorem DX{f:Value→Value→Sem Value}{g:Int→Int→Int}
    (rule:∀(i j:Int) (t u:Tok) (s:Shared) (Q:Value→Shared→Prop) (E:Value→Shared→Prop),Q (.int (g i j) s.toks) {s with toks:=s.toks+1}→wpAny (model X.prog X.w) X.A (f (.int i t) (.int j u)) Q E s):
    i6 X f (vH fun i j=>.int (g i j)):=by
  intro pins s σ H x y v u Q I rx ry h
  obtain⟨i,j,rfl,rfl,q⟩:=h
  obtain⟨t,rfl⟩:=rx
  obtain⟨t',rfl⟩:=ry
  exact rule i j t t' s _ _ ⟨.int (g i j),H,I.tok _,⟨_,rfl⟩,q⟩
theorem B5{f:Value→Value→Sem Value}{g:Int→Int→Bool}
    (rule:∀(i j:Int) (t u:Tok) (s:Shared) (Q:Value→Shared→Prop) (E:Value→Shared→Prop),Q (.bool (g i j)) s→wpAny (model X.prog X.w) X.A (f (.int i t) (.int j u)) Q E s):
    i6 X f (vH fun i j=>.bl (g i j)):=by
  intro pins s σ H x y v u Q I rx ry h
  obtain⟨i,j,rfl,rfl,q⟩:=h
  obtain⟨t,rfl⟩:=rx
  obtain⟨t',rfl⟩:=ry
  exact rule i j t t' s _ _ ⟨.bl (g i j),H,I,rfl,q⟩
def Bo(i j:Int):Prop:=0≤j∧j≤1000000∧i.natAbs < 2 ^ 64
def yP(i j:Int):Prop:=(-(2 ^ 64) < i∧i < 2 ^ 64)∨(-(2 ^ 64) < j∧j < 2 ^ 64)
theorem yP.ok{i j:Int}(h:yP i j):IntMulOk i j:=by
  rcases h with ⟨h1,h2⟩ | ⟨h1,h2⟩
  · exact .of_left (intBits_le_64 h1 h2)
  · exact .of_right (intBits_le_64 h1 h2)
theorem xC:i6 X (binaryOp .Add) (vH fun i j=>.int (i+j)):=DX fun _ _ _ _ _ _ _ q=>add_int q
theorem Cf:i6 X (binaryOp .Sub) (vH fun i j=>.int (i - j)):=DX fun _ _ _ _ _ _ _ q=>sub_int q
theorem Cb:i6 X (binaryOp .Mult) (rI yP fun i j=>.int (i*j)):=DV fun _ _ _ _ _ _ _ hc q=>mul_int q hc.ok
theorem zE:i6 X (binaryOp .Mod) (rI (fun _ j=>j≠0) fun i j=>.int (i.fmod j)):=DV fun _ _ _ _ _ _ _ hc q=>mod_int' hc q
theorem Cd:i6 X (binaryOp .Pow) (rI Bo fun i j=>.int (i ^ j.toNat)):=DV fun _ _ _ _ _ _ _ hc q=>pow_int_small hc.1 hc.2.1 hc.2.2 q
theorem Gy{f:Value→Sem Value}{g:Int→Int}
    (rule:∀(i:Int) (t:Tok) (s:Shared) (Q:Value→Shared→Prop) (E:Value→Shared→Prop),Q (.int (g i) s.toks) {s with toks:=s.toks+1}→wpAny (model X.prog X.w) X.A (f (.int i t)) Q E s):
    EL X f (rU fun i=>.int (g i)):=by
  intro pins s σ H x v Q I rx h
  obtain⟨i,rfl,q⟩:=h
  obtain⟨t,rfl⟩:=rx
  exact rule i t s _ _ ⟨.int (g i),H,I.tok _,⟨_,rfl⟩,q⟩
theorem Dd:EL X (unaryOp .USub) (rU fun i=>.int (-i)):=Gy fun _ _ _ _ _ q=>neg_int q
end
section
variable{X:Cx}{a b c:Expr}{ta tb tc:TE}{pos:Pos}
theorem BE{pins:List (Addr × Obj)}{σ:St}{H:Hp}{s:Shared}{Q:VK}{k k':Bool}(I:aF X pins σ H s)(q:Q (.bl k) H)(e:k=k'):EP X pins σ Q (.bool k') s:=by
  subst e
  exact⟨.bl k,H,I,rfl,q⟩
theorem D0:i6 X (compareOp .Lt) (vH fun i j=>.bl (decide (i < j))):=B5 fun _ _ _ _ _ _ _ q=>lt_int q
theorem DZ:i6 X (compareOp .Gt) (vH fun i j=>.bl (decide (j < i))):=B5 fun _ _ _ _ _ _ _ q=>gt_int q
theorem DY:i6 X (compareOp .GtE) (vH fun i j=>.bl (decide (j≤i))):=B5 fun _ _ _ _ _ _ _ q=>ge_int q
theorem Ca:i6 X (compareOp .Is) (fun x y H Q=>y=.non∧Q (.bl (decide (x=.non))) H):=by
  intro pins s σ H x y v u Q I rx ry h
  obtain⟨rfl,q⟩:=h
  cases ry
  refine is_none_gen (BE I q ?_)
  cases x<;>first
    | (cases rx;rfl)
    | (obtain⟨t,rfl⟩:=rx;rfl)
theorem i6.or{f:Value→Value→Sem Value}{r r':R2}(h:i6 X f r)(h':i6 X f r'):i6 X f (fun x y H Q=>r x y H Q∨r' x y H Q):=by
  intro pins s σ H x y v u Q I rx ry q
  rcases q with q | q
  · exact h pins s σ H x y v u Q I rx ry q
  · exact h' pins s σ H x y v u Q I rx ry q
theorem aU(b:Expr){op:CmpOp}(h:op≠.In:=by decide)(h2:op≠.NotIn:=by decide):behindInMarks op b=false:=by
  have e1:(op==CmpOp.In)=false:=by cases op<;>first | rfl | exact absurd rfl h
  have e2:(op==CmpOp.NotIn)=false:=by cases op<;>first | rfl | exact absurd rfl h2
  cases b<;>simp [behindInMarks,e1,e2]
theorem zK{op:CmpOp}{r:R2}(ho:i6 X (compareOp op) r)(ha:PE X a ta)(hb:PE X b tb)(hm:behindInMarks op b=false):PE X (.Compare a [op] [b] pos) (Ew r ta tb):=by
  intro pins s σ H Q I h
  exact wpAny_Compare1 (Bw ha hb I h fun v u s2 x y H2 I2 rx ry q=>ho pins s2 σ H2 x y v u Q I2 rx ry q) hm
def Ey(t:TE):TT:=fun σ H Q=>t σ H fun x H'=>∃k,x=.bl k∧Q k H'
theorem z9{op:CmpOp}{r:R2}(ho:i6 X (compareOp op) r)(ha:PE X a ta)(hb:PE X b tb)(hm:behindInMarks op b=false):PT X (.Compare a [op] [b] pos) (Ey (Ew r ta tb)):=by
  intro pins s σ H Q I h
  refine wpAny_isTrue_Compare1 (ci (ha pins s σ H _ I h) fun v s1 ⟨x,H1,I1,r1,q1⟩=>ci (hb pins s1 σ H1 _ I1 q1) fun u s2 ⟨y,H2,I2,r2,q2⟩=>
    ci (ho pins s2 σ H2 x y v u _ I2 r1 r2 q2) fun c s3 ⟨z,H3,I3,r3,k,e,q3⟩=>?_) hm
  subst e
  cases r3
  exact wpAny_truthy_bool ⟨H3,I3,q3⟩
theorem qf:(sizeLine:Nat) < 2 ^ 63:=by rw [sizeLine_eq];decide
theorem si{x:V}{us:List Value}(r:aR [x] us):∃u,us=[u]∧bI x u:=by
  cases r with
  | cons r1 r2=>cases r2;exact⟨_,rfl,r1⟩
theorem Bm{x y:V}{us:List Value}(r:aR [x,y] us):∃u w',us=[u,w']∧bI x u∧bI y w':=by
  cases r with
  | cons r1 r2=>
    cases r2 with
    | cons r3 r4=>cases r4;exact⟨_,_,rfl,r1,r3⟩
theorem wA:ey X (.builtin "abs") (fun xs H Q=>∃i,xs=[.int i]∧Q (.int (if i < 0 then -i else i)) H):=by
  intro pins s σ H xs us Q I r h
  obtain⟨i,rfl,q⟩:=h
  obtain⟨u,rfl,t,rfl⟩:=si r
  exact call_abs_int fun u tk=>⟨.int (if i < 0 then -i else i),H,I.tok _,⟨_,rfl⟩,q⟩
theorem va(hc:X.calm=true):ey X (.builtin "max") (fun xs H Q=>∃i j,xs=[.int i,.int j]∧Q (.int (if j > i then j else i)) H):=by
  intro pins s σ H xs us Q I r h
  obtain⟨i,j,rfl,q⟩:=h
  obtain⟨u,w',rfl,⟨t,rfl⟩,⟨t',rfl⟩⟩:=Bm r
  refine max_two_ints (I.ok.hd hc) fun h' tk k=>⟨_,H,I.kept k,?_,q⟩
  by_cases hj:j > i
  · rw [if_pos hj,if_pos hj];exact⟨_,rfl⟩
  · rw [if_neg hj,if_neg hj];exact⟨_,rfl⟩
theorem vb(hc:X.calm=true):ey X (.builtin "min") (fun xs H Q=>∃i j,xs=[.int i,.int j]∧Q (.int (if j < i then j else i)) H):=by
  intro pins s σ H xs us Q I r h
  obtain⟨i,j,rfl,q⟩:=h
  obtain⟨u,w',rfl,⟨t,rfl⟩,⟨t',rfl⟩⟩:=Bm r
  refine min_two_ints (I.ok.hd hc) fun h' tk k=>⟨_,H,I.kept k,?_,q⟩
  by_cases hj:j < i
  · rw [if_pos hj,if_pos hj];exact⟨_,rfl⟩
  · rw [if_neg hj,if_neg hj];exact⟨_,rfl⟩
theorem uZ:ey X (.type "int") (fun xs H Q=>(∃i,xs=[.int i]∧Q (.int i) H)∨∃k,xs=[.bl k]∧Q (.int (if k then 1 else 0)) H):=by
  intro pins s σ H xs us Q I r h
  rcases h with ⟨i,rfl,q⟩ | ⟨k,rfl,q⟩
  · obtain⟨u,rfl,t,rfl⟩:=si r
    exact call_int_int ⟨.int i,H,I,⟨_,rfl⟩,q⟩
  · obtain⟨u,rfl,r1⟩:=si r
    cases r1
    exact call_int_bool ⟨.int (if k then 1 else 0),H,I.tok _,⟨_,rfl⟩,q⟩
end
end L2
namespace L2
open PySem PySem.Spec PyProof.Rows
structure Gj (h:Heap) (x dx C:Addr) (mA:Str→Option Value):Prop where
  obj:h.get? x=some (PySem.W.instObj C dx)
  ns:h.Ns1 dx mA
  ne:dx≠x
section
variable{prog:Program}{w:World}{A:Around}{E:Value→Shared→Prop}{s:Shared}{K:PySem.W.Frag}{x dx C f:Addr}{mA:Str→Option Value}{name:Str}{v:Value}
end
section
variable{P:Program}{w:World}{H H':Hp}{h h':Heap}{a C dx:Addr}{fs fs':List (Str × V)}
end
structure Gg (K:PySem.W.Frag) (C:Addr):Prop where
  pg:PySem.W.plainGet K C Str.empty=true
  hd:PySem.W.hasDictIn K C=true
  po:PySem.W.plainOver K C=true
  sa:PySem.W.findIn K (.ref C) "__setattr__"=some (some (.builtin "object.__setattr__"))
structure GA (K:PySem.W.Frag) (C:Addr) (f:Str) (v:V) (u:Value):Prop where
  at_:PySem.W.findIn K (.ref C) f=some (some u)
  rel:bI v u
  get:PySem.W.specialIn K u "__get__"=some none
  cp:PySem.W.copiedNames.contains f=false
structure Gi (K:PySem.W.Frag) (C:Addr) (m:Str) (f:Addr):Prop where
  at_:PySem.W.findIn K (.ref C) m=some (some (.ref f))
  fn:PySem.W.isFn K (.ref f)=true
  kp:PySem.W.keepIn K (.ref f)=true
section
variable{X:Cx}{pins:List (Addr × Obj)}{σ:St}{H:Hp}{s:Shared}{a C dx:Addr}{fs:List (Str × V)}{f:Str}{v:V}{A:Around}{E:Value→Shared→Prop}
end
section
variable{X:Cx}{o e value:Expr}{f:Str}{pos pos' tpos:Pos}{ta tv:TE}
end
section
variable{X:Cx}{pins:List (Addr × Obj)}{σ:St}{H:Hp}{s:Shared}{A:Around}{E:Value→Shared→Prop}{Q:Value→Shared→Prop}{c:Value}{b:Bool}
inductive mZ (K:PySem.W.Frag) (H:Hp):V→Value→Prop where
  | non:mZ K H .non (.type "NoneType")
  | bl (x:Bool):mZ K H (.bl x) (.type "bool")
  | int (i:Int):mZ K H (.int i) (.type "int")
  | str (x:Str):mZ K H (.str x) (.type "str")
  | flt (x:UInt64):mZ K H (.flt x) (.type "float")
  | lst {a:Addr} {xs:List V} (e:H a=some (.lst xs)):mZ K H (.ref a) (.type "list")
  | frz {a:Addr} {o:Obj} {xs:List V} (e:H a=some (.frz o (.lst xs))):mZ K H (.ref a) (.type "list")
  | tup {a:Addr} {xs:List V} (e:H a=some (.tup xs)):mZ K H (.ref a) (.type "tuple")
  | dK {a:Addr} {kvs:List (oA × V)} (e:H a=some (.dK kvs)):mZ K H (.ref a) (.type "dict")
  | dT {a:Addr} {kvs:List (List oA × V)} (e:H a=some (.dT kvs)):mZ K H (.ref a) (.type "dict")
  | ins {a C dx:Addr} {fs:List (Str × V)} (e:H a=some (.ins C dx fs)) (cl:Gg K C) (ha:PySem.W.findIn K (.ref C) "__class__"=some (some (.builtin "object.__class__")))
      (hn:PySem.W.specialIn K (.builtin "object.__class__") "__get__"=some (some (.builtin "getset_descriptor.__get__"))) (htk:PySem.W.takesIn K (.builtin "object.__class__")=some true)
      (hm:PySem.W.mroIn K C (.type "object")=some true):mZ K H (.ref a) (.ref C)
end
end L2
namespace L2
open PySem PySem.Spec PyProof.Rows
structure dZ (k:Nat) (A:Around):Prop where
  hd:A.handled=none
  dp:A.depth+3*k+5 < recursionLimit
  un:A.units+16*k+200 < cLine
  gd:A.guards=some []
theorem dZ.mono{j k:Nat}{A:Around}(r:dZ k A)(h:j≤k):dZ j A:=⟨r.hd,by have:=r.dp;lia,by have:=r.un;lia,r.gd⟩
theorem dZ.deeper{k:Nat}{A:Around}(r:dZ (k+1) A)(env:Env):dZ k (A.deeper env):=
  ⟨r.hd,by have:=r.dp;show A.depth+1+3*k+5 < _;lia,by have:=r.un;show A.units+3+16*k+200 < _;lia,r.gd⟩
theorem dZ.depth{k:Nat}{A:Around}(r:dZ k A):A.depth < recursionLimit:=by have:=r.dp;lia
theorem dZ.units{k:Nat}{A:Around}(r:dZ k A):A.units+64 < cLine:=by have:=r.un;lia
def C0:TA:=fun _ H Q=>Q [] H
def rZ(ta:TE)(tr:TA):TA:=fun σ H Q=>ta σ H fun x H1=>tr σ H1 fun xs H2=>Q (x::xs) H2
section
variable{X:Cx}{e:Expr}{es:List Expr}{te:TE}{t:TA}{pos:Pos}
theorem nO:PA X [] C0:=fun _ _ _ _ H Q I h=>Calls.spliced_nil ⟨[],H,I,.nil,h⟩
theorem qt(ha:PE X e te)(hr:PA X es t)(hs:starEach (e::es) X.env=(false,eval e X.env)::starEach es X.env:=by rfl):PA X (e::es) (rZ te t):=by
  intro pos pins s σ H Q I h
  rw [hs]
  show wpAny _ _ (spliced ((false,eval e X.env)::backTo pos (starEach es X.env))) _ _ s
  refine Calls.spliced_cons (ci (ha pins s σ H _ I h) fun u s1 ⟨x,H1,I1,r1,q1⟩=>?_)
  exact ci (hr pos pins s1 σ H1 _ I1 q1) fun us s2 ⟨xs,H2,I2,r2,q2⟩=>⟨x::xs,H2,I2,.cons r1 r2,q2⟩
def Ez(t:TA):TE:=fun σ H Q=>t σ H fun xs H1=>xs.length≤sizeLine∧∀p,H1 p=none→Q (.ref p) (bj H1 p (.tup xs))
def FH(t:TA):TE:=fun σ H Q=>t σ H fun xs H1=>xs.length≤sizeLine∧∀p,H1 p=none→Q (.ref p) (bj H1 p (.lst xs))
theorem Cm{x1}(h:PA X es t):PE X (.Tuple es x1 pos) (Ez t):=by
  intro pins s σ H Q I hq
  refine wpAny_Tuple_spliced (ci (h pos pins s σ H _ I hq) fun us s1 ⟨xs,H1,I1,r,z,q⟩=>⟨by rw [←r.length];exact z,?_⟩)
  have hf:H1 s1.heap.objs.size=none:=I1.hok.fresh (Nat.le_refl _)
  refine⟨.ref s1.heap.objs.size,bj H1 s1.heap.objs.size (.tup xs),I1.laid (t':=s1.toks) (fun b u e=>Heap.get?_push_of_some _ e) (Nat.le_refl _) ?_,rfl,q _ hf⟩
  exact⟨z,us,r,⟨_,Heap.get?_push_size _ rfl,rfl,_,rfl⟩⟩
theorem xI(h:PA X es t):PE X (.List es pos) (FH t):=by
  intro pins s σ H Q I hq
  refine wpAny_List_spliced (ci (h pos pins s σ H _ I hq) fun us s1 ⟨xs,H1,I1,r,z,q⟩=>⟨by rw [←r.length];exact z,?_⟩)
  have hf:H1 s1.heap.objs.size=none:=I1.hok.fresh (Nat.le_refl _)
  refine⟨.ref s1.heap.objs.size,bj H1 s1.heap.objs.size (.lst xs),I1.laid (t':=s1.toks) (fun b u e=>Heap.get?_push_of_some _ e) (Nat.le_refl _) ?_,rfl,q _ hf⟩
  exact⟨z,us,0,r,Heap.get?_push_size _ rfl⟩
end
abbrev Sp:=List V→Hp→VK→XK→Prop
abbrev uT:=List Env→Hp→Shared→XK→Value→Shared→Prop
structure yQ (P:Program) (w:World) (K:PySem.W.Frag) (mg:Str→Option Value) (base:Heap) (A:Around) (outer:List Env) (s:Shared) (H:Hp):Prop where
  frames:A.frames=some outer
  mod:Mod K mg base
  bs:∀b o,base.get? b=some o→s.heap.get? b=some o∧H b=none
  bsz:base.objs.size≤s.heap.objs.size
  funs:s.heap.FunFrames base outer
  frf:∀b∈wM outer,H b=none
  hok:mX P w H s.heap
  bare:AllBare s.gens
def CE(outer:List Env)(P:Program)(w:World)(H:Hp)(s:Shared)(Q:VK)(u:Value)(s':Shared):Prop:=
  ∃v H',s'.os=s.os∧AllBare s'.gens∧Un (wM outer) [] H H' s.heap s'.heap∧mX P w H' s'.heap∧bI v u∧Q v H'
def CR(CX:uT)(outer:List Env)(P:Program)(w:World)(H:Hp)(s:Shared)(Q:VK)(E:XK)(r:Result)(s':Shared):Prop:=
  match r with
  | .ok (.ret u)=>CE outer P w H s Q u s'
  | .ok _=>False
  | .error e=>CX outer H s E e s'
structure aC (P:Program) (w:World) (K:PySem.W.Frag) (mg:Str→Option Value) (base:Heap) (CX:uT) (k:Nat) (f:Addr) (fd:FuncData) (ps:List Str) (sp:Sp):Prop where
  len:∀vs H Q E,sp vs H Q E→vs.length=ps.length
  run:∀(A:Around) (outer:List Env) (s:Shared) (H:Hp) (args:Args) (us:List Value) (vs:List V) (Q:VK) (E:XK),dZ k A→yQ P w K mg base A outer s H→BindsTo s fd args (ps.zip us)→aR vs us→sp vs H Q E→
    codeAny (model P w) A (.call (.ref f) args) (CR CX outer P w H s Q E) s
section
variable{X:Cx}{pins:List (Addr × Obj)}{σ:St}{H:Hp}{s s':Shared}
theorem aF.env0(I:aF X pins σ H s):yQ X.prog X.w X.K X.mg X.base X.A X.stack s H:=
  ⟨I.ok.frames,I.ok.mod,I.bs,Nat.le_trans I.ok.bsz I.sz,I.stack,I.stkFree,I.hok,I.bare⟩
theorem aF.after{Q:VK}{u:Value}(I:aF X pins σ H s)(h:CE X.stack X.prog X.w H s Q u s'):EP X pins σ Q u s':=by
  obtain⟨v,H',os,bare,un,hok,r,q⟩:=h
  obtain⟨hh,g,d,t,os'⟩:=s'
  obtain rfl:os'=s.os:=os
  exact⟨v,H',I.call (h':=hh) (g':=g) (d':=d) (t':=t) (ch:=[]) un hok bare (fun b z=>absurd z (by simp)),r,q⟩
end
def yo(sp:Sp)(dvs:List V)(E:XK)(t:TA):TE:=fun σ H Q=>t σ H fun vs H1=>sp (vs++dvs) H1 Q E
def oO(K:PySem.W.Frag)(fd:FuncData)(ps:List Str)(ds:List Value):Prop:=
  ∀(s:Shared) (us:List Value),K.In s.heap→(us++ds).length=ps.length→BindsTo s fd ⟨us,[]⟩ (ps.zip (us++ds))
theorem oO.all{K:PySem.W.Frag}{fd:FuncData}{ps:List Str}(h:∀us:List Value,us.length=ps.length→bindArgs fd ⟨us,[]⟩=pure (ps.zip us)):oO K fd ps []:=fun s us _ hl=>by
  rw [List.append_nil] at hl ⊢
  exact .of_eq (h us hl)
def su(CX:uT)(X:Cx)(E:XK):Prop:=∀(pins:List (Addr × Obj)) (σ:St) (H:Hp) (s:Shared) (e:Value) (s':Shared),aF X pins σ H s→CX X.stack H s E e s'→X.xe e s'
section
variable{X:Cx}{CX:uT}{k:Nat}{f C:Addr}{fd:FuncData}{ps:List Str}{sp:Sp}{dvs:List V}{ds:List Value}{E:XK}{x m:Str}{p pos apos:Pos}{e o:Expr}{es:List Expr}{ta:TE}{t:TA}
theorem CT{pins:List (Addr × Obj)}{σ:St}{H:Hp}{s:Shared}{Q:VK}{us:List Value}{vs:List V}(F:aC X.prog X.w X.K X.mg X.base CX k f fd ps sp)(hr:dZ k X.A)(hb:oO X.K fd ps ds)(hd:aR dvs ds)(hx:su CX X E)
    (I:aF X pins σ H s)(r:aR vs us)(h:sp (vs++dvs) H Q E):wpAny (model X.prog X.w) X.A (call (.ref f) us) (EP X pins σ Q) X.xe s:=by
  have r2:aR (vs++dvs) (us++ds):=r.append hd
  have hl:(us++ds).length=ps.length:=by rw [←r2.length];exact F.len _ _ _ _ h
  refine wpAny_call (codeAny_mono (F.run X.A X.stack s H ⟨us,[]⟩ (us++ds) (vs++dvs) Q E hr I.env0 (hb s us I.kIn hl) r2 h) fun r s' hq=>?_)
  cases r with
  | error e=>exact hx pins σ H s e s' I hq
  | ok fl=>
    cases fl with
    | ret u=>exact I.after hq
    | next=>exact False.elim hq
    | brk=>exact False.elim hq
    | cont=>exact False.elim hq
theorem zJ(F:aC X.prog X.w X.K X.mg X.base CX k f fd ps sp)(hr:dZ k X.A)(hg:Gl X x)(hm:X.mg x=some (.ref f))(hk:PySem.W.keepIn X.K (.ref f)=true)(hb:oO X.K fd ps ds)(hd:aR dvs ds)(hx:su CX X E)
    (ha:PA X (e::es) t)(hdb:(x==("__debug__":Str))=false:=by decide)(he:starEach (e::es) X.env=(false,eval e X.env)::starEach es X.env:=by rfl)(hpl:(backTo pos (starEach es X.env)).any (·.1)=false:=by rfl):
    PE X (.Call (.Name x p) (e::es) [] pos) (yo sp dvs E t):=by
  intro pins s σ H Q I h
  refine wpAny_Call_Name_kw (uu I hg hm ?_ hdb)
  refine PySem.W.callWith_K (h₀:=X.base) I.ok.mod.kin hk (ci (ha pos pins s σ H _ I h) fun us s1 ⟨vs,H1,I1,r,q⟩=>⟨I1.kIn,?_⟩) he hpl
  exact CT F hr hb hd hx I1 r q
structure Mk (K:PySem.W.Frag) (C f:Addr):Prop where
  makes:PySem.W.makesIn K C=true
  init:PySem.W.findIn K (.ref C) "__init__"=some (some (.ref f))
  fn:PySem.W.isFn K (.ref f)=true
  kp:PySem.W.keepIn K (.ref C)=true
end
section
variable{X:Cx}{CX:uT}{k:Nat}{f C:Addr}{fd:FuncData}{ps ks:List Str}{sp:Sp}{E:XK}{x m:Str}{p pos apos kpos:Pos}{e o:Expr}{es:List Expr}{kws:List Keyword}{te ta:TE}{t tk:TA}{nm:Option Str}
structure EZ (K:PySem.W.Frag) (fd:FuncData) (ps ks:List Str) (g:List Value→List Value→List Value) (gV:List V→List V→List V):Prop where
  to:∀(s:Shared) (us ws:List Value),K.In s.heap→(g us ws).length=ps.length→BindsTo s fd ⟨us,ks.zip ws⟩ (ps.zip (g us ws))
  rel:∀{vs:List V} {us:List Value} {zs:List V} {ws:List Value},aR vs us→aR zs ws→aR (gV vs zs) (g us ws)
variable{g:List Value→List Value→List Value}{gV:List V→List V→List V}
end
structure aB (N P:List Str) (sc:Scope):Prop where
  kind:sc.kind=.function
  co:sc.isCoroutine=false
  gen:sc.isGenerator=false
  nd:N.Nodup
  pre:N.take P.length=P
  par:∀x∈P,sc.names.lookup x=some .local∨sc.names.lookup x=some .cell
  nofree:∀y∈sc.names,y.2≠.free
theorem oZ{kindOf:Str→Option NameKind}{x:Str}:∀{binds:List (Str × Value)} {m:Str→Option Value},(∀v,(x,v)∉binds)→bindL kindOf binds m x=m x
  | [],_,_=>rfl
  | (n,v)::r,m,h=>by
    unfold bindL
    rw [oZ fun w hw=>h w (List.mem_cons_of_mem _ hw)]
    split
    · have:x≠n:=by rintro rfl;exact h v List.mem_cons_self
      simp [this]
    · rfl
theorem oX{kindOf:Str→Option NameKind}{x:Str}:∀{binds:List (Str × Value)} {m:Str→Option Value},(∀v,(x,v)∉binds)→bindC kindOf binds m x=m x
  | [],_,_=>rfl
  | (n,v)::r,m,h=>by
    unfold bindC
    rw [oX fun w hw=>h w (List.mem_cons_of_mem _ hw)]
    split
    · rfl
    · have:x≠n:=by rintro rfl;exact h v List.mem_cons_self
      simp [this]
theorem oY{kindOf:Str→Option NameKind}{x:Str}{v:Value}:∀{P:List Str} {vs:List Value} {i:Nat} {m:Str→Option Value},P.Nodup→P[i]?=some x→vs[i]?=some v→kindOf x=some .local→
    bindL kindOf (P.zip vs) m x=some v
  | [],_,_,_,_,h,_,_=>by simp at h
  | _::_,[],_,_,_,_,h,_=>by simp at h
  | p::P,w::vs,0,m,nd,h1,h2,hk=>by
    simp at h1 h2;subst h1;subst h2
    show bindL kindOf ((p,w)::P.zip vs) m p=_
    unfold bindL
    rw [oZ fun v hv=>(List.nodup_cons.mp nd).1 (List.of_mem_zip hv).1,if_pos hk]
    simp
  | p::P,w::vs,i+1,m,nd,h1,h2,hk=>by
    show bindL kindOf ((p,w)::P.zip vs) m x=_
    unfold bindL
    exact oY (i:=i) (List.nodup_cons.mp nd).2 (by simpa using h1) (by simpa using h2) hk
theorem oW{kindOf:Str→Option NameKind}{x:Str}{v:Value}:∀{P:List Str} {vs:List Value} {i:Nat} {m:Str→Option Value},P.Nodup→P[i]?=some x→vs[i]?=some v→kindOf x≠some .local→
    bindC kindOf (P.zip vs) m x=some v
  | [],_,_,_,_,h,_,_=>by simp at h
  | _::_,[],_,_,_,_,h,_=>by simp at h
  | p::P,w::vs,0,m,nd,h1,h2,hk=>by
    simp at h1 h2;subst h1;subst h2
    show bindC kindOf ((p,w)::P.zip vs) m p=_
    unfold bindC
    rw [oX fun v hv=>(List.nodup_cons.mp nd).1 (List.of_mem_zip hv).1,if_neg hk]
    simp
  | p::P,w::vs,i+1,m,nd,h1,h2,hk=>by
    show bindC kindOf ((p,w)::P.zip vs) m x=_
    unfold bindC
    exact oW (i:=i) (List.nodup_cons.mp nd).2 (by simpa using h1) (by simpa using h2) hk
def fF(N:List Str)(vs:List V):St:=vs.map some++List.replicate (N.length - vs.length) none
def sD(CX:uT)(P:Program)(w:World)(K:PySem.W.Frag)(mg:Str→Option Value)(base:Heap)(N:List Str)(qual:Str)(scope:Scope)(f:Addr)(cd:Value)(A:Around)(outer:List Env)(s:Shared)(H:Hp)(E:XK):Cx where
  prog:=P
  w:=w
  K:=K
  mg:=mg
  base:=base
  A:=A.deeper (envOfC qual scope s.heap.objs.size f cd)
  N:=N
  s₀:=s
  H₀:=H
  env:=envOfC qual scope s.heap.objs.size f cd
  outer:=outer
  stack:=envOfC qual scope s.heap.objs.size f cd::outer
  ex:=[]
  calm:=true
  fn:=fun _=>true
  pn:=[]
  xe:=fun e s'=>wpAny (model P w) (A.deeper (envOfC qual scope s.heap.objs.size f cd)) (leaving (envOfC qual scope s.heap.objs.size f cd) e) (fun _ s''=>CX outer H s E e s'') (fun e' s''=>CX outer H s E e' s'') s'
theorem qX{sc:Scope}{n:Nat}{x:Str}(h:sc.names.lookup x=some .cell):∃c,(cellsFrom n sc.names []).lookup x=some c:=by
  have q:=PySem.W.cellsFrom_some sc.names n [] (.inl h)
  exact Option.isSome_iff_exists.mp q
theorem vj{CX:uT}{P:Program}{w:World}{K:PySem.W.Frag}{mg:Str→Option Value}{base:Heap}{N ps:List Str}{qual:Str}{scope:Scope}{f:Addr}{cd:Value}{A:Around}{outer:List Env}{s s1:Shared}{H:Hp}{E:XK}{us:List Value}{vs:List V}
    (S:aB N ps scope)(hd:A.handled=none)(e0:yQ P w K mg base A outer s H)(hl:vs.length=ps.length)(r:aR vs us)
    (x:InCallC s s.heap.objs.size (bindL (envOfC qual scope s.heap.objs.size f cd).kindOf (ps.zip us) fun _=>none) (cellsFrom (s.heap.objs.size+1) scope.names []) (bindC (envOfC qual scope s.heap.objs.size f cd).kindOf (ps.zip us) fun _=>none) s1):
    aF (sD CX P w K mg base N qual scope f cd A outer s H E) [] (fF N vs) H s1:=by
  have hpl:ps.length≤N.length:=by have:=congrArg List.length S.pre;rw [List.length_take] at this;lia
  obtain⟨h1,tk,rfl,hk⟩:=x.done
  have noA:∀b:Addr,b∉(sD CX P w K mg base N qual scope f cd A outer s H E).ex:=fun b z=>absurd (show b∈([]:List Addr) from z) (by simp)
  refine⟨⟨e0.mod,S.kind,rfl,rfl,Nat.le_refl _,fun y z c h1 h2=>?_,fun y hy=>?_,fun y c _ h=>?_,fun _=>hd,Around.frames_deeper e0.frames,.inr ⟨rfl,rfl⟩,fun b z=>absurd z (noA b),e0.bs,e0.bsz,fun b _ _=>noA b,fun b z=>absurd z (noA b),e0.funs,e0.frf⟩,
    rfl,e0.bare,Un.kept hk,⟨_,x.toInCall.ns,fun i y v h1 h2 h3=>?_⟩,fun y c h=>⟨_,x.cell y c h⟩,e0.hok.fresh (Nat.le_refl _),fun y c h=>?_,fun p hp=>absurd (show p∈([]:List (Addr × Obj)) from hp) (by simp),e0.hok.kept hk,?_⟩
  · exact name_of_addr x.apart (PySem.mem_of_lookup h1) (PySem.mem_of_lookup h2)
  · have hy:scope.names.lookup y=some .cell∨scope.names.lookup y=some .free:=hy
    rcases hy with hy | hy
    · exact qX hy
    · exact absurd rfl (S.nofree _ (PySem.mem_of_lookup hy))
  · exact Nat.le_of_lt (x.above y c (PySem.mem_of_lookup h))
  · have hi:i < vs.length:=by
      unfold fF at h2
      by_cases hi:i < vs.length
      · exact hi
      · rw [List.getElem?_append_right (by simpa using hi)] at h2
        rw [List.getElem?_replicate] at h2
        split at h2<;>cases h2
    have ha:vs[i]?=some v:=by
      unfold fF at h2
      rw [List.getElem?_append_left (by simpa using hi),List.getElem?_map] at h2
      cases e:vs[i]? with
      | none=>rw [e] at h2;cases h2
      | some a=>rw [e] at h2;cases h2;rfl
    obtain⟨u,hu,rv⟩:=r.get ha
    have hp:ps[i]?=some y:=by
      rw [←S.pre,List.getElem?_take_of_lt (by lia)];exact h1
    have ndP:ps.Nodup:=by rw [←S.pre];exact S.nd.sublist (List.take_sublist _ _)
    refine⟨u,rv,?_⟩
    rcases S.par y (List.mem_of_getElem? hp) with k | k
    · exact .inl ⟨k,oY ndP hp hu k⟩
    · obtain⟨c,e⟩:=qX (n:=s.heap.objs.size+1) k
      refine .inr ⟨.inl k,c,e,?_⟩
      have q:=x.cell y c e
      rw [oW ndP hp hu (by show scope.names.lookup y≠_;rw [k];decide)] at q
      exact q
  · exact e0.hok.fresh (Nat.le_of_lt (x.above y c (PySem.mem_of_lookup h)))
  · unfold fF
    show _=N.length
    rw [List.length_append,List.length_map,List.length_replicate]
    lia
theorem Dx{CX:uT}{P:Program}{w:World}{K:PySem.W.Frag}{mg:Str→Option Value}{base:Heap}{k:Nat}{f:Addr}{name qual:Str}{params:Arguments}{body:List Stmt}{scope:Scope}{dV kV doc pm cdv ct oc:Value}{an od:Option Addr}
    {osl:Array (Option Value)}{N ps:List Str}{sp:Sp}(lk:K.lookup f=some ⟨oc,od,.func (PySem.W.fnOf name qual params body scope dV kV doc pm an cdv ct),osl⟩)(hcd:PySem.W.codeIn K cdv qual=true)(S:aB N ps scope)
    (len:∀vs H Q E,sp vs H Q E→vs.length=ps.length)
    (hbody:∀(A:Around) (outer:List Env) (s:Shared) (H:Hp) (vs:List V) (Q:VK) (E:XK),dZ k (A.deeper (envOfC qual scope s.heap.objs.size f cdv))→sp vs H Q E→
      ∃t,mD (sD CX P w K mg base N qual scope f cdv A outer s H E) body t∧t {nx:=fun _ H'=>Q .non H',rt:=Q} (fF N vs) H):
    aC P w K mg base CX (k+1) f (PySem.W.fnOf name qual params body scope dV kV doc pm an cdv ct) ps sp:=by
  refine⟨len,fun A outer s H args us vs Q E hr e0 hb r hsp=>?_⟩
  have hl:=len _ _ _ _ hsp
  have KX:K.In s.heap:=e0.mod.kin.keeps fun b o e=>(e0.bs b o e).1
  have lim:s.heap.NoLimit:=e0.mod.nolimit.keeps fun b o e=>(e0.bs b o e).1
  have hkind:∀y∈ps.zip us,scope.names.lookup y.1=some .local∨(scope.names.lookup y.1=some .cell∧((cellsFrom (s.heap.objs.size+1) scope.names []).lookup y.1).isSome=true):=fun⟨n,v⟩ hy=>by
    rcases S.par n (List.of_mem_zip hy).1 with q | q
    · exact .inl q
    · exact .inr ⟨q,PySem.W.cellsFrom_some _ _ _ (.inl q)⟩
  refine codeAny_call_function hr.depth (KX _ _ lk) rfl S.co S.gen rfl (PySem.W.codeRec_of KX hcd) (hb _ _ _ _ ?_)
  refine wpAny_newFunctionEnv_cells S.kind hkind fun env he s1 x=>?_
  subst he
  refine⟨lim.keeps x.toInCall.keep,codeAny_func ?_⟩
  obtain⟨t,ht,hq⟩:=hbody A outer s H vs Q E (hr.deeper _) hsp
  have I:aF (sD CX P w K mg base N qual scope f cdv A outer s H E) [] (fF N vs) H s1:=vj S hr.hd e0 hl r x
  refine wpAny_mono (ht [] s1 (fF N vs) H _ I hq) (fun fl s' hs=>?_) fun e s' hs=>hs
  have fin:∀{σ':St} {H':Hp} {v:V} {u:Value},aF (sD CX P w K mg base N qual scope f cdv A outer s H E) [] σ' H' s'→bI v u→Q v H'→CE outer P w H s Q u s':=
    fun{σ' H' v u} J rv q=>⟨v,H',J.os,J.bare,J.base,J.hok,rv,q⟩
  cases fl with
  | ret u=>
    obtain⟨v,σ',H',J,rv,q⟩:=hs
    exact fin J rv q
  | next=>
    obtain⟨σ',H',J,q⟩:=hs
    exact fin (v:=V.non) (u:=Value.none) J rfl q
  | brk=>
    obtain⟨_,_,_,q⟩:=hs
    exact False.elim q
  | cont=>
    obtain⟨_,_,_,q⟩:=hs
    exact False.elim q
end L2
namespace L2
open PySem PySem.Spec PyProof.Rows
section
variable{X:Cx}{x:Str}{p pos:Pos}{e:Expr}{es:List Expr}{t:TA}{id T:String}{r:List V→Hp→VK→Prop}
def FC(r:List V→Hp→VK→Prop)(t:TA):TE:=fun σ H Q=>t σ H fun vs H1=>r vs H1 Q
theorem nP(hc:ey X (.builtin id) r)(hg:Gl X x)(hm:X.mg x=none)(hv:bootBuiltins x=some (.builtin id))(ha:PA X (e::es) t)(hn:x≠"__name__":=by decide)(hdb:(x==("__debug__":Str))=false:=by decide)
    (he:starEach (e::es) X.env=(false,eval e X.env)::starEach es X.env:=by rfl)(hpl:(backTo pos (starEach es X.env)).any (·.1)=false:=by rfl):PE X (.Call (.Name x p) (e::es) [] pos) (FC r t):=by
  intro pins s σ H Q I h
  refine wpAny_Call_Name_kw (gj I hg hm hv ?_ hn hdb)
  exact PyProof.Rows.callWith_builtin1 (ci (ha pos pins s σ H _ I h) fun us s1 ⟨vs,H1,I1,r1,q1⟩=>hc pins s1 σ H1 vs us Q I1 r1 q1) he hpl
theorem vA(hc:ey X (.type T) r)(hg:Gl X x)(hm:X.mg x=none)(hv:bootBuiltins x=some (.type T))(ha:PA X (e::es) t)(hn:x≠"__name__":=by decide)(hdb:(x==("__debug__":Str))=false:=by decide)
    (he:starEach (e::es) X.env=(false,eval e X.env)::starEach es X.env:=by rfl)(hpl:(backTo pos (starEach es X.env)).any (·.1)=false:=by rfl):PE X (.Call (.Name x p) (e::es) [] pos) (FC r t):=by
  intro pins s σ H Q I h
  refine wpAny_Call_Name_kw (gj I hg hm hv ?_ hn hdb)
  exact PyProof.Rows.callWith_type1 (ci (ha pos pins s σ H _ I h) fun us s1 ⟨vs,H1,I1,r1,q1⟩=>hc pins s1 σ H1 vs us Q I1 r1 q1) he hpl
end
end L2
namespace HT
open PySem PyProof.Rows
section
open PySem.SeqAt
open PySem.AutoSeq1 (wpAny_loadPart')
open PySem.MeetsSeq PySem.MeetsSeq2 PySem.MeetsSeq3
end
section
variable{prog:Program}{w:World}{A:Around}{E:Value→Shared→Prop}{s:Shared}
theorem cat_tup{t b:Addr}{vs ws:List Value}{Q:Value→Shared→Prop}(ht:IsTup s.heap t vs.toArray)(hb:IsTup s.heap b ws.toArray)(hv:vs≠[])
    (h1:ws=[]→Q (.ref t) s)(h2:ws≠[]→Q (.ref s.heap.objs.size) {s with heap:=s.heap.push {cls:=.type "tuple",data:=.seq (vs++ws).toArray}})
    (hsz:vs.length+ws.length≤sizeLine):wpAny (model prog w) A (binaryOp .Add (.ref t) (.ref b)) Q E s:=by
  obtain⟨⟨cls,dd,data,sl⟩,ho,hc,n,hd⟩:=id ht
  obtain⟨⟨cls2,dd2,data2,sl2⟩,ho2,hc2,n2,hd2⟩:=id hb
  simp only at hc hd hc2 hd2
  subst hc hd hc2 hd2
  have e:vs.toArray++ws.toArray=(vs++ws).toArray:=by simp
  by_cases hw:ws=[]
  · exact concat_meets ⟨_,ho,rfl⟩ ⟨_,ho2,rfl⟩ noFill_tuple_add seq_tuple_add PySem.F.slot_tuple_add PySem.F.entry_tuple_add (PySem.F.args_tuple_add_2 _ _)
      (tuple_addW1 t b vs.toArray ws.toArray n n2 dd dd2 sl sl2 (by simpa using hv) (by simp [hw])) ⟨ho,ho2,h1 hw⟩
  · refine concat_meets ⟨_,ho,rfl⟩ ⟨_,ho2,rfl⟩ noFill_tuple_add seq_tuple_add PySem.F.slot_tuple_add PySem.F.entry_tuple_add (PySem.F.args_tuple_add_2 _ _)
      (tuple_addW2 t b vs.toArray ws.toArray n n2 dd dd2 sl sl2 (by simpa using hv) (by simpa using hw) (by rw [List.size_toArray,List.size_toArray];exact hsz)) ⟨ho,ho2,?_⟩
    rw [e]
    exact h2 hw
def sIx(n d:Nat):Option Int→Nat
  | none=>d
  | some v=>if v < 0 then(v+(n:Int)).toNat else min v.toNat n
theorem sIx_none(n d:Nat):sIx n d none=d:=rfl
theorem sIx_nat(n d k:Nat):sIx n d (some (k:Int))=min k n:=by
  show(if (k:Int) < 0 then((k:Int)+(n:Int)).toNat else min (k:Int).toNat n)=min k n
  rw [if_neg (by lia),Int.toNat_natCast]
theorem CU(n d:Nat)(hd:d≤n)(o:Option Int):sIx n d o≤n:=by
  cases o with
  | none=>exact hd
  | some v=>
    show(if v < 0 then(v+(n:Int)).toNat else min v.toNat n)≤n
    by_cases hv:v < 0
    · rw [if_pos hv];lia
    · rw [if_neg hv];exact Nat.min_le_right _ _
theorem ud(v:Int)(n d:Nat):(if v < 0 then max (v+(n:Int)) 0 else min v (n:Int))=((sIx n d (some v):Nat):Int):=by
  show(if v < 0 then max (v+(n:Int)) 0 else min v (n:Int))=(((if v < 0 then(v+(n:Int)).toNat else min v.toNat n):Nat):Int)
  by_cases hv:v < 0
  · simp only [if_pos hv];lia
  · simp only [if_neg hv];lia
theorem sv(lo hi:Option Int)(n:Nat):Builtin.Slice.sliceAdjust lo hi 1 (n:Int)=(((sIx n 0 lo:Nat):Int),((sIx n n hi:Nat):Int)):=by
  have h1:¬((1:Int) < 0):=by lia
  unfold Builtin.Slice.sliceAdjust
  simp only [h1,if_false]
  refine Prod.ext ?_ ?_
  · cases lo with
    | none=>rfl
    | some v=>exact ud v n 0
  · cases hi with
    | none=>rfl
    | some v=>exact ud v n n
theorem sZ(i j:Nat):Builtin.Slice.slicePlaces (i:Int) (j:Int) 1=j - i:=by
  unfold Builtin.Slice.slicePlaces
  have h1:(1:Int) > 0:=by lia
  simp only [h1,if_true,Int.ediv_one]
  split<;>lia
theorem oh{v:Value}{o:Option Int}{Q:Option Int→Shared→Prop}(p:IsPart v o)(h:Q o s):wpAny (model prog w) A (Builtin.Slice.slicePartIndex v) Q E s:=by
  cases p with
  | none=>exact slicePart_none h
  | int i t=>exact slicePart_int h
theorem iy{sl:Addr}{vl vu:Value}{lo hi:Option Int}{n:Nat}{Q:Int × Int × Nat→Shared→Prop}(hs:s.heap.IsSliceOf sl vl vu .none)(pl:IsPart vl lo)(pu:IsPart vu hi)
    (h:Q (((sIx n 0 lo:Nat):Int),1,sIx n n hi - sIx n 0 lo) s):wpAny (model prog w) A (Builtin.Slice.sliceApplied (.ref sl) (pure (n:Int))) Q E s:=by
  obtain⟨os,hos,hcs,hds⟩:=id hs
  unfold Builtin.Slice.sliceApplied Builtin.Slice.sliceFields
  refine wpAny_bind (wpAny_bind (wpAny_field hos hds (x:=vl) rfl (wpAny_bind (wpAny_field hos hds (x:=vu) rfl (wpAny_bind (wpAny_field hos hds (x:=.none) rfl (wpAny_pure ?_)))))))
  refine wpAny_bind (slicePart_none ?_)
  show wpAny _ _ (if ((1:Int)==0)=true then _ else _) _ _ s
  rw [if_neg (by decide)]
  refine wpAny_bind (oh pl (wpAny_bind (oh pu (wpAny_bind (wpAny_pure ?_)))))
  show wpAny _ _ (match Builtin.Slice.sliceAdjust lo hi 1 (n:Int) with | (lo,hi)=>pure (lo,(1:Int),Builtin.Slice.slicePlaces lo hi 1)) _ _ s
  rw [sv lo hi n]
  show wpAny _ _ (pure (((sIx n 0 lo:Nat):Int),(1:Int),Builtin.Slice.slicePlaces ((sIx n 0 lo:Nat):Int) ((sIx n n hi:Nat):Int) 1)) _ _ s
  rw [sZ]
  exact wpAny_pure h
theorem xT(xs:Array Value)(i k:Nat):((List.range k).filterMap fun(m:Nat)=>xs[((i:Int)+(m:Int)*1).toNat]?).toArray=((xs.toList.drop i).take k).toArray:=by
  have e:(fun(m:Nat)=>xs[((i:Int)+(m:Int)*1).toNat]?)=fun m=>xs[i+m]?:=by
    funext m
    have:((i:Int)+(m:Int)*1).toNat=i+m:=by lia
    rw [this]
  rw [e]
  have:=pick_run xs i k
  rw [List.filterMap_map] at this
  have e2:((fun x=>xs[x]?) ∘ fun x=>i+x)=fun m=>xs[i+m]?:=rfl
  rw [e2] at this
  rw [this]
theorem getItem_tuple_cut{t sl:Addr}{items:Array Value}{vl vu:Value}{lo hi:Option Int}{Q:Value→Shared→Prop}(ht:IsTup s.heap t items)(hs:s.heap.IsSliceOf sl vl vu .none)(pl:IsPart vl lo)(pu:IsPart vu hi)
    (hw:¬(sIx items.size 0 lo=0∧sIx items.size items.size hi=items.size))
    (h:Q (.ref s.heap.objs.size) {s with heap:=s.heap.push {cls:=.type "tuple",data:=.seq ((items.toList.drop (sIx items.size 0 lo)).take (sIx items.size items.size hi - sIx items.size 0 lo)).toArray}})
    (hsz:items.size≤sizeLine):wpAny (model prog w) A (getItem (.ref t) (.ref sl)) Q E s:=by
  have htake:sizeOk (.seq ((items.toList.drop (sIx items.size 0 lo)).take (sIx items.size items.size hi - sIx items.size 0 lo)).toArray):=by
    show((items.toList.drop (sIx items.size 0 lo)).take (sIx items.size items.size hi - sIx items.size 0 lo)).toArray.size≤sizeLine
    rw [List.size_toArray,List.length_take,List.length_drop,Array.length_toList]
    lia
  have hj:sIx items.size items.size hi≤items.size:=CU _ _ (Nat.le_refl _) hi
  obtain⟨os,hos,hcs,hds⟩:=id hs
  have hTs:s.TypeIs (.ref sl) "slice":=⟨os,hos,hcs⟩
  unfold getItem
  try with_reducible refine wpAny_holding ?_
  first | refine wpAny_bind (wpAny_pure ?_) | skip
  refine wpAny_bind (wpAny_sequenceKey ht.typeIs (by decide) ?_)
  refine wpAny_bind (wpAny_callSpecial?_slot (name:=Str.ofString "__getitem__") ht.typeIs PyProof.Rows.slot_tuple_getitem
    (wpAny_call_entry PyProof.Rows.slot_tuple_getitem ht.typeIs entry_tuple_getitem ?_ (args_tuple_getitem _ _)))
  show wpAny _ _ (Builtin.Tuple.tupleItemsOf (.ref t) >>= _) _ _ s
  refine wpAny_bind (tupleItemsOf_ ht ?_)
  refine wpAny_bind (wpAny_typeOf hTs ?_)
  rw [if_pos (by decide)]
  refine wpAny_bind (iy hs pl pu ?_)
  have hno:¬((((sIx items.size 0 lo:Nat):Int)==0&&(1:Int)==1&&(sIx items.size items.size hi - sIx items.size 0 lo)==items.size)=true):=by
    intro q
    rw [Bool.and_eq_true,Bool.and_eq_true] at q
    have q1:((sIx items.size 0 lo:Nat):Int)=0:=eq_of_beq q.1.1
    have q2:sIx items.size items.size hi - sIx items.size 0 lo=items.size:=eq_of_beq q.2
    exact hw ⟨by lia,by lia⟩
  show wpAny _ _ (if (((sIx items.size 0 lo:Nat):Int)==0&&(1:Int)==1&&(sIx items.size items.size hi - sIx items.size 0 lo)==items.size)=true then _ else _) _ _ s
  rw [if_neg hno,xT]
  first
    | exact wpAny_bind (m:=Builtin.Tuple.tupleExact _) (wpAny_newObj_type (wpAny_pure ⟨_,rfl,wpAny_pure h⟩) htake)
    | exact wpAny_bind (m:=Builtin.Tuple.tupleExact _) (wpAny_newObj_type (wpAny_bind (wpAny_pure (wpAny_pure ⟨_,rfl,wpAny_pure h⟩))) htake)
    | exact wpAny_bind (wpAny_bind (m:=Builtin.Tuple.tupleExact _) (wpAny_newObj_type (wpAny_pure (wpAny_pure ⟨_,rfl,wpAny_pure h⟩)) htake))
    | exact wpAny_bind (wpAny_bind (m:=Builtin.Tuple.tupleExact _) (wpAny_newObj_type (wpAny_pure ⟨_,rfl,wpAny_pure h⟩) htake))
end
end HT
namespace L2
open PySem PySem.Spec PyProof.Rows
abbrev TO:=St→Hp→(Option Int→Hp→Prop)→Prop
def PO(X:Cx)(e:Option Expr)(t:TO):Prop:=
  ∀(pins:List (Addr × Obj)) (s:Shared) (σ:St) (H:Hp) (Q:Option Int→Hp→Prop),aF X pins σ H s→t σ H Q→
    wpAny (model X.prog X.w) X.A (evalPart e X.env) (fun u s'=>∃o H',aF X pins σ H' s'∧IsPart u o∧Q o H') X.xe s
def Aq:TO:=fun _ H Q=>Q none H
def Ex(t:TE):TO:=fun σ H Q=>t σ H fun x H1=>∃i,x=.int i∧Q (some i) H1
theorem sL{ns:List Int}:∀{us:List Value},aR (ns.map V.int) us→IntsAre us ns:=by
  induction ns with
  | nil=>intro us r;rw [List.map_nil] at r;cases r;exact .nil
  | cons n ns ih=>
    intro us r
    rw [List.map_cons] at r
    cases r with
    | cons r1 r2=>
      obtain⟨t,e⟩:=r1
      subst e
      exact .cons n t (ih r2)
section
variable{X:Cx}{e:Expr}{te:TE}{lo hi:Option Expr}{tl th:TO}{pos p2:Pos}
theorem zT:PO X none Aq:=by
  intro pins s σ H Q I h
  rw [evalPart_none]
  exact wpAny_pure ⟨none,H,I,.none,h⟩
theorem zU(h:PE X e te):PO X (some e) (Ex te):=by
  intro pins s σ H Q I hw
  rw [evalPart_some]
  refine ci (h pins s σ H _ I hw) fun u s1 ⟨x,H1,I1,r1,q1⟩=>?_
  obtain⟨i,rfl,q⟩:=q1
  obtain⟨t,rfl⟩:=r1
  exact⟨some i,H1,I1,.int i t,q⟩
def yS(X:Cx)(r:V→Option Int→Option Int→Hp→VK→Prop):Prop:=
  ∀(pins:List (Addr × Obj)) (s:Shared) (σ:St) (H:Hp) (x:V) (v vl vu:Value) (lo hi:Option Int) (sl:Addr) (Q:VK),aF X pins σ H s→bI x v→s.heap.IsSliceOf sl vl vu .none→IsPart vl lo→IsPart vu hi→r x lo hi H Q→
    ∃T id,typeLookup (.type T) "__getitem__"=pure (some (.builtin id))∧s.TypeIs v T∧wpAny (model X.prog X.w) X.A (getItem v (.ref sl)) (EP X pins σ Q) X.xe s
theorem yS.or{r r':V→Option Int→Option Int→Hp→VK→Prop}(h:yS X r)(h':yS X r'):yS X (fun x lo hi H Q=>r x lo hi H Q∨r' x lo hi H Q):=by
  intro pins s σ H x v vl vu lo hi sl Q I rx hs pl pu q
  rcases q with q | q
  · exact h pins s σ H x v vl vu lo hi sl Q I rx hs pl pu q
  · exact h' pins s σ H x v vl vu lo hi sl Q I rx hs pl pu q
def Gx(r:V→Option Int→Option Int→Hp→VK→Prop)(te:TE)(tl th:TO):TE:=fun σ H Q=>te σ H fun x H1=>tl σ H1 fun l H2=>th σ H2 fun u H3=>r x l u H3 Q
theorem xJ{r:V→Option Int→Option Int→Hp→VK→Prop}(hr:yS X r)(he:PE X e te)(hl:PO X lo tl)(hu:PO X hi th):PE X (.Subscript e (.Slice lo hi none p2) pos) (Gx r te tl th):=by
  intro pins s σ H Q I h
  refine Subscript_ (ci (he pins s σ H _ I h) fun v s1 ⟨x,H1,I1,r1,q1⟩=>?_)
  refine wpAny_Slice (ci (hl pins s1 σ H1 _ I1 q1) fun vl s2 ⟨l,H2,I2,pl,q2⟩=>ci (hu pins s2 σ H2 _ I2 q2) fun vu s3 ⟨u,H3,I3,pu,q3⟩=>?_)
  rw [evalPart_none]
  refine wpAny_pure ?_
  have I4:aF X pins σ H3 {s3 with heap:=s3.heap.push {cls:=.type "slice",data:=.fields #[vl,vu,.none]}}:=I3.kept (t':=s3.toks) fun b ob q=>Heap.get?_push_of_some _ q
  obtain⟨T,id,hT,ht,hg⟩:=hr pins {s3 with heap:=s3.heap.push {cls:=.type "slice",data:=.fields #[vl,vu,.none]}} σ H3 x v vl vu l u s3.heap.objs.size Q I4 r1 (Heap.IsSliceOf.new ..) pl pu q3
  show wpAny (model X.prog X.w) X.A (subscriptTail e (.Slice lo hi none p2) v (.ref s3.heap.objs.size)) (EP X pins σ Q) X.xe {s3 with heap:=s3.heap.push {cls:=.type "slice",data:=.fields #[vl,vu,.none]}}
  exact tail_any (ops:=[.ref s3.heap.objs.size,v]) ht hT hg (by with_unfolding_all rfl)
def oD(xs:List V)(lo hi:Option Int):List V:=(xs.drop (HT.sIx xs.length 0 lo)).take (HT.sIx xs.length xs.length hi - HT.sIx xs.length 0 lo)
theorem l8(xs:List V)(lo hi:Option Int):(oD xs lo hi).length≤xs.length:=by
  unfold oD
  rw [List.length_take,List.length_drop]
  lia
def Ei(K:PySem.W.Frag):V→Option Int→Option Int→Hp→VK→Prop:=fun x lo hi H Q=>∃a xs,x=.ref a∧cg K H a xs∧
  ¬(HT.sIx xs.length 0 lo=0∧HT.sIx xs.length xs.length hi=xs.length)∧∀p,H p=none→Q (.ref p) (bj H p (.tup (oD xs lo hi)))
theorem CY:yS X (Ei X.K):=by
  intro pins s σ H x v vl vu lo hi sl Q I rx hs pl pu h
  obtain⟨a,xs,rfl,hx,hw,q⟩:=h
  cases rx
  obtain⟨its,r,ht,hz⟩:=I.tuple hx
  have hlen:its.toArray.size=xs.length:=by rw [List.size_toArray];exact r.length.symm
  refine⟨"tuple",_,PyProof.Rows.slot_tuple_getitem.lookup,ht.typeIs,?_⟩
  refine HT.getItem_tuple_cut ht hs pl pu (by rw [hlen];exact hw) ?_ (by rw [hlen];exact hz)
  rw [hlen]
  refine⟨.ref s.heap.objs.size,_,I.laid (t':=s.toks) (o:=.tup (oD xs lo hi)) (fun b ob q=>Heap.get?_push_of_some _ q) (Nat.le_refl _) ?_,rfl,q _ (I.hok.fresh (Nat.le_refl _))⟩
  exact⟨Nat.le_trans (l8 xs lo hi) hz,_,(r.drop (HT.sIx xs.length 0 lo)).take (HT.sIx xs.length xs.length hi - HT.sIx xs.length 0 lo),IsTup.new _ _⟩
def Eb(K:PySem.W.Frag):R2:=fun x y H Q=>∃a b xs ys,x=.ref a∧y=.ref b∧cg K H a xs∧cg K H b ys∧xs≠[]∧xs.length+ys.length≤sizeLine∧
  (ys=[]→Q (.ref a) H)∧(ys≠[]→∀p,H p=none→Q (.ref p) (bj H p (.tup (xs++ys))))
theorem aR.nil_iff{xs:List V}{us:List Value}(r:aR xs us):us=[]↔ xs=[]:=by
  cases r with
  | nil=>simp
  | cons _ _=>simp
theorem zD:i6 X (binaryOp .Add) (Eb X.K):=by
  intro pins s σ H x y v u Q I rx ry h
  obtain⟨a,b,xs,ys,rfl,rfl,ha,hb,hx,hz,q1,q2⟩:=h
  cases rx
  cases ry
  obtain⟨its,r1,p1,_⟩:=I.tuple ha
  obtain⟨its2,r2,p2,_⟩:=I.tuple hb
  refine HT.cat_tup p1 p2 (fun z=>hx (r1.nil_iff.mp z)) (fun z=>⟨.ref a,H,I,rfl,q1 (r2.nil_iff.mp z)⟩) (fun z=>?_) (by rw [←r1.length,←r2.length];exact hz)
  refine⟨.ref s.heap.objs.size,_,I.laid (t':=s.toks) (o:=.tup (xs++ys)) (fun b ob q=>Heap.get?_push_of_some _ q) (Nat.le_refl _) ?_,rfl,q2 (fun w=>z (r2.nil_iff.mpr w)) _ (I.hok.fresh (Nat.le_refl _))⟩
  exact⟨by rw [List.length_append];exact hz,_,r1.append r2,IsTup.new _ _⟩
end
end L2
namespace L2
open PySem PySem.Spec PyProof.Rows
def qO(n:Nat)(i:Int):Option Nat:=if 0≤i then(if i < n then some i.toNat else none) else if -(n:Int)≤i then some (i+n).toNat else none
def atI{α:Type}(xs:List α)(i:Int):Option α:=(qO xs.length i).bind fun j=>xs[j]?
theorem ur{n:Nat}{i:Int}{j:Nat}(h:qO n i=some j):seqIndex? i n=some j∧j < n∧ -(n:Int)≤i∧i < n:=by
  unfold qO at h
  by_cases h0:0≤i
  · rw [if_pos h0] at h
    by_cases h1:i < n
    · rw [if_pos h1] at h
      have e:i.toNat=j:=Option.some.inj h
      exact⟨by rw [seqIndex_of h0 h1,e],by lia,by lia,h1⟩
    · rw [if_neg h1] at h;cases h
  · rw [if_neg h0] at h
    by_cases h1: -(n:Int)≤i
    · rw [if_pos h1] at h
      have e:(i+n).toNat=j:=Option.some.inj h
      exact⟨by rw [seqIndex_neg (by lia) h1,e],by lia,h1,by lia⟩
    · rw [if_neg h1] at h;cases h
theorem tV{α:Type}{xs:List α}{i:Int}{v:α}(h:atI xs i=some v):∃j,seqIndex? i xs.length=some j∧xs[j]?=some v∧j < xs.length∧ -(xs.length:Int)≤i∧i < xs.length:=by
  unfold atI at h
  cases e:qO xs.length i with
  | none=>rw [e] at h;cases h
  | some j=>
    rw [e] at h
    obtain⟨h1,h2,h3,h4⟩:=ur e
    exact⟨j,h1,h,h2,h3,h4⟩
def mK(b:Expr):Prop:=∀o i,subscripted b false o i=operate [o,i] (getItem o i)
def yJ(X:Cx)(r:R2):Prop:=
  ∀(value slice:Expr) (pins:List (Addr × Obj)) (s:Shared) (σ:St) (H:Hp) (x y:V) (v u:Value) (Q:VK),aF X pins σ H s→bI x v→bI y u→r x y H Q→
    subscripted slice false v u=operate [v,u] (getItem v u)→wpAny (model X.prog X.w) X.A (subscriptTail value slice v u) (EP X pins σ Q) X.xe s
def FW(X:Cx)(id:String)(r:V→List V→Hp→VK→Prop):Prop:=
  ∀(pins:List (Addr × Obj)) (s:Shared) (σ:St) (H:Hp) (x:V) (xs:List V) (v:Value) (us:List Value) (Q:VK),aF X pins σ H s→bI x v→aR xs us→r x xs H Q→
    wpAny (model X.prog X.w) X.A (call (.builtin id) (v::us)) (EP X pins σ Q) X.xe s
section
variable{X:Cx}{a b:Expr}{ta tb:TE}{pos:Pos}
theorem yJ.or{r r':R2}(h:yJ X r)(h':yJ X r'):yJ X (fun x y H Q=>r x y H Q∨r' x y H Q):=by
  intro value slice pins s σ H x y v u Q I rx ry q hs
  rcases q with q | q
  · exact h value slice pins s σ H x y v u Q I rx ry q hs
  · exact h' value slice pins s σ H x y v u Q I rx ry q hs
theorem Bc{r:R2}(hr:yJ X r)(ha:PE X a ta)(hb:PE X b tb)(hs:mK b):PE X (.Subscript a b pos) (Ew r ta tb):=by
  intro pins s σ H Q I h
  exact Subscript_ (Bw ha hb I h fun v u s2 x y H2 I2 rx ry q=>hr a b pins s2 σ H2 x y v u Q I2 rx ry q (hs _ _))
def CM(K:PySem.W.Frag):R2:=fun x y H Q=>∃p xs i v,x=.ref p∧y=.int i∧cX K H p xs∧atI xs i=some v∧Q v H
def Ef(K:PySem.W.Frag):R2:=fun x y H Q=>∃p xs i v,x=.ref p∧y=.int i∧cg K H p xs∧atI xs i=some v∧Q v H
theorem ut:yJ X (CM X.K):=by
  intro value slice pins s σ H x y v u Q I rx ry h hs
  obtain⟨p,xs,i,z,rfl,rfl,hq,he,q⟩:=h
  cases rx
  obtain⟨t,rfl⟩:=ry
  obtain⟨its,r,pl,hz⟩:=I.list hq
  obtain⟨j,h1,h2,h3,h4,h5⟩:=tV he
  obtain⟨w,ew,rw'⟩:=r.get h2
  have hl:=r.length
  have hn:=qf
  have fin:EP X pins σ Q w s:=⟨z,H,I,rw',q⟩
  by_cases h0:0≤i
  · have hj:i.toNat=j:=by
      rw [seqIndex_of h0 h5] at h1
      exact Option.some.inj h1
    exact item_listR pl.isList h0 (by lia) (by rw [hj];simpa using ew) fin hs
  · have hj:(i+(its.toArray.size:Int)).toNat=j:=by
      rw [seqIndex_neg (by lia) h4] at h1
      rw [List.size_toArray,←hl]
      exact Option.some.inj h1
    exact subscriptTail_builtinR (x:=w) pl.isList.typeIs slot_list_getitem.lookup
      (wpAny_getItem_list_neg (Q:=fun r s'=>r=w∧EP X pins σ Q r s') pl.isList (by lia) (by rw [List.size_toArray]<;>lia) (by lia) (by rw [hj];simpa using ew) ⟨rfl,fin⟩) hs
theorem BP:yJ X (Ef X.K):=by
  intro value slice pins s σ H x y v u Q I rx ry h hs
  obtain⟨p,xs,i,z,rfl,rfl,hq,he,q⟩:=h
  cases rx
  obtain⟨t,rfl⟩:=ry
  obtain⟨its,r,pl,hz⟩:=I.tuple hq
  obtain⟨j,h1,h2,h3,h4,h5⟩:=tV he
  obtain⟨w,ew,rw'⟩:=r.get h2
  have hl:=r.length
  have hn:=qf
  have fin:EP X pins σ Q w s:=⟨z,H,I,rw',q⟩
  exact subscriptTail_builtinR (x:=w) pl.typeIs slot_tuple_getitem.lookup
    (getItem_tuple (j:=j) (Q:=fun r s'=>r=w∧EP X pins σ Q r s') pl (by lia) (by lia) (by rw [List.size_toArray,←hl];exact h1) (by simpa using ew) ⟨rfl,fin⟩) hs
theorem sR(its:List Value)(n j:Nat)(u:Value):Obj.mapSeq (·.setIfInBounds j u) {cls:=.type "list",data:=.seq its.toArray n}={cls:=.type "list",data:=.seq (its.set j u).toArray n}:=by
  simp [Obj.mapSeq]
theorem aF.lst{pins:List (Addr × Obj)}{σ:St}{H:Hp}{s:Shared}{p:Addr}{xs:List V}(I:aF X pins σ H s)(h:H p=some (.lst xs)):
    ∃(its:List Value) (n:Nat),aR xs its∧s.heap.get? p=some {cls:=.type "list",data:=.seq its.toArray n}∧xs.length≤sizeLine:=by
  obtain⟨z,its,n,r,e⟩:=I.hok p _ h
  exact⟨its,n,r,e,z⟩
theorem aF.lstUpd{pins:List (Addr × Obj)}{σ:St}{H:Hp}{s:Shared}{p:Addr}{xs ys:List V}{its its':List Value}{n n':Nat}{f:Obj→Obj}(I:aF X pins σ H s)(h:H p=some (.lst xs))
    (ho:s.heap.get? p=some {cls:=.type "list",data:=.seq its.toArray n})(hf:f {cls:=.type "list",data:=.seq its.toArray n}={cls:=.type "list",data:=.seq its'.toArray n'})(r:aR ys its')(hz:ys.length≤sizeLine)(t:Nat):
    aF X pins σ (bj H p (.lst ys)) {s with heap:=s.heap.update p f,toks:=t}:=by
  have e:(s.heap.update p f).get? p=some {cls:=.type "list",data:=.seq its'.toArray n'}:=by
    rw [Heap.get?_update_self f ho (by rw [hf]<;>rfl),hf]
  refine I.write (x:=p) (e:=p) (by rw [h];trivial) (.inl rfl) (fun b u hb q=>(Heap.get?_update_other _ _ (Ne.symm hb)).trans q) ⟨_,e⟩ ?_
  exact⟨hz,its',n',r,e⟩
def Eg:V→V→V→Hp→(Hp→Prop)→Prop:=fun o i v H Q=>∃p xs k j,o=.ref p∧i=.int k∧H p=some (.lst xs)∧qO xs.length k=some j∧Q (bj H p (.lst (xs.set j v)))
theorem rX:Dn X Eg:=by
  intro pins s σ H o i v ov iv u Q I ro ri rv h
  obtain⟨p,xs,k,j,rfl,rfl,hp,hj,q⟩:=h
  cases ro
  obtain⟨t,rfl⟩:=ri
  obtain⟨its,n,r,ho,hz⟩:=I.lst hp
  obtain⟨h1,h2,h3,h4⟩:=ur hj
  have hl:=r.length
  have hn:=qf
  have I':aF X pins σ (bj H p (.lst (xs.set j v))) {s with heap:=s.heap.update p (Obj.mapSeq (·.setIfInBounds j u))}:=
    I.lstUpd hp ho (sR its n j u) (r.set rv j) (by rw [List.length_set];exact hz) s.toks
  by_cases h0:0≤k
  · have hk:k.toNat=j:=by
      rw [seqIndex_of h0 h4] at h1
      exact Option.some.inj h1
    exact PySem.W.ki_setAt ho h0 (by lia) (by rw [List.size_toArray,←hl];exact h4) (by rw [hk];exact⟨_,I',q⟩)
  · have hk:(k+(its.toArray.size:Int)).toNat=j:=by
      rw [seqIndex_neg (by lia) h3] at h1
      rw [List.size_toArray,←hl]
      exact Option.some.inj h1
    exact PySem.W.ki_setBack ho (by lia) (by rw [List.size_toArray,←hl];exact h3) (by lia) (by rw [hk];exact⟨_,I',q⟩)
theorem qE(lo hi:Option Int)(n:Nat):(sliceBounds lo hi none n).1=((HT.sIx n 0 lo:Nat):Int)∧(sliceBounds lo hi none n).2.1=((HT.sIx n n hi:Nat):Int)∧(sliceBounds lo hi none n).2.2=1:=by
  refine⟨?_,?_,rfl⟩
  · cases lo with
    | none=>simp [sliceBounds,HT.sIx]
    | some i=>
      simp only [sliceBounds,HT.sIx,Option.getD_none,show(1:Int) > 0 by decide,if_true]
      by_cases h:i < 0
      · simp only [h,if_true]<;>lia
      · simp only [h,if_false]<;>lia
  · cases hi with
    | none=>simp [sliceBounds,HT.sIx]
    | some i=>
      simp only [sliceBounds,HT.sIx,Option.getD_none,show(1:Int) > 0 by decide,if_true]
      by_cases h:i < 0
      · simp only [h,if_true]<;>lia
      · simp only [h,if_false]<;>lia
theorem oM(its:List Value)(lo hi:Option Int):slicePick its.toArray lo hi none=((its.drop (HT.sIx its.length 0 lo)).take (HT.sIx its.length its.length hi - HT.sIx its.length 0 lo)).toArray:=by
  obtain⟨h1,h2,h3⟩:=qE lo hi its.toArray.size
  unfold slicePick
  rw [h1,h2,h3]
  simp only [sliceRange_one,pick_run,List.size_toArray]<;>rfl
def Eh(K:PySem.W.Frag):V→Option Int→Option Int→Hp→VK→Prop:=fun x lo hi H Q=>∃a xs,x=.ref a∧cX K H a xs∧∀p,H p=none→Q (.ref p) (bj H p (.lst (oD xs lo hi)))
theorem An:yS X (Eh X.K):=by
  intro pins s σ H x v vl vu lo hi sl Q I rx hs pl pu h
  obtain⟨a,xs,rfl,hx,q⟩:=h
  cases rx
  obtain⟨its,r,ht,hz⟩:=I.list hx
  have hlen:=r.length
  refine⟨"list",_,slot_list_getitem.lookup,ht.isList.typeIs,?_⟩
  refine wpAny_getItem_list_slice ht.isList hs pl pu .none (by simp) ?_ (by rw [List.size_toArray]<;>lia)
  rw [oM,←hlen]
  refine⟨.ref s.heap.objs.size,_,I.laid (t':=s.toks) (o:=.lst (oD xs lo hi)) (fun b ob q=>Heap.get?_push_of_some _ q) (Nat.le_refl _) ?_,rfl,q _ (I.hok.fresh (Nat.le_refl _))⟩
  exact⟨Nat.le_trans (l8 xs lo hi) hz,_,0,(r.drop (HT.sIx xs.length 0 lo)).take (HT.sIx xs.length xs.length hi - HT.sIx xs.length 0 lo),Heap.get?_push_size _ rfl⟩
theorem kM:ey X (.builtin "len") (fun xs H Q=>∃p ys,xs=[.ref p]∧(cX X.K H p ys∨cg X.K H p ys)∧Q (.int ys.length) H):=by
  intro pins s σ H xs us Q I r h
  obtain⟨p,ys,rfl,hq,q⟩:=h
  obtain⟨u,rfl,rx⟩:=si r
  cases rx
  have hn:=qf
  rcases hq with hq | hq
  · obtain⟨its,r',pl,hz⟩:=I.list hq
    have hlen:=r'.length
    exact Calls.call_len_list pl.isList (by simp only [List.size_toArray]<;>lia) ⟨.int ys.length,H,I.tok _,⟨s.toks+1,by rw [List.size_toArray,hlen]⟩,q⟩
  · obtain⟨its,r',pl,hz⟩:=I.tuple hq
    have hlen:=r'.length
    exact len_tuple pl (by simp only [List.size_toArray]<;>lia) ⟨.int ys.length,H,I.tok _,⟨s.toks+1,by rw [List.size_toArray,hlen]⟩,q⟩
theorem oC:ey X (.type "tuple") (fun xs H Q=>∃p ys,xs=[.ref p]∧((cX X.K H p ys∧∀l,H l=none→Q (.ref l) (bj H l (.tup ys)))∨(cg X.K H p ys∧Q (.ref p) H))):=by
  intro pins s σ H xs us Q I r h
  obtain⟨p,ys,rfl,h⟩:=h
  obtain⟨u,rfl,rx⟩:=si r
  cases rx
  rcases h with ⟨hq,q⟩ | ⟨hq,q⟩
  · obtain⟨its,r',pl,hz⟩:=I.list hq
    have hlen:=r'.length
    refine call_tuple_list pl.isList (fun h' kp=>?_) (by simp only [List.size_toArray]<;>lia)
    have I1:aF X pins σ H {s with heap:=h'}:=I.kept (t':=s.toks) kp
    have I2:aF X pins σ (bj H h'.objs.size (.tup ys)) {s with heap:=h'.push {cls:=.type "tuple",data:=.seq its.toArray}}:=
      I1.laid (t':=s.toks) (fun b o e=>Heap.get?_push_of_some _ e) (Nat.le_refl _) (show gG X.prog X.w _ _ _ (.tup ys) from⟨hz,its,r',IsTup.new _ _⟩)
    exact⟨.ref h'.objs.size,_,I2,rfl,q _ (I1.hok.fresh (Nat.le_refl _))⟩
  · obtain⟨its,r',pl,hz⟩:=I.tuple hq
    exact call_tuple_same pl ⟨.ref p,H,I,rfl,q⟩
def Gf(K:PySem.W.Frag)(T:String)(x:V)(H:Hp):Prop:=match x with
  | .str _=>T="str"
  | .int _=>T="int"
  | .ref p=>(T="list"∧∃xs,cX K H p xs)∨(T="tuple"∧∃o,K.lookup p=some o∧o.cls=.type "tuple"∧o.dict=none)∨
      (T="dict"∧((∃kvs,H p=some (.dK kvs))∨∃kvs,H p=some (.dT kvs)))∨(T="set"∧∃S n,H p=some (.set S n))
  | _=>False
theorem Dc{pins:List (Addr × Obj)}{σ:St}{H:Hp}{s:Shared}{T:String}{x:V}{v:Value}(I:aF X pins σ H s)(r:bI x v)(ty:Gf X.K T x H):
    s.TypeIs v T∧∀a,v=.ref a→∃ob,s.heap.get? a=some ob∧ob.dict=none:=by
  cases x with
  | str z=>
    obtain⟨t,rfl⟩:=r
    cases (show T="str" from ty)
    exact⟨typeIs_str s z t,fun _ e=>nomatch e⟩
  | int i=>
    obtain⟨t,rfl⟩:=r
    cases (show T="int" from ty)
    exact⟨typeIs_int s i t,fun _ e=>nomatch e⟩
  | ref p=>
    cases r
    rcases ty with ⟨rfl,xs,hq⟩ | ⟨rfl,o,hk,hc,hd⟩ | ⟨rfl,hk⟩ | ⟨rfl,S,n,hk⟩
    · obtain⟨its,_,pl,_⟩:=I.list hq
      refine⟨pl.isList.typeIs,fun a e=>?_⟩
      cases e
      obtain⟨o,n,e,c,hd,_⟩:=pl
      exact⟨o,e,hd⟩
    · refine⟨⟨o,I.kIn p o hk,hc⟩,fun a e=>?_⟩
      cases e
      exact⟨o,I.kIn _ o hk,hd⟩
    · have z:∃o,s.heap.get? p=some o∧o.ExactDict:=by
        rcases hk with ⟨kvs,hk⟩ | ⟨kvs,hk⟩
        · obtain⟨_,_,_,_,o,_,_,e,ex,_⟩:=I.hok p _ hk
          exact⟨o,e,ex⟩
        · obtain⟨_,_,_,_,o,_,_,e,ex,_⟩:=I.hok p _ hk
          exact⟨o,e,ex⟩
      obtain⟨o,e,ex⟩:=z
      refine⟨⟨o,e,ex.1⟩,fun a e2=>?_⟩
      cases e2
      exact⟨o,e,ex.2.1⟩
    · obtain⟨o,_,_,_,e,ex,_⟩:=I.hok p _ hk
      refine⟨⟨o,e,ex.1⟩,fun a e2=>?_⟩
      cases e2
      exact⟨o,e,ex.2.1⟩
  | _=>exact False.elim ty
def Gc(K:PySem.W.Frag)(T:String)(r:V→List V→Hp→VK→Prop)(to:TE)(t:TA):TE:=fun σ H Q=>to σ H fun x H1=>Gf K T x H1∧t σ H1 fun xs H2=>r x xs H2 Q
variable{o e:Expr}{es:List Expr}{to:TE}{t:TA}{name:Str}{apos cpos:Pos}{T id:String}{r:V→List V→Hp→VK→Prop}
theorem Bb(pa:PlainAttrs T)(slot:Slot T name id)(hty:typeOf (.builtin id)=pure (.type "method_descriptor"))(hm:FW X id r)(ho:PE X o to)(ha:PA X (e::es) t)
    (hbase:attributeBase o name X.env (eval o X.env)=eval o X.env:=by rfl)
    (hfew:((backTo cpos (starEach (e::es) X.env)).all (fun x=> !x.1)&&(backToKw cpos (keywordEach [] X.env)).all (fun x=>x.1.isSome)
      &&decide ((e::es).length+([]:List Keyword).length+(if ([]:List Keyword).isEmpty then 0 else 1) < 30))=true:=by rfl)
    (hline:(apos.endLine==cpos.line)=true:=by rfl)(hs:starEach (e::es) X.env=(false,eval e X.env)::starEach es X.env:=by rfl)(hplain:(backTo cpos (starEach es X.env)).any (·.1)=false:=by rfl):
    PE X (.Call (.Attribute o name apos) (e::es) [] cpos) (Gc X.K T r to t):=by
  intro pins s σ H Q I h
  refine wpAny_Call_method_late hbase hfew hline rfl (ci (ho pins s σ H _ I h) fun v s1 ⟨x,H1,I1,r1,ty,q1⟩=>?_)
  obtain⟨h1,h2⟩:=Dc I1 r1 ty
  refine⟨T,id,pa,slot,hty,h1,h2,?_⟩
  have hA:=ha cpos pins s1 σ H1 _ I1 q1
  rw [hs] at hA ⊢
  refine Calls.callWith_builtin (by show(false || (backTo cpos (starEach es X.env)).any (·.1))=false;rw [hplain]<;>rfl) (Calls.evalArgs_plain ?_)
  exact ci hA fun us s2 ⟨vs,H2,I2,r2,q2⟩=>hm pins s2 σ H2 x vs v us Q I2 r1 r2 q2
end
end L2
namespace L2
open PySem PySem.Spec PyProof.Rows
def FV(X:Cx)(id:String)(r:V→List V→Hp→VK→Prop):Prop:=
  ∀(pins:List (Addr × Obj)) (s:Shared) (σ:St) (H:Hp) (x:V) (xs:List V) (v:Value) (us:List Value) (Q:VK),aF X pins σ H s→bI x v→aR xs us→r x xs H Q→
    wpAny (model X.prog X.w) X.A (call (.builtin id) (v::us)) (EP X pins σ Q) X.xe s
theorem aR.one:∀{x:V} {us:List Value},aR [x] us→∃u,us=[u]∧bI x u
  | _,_,.cons r .nil=>⟨_,rfl,r⟩
theorem aR.eraseIdx:∀{xs:List V} {us:List Value} (i:Nat),aR xs us→aR (xs.eraseIdx i) (us.eraseIdx i)
  | _,_,_,.nil=>.nil
  | _,_,0,.cons _ t=>t
  | _,_,i+1,.cons r t=>.cons r (aR.eraseIdx i t)
theorem aR.reverse{xs:List V}{us:List Value}(h:aR xs us):aR xs.reverse us.reverse:=by
  induction h with
  | nil=>exact .nil
  | cons r t ih=>rw [List.reverse_cons,List.reverse_cons];exact aR.append ih (.cons r .nil)
theorem aR.rep{xs:List V}{us:List Value}(h:aR xs us):∀k:Nat,aR (List.replicate k xs).flatten (List.replicate k us).flatten
  | 0=>.nil
  | k+1=>by
    rw [List.replicate_succ,List.replicate_succ,List.flatten_cons,List.flatten_cons]
    exact aR.append h (aR.rep h k)
theorem pv{α:Type}:∀(l:List α) (i:Nat),(l.eraseIdx i).length≤l.length
  | [],_=>Nat.le_refl _
  | _::_,0=>Nat.le_succ _
  | _::r,i+1=>Nat.succ_le_succ (pv r i)
theorem pd(its:List Value):∀(k:Nat) (acc:List Value),
    List.foldl (fun x1 x2=>x1++x2) acc.toArray (List.replicate k its.toArray)=(acc++(List.replicate k its).flatten).toArray
  | 0,acc=>by simp
  | k+1,acc=>by
    have e:acc.toArray++its.toArray=(acc++its).toArray:=by simp
    have e2:(acc++its)++(List.replicate k its).flatten=acc++(List.replicate (k+1) its).flatten:=by
      rw [List.replicate_succ,List.flatten_cons,List.append_assoc]
    rw [←e2,←pd its k (acc++its),←e,List.replicate_succ,List.foldl_cons]
section
variable{X:Cx}{pins:List (Addr × Obj)}{σ:St}{H:Hp}{s:Shared}{l b:Addr}{xs ys zs:List V}
theorem aF.lset{its its':List Value}{n:Nat}{f:Array Value→Array Value}{t':Nat}(I:aF X pins σ H s)(hH:H l=some (.lst xs))
    (e:s.heap.get? l=some {cls:=.type "list",data:=.seq its.toArray n})(hf:f its.toArray=its'.toArray)(hv:aR ys its')(hz:ys.length≤sizeLine):
    aF X pins σ (bj H l (.lst ys)) {s with heap:=s.heap.update l (Obj.mapSeq f),toks:=t'}:=by
  have q:=PySem.IsL.update e f
  rw [hf] at q
  refine I.write (x:=l) (e:=l) (by rw [hH];exact trivial) (.inl rfl) (fun b' u hb hu=>(Heap.get?_update_other s.heap (Obj.mapSeq f) (Ne.symm hb)).trans hu) ⟨_,q⟩ ?_
  exact⟨hz,its',_,hv,q⟩
theorem aF.lnew{its:List Value}{t':Nat}(I:aF X pins σ H s)(hv:aR ys its)(hz:ys.length≤sizeLine):
    aF X pins σ (bj H s.heap.objs.size (.lst ys)) {s with heap:=s.heap.push {cls:=.type "list",data:=.seq its.toArray},toks:=t'}:=
  I.laid (fun _ _ q=>Heap.get?_push_of_some _ q) (Nat.le_refl _) ⟨hz,its,0,hv,Heap.get?_push_size _ rfl⟩
theorem aF.fresh(I:aF X pins σ H s):H s.heap.objs.size=none:=I.hok.fresh (Nat.le_refl _)
theorem aF.lstM(I:aF X pins σ H s)(hH:H l=some (.lst xs)):xs.length≤sizeLine∧∃(its:List Value) (n:Nat),aR xs its∧xs.length=its.length∧s.heap.get? l=some {cls:=.type "list",data:=.seq its.toArray n}:=by
  obtain⟨z,its,n,r,e⟩:=I.hok l _ hH
  exact⟨z,its,n,r,r.length,e⟩
theorem xr{n:Nat}(h:n≤sizeLine):Builtin.List.listTooLong n=false:=by
  unfold Builtin.List.listTooLong
  exact decide_eq_false (by lia)
end
section
variable{X:Cx}
def uE:V→List V→Hp→VK→Prop:=fun x vs H Q=>∃l xs y,x=.ref l∧vs=[y]∧H l=some (.lst xs)∧xs.length < sizeLine∧Q .non (bj H l (.lst (xs++[y])))
theorem jX:FV X "list.append" uE:=by
  intro pins s σ H x vs v us Q I rx rv h
  obtain⟨l,xs,y,rfl,rfl,hH,hz,q⟩:=h
  cases rx
  obtain⟨u,rfl,ru⟩:=rv.one
  obtain⟨z,its,n,r,hl,e⟩:=I.lstM hH
  refine call_meets F.slot_list_append ⟨_,e,rfl⟩ F.entry_list_append (F.args_list_append_2 _ _) (PySem.list_append l its.toArray n u (by rw [List.size_toArray];lia)) ⟨e,?_⟩
  refine⟨.non,_,I.lset (its':=its++[u]) hH e (by simp) (r.append (.cons ru .nil)) ?_,rfl,q⟩
  rw [List.length_append,List.length_singleton]
  lia
def ya:V→List V→Hp→VK→Prop:=fun x vs H Q=>∃l xs i k y,x=.ref l∧vs=[.int i]∧H l=some (.lst xs)∧ -(2 ^ 63)≤i∧i < 2 ^ 63∧seqIndex? i xs.length=some k∧xs[k]?=some y∧Q y (bj H l (.lst (xs.eraseIdx k)))
theorem xm:FV X "list.pop" ya:=by
  intro pins s σ H x vs v us Q I rx rv h
  obtain⟨l,xs,i,k,y,rfl,rfl,hH,h1,h2,hk,hy,q⟩:=h
  cases rx
  obtain⟨u,rfl,ru⟩:=rv.one
  obtain⟨t,rfl⟩:=ru
  obtain⟨z,its,n,r,hl,e⟩:=I.lstM hH
  obtain⟨w,hw,rw'⟩:=r.get hy
  refine call_meets F.slot_list_pop ⟨_,e,rfl⟩ F.entry_list_pop (F.args_list_pop_2 _ _)
    (MeetsSeq.list_pop_at l its.toArray n i t k w (fitsIndex_both h1 h2) (by rw [List.size_toArray,←hl];exact hk) (by rw [←Array.getElem?_toList];exact hw) (by rw [List.size_toArray];lia)) ⟨e,?_⟩
  refine⟨y,_,I.lset (its':=its.eraseIdx k) hH e ?_ (r.eraseIdx k) ?_,rw',q⟩
  · show its.toArray.eraseIdxIfInBounds k=(its.eraseIdx k).toArray
    rw [List.eraseIdxIfInBounds_toArray]
  · have:=pv xs k
    lia
def CK:R2:=fun x y H Q=>∃l b xs zs,x=.ref l∧y=.ref b∧H l=some (.lst xs)∧H b=some (.lst zs)∧xs.length+zs.length≤sizeLine∧∀p,H p=none→Q (.ref p) (bj H p (.lst (xs++zs)))
theorem B6:i6 X (binaryOp .Add) CK:=by
  intro pins s σ H x y v u Q I rx ry h
  obtain⟨l,b,xs,zs,rfl,rfl,hH,hB,hz,q⟩:=h
  cases rx
  cases ry
  obtain⟨z,its,n,r,hl,e⟩:=I.lstM hH
  obtain⟨z2,its2,n2,r2,hl2,e2⟩:=I.lstM hB
  refine PySem.P.add_list e e2 ?_ (by rw [List.size_toArray,List.size_toArray];lia)
  have ea:its.toArray++its2.toArray=(its++its2).toArray:=by simp
  rw [ea]
  exact⟨.ref _,_,I.lnew (t':=s.toks) (r.append r2) (by rw [List.length_append];lia),rfl,q _ I.fresh⟩
def CN:R2:=fun x y H Q=>∃l k xs,x=.ref l∧y=.int k∧H l=some (.lst xs)∧ -(2 ^ 63)≤k∧k < 2 ^ 63∧xs.length*k.toNat≤sizeLine∧
  ∀p,H p=none→Q (.ref p) (bj H p (.lst (List.replicate k.toNat xs).flatten))
theorem zi{α:Type}(xs:List α)(k:Nat):(List.replicate k xs).flatten.length=k*xs.length:=by
  induction k with
  | zero=>simp
  | succ k ih=>rw [List.replicate_succ,List.flatten_cons,List.length_append,ih,Nat.succ_mul,Nat.add_comm]
theorem Ce:i6 X (binaryOp .Mult) CN:=by
  intro pins s σ H x y v u Q I rx ry h
  obtain⟨l,k,xs,rfl,rfl,hH,h1,h2,hz,q⟩:=h
  cases rx
  obtain⟨t,rfl⟩:=ry
  obtain⟨z,its,n,r,hl,e⟩:=I.lstM hH
  have hlen:its.toArray.size*k.toNat≤sizeLine:=by rw [List.size_toArray,←hl];exact hz
  have hcap:¬its.toArray.size*k.toNat > (2 ^ 63 - 1) / 8:=by
    have:(sizeLine:Nat)≤(2 ^ 63 - 1) / 8:=by decide
    lia
  have hfit:¬(!Builtin.List.listFitsIndex k)=true:=by
    rw [fitsIndex_both h1 h2]
    exact Bool.false_ne_true
  have hlong:¬Builtin.List.listTooLong (its.toArray.size*k.toNat)=true:=by
    rw [xr hlen]
    exact Bool.false_ne_true
  have hnew:List.foldl (fun x1 x2=>x1++x2) #[] (List.replicate (if its.toArray.isEmpty=true then 0 else k.toNat) its.toArray)=(List.replicate k.toNat its).flatten.toArray:=by
    have f0:∀m:Nat,List.foldl (fun x1 x2=>x1++x2) #[] (List.replicate m its.toArray)=(List.replicate m its).flatten.toArray:=fun m=>by
      have:=pd its m []
      rw [List.nil_append] at this
      exact this
    rw [f0]
    cases its with
    | nil=>simp
    | cons a r'=>rw [if_neg (by simp)]
  refine wpAny_binaryOp_repeat_ref (T:="list") (U:="int") (by decide) ⟨_,e,rfl⟩ (fun s'=>typeIs_int s' k t) noFill_list_mul F.fills_int_mul F.slot_int_rmul repeat_list F.slot_int_index.lookup
    (call_meets F.slot_int_rmul (typeIs_int s k t) F.entry_int_rmul (F.args_int_rmul_2 _ _) (int___rmul___int_list k t l its.toArray n)
      ⟨e,rfl,⟨_,e,rfl⟩,call_meets F.slot_list_mul ⟨_,e,rfl⟩ F.entry_list_mul (F.args_list_mul_2 _ _) (AutoListH.list___mul___list_int_3 l its.toArray n k t hfit hcap hlong) ⟨e,?_⟩⟩)
  rw [hnew]
  exact⟨.ref _,_,I.lnew (t':=s.toks) (r.rep k.toNat) (by rw [zi,Nat.mul_comm];exact hz),rfl,q _ I.fresh⟩
end
section
variable{prog:Program}{w:World}{A:Around}{E:Value→Shared→Prop}{s:Shared}
end
section
variable{X:Cx}
end
end L2
namespace Att
open PySem PySem.W PySem.Calls PyProof.Rows
theorem mG{P:Params}{h:Heap}:∀(ns:List Int) (vs:List Value),WellAll P h vs (ns.map WData.int)→IntsAre vs ns:=by
  intro ns
  induction ns with
  | nil=>
    intro vs w
    rw [List.map_nil] at w
    cases w
    exact .nil
  | cons n ns ih=>
    intro vs w
    rw [List.map_cons] at w
    cases w with
    | cons a b=>
      cases a
      exact .cons _ _ (ih _ b)
theorem vL{l:OpenLaw}{n:Nat}(hn:l.most=some n){P:Params}{h:Heap}{args:List WData}{vals:List Value}
    (hpre:l.row.toRowW.claim.pre args=true)(hwl:WellAll P h vals args):
    ∃a vs ns,vals=[Value.ref a]∧args=[WData.list (ns.map WData.int)]∧h.get? a=some {cls:=.type "list",data:=.seq vs.toArray}∧IntsAre vs ns∧ns.length≤n:=by
  have hsh:WShape.hasAll [] args [.list .int]=true:=(pre_splitW hpre).1
  have hc:l.pre.holds [] {args:=args}=true:=(pre_splitW hpre).2
  obtain⟨d,r,rfl,h1,h2⟩:=hasAllW_cons hsh
  obtain rfl:=hasAllW_nil h2
  obtain⟨xs,rfl,h3⟩:=hasW_list h1
  obtain⟨ns,rfl⟩:=items_int h3
  have hlen:ns.length≤n:=by
    unfold OpenLaw.pre at hc
    have h4:(WTm.not (.lt (.lit (.int (n:Int))) (.len (.arg 0)))).holds [] {args:=[.list (ns.map .int)]}=true:=by
      have h4:=(holds_andW hc).1
      rw [hn] at h4
      exact h4
    have h5:=condW_of h4 (w_not (w_lt w_lit (w_len_list (w_arg rfl))))
    rw [List.length_map] at h5
    refine Nat.le_of_not_lt fun q=>?_
    have q':(n:Int) < ((ns.length:Nat):Int):=by lia
    first
      | (rw [decide_eq_true q'] at h5;exact absurd h5 (by decide))
      | (simp at h5;lia)
  cases hwl with
  | cons w1 w2=>
    cases w2
    cases w1 with
    | list ho hall=>exact⟨_,_,ns,rfl,rfl,ho,mG ns _ hall,hlen⟩
theorem vF(l:OpenLaw)(args:List WData):l.row.toRowW.claim.post args (.bool true) args=true:=
  postW_of (r:=l.row.toRowW) (X:=(true==true))
    (show WShape.has [] (.bool true) .bool=true by first | rfl | decide | simp [WShape.has,WShape.arms,WShape.armsAll])
    (show(WTm.eq .res (.lit (.bool true))).value [] {args:=args,res:=some (.bool true),after:=args}=some (.bool (true==true)) from w_eq_bool (w_res rfl) w_lit) rfl
theorem attach_call{l:OpenLaw}{n:Nat}{q:Program}{loose:List Str}{XP:(Str→Option Value)→Heap→Prop}{YP:World→Heap→Prop}{d:DefRec}
    (hn:l.most=some n)(hdf:d.params.defaults=[])
    (call:∀(w:World) (s₀ s₁:Shared) (mg mb:Str→Option Value) (fa:Addr) (o:Obj) (pm cd doc:Value) (a:Addr) (vs:List Value) (ns:List Int),
      Ground q loose [] XP w s₀ mg mb s₁.heap→YP w s₁.heap→
      s₁.heap.get? fa=some o→o.data=.func (docDef d.name d.params d.body d.scope pm cd doc)→s₁.heap.CodeRec cd d.name→mg d.name=some (.ref fa)→
      s₁.heap.get? a=some {cls:=.type "list",data:=.seq vs.toArray}→IntsAre vs ns→ns.length≤n→s₁.gens=#[]→
      codeAny (model l.prog w) callerA (.call (.ref fa) ⟨[.ref a],[]⟩) (fun r s'=>r=.ok (.ret (.bool true))∧OldK s₁.heap s'.heap∧s'.os=s₁.os∧AllBare s'.gens) s₁):
    WalkO q loose XP YP l.row.toRowW d [] (fun f vs=>PySem.call f vs):=by
  intro w s₀ s₁ mg mb G Y fa o pm cd doc dV kV ho hd hcd hD hmg hg args vals as hpre hlay hrd hwl hlo
  obtain rfl:dV=.none:=Dflts.none hD hdf
  obtain rfl:kV=.none:=Dflts.noKw hD
  obtain⟨a,vs,ns,rfl,rfl,hobj,hints,hlen⟩:=vL hn hpre hwl
  refine enter_call (codeAny_mono (call w s₀ s₁ mg mb fa o pm cd doc a vs ns G Y ho (fd_plain hd) hcd hmg hobj hints hlen hg) fun r s' hq=>?_)
  obtain⟨rfl,h2,h3,h4⟩:=hq
  exact⟨.inl ⟨.bool true,.bool true,[],rfl,fun _=>rfl,.bool true,vF l _,fun _=>⟨List.Pairwise.nil,fun _ hm=>(nomatch hm)⟩⟩,h2,h3,h4⟩
section
variable{prog:Program}{w:World}{A:Around}{E:Value→Shared→Prop}{s:Shared}{K:Frag}
end
end Att
namespace L2
open PySem PySem.Spec PyProof.Rows
theorem l4:∀{vs:List Value} {ns:List Int},IntsAre vs ns→aR (ns.map V.int) vs
  | _,_,.nil=>.nil
  | _,_,.cons n t h=>.cons ⟨t,rfl⟩ (l4 h)
def Bs(H:Hp):Prop:=∀b,H b=none∨∃o xs,H b=some (.frz o (.lst xs))
theorem xc{P:Program}{w:World}{K:PySem.W.Frag}{mg mb:Str→Option Value}{CX:uT}{k:Nat}{fa a:Addr}{fd:FuncData}{x:Str}{sp:Sp}{s₁:Shared}{vs:List Value}{ns:List Int}
    (KX:K.In s₁.heap)(hns:s₁.heap.Ns mainGlobals mg)(hb:s₁.heap.Ns builtinsNs mb)(hbb:∀x:Str,x≠"__name__"→mb x=bootBuiltins x)(hlim:s₁.heap.NoLimit)(hg:s₁.gens=#[])
    (ha:s₁.heap.get? a=some {cls:=.type "list",data:=.seq vs.toArray})(hi:IntsAre vs ns)(hl:ns.length≤sizeLine)(hr:dZ k callerA)
    (F:∀base:Heap,K.In base→base.Ns mainGlobals mg→aC P w K mg base CX k fa fd [x] sp)(hbind:∀(s:Shared) (u:Value),BindsTo s fd ⟨[u],[]⟩ [(x,u)])
    (hsp:∀H:Hp,Bs H→cX K H a (ns.map V.int)→sp [.ref a] H (fun v _=>v=.bl true) fun _ _ _=>False)
    (hCX:∀H e s',CX [] H s₁ (fun _ _ _=>False) e s'→False):
    codeAny (model P w) callerA (.call (.ref fa) ⟨[.ref a],[]⟩) (fun r s'=>r=.ok (.ret (.bool true))∧OldK s₁.heap s'.heap∧s'.os=s₁.os∧AllBare s'.gens) s₁:=by
  have rv:=l4 hi
  have lenV:=hi.length
  have core:∀H:Hp,Bs H→cX K H a (ns.map V.int)→mX P w H s₁.heap→(∀b,H b≠none→b=a)→(H a≠none→K.lookup a=none)→
      codeAny (model P w) callerA (.call (.ref fa) ⟨[.ref a],[]⟩) (fun r s'=>r=.ok (.ret (.bool true))∧OldK s₁.heap s'.heap∧s'.os=s₁.os∧AllBare s'.gens) s₁:=by
    intro H hO hS hok hA hK
    have base_of:∀{b:Addr} {o:Obj},s₁.heap.get? b=some o→H b=none→(qb s₁.heap H).get? b=some o:=fun e n=>wX e n
    have noA:∀{b:Addr} {o:Obj} {es:Array DictEntry} {ep:Nat},s₁.heap.get? b=some o→o.data=.dict es ep→H b=none:=fun{b o es ep} e d=>by
      cases q:H b with
      | none=>rfl
      | some u=>
        have e':b=a:=hA b (by rw [q];simp)
        subst e'
        rw [ha] at e;cases e
        have d':Data.seq vs.toArray _=Data.dict es ep:=d
        cases d'
    have nsK:∀{b:Addr} {m:Str→Option Value},s₁.heap.Ns b m→(qb s₁.heap H).Ns b m:=fun{b m} ⟨o,es,ep,e,d,r⟩=>⟨o,es,ep,base_of e (noA e d),d,r⟩
    have hKb:K.In (qb s₁.heap H):=fun b o e=>base_of (KX b o e) (by
      cases q:H b with
      | none=>rfl
      | some u=>
        have e':b=a:=hA b (by rw [q];simp)
        subst e'
        rw [hK (by rw [q];simp)] at e;cases e)
    have hM:Mod K mg (qb s₁.heap H):=⟨hKb,nsK hns,⟨mb,nsK hb,hbb⟩,let ⟨mc,h1,h2⟩:=hlim;⟨mc,nsK h1,h2⟩⟩
    have e0:yQ P w K mg (qb s₁.heap H) callerA [] s₁ H:=⟨rfl,hM,fun b o e=>zq e,Nat.le_of_eq (vi _ _),trivial,fun b hb=>absurd (show b∈([]:List Addr) from hb) (by simp),hok,.of_eq hg⟩
    refine codeAny_mono ((F _ hKb (nsK hns)).run callerA [] s₁ H ⟨[.ref a],[]⟩ [.ref a] [.ref a] _ _ hr e0 (hbind s₁ (.ref a)) (.cons rfl .nil) (hsp H hO hS)) fun r s' h=>?_
    cases r with
    | error e=>exact(hCX H e s' h).elim
    | ok fl=>
      cases fl with
      | next=>exact False.elim h
      | brk=>exact False.elim h
      | cont=>exact False.elim h
      | ret u=>
        obtain⟨v,H',os,bare,un,hok',r',q⟩:=h
        have q':v=.bl true:=q
        subst q'
        obtain rfl:u=Value.bool true:=r'
        refine⟨rfl,OldK.of_keep fun b o e=>?_,os,bare⟩
        cases q:H b with
        | none=>exact un.keep b o e q (by intro z;exact absurd (show b∈([]:List Addr) from z) (by simp)) (by simp)
        | some u=>
          rcases hO b with z | ⟨ob,xs,z⟩
          · rw [q] at z;cases z
          · have z2:=un.frzs b ob _ z
            obtain⟨e1,_⟩:=hok b _ z
            obtain⟨e2,_⟩:=hok' b _ z2
            rw [e] at e1;cases e1
            exact e2
  cases hk:K.lookup a with
  | some o=>
    have e:=KX a o hk
    rw [ha] at e
    cases e
    refine core (fun _=>none) (fun _=>.inl rfl) (.inr ⟨_,vs.toArray,_,hk,rfl,rfl,rfl,by rw [List.size_toArray,lenV];exact hl,by simpa using rv⟩) (fun b u z=>by have z':(none:Option HO)=some u:=z;cases z') (fun b z=>absurd rfl z) fun z=>absurd rfl z
  | none=>
    refine core (fun b=>if b=a then some (.frz {cls:=.type "list",data:=.seq vs.toArray} (.lst (ns.map V.int))) else none) (fun b=>?_) (.inl (.inr ⟨{cls:=.type "list",data:=.seq vs.toArray},if_pos rfl⟩)) (fun b u z=>?_) (fun b z=>?_) fun _=>hk
    · by_cases hb:b=a
      · exact .inr ⟨_,_,if_pos hb⟩
      · exact .inl (if_neg hb)
    · by_cases hb:b=a
      · have z':=(if_pos hb).symm.trans z
        cases z'
        subst hb
        exact⟨ha,by rw [List.length_map];exact hl,vs,_,rv,ha⟩
      · have z':=(if_neg hb).symm.trans z
        cases z'
    · by_cases hb:b=a
      · exact hb
      · exact absurd (if_neg hb) z
end L2
namespace L2
open PySem PySem.Spec PyProof.Rows
theorem walk_of{l:PySem.W.OpenLaw}{n k:Nat}{q:Program}{loose:List Str}{XP:(Str→Option Value)→Heap→Prop}{YP:World→Heap→Prop}{d:DefRec}{K:Params→PySem.W.Frag}{CX:World→uT}{sp:World→Sp}{x:Str}
    (hn:l.most=some n)(hn2:n≤sizeLine)(hdf:d.params.defaults=[])(hr:dZ k callerA)
    (hY:∀(w:World) (h:Heap),YP w h→(K w.params).In h)
    (F:∀(w:World) (mg:Str→Option Value) (fa:Addr) (h:Heap),(K w.params).In h→h.Ns mainGlobals mg→mg d.name=some (.ref fa)→
      ∃fd:FuncData,(∀(s:Shared) (u:Value),BindsTo s fd ⟨[u],[]⟩ [(x,u)])∧
        ∀base:Heap,(K w.params).In base→base.Ns mainGlobals mg→aC l.prog w (K w.params) mg base (CX w) k fa fd [x] (sp w))
    (hsp:∀(w:World) (H:Hp) (a:Addr) (ns:List Int),ns.length≤n→Bs H→cX (K w.params) H a (ns.map V.int)→sp w [.ref a] H (fun v _=>v=.bl true) fun _ _ _=>False)
    (hCX:∀(w:World) (H:Hp) (s:Shared) (e:Value) (s':Shared),CX w [] H s (fun _ _ _=>False) e s'→False):
    PySem.W.WalkO q loose XP YP l.row.toRowW d [] (fun f vs=>PySem.call f vs):=by
  refine Att.attach_call hn hdf fun w s₀ s₁ mg mb fa o pm cd doc a vs ns G Y ho hd hcd hmg hobj hints hlen hg=>?_
  have KX:=hY w _ Y
  obtain⟨fd,hb,hF⟩:=F w mg fa _ KX G.T.g hmg
  exact xc KX G.T.g G.T.b G.T.builtins G.T.nolimit hg hobj hints (Nat.le_trans hlen hn2) hr hF hb (fun H hO hS=>hsp w H a ns hlen hO hS) fun H e s'=>hCX w H s₁ e s'
end L2
namespace L2
open PySem PySem.Spec PyProof.Rows
def dM(s:Stmt):Arguments:=match s with
  | .FunctionDef _ a _ _ _ _ _ _ _ _=>a
  | _=>{posonlyargs:=[],args:=[],vararg:=none,kwonlyargs:=[],kw_defaults:=[],kwarg:=none,defaults:=[]}
def cR(s:Stmt):List Stmt:=match s with
  | .FunctionDef _ _ b _ _ _ _ _ _ _=>b
  | _=>[]
def am(s:Stmt):Scope:=match s with
  | .FunctionDef _ _ _ _ _ _ sc _ _ _=>sc
  | _=>{kind:=.function,names:=[],isGenerator:=false,isCoroutine:=false}
abbrev bv:uT:=fun _ _ _ _ _ _=>False
abbrev E0:XK:=fun _ _ _=>False
theorem D1{X:Cx}:su bv X E0:=fun _ _ _ _ _ _ _ h=>h.elim
structure Dj (K:PySem.W.Frag) (x qual:Str) (st:Stmt) (f:Addr) (fd:FuncData):Prop where
  ex:∃(oc:Value) (od:Option Addr) (kV doc pm:Value) (an:Option Addr) (cdv ct:Value) (osl:Array (Option Value)),
    fd=PySem.W.fnOf x qual (dM st) (cR st) (am st) .none kV doc pm an cdv ct∧K.lookup f=some ⟨oc,od,.func fd,osl⟩∧PySem.W.codeIn K cdv qual=true
  kp:PySem.W.keepIn K (.ref f)=true
section
variable{P:Program}{w:World}{K:PySem.W.Frag}{mg:Str→Option Value}{base:Heap}
theorem Dj.ok{x qual:Str}{st:Stmt}{f:Addr}{fd:FuncData}{N ps:List Str}{k:Nat}{sp:Sp}(F:Dj K x qual st f fd)(S:aB N ps (am st))(len:∀vs H Q E,sp vs H Q E→vs.length=ps.length)
    (hbody:∀(cdv:Value) (A:Around) (outer:List Env) (s:Shared) (H:Hp) (vs:List V) (Q:VK) (E:XK),dZ k (A.deeper (envOfC qual (am st) s.heap.objs.size f cdv))→sp vs H Q E→
      ∃t,mD (sD bv P w K mg base N qual (am st) f cdv A outer s H E).nox (cR st) t∧t {nx:=fun _ H'=>Q .non H',rt:=Q} (fF N vs) H):aC P w K mg base bv (k+1) f fd ps sp:=by
  obtain⟨oc,od,kV,doc,pm,an,cdv,ct,osl,rfl,lk,hcd⟩:=F.ex
  refine Dx lk hcd S len fun A outer s H vs Q E hr hsp=>?_
  obtain⟨t,h,q⟩:=hbody cdv A outer s H vs Q E hr hsp
  exact⟨t,h.nox,q⟩
theorem Dj.binds{x qual:Str}{st:Stmt}{f:Addr}{fd:FuncData}{ps:List Str}(F:Dj K x qual st f fd)
    (h:∀(kV doc pm:Value) (an:Option Addr) (cdv ct:Value) (us:List Value),us.length=ps.length→bindArgs (PySem.W.fnOf x qual (dM st) (cR st) (am st) .none kV doc pm an cdv ct) ⟨us,[]⟩=pure (ps.zip us)):oO K fd ps []:=by
  obtain⟨oc,od,kV,doc,pm,an,cdv,ct,osl,rfl,lk,hcd⟩:=F.ex
  exact .all (h kV doc pm an cdv ct)
theorem wN{x qual:Str}{st:Stmt}{f:Addr}{oc:Value}{od an:Option Addr}{osl:Array (Option Value)}{kV doc pm cdv ct:Value}(l:K.lookup f=some ⟨oc,od,.func (PySem.W.fnOf x qual (dM st) (cR st) (am st) .none kV doc pm an cdv ct),osl⟩)
    (c:PySem.W.codeIn K cdv qual=true)(k:PySem.W.keepIn K (.ref f)=true):Dj K x qual st f (PySem.W.fnOf x qual (dM st) (cR st) (am st) .none kV doc pm an cdv ct):=⟨⟨oc,od,kV,doc,pm,an,cdv,ct,osl,rfl,l,c⟩,k⟩
end
theorem pJ{n:Nat}(h:n≤1000):n < sizeLine:=Nat.lt_of_le_of_lt h (by decide)
section
variable{X:Cx}
end
theorem zg{A B:Prop}(h:B):if false=true then A else B:=by
  rw [if_neg Bool.false_ne_true]
  exact h
theorem zh{A B:Prop}(h:A):if true=true then A else B:=by
  rw [if_pos rfl]
  exact h
def av(H H':Hp):Prop:=∀b o,H b=some o→H' b=some o
theorem av.refl(H:Hp):av H H:=fun _ _ h=>h
theorem av.trans{H H1 H2:Hp}(a:av H H1)(b:av H1 H2):av H H2:=fun c o h=>b c o (a c o h)
theorem av.free{H H':Hp}(e:av H H'){l:Addr}(h:H' l=Option.none):H l=Option.none:=by
  cases q:H l with
  | none=>rfl
  | some o=>
    rw [e l o q] at h
    cases h
theorem av.seq{K:PySem.W.Frag}{H H':Hp}{a:Addr}{xs:List V}(e:av H H')(h:cX K H a xs):cX K H' a xs:=by
  rcases h with (h | ⟨o,h⟩) | h
  · exact .inl (.inl (e _ _ h))
  · exact .inl (.inr ⟨o,e _ _ h⟩)
  · exact .inr h
end L2
set_option maxHeartbeats 4000000
namespace L2
open PySem PySem.Spec PyProof.Rows
def Bt(n:Nat)(i:Int):Prop:=i.natAbs < 2 ^ n
theorem Bt.mono{m n:Nat}{i:Int}(h:Bt m i)(hm:m≤n):Bt n i:=Nat.lt_of_lt_of_le h (Nat.pow_le_pow_right (by decide) hm)
theorem Bt.mul{m n:Nat}{i j:Int}(h:Bt m i)(h':Bt n j):Bt (m+n) (i*j):=by
  unfold Bt at*
  rw [Int.natAbs_mul,Nat.pow_add]
  exact Nat.mul_lt_mul'' h h'
theorem Bt.add{m:Nat}{i j:Int}(h:Bt m i)(h':Bt m j):Bt (m+1) (i+j):=by
  unfold Bt at*
  have e:(2:Nat) ^ (m+1)=2 ^ m+2 ^ m:=by rw [Nat.pow_succ];lia
  rw [e]
  have:=Int.natAbs_add_le i j
  lia
theorem Bt.log{m:Nat}{i:Int}(h:Bt m i)(hm:0 < m):i.natAbs.log2 < m:=by
  unfold Bt at h
  rcases Nat.eq_zero_or_pos i.natAbs with h0 | hp
  · rw [h0];exact hm
  · exact(Nat.log2_lt (by lia)).mpr h
theorem Bt.bits{m:Nat}{i:Int}(h:Bt m i)(hm:0 < m):Builtin.Int.intBits i≤m:=by
  unfold Builtin.Int.intBits
  split
  · exact Nat.zero_le _
  · exact h.log hm
theorem Bt.of_le{m:Nat}{i:Int}{j:Int}(h:Bt m j)(e:i.natAbs≤j.natAbs):Bt m i:=Nat.lt_of_le_of_lt e h
section
variable{X:Cx}
def AI(i j:Int):Prop:=Bt 4000 i∧Bt 4000 j
theorem zH:i6 X (binaryOp .Mult) (rI AI fun i j=>.int (i*j)):=DV fun _ _ _ _ _ _ _ hc q=>
  mul_int q (.of_bits (Nat.le_trans (hc.1.bits (by decide)) (by decide)) (Nat.le_trans (hc.2.bits (by decide)) (by decide)))
def AH(i j:Int):Prop:=j≠0∧Bt 8000 j
theorem xD:i6 X (binaryOp .FloorDiv) (rI AH fun i j=>.int (i.fdiv j)):=DV fun _ _ _ _ _ _ _ hc q=>
  floordiv_int hc.1 q (.inl (PyProof.noPylong_of_log2 (Nat.lt_trans (hc.2.log (by decide)) (by decide))))
theorem B_:i6 X (compareOp .Is) (fun x y H Q=>∃b c,x=.bl b∧y=.bl c∧Q (.bl (b==c)) H):=by
  intro pins s σ H x y v u Q I rx ry h
  obtain⟨b,c,rfl,rfl,q⟩:=h
  cases rx;cases ry
  exact is_bool ⟨.bl _,H,I,rfl,q⟩
end
def tU(H H':Hp):Prop:=∀a o,H a=some o→(∀xs,o≠.lst xs)→(∀ob xs,o≠.frz ob (.lst xs))→H' a=some o
theorem av.ts{H H':Hp}(h:av H H'):tU H H':=fun a o e _ _=>h a o e
theorem tU.tup{K:PySem.W.Frag}{H H':Hp}(h:tU H H'){a:Addr}{xs:List V}(q:cg K H a xs):cg K H' a xs:=by
  rcases q with (q | ⟨o,q⟩) | q
  · exact .inl (.inl (h _ _ q (fun _ e=>nomatch e) (fun _ _ e=>nomatch e)))
  · exact .inl (.inr ⟨o,h _ _ q (fun _ e=>nomatch e) (fun _ _ e=>nomatch e)⟩)
  · exact .inr q
section
variable{X:Cx}
end
end L2
namespace L2
open PySem PySem.Spec PyProof.Rows
structure aV (K:PySem.W.Frag) (mg:Str→Option Value) (x:Str) (st:Stmt) (f:Addr) (fd:FuncData) (ps:List Str):Prop where
  F:Dj K x x st f fd
  m:mg x=some (.ref f)
  b:oO K fd ps []
theorem BH{K:PySem.W.Frag}{mg:Str→Option Value}{h:Heap}{x:Str}{st:Stmt}{f:Addr}{ps:List Str}{oc:Value}{od an:Option Addr}{osl:Array (Option Value)}{kV doc pm cdv ct:Value}(X:K.In h)(G:h.Ns mainGlobals mg)(a:PySem.W.nsIn K mainGlobals x=some (some (.ref f)))
    (l:K.lookup f=some ⟨oc,od,.func (PySem.W.fnOf x x (dM st) (cR st) (am st) .none kV doc pm an cdv ct),osl⟩)(c:PySem.W.codeIn K cdv x=true)(k:PySem.W.keepIn K (.ref f)=true)
    (hb:∀(kV doc pm:Value) (an:Option Addr) (cdv ct:Value) (us:List Value),us.length=ps.length→bindArgs (PySem.W.fnOf x x (dM st) (cR st) (am st) .none kV doc pm an cdv ct) ⟨us,[]⟩=pure (ps.zip us)):
    aV K mg x st f (PySem.W.fnOf x x (dM st) (cR st) (am st) .none kV doc pm an cdv ct) ps:=⟨wN l c k,PySem.W.mg_of X G a,(wN l c k).binds hb⟩
theorem Fu{X:Cx}{x:Str}{st:Stmt}{f:Addr}{fd:FuncData}{ps:List Str}{k:Nat}{sp:Sp}{e:Expr}{es:List Expr}{t:TA}{p pos:Pos}(h:aV X.K X.mg x st f fd ps)(G:aC X.prog X.w X.K X.mg X.base bv k f fd ps sp)(hr:dZ k X.A)(ha:PA X (e::es) t)
    (hg:Gl X x:=by rfl)(hdb:(x==("__debug__":Str))=false:=by decide)(he:starEach (e::es) X.env=(false,eval e X.env)::starEach es X.env:=by rfl)(hpl:(backTo pos (starEach es X.env)).any (·.1)=false:=by rfl):
    PE X (.Call (.Name x p) (e::es) [] pos) (yo sp [] E0 t):=zJ G hr hg h.m h.F.kp h.b .nil D1 ha hdb he hpl
theorem av.new{H:Hp}{p:Addr}{o:HO}(h:H p=none):av H (bj H p o):=fun b u e=>by
  rw [aA (eh e h)];exact e
theorem av.tup{K:PySem.W.Frag}{H H':Hp}{a:Addr}{xs:List V}(e:av H H')(h:cg K H a xs):cg K H' a xs:=e.ts.tup h
end L2
namespace L2
open PySem PySem.Spec PyProof.Rows
def bo(t b:Int):Int × Int:=if b < 0 then(t.fdiv (-(Int.gcd t b:Int)),b.fdiv (-(Int.gcd t b:Int))) else(t.fdiv (Int.gcd t b:Int),b.fdiv (Int.gcd t b:Int))
theorem rh(x y:Int):Int.gcd y (x.fmod y)=Int.gcd x y:=by
  rw [Int.fmod_def,Int.gcd_sub_mul_left_right,Int.gcd_comm]
theorem gK(x:Int){y:Int}(h:y≠0):(x.fmod y).natAbs < y.natAbs:=by
  rcases Int.lt_or_gt_of_ne h with h | h
  · have h1:x.fmod y= -((-x).fmod (-y)):=by
      have:=Int.neg_fmod_neg x y
      lia
    have h2:=Int.fmod_nonneg_of_pos (-x) (b:= -y) (by lia)
    have h3:=Int.fmod_lt_of_pos (-x) (b:= -y) (by lia)
    lia
  · have h2:=Int.fmod_nonneg_of_pos x h
    have h3:=Int.fmod_lt_of_pos x h
    lia
theorem qa{t b:Int}(h:b≠0):(0:Int) < Int.gcd t b:=by
  have:=Int.gcd_pos_of_ne_zero_right t h
  lia
theorem fV{t b:Int}(h:b≠0):∃d:Int,d.natAbs=Int.gcd t b∧d≠0∧(bo t b).1*d=t∧(bo t b).2*d=b∧0 < (bo t b).2:=by
  have hg:=qa (t:=t) h
  have d1:(Int.gcd t b:Int) ∣ t:=Int.gcd_dvd_left ..
  have d2:(Int.gcd t b:Int) ∣ b:=Int.gcd_dvd_right ..
  unfold bo
  split
  · rename_i hb
    have e1:t.fdiv (-(Int.gcd t b:Int))*(-(Int.gcd t b:Int))=t:=Int.fdiv_mul_cancel (Int.neg_dvd.mpr d1)
    have e2:b.fdiv (-(Int.gcd t b:Int))*(-(Int.gcd t b:Int))=b:=Int.fdiv_mul_cancel (Int.neg_dvd.mpr d2)
    refine⟨-(Int.gcd t b:Int),by lia,by lia,e1,e2,?_⟩
    show 0 < b.fdiv (-(Int.gcd t b:Int))
    have h3:b.fdiv (-(Int.gcd t b:Int))*(Int.gcd t b:Int)= -b:=by rw [Int.mul_neg] at e2;lia
    exact Int.pos_of_mul_pos_left (by lia) (by lia) (b:=(Int.gcd t b:Int))
  · rename_i hb
    have e1:t.fdiv (Int.gcd t b:Int)*(Int.gcd t b:Int)=t:=Int.fdiv_mul_cancel d1
    have e2:b.fdiv (Int.gcd t b:Int)*(Int.gcd t b:Int)=b:=Int.fdiv_mul_cancel d2
    refine⟨(Int.gcd t b:Int),by lia,by lia,e1,e2,?_⟩
    show 0 < b.fdiv (Int.gcd t b:Int)
    exact Int.pos_of_mul_pos_left (by lia) (by lia) (b:=(Int.gcd t b:Int))
theorem jv{t b:Int}(h:b≠0):Int.gcd (bo t b).1 (bo t b).2=1:=by
  obtain⟨d,h1,h2,h3,h4,h5⟩:=fV (t:=t) h
  have e:Int.gcd ((bo t b).1*d) ((bo t b).2*d)=Int.gcd (bo t b).1 (bo t b).2*d.natAbs:=Int.gcd_mul_right ..
  rw [h3,h4,←h1] at e
  have hd:0 < d.natAbs:=by lia
  exact(Nat.eq_of_mul_eq_mul_right hd (by rw [Nat.one_mul];exact e)).symm
theorem j_{x d:Int}(h:d≠0):x.natAbs≤(x*d).natAbs:=by
  rw [Int.natAbs_mul]
  exact Nat.le_mul_of_pos_right _ (by lia)
theorem qg{t b:Int}(h:b≠0){n:Nat}(ht:Bt n t)(hb:Bt n b):Bt n (bo t b).1∧Bt n (bo t b).2:=by
  obtain⟨d,h1,h2,h3,h4,h5⟩:=fV (t:=t) h
  refine⟨ht.of_le ?_,hb.of_le ?_⟩
  · conv=>rhs;rw [←h3]
    exact j_ h2
  · conv=>rhs;rw [←h4]
    exact j_ h2
theorem wW{t b:Int}(h:b≠0){n:Nat}(hb:Bt n b):Bt n (Int.gcd t b:Int):=by
  refine hb.of_le ?_
  have h1:=Nat.le_of_dvd (show 0 < b.natAbs by lia) (Int.ofNat_dvd.mp (by rw [Int.dvd_natAbs];exact Int.gcd_dvd_right t b))
  lia
mutual
def cnt:PyData→Nat
  | .tuple ds=>1+kg ds
  | .str _=>0
  | _=>1
def kg:List PyData→Nat
  | []=>0
  | d::ds=>cnt d+kg ds
end
mutual
def nH:PyData→Bool
  | .tuple ds=>iq ds
  | .str _=>false
  | .list _=>false
  | .dict _=>false
  | _=>true
def iq:List PyData→Bool
  | []=>true
  | d::ds=>nH d&&iq ds
end
theorem oF{a:Int}(h:a.natAbs.log2 < 1920):(Str.ofString (toString a)).length≤1921:=by
  have e:=int_text_length_le (k:=1920) (by decide) h
  rw [PySem.ofString_length];lia
theorem sY(x:Str)(r:List Str):piled (x::r)=x.length+2+piled r:=by
  simp [piled]
theorem vU(ts:List Str):(tupleText ts).length≤piled ts+3:=by
  unfold tupleText
  rw [strLen_append,strLen_append]
  have h1:(("(":Str)).length=1:=by decide
  have h2:(Str.ofString (if (ts.length==1)=true then ",)" else ")")).length≤2:=by split<;>decide
  have h3:(Str.join ", " ts).length≤piled ts:=by
    cases ts with
    | nil=>show(Str.join ", " []).length≤0;decide
    | cons x r=>have:=join_length_add (x::r) (by simp);lia
  lia
mutual
theorem pI:∀{d:PyData},nH d=true→d.showable=true→d.shown.length+2≤2000*cnt d
  | .none,_,_=>by show(Str.ofString "None").length+2≤2000*1;decide
  | .bool b,_,_=>by
    cases b
    · show(Str.ofString "False").length+2≤2000*1;decide
    · show(Str.ofString "True").length+2≤2000*1;decide
  | .int i,_,hs=>by
    simp only [PyData.showable,decide_eq_true_eq] at hs
    have:=oF hs
    show(Str.ofString (toString i)).length+2≤2000*1
    lia
  | .tuple ds,hn,hs=>by
    simp only [PyData.showable] at hs
    simp only [nH] at hn
    have h1:=lB hn hs
    have h2:=vU (PyData.shownAll ds)
    simp only [PyData.shown,cnt]
    lia
  | .str _,hn,_=>by simp [nH] at hn
  | .list _,hn,_=>by simp [nH] at hn
  | .dict _,hn,_=>by simp [nH] at hn
theorem lB:∀{ds:List PyData},iq ds=true→PyData.showableAll ds=true→piled (PyData.shownAll ds)≤2000*kg ds
  | [],_,_=>by simp [PyData.shownAll,piled]
  | d::ds,hn,hs=>by
    simp only [iq,Bool.and_eq_true] at hn
    simp only [PyData.showableAll,Bool.and_eq_true] at hs
    have h1:=pI hn.1 hs.1
    have h2:=lB hn.2 hs.2
    simp only [PyData.shownAll,kg,sY]
    lia
end
end L2
namespace L2
open PySem PySem.Spec PyProof.Rows
def ja(env:Env):List (Str × NameKind)→List (Str × Addr)→List (Str × Addr)
  | [],cs=>cs
  | (n,k)::r,cs=>ja env r (if k==.free then(n,(env.cells.lookup n).getD 0)::cs else cs)
theorem kN{env:Env}:∀(names:List (Str × NameKind)) (cs:List (Str × Addr)),(∀y∈names,y.2=.free→∃c,env.cells.lookup y.1=some c)→
    (forIn names cs (fun(x:Str × NameKind) (r:List (Str × Addr))=>(if (x.2==NameKind.free)=true then do let a ←cellOf env x.1;pure (ForInStep.yield ((x.1,a)::r)) else pure (ForInStep.yield r):Sem (ForInStep (List (Str × Addr))))):Sem (List (Str × Addr)))=pure (ja env names cs)
  | [],cs,_=>rfl
  | (n,k)::r,cs,h=>by
    rw [List.forIn_cons]
    have ih:=fun cs'=>kN (env:=env) r cs' (fun y hy=>h y (List.mem_cons_of_mem _ hy))
    by_cases hk:(k==NameKind.free)=true
    · have hk':k=.free:=by simpa using hk
      obtain⟨c,hc⟩:=h (n,k) List.mem_cons_self hk'
      have e:cellOf env n=pure c:=by unfold cellOf;rw [hc]
      simp only [hk,if_true,e,pure_bind,ja,hc,Option.getD_some]
      exact ih _
    · have hk':(k==NameKind.free)=false:=by simpa using hk
      simp only [hk',Bool.false_eq_true,if_false,pure_bind,ja]
      exact ih _
theorem nh{scope:Scope}{env:Env}(h:∀y∈scope.names,y.2=.free→∃c,env.cells.lookup y.1=some c):closureFor scope env=pure (ja env scope.names []):=by
  have e:=kN (env:=env) scope.names [] h
  unfold closureFor
  simp only [pure_bind,bind_pure] at e ⊢
  exact e
theorem kf{env:Env}:∀(names:List (Str × NameKind)) (cs:List (Str × Addr)) (x:Str) (c:Addr),(∀y∈names,y.2=.free→∃c,env.cells.lookup y.1=some c)→(∀x c,cs.lookup x=some c→env.cells.lookup x=some c)→(ja env names cs).lookup x=some c→env.cells.lookup x=some c
  | [],cs,x,c,_,hs,h=>hs x c h
  | (n,k)::r,cs,x,c,hn,hs,h=>by
    refine kf r _ x c (fun y hy=>hn y (List.mem_cons_of_mem _ hy)) (fun x' c' e=>?_) h
    by_cases hk:(k==NameKind.free)=true
    · rw [if_pos hk] at e
      obtain⟨c0,hc⟩:=hn (n,k) List.mem_cons_self (by simpa using hk)
      rw [List.lookup_cons] at e
      cases hx:x'==n with
      | true=>
        rw [hx] at e
        have e1:x'=n:=by simpa using hx
        subst e1
        simp only [hc,Option.getD_some,Option.some.injEq] at e
        rw [←e];exact hc
      | false=>rw [hx] at e;exact hs x' c' e
    · rw [if_neg hk] at e
      exact hs x' c' e
theorem ng{env:Env}:∀(names:List (Str × NameKind)) (cs:List (Str × Addr)) (x:Str),((∃y∈names,y.1=x∧y.2=.free)∨∃c,cs.lookup x=some c)→∃c,(ja env names cs).lookup x=some c
  | [],cs,x,h=>by
    rcases h with ⟨y,hy,_⟩ | h
    · cases hy
    · exact h
  | (n,k)::r,cs,x,h=>by
    refine ng r _ x ?_
    by_cases hk:(k==NameKind.free)=true
    · rw [if_pos hk,List.lookup_cons]
      cases hx:x==n with
      | true=>exact .inr ⟨_,rfl⟩
      | false=>
        rcases h with ⟨y,hy,e1,e2⟩ | h
        · rcases List.mem_cons.mp hy with z | z
          · subst z;subst e1;simp at hx
          · exact .inl ⟨y,z,e1,e2⟩
        · exact .inr h
    · rw [if_neg hk]
      rcases h with ⟨y,hy,e1,e2⟩ | h
      · rcases List.mem_cons.mp hy with z | z
        · subst z;exact absurd (by simpa using e2) hk
        · exact .inl ⟨y,z,e1,e2⟩
      · exact .inr h
theorem dS{env:Env}:∀{names:List (Str × NameKind)} {x:Str},(∀y∈names,y.2≠.cell)→(names.map fun(n,k)=>if (k==NameKind.free&&env.scope.kind==.function&&env.kindOf n==some .cell) then(n,NameKind.cell) else(n,k)).lookup x=some .cell∨
    (names.map fun(n,k)=>if (k==NameKind.free&&env.scope.kind==.function&&env.kindOf n==some .cell) then(n,NameKind.cell) else(n,k)).lookup x=some .free→∃y∈names,y.1=x∧y.2=.free
  | [],x,_,h=>by simp at h
  | (n,k)::r,x,hc,h=>by
    have ih:=@dS env r x (fun y hy=>hc y (List.mem_cons_of_mem _ hy))
    have nc:k≠.cell:=hc (n,k) List.mem_cons_self
    rw [List.map_cons] at h
    cases hx:x==n with
    | true=>
      have e1:x=n:=by simpa using hx
      subst e1
      refine⟨(x,k),List.mem_cons_self,rfl,?_⟩
      by_cases q:(k==NameKind.free&&env.scope.kind==.function&&env.kindOf x==some .cell)=true
      · simp only [Bool.and_eq_true,beq_iff_eq] at q;exact q.1.1
      · simp only [q,Bool.false_eq_true,if_false,List.lookup_cons,beq_self_eq_true,Option.some.injEq] at h
        rcases h with h | h
        · exact absurd h nc
        · exact h
    | false=>
      have e2:∀(l:List (Str × NameKind)),((if (k==NameKind.free&&env.scope.kind==.function&&env.kindOf n==some .cell)=true then(n,NameKind.cell) else(n,k))::l).lookup x=l.lookup x:=fun l=>by
        split<;>simp [List.lookup_cons,hx]
      simp only [e2] at h
      obtain⟨y,hy,z⟩:=ih h
      exact⟨y,List.mem_cons_of_mem _ hy,z⟩
theorem fj{env:Env}:∀{names:List (Str × NameKind)} {x:Str},names.lookup x=some .free→
    (names.map fun(n,k)=>if (k==NameKind.free&&env.scope.kind==.function&&env.kindOf n==some .cell) then(n,NameKind.cell) else(n,k)).lookup x≠some .local
  | [],x,h=>by simp at h
  | (n,k)::r,x,h=>by
    rw [List.map_cons]
    cases hx:x==n with
    | true=>
      simp only [hx,List.lookup_cons] at h
      cases h
      show List.lookup x ((if (NameKind.free==NameKind.free&&env.scope.kind==.function&&env.kindOf n==some .cell)=true then(n,NameKind.cell) else(n,NameKind.free))::_)≠_
      split<;>simp [List.lookup_cons,hx]
    | false=>
      simp only [hx,List.lookup_cons] at h
      have ih:=@fj env r x h
      have e2:∀(l:List (Str × NameKind)),((if (k==NameKind.free&&env.scope.kind==.function&&env.kindOf n==some .cell)=true then(n,NameKind.cell) else(n,k))::l).lookup x=l.lookup x:=fun l=>by
        split<;>simp [List.lookup_cons,hx]
      simp only [e2]
      exact ih
def aJ(X:Cx)(scope:Scope)(cp:List (Nat × Str))(tgN:List Str)(C:Addr)(s0:Shared)(H0:Hp)(fp:List Addr):Cx where
  prog:=X.prog
  w:=X.w
  K:=X.K
  mg:=X.mg
  base:=X.base
  A:=X.A
  N:=cp.map (·.2)++tgN
  s₀:=s0
  H₀:=H0
  env:=compEnvC scope (ja X.env scope.names []) C X.env
  outer:=X.stack
  stack:=X.stack
  ex:=fp
  fn:=fun x=>scope.names.lookup x==some .local
  calm:=X.calm
  pn:=[]
  xe:=fun _ _=>False
def tT(X:Cx)(ifs:List Expr)(t:TT):Prop:=
  ∀(pins:List (Addr × Obj)) (s:Shared) (σ:L2.St) (H:Hp) (Q:Bool→Hp→Prop),aF X pins σ H s→t σ H Q→
    wpAny (model X.prog X.w) X.A (forIn ifs true fun c r=>if r=true then do let ok ←isTrue c X.env (eval c X.env);pure (ForInStep.yield ok) else pure (ForInStep.yield r)) (TP X pins σ Q) X.xe s
theorem z_{X:Cx}:tT X [] (fun _ H Q=>Q true H):=fun _ _ _ H _ I h=>wpAny_tests_nil ⟨H,I,h⟩
theorem Ab{X:Cx}{c:Expr}{t:TT}(h:PT X c t):tT X [c] t:=fun pins s σ H Q I q=>wpAny_tests_one (h pins s σ H Q I q)
abbrev uC:Value→Shared→Prop:=fun _ _=>False
def wF(prog:Program)(w:World)(A:Around)(elt tg:Expr)(ifs:List Expr)(env:Env)(it acc:Value)(onward:Shared→Prop)(v:Value)(u:Shared):Prop:=
  wpAny (model prog w) A (letOwnedTupleGo tg it v) (fun _ u1=>wpAny (model prog w) A (assign tg env v) (fun _ u2=>wpAny (model prog w) A
    (forIn ifs true fun c r=>if r=true then do let ok ←isTrue c env (eval c env);pure (ForInStep.yield ok) else pure (ForInStep.yield r)) (fun ok u3=>if ok=true then wpAny (model prog w) A (eval elt env) (fun x u4=>wpAny (model prog w) A (call (.builtin "list.append") [acc,x]) (fun _ u5=>onward u5) uC u4) uC u3 else onward u3) uC u2) uC u1) uC u
theorem pY{prog:Program}{w:World}{A:Around}{R:Result→Shared→Prop}{elt tg iter:Expr}{ifs:List Expr}{scope:Scope}{pos:Pos}{it acc:Value}{env:Env}(J:Nat→Shared→Prop)
    (turn:∀n u,J n u→wpAny (model prog w) A (pyNext it) (fun r u1=>(r=none→R (.ok .next) u1)∧∀v,r=some v→wF prog w A elt tg ifs env it acc (fun u2=>∃m,m < n∧J m u2) v u1) uC u){n0:Nat}{u0:Shared}(fF:J n0 u0):
    codeAny (model prog w) A (.compLoop (.ListComp elt [⟨tg,iter,ifs,0⟩] scope pos) 0 it acc env) R u0:=by
  refine codeAny_loop rfl J (fun n u ju=>?_) n0 fF
  show wpAny _ A ((compTurn (.ListComp elt [⟨tg,iter,ifs,0⟩] scope pos) 0 it acc env).onRaise _) _ _ u;refine wpAny_noted ?_;rw [compTurn_list]
  refine wpAny_bind (wpAny_standAt (wpAny_bind (wpAny_mono (turn n u ju) (fun r u1 k1=>?_) fun _ _ z=>z.elim)))
  cases r with
  | none=>exact wpAny_pure (k1.1 rfl)
  | some v=>
    refine wpAny_bind (wpAny_mono (k1.2 v rfl) (fun _ u2 k2=>wpAny_bind (wpAny_mono k2 (fun _ u3 k3=>wpAny_bind (wpAny_mono k3 (fun ok u4 k4=>?_) fun _ _ z=>z.elim)) fun _ _ z=>z.elim)) fun _ _ z=>z.elim)
    cases ok with
    | false=>rw [if_neg Bool.false_ne_true] at k4;exact wpAny_pure ⟨rfl,k4⟩
    | true=>
      rw [if_pos rfl] at k4
      refine wpAny_bind (wpAny_bind (wpAny_mono k4 (fun x u5 k5=>wpAny_bind (wpAny_mono k5 (fun _ u6 k6=>?_) fun _ _ z=>z.elim)) fun _ _ z=>z.elim));exact wpAny_pure (wpAny_pure ⟨rfl,k6⟩)
def fw(cp:List (Nat × Str))(nT:Nat)(σ:L2.St):L2.St:=cp.map (fun p=>(σ[p.1]?).join)++List.replicate nT none
structure Bk (cp:List (Nat × Str)) (nT:Nat) (wi:TI) (g:TG) (tc:TT) (te:TE) (σ:L2.St) (H:Hp) (Q:VK):Prop where
  go:wi σ H fun J H1=>∀l,H1 l=none→
  ∃W:Nat→Nat→L2.St→Hp→Prop,(∃m,W 0 m (fw cp nT σ) (bj H1 l (.lst [])))∧∀i m σ' H',W i m σ' H'→
    (J.stop i H'∧Q (.ref l) H')∨(J.go i H'∧∃N:L2.St→Hp→Prop,(∀σ2 H2,N σ2 H2→∃m',m' < m∧W (i+1) m' σ2 H2)∧
      ∀x H2,J.yld i H' x H2→g x σ' H2 fun σ2 H3=>tc σ2 H3 fun b H4=>if b=true then te σ2 H4 fun v H5=>∃ys,H5 l=some (.lst ys)∧ys.length < sizeLine∧N σ2 (bj H5 l (.lst (ys++[v]))) else N σ2 H4)
theorem zL{X:Cx}{elt iter tg:Expr}{ifs:List Expr}{scope:Scope}{pos:Pos}{wi:TI}{g:TG}{tc:TT}{te:TE}(sc0:Scope)(N0:List Str)(cp:List (Nat × Str))(tgN:List Str)
    (hc:X.calm=true)(hsc:X.env.scope=sc0)(hN0:X.N=N0)(hi:PI X tg iter wi)
    (hg:∀C s0 H0 fp,PG (aJ X scope cp tgN C s0 H0 fp) tg g)
    (ht:∀C s0 H0 fp,tT (aJ X scope cp tgN C s0 H0 fp) ifs tc)
    (he:∀C s0 H0 fp,PE (aJ X scope cp tgN C s0 H0 fp) elt te)
    (hk:scope.kind=.function)(hcell:∀y∈scope.names,y.2≠.cell)(hnames:∀y∈scope.names,y.2=.local→scope.names.lookup y.1=some .local)
    (hfr:∀y∈scope.names,y.2=.free→scope.names.lookup y.1=some .free∧sc0.names.lookup y.1=some .cell)
    (hcp:∀p∈cp,N0[p.1]?=some p.2)(hcq:∀p∈cp,sc0.names.lookup p.2=some .cell∧scope.names.lookup p.2=some .free)
    (hs:∀x,foldedSetIterable iter X.env x=pure x:=by intro _;rfl):
    PE X (.ListComp elt [⟨tg,iter,ifs,0⟩] scope pos) (Bk cp tgN.length wi g tc te):=by
  intro pins s σ H Q I h
  have hkind:∀x,X.env.kindOf x=sc0.names.lookup x:=fun x=>by unfold Env.kindOf;rw [hsc]
  have hfree:∀y∈scope.names,y.2=.free→∃c,X.env.cells.lookup y.1=some c:=fun y hy e=>I.ok.has y.1 (.inl (by rw [hkind];exact(hfr y hy e).2))
  rw [eval_ListComp]
  refine wpAny_comprehension_free (use:=none) rfl hs (nh hfree) hk hnames (wpAny_mono (hi pins s σ H _ I h.go) (fun xv s₁ h₁=>wpAny_mono h₁ (fun itv s₂ h₂=>?_) fun _ _ e=>e) fun _ _ e=>e)
  obtain⟨it,fp,tn,J,H2,rfl,I2,T,st2,f2,hq⟩:=h₂
  refine wpAny_newObj_type ?_
  have hlF:H2 s₂.heap.objs.size=none:=I2.hok.fresh (Nat.le_refl _)
  have I3:aF X pins σ (bj H2 s₂.heap.objs.size (.lst [])) {s₂ with heap:=s₂.heap.push {cls:=.type "list",data:=.seq ([]:List Value).toArray}}:=I2.lnew (t':=s₂.toks) .nil (Nat.zero_le _)
  obtain⟨W,⟨m0,w0⟩,turn⟩:=hq _ hlF
  have f3:∀b∈fp,hX X pins (bj H2 s₂.heap.objs.size (.lst [])) b:=fun b hb=>by
    obtain⟨f0,fr⟩:=f2 b hb
    obtain⟨o,ho,_⟩:=T.obj _ _ st2 b hb
    exact⟨by rw [aA (Nat.ne_of_lt (Heap.lt_size ho))];exact f0,fr⟩
  have st3:tn 0 (s₂.heap.push {cls:=.type "list",data:=.seq ([]:List Value).toArray}):=T.keep _ _ _ st2 fun b _ o e=>Heap.get?_push_of_some _ e
  generalize hD:s₂.heap.objs.size=D at*
  generalize hs3:({s₂ with heap:=s₂.heap.push {cls:=.type "list",data:=.seq ([]:List Value).toArray}}:Shared)=s₃ at*
  have hst3:tn 0 s₃.heap:=by rw [←hs3];exact st3
  refine wpAny_newFunctionEnv hcell (by intro y hy;simp at hy) (fun h₁ hns₁ hsb₁=>?_) hk
  generalize hC:s₃.heap.objs.size=C at*
  have old:∀b o,s₃.heap.get? b=some o→h₁.get? b=some o:=fun b o e=>hsb₁.extBut b o (by rw [←hC];exact Nat.ne_of_lt (Heap.lt_size e)) (Heap.get?_push_of_some _ e)
  have nC:∀b o,s₃.heap.get? b=some o→b≠C:=fun b o e=>by rw [←hC];exact Nat.ne_of_lt (Heap.lt_size e)
  have hHC:(bj H2 D (.lst [])) C=none:=I3.hok.fresh (by rw [hC];exact Nat.le_refl _)
  have clS:∀x c,(ja X.env scope.names []).lookup x=some c→X.env.cells.lookup x=some c:=fun x c e=>kf _ _ x c hfree (fun _ _ z=>by simp at z) e
  have clH:∀x,(∃y∈scope.names,y.1=x∧y.2=.free)→∃c,(ja X.env scope.names []).lookup x=some c:=fun x e=>ng _ _ x (.inl e)
  have ok':(aJ X scope cp tgN C s₃ (bj H2 D (.lst [])) fp).Ok:=by
    refine⟨I.ok.mod,hk,I.ok.glob,I.ok.blt,by rw [←hC];exact Nat.le_refl _,fun x y c e1 e2=>I.ok.inj x y c (clS _ _ e1) (clS _ _ e2),fun x e=>clH x (dS hcell e),fun x c e1 e2=>?_,I.ok.hd,I.ok.frames,.inl rfl,fun b hb=>?_,fun b o e=>I3.bs b o e,?_,fun b o e hb=>?_,fun b hb z=>?_,I3.stack,fun b hb=>I3.stkFree b hb⟩
    · exfalso
      have e1':scope.names.lookup x=some .local:=by simpa [aJ] using e1
      have e2':=clS x c e2
      obtain⟨c',hc'⟩:∃y∈scope.names,y.1=x∧y.2=.free:=by
        by_cases q:∃y∈scope.names,y.1=x∧y.2=.free
        · exact q
        · exfalso
          have:∀(names:List (Str × NameKind)) (cs:List (Str × Addr)),(¬∃y∈names,y.1=x∧y.2=.free)→cs.lookup x=none→(ja X.env names cs).lookup x=none:=by
            intro names
            induction names with
            | nil=>intro cs _ h;exact h
            | cons y r ih=>
              intro cs hn hcs
              obtain⟨n,k⟩:=y
              refine ih _ (fun⟨y,hy,z⟩=>hn ⟨y,List.mem_cons_of_mem _ hy,z⟩) ?_
              by_cases hk:(k==NameKind.free)=true
              · rw [if_pos hk,List.lookup_cons]
                cases hx:x==n with
                | true=>exact absurd ⟨(n,k),List.mem_cons_self,(by simpa using hx:x=n).symm,by simpa using hk⟩ hn
                | false=>exact hcs
              · rw [if_neg hk];exact hcs
          have z:=this scope.names [] q rfl
          have e2'':(ja X.env scope.names []).lookup x=some c:=e2
          rw [z] at e2'';cases e2''
      have z:=(hfr c' hc'.1 hc'.2.2).1
      rw [hc'.2.1,e1'] at z;cases z
    · obtain⟨f0,f1,f4,f5,f6,f7⟩:=f3 b hb
      obtain⟨o,ho,_⟩:=T.obj _ _ hst3 b hb
      exact⟨nC b o ho,fun x c e=>f6 x c (clS x c e)⟩
    · exact Nat.le_trans I.ok.bsz I3.sz
    · obtain⟨f0,f1,f4,f5,f6,f7⟩:=f3 b hb
      rcases f5 with z | z
      · exact I.ok.noex b o e z
      · have:=(I.ok.bs b o e).1
        exact absurd (Nat.lt_of_lt_of_le (Heap.lt_size this) z) (Nat.lt_irrefl _)
    · obtain⟨f0,f1,f4,f5,f6,f7⟩:=f3 b hb
      rcases List.mem_cons.mp (I3.stkSub b z) with z | z
      · exact f1 z
      · exact f4 z
  have I4:aF (aJ X scope cp tgN C s₃ (bj H2 D (.lst [])) fp) [] (fw cp tgN.length σ) (bj H2 D (.lst [])) {s₃ with heap:=h₁,toks:=s₃.toks+([]:List (Str × Value)).length}:=by
    refine⟨ok',rfl,I3.bare,Un.kept old,⟨_,hns₁,fun i x v e1 e2 e3=>?_⟩,fun x c e=>?_,hHC,fun x c e=>I3.freeC x c (clS x c e),fun p hp=>by simp [aJ] at hp,I3.hok.kept old,by simp [fw,aJ]⟩
    · have hlt:i < cp.length:=by
        by_cases q:i < cp.length
        · exact q
        · exfalso
          unfold fw at e2
          rw [List.getElem?_append_right (by simp;lia)] at e2
          rw [List.getElem?_replicate] at e2
          split at e2<;>cases e2
      have e1':(cp.map (·.2))[i]?=some x:=by
        have e1'':(cp.map (·.2)++tgN)[i]?=some x:=e1
        rwa [List.getElem?_append_left (by simp;exact hlt)] at e1''
      have e2':(cp.map (fun p=>(σ[p.1]?).join))[i]?=some (some v):=by
        unfold fw at e2
        rwa [List.getElem?_append_left (by simp;exact hlt)] at e2
      rw [List.getElem?_map,List.getElem?_eq_getElem hlt] at e1' e2'
      have ex:(cp[i]).2=x:=by simpa using e1'
      have ev:(σ[(cp[i]).1]?).join=some v:=by simpa using e2'
      have ev':σ[(cp[i]).1]?=some (some v):=by
        cases q:σ[(cp[i]).1]? with
        | none=>rw [q] at ev;cases ev
        | some z=>rw [q] at ev;simp only [Option.join_some] at ev;rw [ev]
      have hN:=hcp cp[i] (List.getElem_mem hlt)
      rw [←hN0] at hN
      obtain⟨hcl,hcf⟩:=hcq cp[i] (List.getElem_mem hlt)
      rw [ex] at hN hcl hcf
      obtain⟨m,hn,hl⟩:=I3.loc
      obtain⟨u,r,l⟩:=hl _ x v hN ev' (.inr (.inl (by rw [hsc];exact hcl)))
      refine⟨u,r,.inr ?_⟩
      rcases l with ⟨k1,_⟩ | ⟨k1,c,hcc,o,ho,hd⟩
      · rw [hkind,hcl] at k1;cases k1
      · have e3':(relabel scope X.env).names.lookup x=some .local∨(relabel scope X.env).names.lookup x=some .cell∨(relabel scope X.env).names.lookup x=some .free:=e3
        have nl:(relabel scope X.env).names.lookup x=some .cell∨(relabel scope X.env).names.lookup x=some .free:=by
          rcases e3' with z | z | z
          · exact absurd z (fj hcf)
          · exact .inl z
          · exact .inr z
        obtain⟨c',hc'⟩:=clH x (dS hcell nl)
        have:=clS x c' hc'
        rw [hcc] at this;cases this
        exact⟨nl,c,hc',o,old c o ho,hd⟩
    · obtain⟨v,o,ho,hd⟩:=I3.cell x c (clS x c e)
      exact⟨v,o,old c o ho,hd⟩
  have hst4:tn 0 h₁:=T.keep _ _ _ hst3 fun b _ o e=>old b o e
  have loop:codeAny (model X.prog X.w) X.A (.compLoop (.ListComp elt [⟨tg,iter,ifs,0⟩] scope pos) 0 (.ref it) (.ref D) (compEnvC scope (ja X.env scope.names []) C X.env))
      (compPost (model X.prog X.w) X.A X.xe none (EP X pins σ Q) (.ref D) C) {s₃ with heap:=h₁,toks:=s₃.toks+([]:List (Str × Value)).length}:=by
    refine pY (fun n s'=>∃i σ' H',aF (aJ X scope cp tgN C s₃ (bj H2 D (.lst [])) fp) [] σ' H' s'∧tn i s'.heap∧(∀b∈fp,H' b=none)∧W i n σ' H') ?_ (n0:=m0) ⟨0,_,_,I4,hst4,fun b hb=>(f3 b hb).1,w0⟩
    rintro n s5 ⟨i,σ5,H5,I5,st5,fr5,w5⟩
    have stat:∀{H':Hp},(∀b∈fp,H' b=none)→∀b∈fp,hX (aJ X scope cp tgN C s₃ (bj H2 D (.lst [])) fp) [] H' b:=fun hn b hb=>
      ⟨hn b hb,(ok'.exf b hb).1,ok'.exfs b hb,.inl hb,(ok'.exf b hb).2,fun p hp=>by simp [aJ] at hp⟩
    rcases turn i n σ5 H5 w5 with ⟨stop,qn⟩ | ⟨go,N,hN,step⟩
    · refine ci (T.done (aJ X scope cp tgN C s₃ (bj H2 D (.lst [])) fp) rfl rfl rfl hc i [] s5 σ5 H5 (fun _ _=>False) I5 (stat fr5) st5 stop) fun r s6 ⟨hr,I6⟩=>?_
      subst hr
      refine⟨fun _=>?_,fun v z=>by cases z⟩
      obtain⟨m,hn,_⟩:=I6.loc
      refine⟨m,hn,fun h' sb=>⟨.ref D,H5,?_,rfl,qn⟩⟩
      have ub:=I6.base
      have kp:∀b u,b≠C→s6.heap.get? b=some u→h'.get? b=some u:=fun b u ne e=>sb.extBut b u ne e
      have nit:∀b u,H5 b=some u→b≠C:=fun b u e z=>by
        have:=I6.free
        rw [z] at e
        rw [show H5 C=none from this] at e;cases e
      refine I3.call' (s':={s6 with heap:=h'}) (ch:=fp) I6.os ⟨fun b o e n hb hx=>kp b o (nC b o e) (ub.keep b o e n hb hx),fun b o e n hb hx=>?_,ub.free,fun b o e hx=>?_,ub.tups,ub.frzs,ub.tbls⟩ (fun b u e=>?_) I6.bare (fun b hb=>?_)
      · obtain⟨sl,q⟩:=ub.slot b o e n hb hx
        exact⟨sl,kp b _ (nC b o e) q⟩
      · obtain⟨o',q⟩:=ub.there b o e hx
        exact⟨o',kp b _ (nC b o e) q⟩
      · refine(I6.hok b u e).stay (fun c v hc q=>kp c v ?_ q) (fun _ q=>q) fun _ _ q=>q
        rcases hc with z | z
        · rw [z];exact nit b u e
        · exact nit c _ z
      · obtain⟨f0,f1,f4,f5,f6,f7⟩:=f3 b hb
        exact⟨f5,f1,f6,f7⟩
    · refine ci (T.item (aJ X scope cp tgN C s₃ (bj H2 D (.lst [])) fp) rfl rfl rfl hc i [] s5 σ5 H5 (fun _ _=>False) I5 (stat fr5) st5 go) fun r s6 ⟨u,hr,h6⟩=>?_
      subst hr
      refine⟨fun z=>(by cases z),fun v z=>?_⟩
      cases z
      refine ci h6 fun _ s7 ⟨x,H7,I7,r7,y7,st7,fr7⟩=>?_
      have I7':=I7.pinned (stat fr7) (T.obj _ _ st7)
      have again:∀{σ8:L2.St} {H8:Hp} {s8:Shared},aF (aJ X scope cp tgN C s₃ (bj H2 D (.lst [])) fp) ([]++kv fp s7.heap) σ8 H8 s8→N σ8 H8→∃m,m < n∧∃i σ' H',aF (aJ X scope cp tgN C s₃ (bj H2 D (.lst [])) fp) [] σ' H' s8∧tn i s8.heap∧(∀b∈fp,H' b=none)∧W i m σ' H':=fun{σ8 H8 s8} I8 n8=>by
        obtain⟨m',hm,w8⟩:=hN σ8 H8 n8
        refine⟨m',hm,i+1,σ8,H8,I8.unpinned,T.keep _ _ _ st7 fun b hb o e=>(I8.pin (b,o) (List.mem_append_right _ (List.mem_append_right _ (cP hb e)))).1,fun b hb=>?_,w8⟩
        obtain⟨o,e,d⟩:=T.obj _ _ st7 b hb
        exact(I8.pin (b,o) (List.mem_append_right _ (List.mem_append_right _ (cP hb e)))).2.1
      refine ci (hg C s₃ (bj H2 D (.lst [])) fp _ s7 σ5 H7 x u _ I7' r7 (step x H7 y7)) fun _ s8 ⟨σ8,H8,I8,q8⟩=>?_
      refine ci (ht C s₃ (bj H2 D (.lst [])) fp _ s8 σ8 H8 _ I8 q8) fun ok s9 ⟨H9,I9,q9⟩=>?_
      cases ok with
      | false=>
        rw [if_neg Bool.false_ne_true] at q9 ⊢
        exact again I9 q9
      | true=>
        rw [if_pos rfl] at q9 ⊢
        refine ci (he C s₃ (bj H2 D (.lst [])) fp _ s9 σ8 H9 _ I9 q9) fun v s10 ⟨xv,H10,I10,r10,ys,hl,hz,n10⟩=>?_
        refine ci (jX _ s10 σ8 H10 (.ref D) [xv] (.ref D) [v] (fun _ H=>N σ8 H) I10 rfl (.cons r10 .nil) ⟨D,ys,xv,rfl,rfl,hl,hz,n10⟩) fun _ s11 ⟨_,H11,I11,_,q11⟩=>?_
        exact again I11 q11
  exact codeAny_compStart_list loop (T.self X.A 0 _ _ _ hst4 loop)
end L2
namespace L2
open PySem PySem.Spec PyProof.Rows
section
variable{X:Cx}
def x_(K:PySem.W.Frag):R2:=fun x y H Q=>∃a b xs ys,x=.ref a∧y=.ref b∧cg K H a xs∧cg K H b ys∧xs.length+ys.length≤sizeLine∧∀p H',av H H'→cg K H' p (xs++ys)→Q (.ref p) H'
theorem zC:i6 X (binaryOp .Add) (x_ X.K):=by
  intro pins s σ H x y v u Q I rx ry h
  obtain⟨a,b,xs,ys,rfl,rfl,ha,hb,hz,q⟩:=h
  cases rx;cases ry
  by_cases hx:xs=[]
  · obtain⟨i1,r1,p1,_⟩:=I.tuple ha
    obtain⟨i2,r2,p2,_⟩:=I.tuple hb
    obtain⟨m,F⟩:=I.fr
    have e1:i1=[]:=by subst hx;cases r1;rfl
    refine add_tuples F (xq (g:=X.base)) p1 p2 (fun _=>?_) (fun z1 _=>absurd e1 z1) (fun z1 _ _ _ _=>absurd e1 z1) (by rw [←r1.length,←r2.length];exact hz)
    exact⟨.ref b,H,I,rfl,q b H (av.refl H) (by rw [hx];exact hb)⟩
  · exact zD pins s σ H (.ref a) (.ref b) _ _ Q I rfl rfl ⟨a,b,xs,ys,rfl,rfl,ha,hb,hx,hz,fun z=>q a H (av.refl H) (by rw [z,List.append_nil];exact ha),fun _ p hp=>q p _ (av.new hp) (cg.of ax)⟩
theorem nM{x:V}{us:List Value}(r:aR [x] us):∃u,us=[u]∧bI x u:=by
  cases r with
  | cons p p'=>cases p';exact⟨_,rfl,p⟩
theorem qY{prog:Program}{w:World}{A:Around}{E:Value→Shared→Prop}{s:Shared}{t:Addr}{vs:List Value}{Q:List Value→Shared→Prop}(ht:IsTup s.heap t vs.toArray)
    (h:Q vs {s with heap:=(s.heap.push (seqObj "list" #[] 0)).update s.heap.objs.size (Obj.mapSeq (· ++vs.toArray))})(hsz:vs.length≤sizeLine):wpAny (model prog w) A (collect (.ref t)) Q E s:=by
  obtain⟨o,ho,hc,n,hd⟩:=id ht;unfold collect;refine wpAny_bind (wpAny_runValue (codeAny_builtin entry_proto_collect' ?_))
  show wpAny _ _ (do again (.builtin "list.__iadd__" ⟨[←newList [],.ref t],[]⟩)) _ _ s
  refine wpAny_bind (wpAny_newList (wpAny_pure ⟨Code.quiet_builtin _ (by decide+kernel),?_⟩));refine codeAny_builtin entry_list_iadd' ?_
  show wpAny _ _ (Builtin.List.listExtendWith (.ref s.heap.objs.size) (.ref t) (.ref s.heap.objs.size)) _ _ {s with heap:=s.heap.push (seqObj "list" #[] 0)}
  unfold Builtin.List.listExtendWith;have ho':(s.heap.push (seqObj "list" #[] 0)).get? t=some o:=Heap.get?_push_of_some _ ho
  refine wpAny_bind (wpAny_typeOf (T:="tuple") ⟨o,ho',hc⟩ ?_)
  rw [if_pos (by rw [show(Value.type "tuple"==Value.type "tuple")=true from rfl,Bool.or_true])]
  refine wpAny_bind (listItems_at ho' hd ?_);refine wpAny_bind (listItems_at (xs:=#[]) (n:=0) (Heap.get?_push_size _ rfl) rfl ?_)
  rw [if_neg (by simp)];refine wpAny_bind (listUpdate_at (xs:=#[]) (n:=0) (Heap.get?_push_size _ rfl) rfl ?_ (Nat.zero_le _) (by show(#[]++vs.toArray).size≤sizeLine+1;simp only [Array.size_append,List.size_toArray,List.length_nil];lia))
  refine wpAny_pure ?_
  show wpAny (model prog w) A (load s.heap.objs.size >>= fun o=>match o.data with | .seq xs _=>pure xs.toList | _=>unsupported "internal:collect") Q E {s with heap:=(s.heap.push (seqObj "list" #[] 0)).update s.heap.objs.size (Obj.mapSeq (· ++vs.toArray))}
  refine wpAny_bind (wpAny_load (get?_update_seq (Heap.get?_push_size _ rfl) _) ?_);show wpAny _ _ (pure ((#[]:Array Value)++vs.toArray).toList) Q E _;rw [show((#[]:Array Value)++vs.toArray).toList=vs by simp];exact wpAny_pure h
theorem tF{prog:Program}{w:World}{A:Around}{E:Value→Shared→Prop}{s:Shared}{t:Addr}{vs:List Value}{ns:List Int}{Q:Value→Shared→Prop}(ht:IsTup s.heap t vs.toArray)(hI:IntsAre vs ns)(h64:vs.length < 64)
    (h:∀(out:Array Value) (ns':List Int),IntsAre out.toList ns'→ns'.Perm ns→ns'.Pairwise (· ≤·)→Q (.ref (s.heap.objs.size+1)) {s with heap:=sortedAll s.heap vs out}):wpAny (model prog w) A (call (.builtin "sorted") [.ref t]) Q E s:=by
  refine Calls.call_function_entry kind_sorted plain_sorted entry_sorted (args_sorted1 _) ?_;unfold Builtin.«sorted»
  refine wpAny_bind (m:=checkCount "sorted" 1 1 _) (wpAny_pure ?_);refine wpAny_bind (qY ht ?_ (Nat.le_trans (Nat.le_of_lt h64) (by decide)))
  have z:((s.heap.push (seqObj "list" #[] 0)).update s.heap.objs.size (Obj.mapSeq (· ++vs.toArray))).objs.size=s.heap.objs.size+1:=by rw [Heap.size_update,size_push']
  have o:(((s.heap.push (seqObj "list" #[] 0)).update s.heap.objs.size (Obj.mapSeq (· ++vs.toArray))).push (seqObj "list" vs.toArray 0)).get? (s.heap.objs.size+1)=some (seqObj "list" vs.toArray 0):=by rw [←z];exact Heap.get?_push_size _ rfl
  refine wpAny_bind (wpAny_newList ?_);show wpAny _ _ _ _ _ {s with heap:=((s.heap.push (seqObj "list" #[] 0)).update s.heap.objs.size (Obj.mapSeq (· ++vs.toArray))).push (seqObj "list" vs.toArray 0)}
  rw [z];refine wpAny_bind (wpAny_holding (wpAny_call_entry slot_list_sort ⟨_,o,rfl⟩ entry_list_sort (list_sort_tree o hI h64 fun out ns' b1 b2 b3=>⟨_,rfl,?_⟩) (args_list_sort _)))
  exact wpAny_pure ⟨_,rfl,h out ns' b1 b2 b3⟩
theorem qV:ey X (.builtin "sorted") (fun xs H Q=>∃(a:Addr) (ns:List Int),xs=[.ref a]∧cg X.K H a (ns.map V.int)∧ns.length < 64∧∀(l:Addr) (ns':List Int) (H':Hp),av H H'→H l=none→H' l=some (.lst (ns'.map V.int))→ns'.Perm ns→ns'.Pairwise (· ≤·)→Q (.ref l) H'):=by
  intro pins s σ H xs us Q I r h
  obtain⟨a,ns,rfl,hs,h64,q⟩:=h
  obtain⟨u,rfl,ru⟩:=nM r
  cases ru
  obtain⟨its,rv,p,hz⟩:=I.tuple hs
  have hl:=rv.length
  rw [List.length_map] at hl
  refine tF p (sL rv) (by lia) fun out ns' a1 a2 a3=>?_
  obtain⟨e,he⟩:=sortedAll_at s.heap its out
  have hf:H (s.heap.objs.size+1)=none:=I.hok.fresh (Nat.le_succ _)
  refine⟨.ref (s.heap.objs.size+1),bj H (s.heap.objs.size+1) (.lst (ns'.map V.int)),I.laid (t':=s.toks) (fun _ _=>sortedAll_old) (Nat.le_succ _) ⟨?_,out.toList,e,l4 a1,?_⟩,rfl,q _ ns' _ (av.new hf) hf ax a2 a3⟩
  · rw [List.length_map,a2.length_eq]
    exact Nat.le_trans (Nat.le_of_lt h64) (by decide)
  · simpa [seqObj] using he
end
end L2
namespace L2
open PySem PySem.Spec PyProof.Rows
section
variable{X:Cx}
end
theorem vP{e:Expr}{es:List Expr}{env:Env}(h:PySem.W.isStarred e=false):starEach (e::es) env=(false,eval e env)::starEach es env:=by
  cases e<;>first | rfl | cases h
theorem Cg{X:Cx}{e:Expr}{es:List Expr}{te:TE}{t:TA}(ha:PE X e te)(hr:PA X es t)(h:PySem.W.isStarred e=false:=by rfl):PA X (e::es) (rZ te t):=qt ha hr (vP h)
def uM:List (Int × Int)→TA
  | []=>C0
  | p::r=>rZ (Ez (rZ (tC (.int p.1)) (rZ (tC (.int p.2)) C0))) (uM r)
@[irreducible] def FN(ps:List (Int × Int)):TA:=uM ps
structure pU where
  one:Int
  other:Int
  top:Int
  bot:Int
  worth:Int
structure aM where
  things:Int
  ties:List pU
  pat:List Int
  asks:Int
structure pU.Ok (n:Int) (t:pU):Prop where
  o0:0≤t.one
  o1:t.one < t.other
  o2:t.other < n
  c0:0≤t.top
  c1:t.top≤t.bot
  b0:1≤t.bot
  b1:t.bot≤100
  w0:0≤t.worth
  w1:t.worth≤1000
  cop:Int.gcd t.top t.bot=1
structure aM.Ok (w:aM):Prop where
  t0:0≤w.things
  t1:w.things≤12
  ties:∀t∈w.ties,t.Ok w.things
  len:w.ties.length≤16
  pl:(w.pat.length:Int)=w.things
  pat:∀p∈w.pat,0≤p∧p≤20
  a0:0≤w.asks
  a1:w.asks≤40
def Dp(K:PySem.W.Frag)(H:Hp)(v:V)(t:pU):Prop:=∃p q,v=.ref p∧cg K H p [.int t.one,.int t.other,.ref q,.int t.worth]∧cg K H q [.int t.top,.int t.bot]
inductive pV (K:PySem.W.Frag) (H:Hp):List V→List pU→Prop
  | nil:pV K H [] []
  | cons {v vs t ts}:Dp K H v t→pV K H vs ts→pV K H (v::vs) (t::ts)
structure F_ (K:PySem.W.Frag) (H:Hp) (v:V) (w:aM):Prop where
  ex:∃a b c ts,v=.ref a∧cg K H a [.int w.things,.ref b,.ref c,.int w.asks]∧cg K H b ts∧pV K H ts w.ties∧cg K H c (w.pat.map V.int)
section
variable{K:PySem.W.Frag}{H H':Hp}
end
theorem sP{t b:Int}(hb:0 < b)(h0:0≤t)(h1:t≤b)(h2:b≤100):0≤(bo t b).1∧(bo t b).1≤(bo t b).2∧1≤(bo t b).2∧(bo t b).2≤100:=by
  obtain⟨d,e1,e2,e3,e4,e5⟩:=fV (t:=t) (b:=b) (by lia)
  generalize (bo t b).1=x at*
  generalize (bo t b).2=y at*
  have dp:0 < d:=by
    rcases Int.lt_or_gt_of_ne e2 with z | z
    · exfalso
      have:y*d < 0:=Int.mul_neg_of_pos_of_neg e5 z
      lia
    · exact z
  have x0:0≤x:=by
    rcases Int.lt_or_le x 0 with z | z
    · have:x*d < 0:=Int.mul_neg_of_neg_of_pos z dp
      lia
    · exact z
  have xy:x≤y:=by
    rcases Int.lt_or_le y x with z | z
    · have:y*d < x*d:=Int.mul_lt_mul_of_pos_right z dp
      lia
    · exact z
  have yb:y≤y*d:=by
    have:=Int.mul_le_mul_of_nonneg_left (show(1:Int)≤d by lia) (show 0≤y by lia)
    lia
  exact⟨x0,xy,by lia,by lia⟩
end L2
namespace L2
open PySem PySem.Spec PyProof.Rows
inductive oz {α β:Type} (R:α→β→Prop):List α→List β→Prop
  | nil:oz R [] []
  | cons {a b as bs}:R a b→oz R as bs→oz R (a::as) (b::bs)
namespace oz
variable{α β:Type}{R S:α→β→Prop}
theorem mono(h:∀a b,R a b→S a b):∀{as:List α} {bs:List β},oz R as bs→oz S as bs
  | _,_,.nil=>.nil
  | _,_,.cons x r=>.cons (h _ _ x) (mono h r)
theorem len:∀{as:List α} {bs:List β},oz R as bs→as.length=bs.length
  | _,_,.nil=>rfl
  | _,_,.cons _ r=>by simp [len r]
theorem get:∀{as:List α} {bs:List β} {i:Nat} {b:β},oz R as bs→bs[i]?=some b→∃a,as[i]?=some a∧R a b
  | _,_,_,_,.nil,e=>by simp at e
  | _,_,0,_,.cons x _,e=>by simp at e;subst e;exact⟨_,rfl,x⟩
  | _,_,i+1,b,.cons _ r,e=>by
    obtain⟨v,h1,h2⟩:=get (i:=i) (b:=b) r (by simpa using e)
    exact⟨v,by simpa using h1,h2⟩
end oz
section
variable{K:PySem.W.Frag}{a l:Addr}{xs:List V}{g:TG}{tc:TT}{te:TE}{Q:VK}{σ:L2.St}{H:Hp}{α β:Type}{us:List α}{cp:List (Nat × Str)}{nT:Nat}
def EK(a_:Hp→V→β→Prop)(SI:L2.St→Prop)(us:List α)(f:α→Option β)(H:Hp)(l:Addr)(i:Nat)(σ:L2.St)(H':Hp):Prop:=SI σ∧av H H'∧∃vs,H' l=some (.lst vs)∧vs.length≤i∧oz (a_ H') vs ((us.take i).filterMap f)
end
theorem mB:∀{a b:List Int},a.Perm b→a.Pairwise (· ≤·)→b.Pairwise (· ≤·)→a=b
  | [],b,p,_,_=>by
    have:=p.length_eq
    exact(List.length_eq_zero_iff.mp this.symm).symm
  | x::a,b,p,h1,h2=>by
    cases b with
    | nil=>have:=p.length_eq;simp at this
    | cons y b=>
      have h1':=List.pairwise_cons.mp h1
      have h2':=List.pairwise_cons.mp h2
      have e:x=y:=by
        have m1:y∈x::a:=p.mem_iff.mpr (by simp)
        have m2:x∈y::b:=p.mem_iff.mp (by simp)
        rcases List.mem_cons.mp m1 with z | z
        · exact z.symm
        · rcases List.mem_cons.mp m2 with z2 | z2
          · exact z2
          · have:=h1'.1 y z
            have:=h2'.1 x z2
            lia
      subst e
      rw [mB ((List.perm_cons x).mp p) h1'.2 h2'.2]
def jI(ns:List Int):List Int:=ns.mergeSort
theorem yn{ns ns':List Int}(p:ns'.Perm ns)(h:ns'.Pairwise (· ≤·)):ns'=jI ns:=by
  refine mB (p.trans (List.mergeSort_perm ns _).symm) h ?_
  have:=List.pairwise_mergeSort (le:=fun a b:Int=>decide (a≤b)) (fun a b c h1 h2=>by simp at*;lia) (fun a b=>by simp;lia) ns
  exact this.imp fun h=>by simpa using h
theorem iX(ns:List Int):(jI ns).Perm ns:=List.mergeSort_perm ns _
theorem lY{ns:List Int}{x:Int}:x∈jI ns↔ x∈ns:=(iX ns).mem_iff
theorem pK(ns:List Int):(jI ns).length=ns.length:=(iX ns).length_eq
section
variable{X:Cx}{K:PySem.W.Frag}{pos:Pos}
theorem xb(h:X.K=K):yJ X (CM K):=h ▸ ut
theorem u_(h:X.K=K):ey X (.builtin "len") (fun xs H Q=>∃p ys,xs=[.ref p]∧(cX K H p ys∨cg K H p ys)∧Q (.int ys.length) H):=h ▸ kM
theorem zP{es:List Expr}{k:Nat}{t:yK}{n:Nat}(hK:X.K=K)(hc:X.calm=true)(h:wb X es t)(hn:(assignEach es X.env).length=n:=by rfl)(hst:(assignEach es X.env).findIdx? (·.1)=none:=by rfl):PG X (.Tuple es k pos) (zc K n t):=hK ▸ Cn hc h hn hst
theorem zS{tg l:Expr}{tl:TE}(h:X.K=K)(hl:PE X l tl):PI X tg l (DG K tl):=h ▸ Co hl
theorem rH{tg l:Expr}{tl:TE}(h:X.K=K)(hl:PE X l tl):PI X tg l (A0 K tl):=h ▸ zR hl
end
instance:Inhabited pU:=⟨⟨0,1,1,1,0⟩⟩
def aM.tie(W:aM)(k:Int):pU:=W.ties.getD k.toNat default
def aM.has(W:aM)(k thing:Int):Bool:=(W.tie k).one==thing || (W.tie k).other==thing
def aM.many(W:aM)(asked:List Int)(thing:Int):Int:=((asked.filter fun k=>W.has k thing).length:Nat)
def aM.bears(W:aM)(asked taken:List Int)(thing:Int):Bool:= !taken.contains thing&&decide (W.many asked thing < W.pat.getD thing.toNat 0)
def aM.may(W:aM)(asked taken:List Int)(k:Int):Bool:= !(asked.contains k || decide (W.asks≤(asked.length:Int)))&&(W.bears asked taken (W.tie k).one&&W.bears asked taken (W.tie k).other)
def aM.askd(asked:List Int)(k:Int):List Int:=jI (asked++[k])
def aM.took(W:aM)(taken:List Int)(k:Int)(truth:Bool):List Int:=if truth then jI (taken++[(W.tie k).one,(W.tie k).other]) else taken
def aM.rng(W:aM):List Int:=(List.range W.ties.length).map Int.ofNat
def aM.can(W:aM)(asked taken:List Int):List Int:=W.rng.filter fun k=>W.may asked taken k
def kB(W:aM)(k:Int):Prop:=0≤k∧k < (W.ties.length:Int)
theorem kB.get{W:aM}{k:Int}(h:kB W k):W.ties[k.toNat]?=some (W.tie k):=by
  have hk:k.toNat < W.ties.length:=by have:=h.1;have:=h.2;lia
  unfold aM.tie
  rw [List.getD_eq_getElem?_getD,List.getElem?_eq_getElem hk];rfl
theorem kB.ok{W:aM}{k:Int}(h:kB W k)(o:W.Ok):(W.tie k).Ok W.things:=o.ties _ (List.mem_of_getElem? h.get)
theorem mR{W:aM}{k:Int}:k∈W.rng↔ kB W k:=by
  unfold aM.rng kB
  rw [List.mem_map]
  constructor
  · rintro⟨n,hn,rfl⟩
    have:=List.mem_range.mp hn
    exact⟨Int.natCast_nonneg n,by simp;lia⟩
  · rintro⟨h0,h1⟩
    exact⟨k.toNat,List.mem_range.mpr (by lia),by simp;lia⟩
def Bu(K:PySem.W.Frag)(H:Hp)(v:V)(asked taken:List Int):Prop:=∃a b c,v=.ref a∧cg K H a [.ref b,.ref c]∧cg K H b (asked.map V.int)∧cg K H c (taken.map V.int)
theorem Bu.ts{K:PySem.W.Frag}{H H':Hp}(s:tU H H'){v:V}{asked taken:List Int}(h:Bu K H v asked taken):Bu K H' v asked taken:=by
  obtain⟨a,b,c,e,h1,h2,h3⟩:=h
  exact⟨a,b,c,e,s.tup h1,s.tup h2,s.tup h3⟩
section
variable{K:PySem.W.Frag}{σ:L2.St}{H:Hp}{Q:VK}{i j:Nat}{vW:V}{W:aM}{k:Int}
end
def small(k:Int):Prop:= -1000000≤k∧k≤1000000
def Dk(n dep:Nat)(d:PyData):Prop:=d.showable=true∧nH d=true∧L2.cnt d≤n∧d.depth≤dep
theorem Dk.mono{n m dep e:Nat}{d:PyData}(h:Dk n dep d)(h1:n≤m)(h2:dep≤e):Dk m e d:=⟨h.1,h.2.1,Nat.le_trans h.2.2.1 h1,Nat.le_trans h.2.2.2 h2⟩
theorem Dk.int{k:Int}(h:small k):Dk 1 2 (.int k):=by
  refine⟨?_,rfl,Nat.le_refl _,by simp [PyData.depth]⟩
  show decide (k.natAbs.log2 < 1920)=true
  rw [decide_eq_true_eq]
  exact Nat.lt_trans ((show Bt 64 k by have:=h.1;have:=h.2;unfold Bt;lia).log (by decide)) (by decide)
theorem Dk.bool(b:Bool):Dk 1 2 (.bool b):=⟨rfl,rfl,Nat.le_refl _,by simp [PyData.depth]⟩
theorem Dk.none:Dk 1 2 .none:=⟨rfl,rfl,Nat.le_refl _,by simp [PyData.depth]⟩
theorem Dk.all{n dep:Nat}:∀{ds:List PyData},(∀d∈ds,Dk n dep d)→PyData.showableAll ds=true∧iq ds=true∧kg ds≤ds.length*n∧PyData.depthAll ds≤dep
  | [],_=>⟨rfl,rfl,by simp [kg],by simp [PyData.depthAll]⟩
  | d::r,h=>by
    obtain⟨a1,a2,a3,a4⟩:=h d (by simp)
    obtain⟨b1,b2,b3,b4⟩:=Dk.all (ds:=r) fun x hx=>h x (by simp [hx])
    refine⟨?_,?_,?_,?_⟩
    · simp only [PyData.showableAll,a1,b1,Bool.and_self]
    · simp only [iq,a2,b2,Bool.and_self]
    · simp only [kg,List.length_cons,Nat.succ_mul]
      lia
    · simp only [PyData.depthAll];lia
theorem Dk.tup{n dep m:Nat}{ds:List PyData}(h:∀d∈ds,Dk n dep d)(hl:ds.length≤m):Dk (1+m*n) (dep+2) (.tuple ds):=by
  obtain⟨b1,b2,b3,b4⟩:=Dk.all h
  refine⟨b1,b2,?_,?_⟩
  · simp only [L2.cnt]
    have:=Nat.mul_le_mul_right n hl
    lia
  · simp only [PyData.depth];lia
theorem Dk.ok{n dep:Nat}{d:PyData}(h:Dk n dep d)(h1:n≤8000)(h2:dep≤60):d.showable=true∧d.depth≤60∧d.shown.length≤sizeLine:=by
  have:=pI h.2.1 h.1
  have sl:sizeLine=16777216:=sizeLine_eq
  have:=h.2.2.1
  exact⟨h.1,Nat.le_trans h.2.2.2 h2,by lia⟩
theorem Dk.ints{ns:List Int}{m:Nat}(hl:ns.length≤m)(h:∀r∈ns,small r):Dk (1+m) 4 (.tuple (ns.map .int)):=by
  have:=Dk.tup (n:=1) (dep:=2) (m:=m) (ds:=ns.map PyData.int) (fun d hd=>by
    obtain⟨x,hx,rfl⟩:=List.mem_map.mp hd
    exact Dk.int (h x hx)) (by rw [List.length_map];exact hl)
  simpa using this
section
variable{K:PySem.W.Frag}{H:Hp}
theorem Dk.bools{ns:List Bool}{m:Nat}(hl:ns.length≤m):Dk (1+m) 4 (.tuple (ns.map .bool)):=by
  have:=Dk.tup (n:=1) (dep:=2) (m:=m) (ds:=ns.map PyData.bool) (fun d hd=>by
    obtain⟨x,hx,rfl⟩:=List.mem_map.mp hd
    exact Dk.bool x) (by rw [List.length_map];exact hl)
  simpa using this
def cZ(t:pU):PyData:=.tuple [.int t.one,.int t.other,.tuple [.int t.top,.int t.bot],.int t.worth]
def br(W:aM):PyData:=.tuple [.int W.things,.tuple (W.ties.map cZ),.tuple (W.pat.map .int),.int W.asks]
def lN(asked taken:List Int):PyData:=.tuple [.tuple (asked.map .int),.tuple (taken.map .int)]
end
end L2
namespace L2
open PySem PySem.Spec PyProof.Rows
theorem ww:∀{bs:List Bool} {us:List Value} {i:Nat} {v:Value},aR (bs.map V.bl) us→us[i]?=some v→∃b,bs[i]?=some b∧v=.bool b
  | [],us,i,v,r,e=>by cases r;simp at e
  | b::bs,us,i,v,r,e=>by
    cases r with
    | cons p q=>
      cases i with
      | zero=>simp at e;subst e;cases p;exact⟨b,rfl,rfl⟩
      | succ i=>
        obtain⟨c,h1,h2⟩:=ww (bs:=bs) (i:=i) (v:=v) q (by simpa using e)
        exact⟨c,by simpa using h1,h2⟩
theorem Al(bs:List Bool):((List.range bs.length).all fun i=>(bs[i]?).getD true)=bs.all id:=by
  rw [Bool.eq_iff_iff,List.all_eq_true,List.all_eq_true]
  constructor
  · intro h b hb
    obtain⟨i,hi,rfl⟩:=List.getElem_of_mem hb
    have:=h i (List.mem_range.mpr hi)
    rw [List.getElem?_eq_getElem hi] at this
    exact this
  · intro h i hi
    have hi':=List.mem_range.mp hi
    rw [List.getElem?_eq_getElem hi']
    exact h _ (List.getElem_mem hi')
section
variable{X:Cx}
theorem wB{k:Nat}{K:PySem.W.Frag}(hr:dZ k X.A)(hK:X.K=K):ey X (.builtin "all") (fun xs H Q=>∃(l:Addr) (bs:List Bool),xs=[.ref l]∧cX K H l (bs.map V.bl)∧Q (.bl (bs.all id)) H):=by
  intro pins s σ H xs us Q I r h
  subst hK
  obtain⟨l,bs,rfl,hs,q⟩:=h
  obtain⟨u,rfl,ru⟩:=nM r
  cases ru
  obtain⟨its,rv,p,hz⟩:=I.list hs
  have hl:=p.isList
  have lt:l < s.heap.objs.size:=by obtain⟨_,e,_⟩:=hl;exact Heap.lt_size e
  refine PySem.call_all_walk (wpAny_pyIter_list hl ?_)
  refine⟨s.heap.objs.size,[s.heap.objs.size,l],[s.heap.objs.size],its.toArray.size,_,_,fun i=>(bs[i]?).getD true,rfl,Walks.list (A:=X.A.in1) hr.hd _ l (Nat.ne_of_lt lt) its.toArray,⟨⟨_,Heap.get?_push_size _ rfl,rfl,rfl⟩,hl.push _⟩,fun i v s' Q' E' hP hQ=>?_,fun h' tk hk=>?_⟩
  · obtain⟨b,e,rfl⟩:=ww rv (by simpa using hP)
    simp only [e,Option.getD_some] at hQ
    exact wpAny_truthy_bool hQ
  · have e:its.toArray.size=bs.length:=by have:=rv.length;rw [List.length_map] at this;simpa using this.symm
    rw [e,Al]
    refine⟨.bl (bs.all id),H,I.kept fun b x e=>hk b x (fun hm=>?_) (Heap.get?_push_of_some _ e),rfl,q⟩
    rw [List.mem_singleton.mp hm] at e
    exact Nat.lt_irrefl _ (Heap.lt_size e)
end
end L2
namespace L2
theorem wx:PySem.bootBuiltins "all"=some (.builtin "all"):=by decide+kernel
end L2
namespace L2
open PySem PySem.Spec PyProof.Rows
section
variable{prog:Program}{w:World}{A:Around}{E:Value→Shared→Prop}{s:Shared}
theorem yz{it t:Addr}{i:Nat}{ys}{x:Value}{Q:Value→Shared→Prop}(hi:s.heap.IsTupleIter it t i)(ht:s.heap.IsTuple t ys)(hx:ys[i]?=some x)
    (q:∀g,g.IsTupleIter it t (i+1)→Heap.SameBut it s.heap g→Q x {s with heap:=g}):wpAny (model prog w) A (Builtin.SmallTypes.nextOf (.ref it)) Q E s:=by
  obtain⟨o,ho,hc,hd⟩:=id hi;obtain⟨p,hp,_,n,hpd⟩:=ht;unfold Builtin.SmallTypes.nextOf
  refine wpAny_bind (wpAny_callSpecial?_slot (name:=Str.ofString "__next__") hi.typeIs F.slot_tuple_iterator_next (wpAny_call_entry F.slot_tuple_iterator_next hi.typeIs F.entry_tuple_iterator_next ?_ (F.args_tuple_iterator_next_1 _)))
  show wpAny _ _ (field (.ref it) 0 >>= _) _ _ s;refine wpAny_bind (wpAny_field ho hd (x:=.ref t) rfl ?_)
  show wpAny _ _ (if (Value.ref t==Value.none)=true then _ else _) _ _ s;rw [if_neg (show ¬((Value.ref t==Value.none)=true) from Bool.false_ne_true)]
  show wpAny _ _ (field (.ref it) 1 >>= _) _ _ s;refine wpAny_bind (wpAny_field ho hd (x:=.int i 0) rfl ?_)
  show wpAny _ _ (seqItems? (.ref t) >>= _) _ _ s;refine wpAny_bind (wpAny_seqItems hp hpd ?_)
  simp only [Int.toNat_natCast,hx];refine wpAny_bind (wpAny_setField ho hd (by simp) (wpAny_pure ⟨x,rfl,wpAny_pure (q _ ?_ (Heap.SameBut.update ..))⟩))
  refine⟨_,Heap.get?_update_self _ ho (Obj.isFreed_of_fields (Obj.data_mapFields hd _)),(Obj.cls_mapFields ..).trans hc,?_⟩;rw [Obj.data_mapFields hd];simp [rawInt]
theorem yy{it t:Addr}{i:Nat}{ys}{Q:Value→Shared→Prop}(hh:A.handled=none)(hi:s.heap.IsTupleIter it t i)(ht:s.heap.IsTuple t ys)(hx:ys[i]?=none)
    (q:∀g e,Heap.ExtBut it s.heap g→(∃o,g.get? e=some o∧o.cls=.type "StopIteration")→E (.ref e) {s with heap:=g}):wpAny (model prog w) A (Builtin.SmallTypes.nextOf (.ref it)) Q E s:=by
  obtain⟨o,ho,hc,hd⟩:=id hi;obtain⟨p,hp,_,n,hpd⟩:=ht;unfold Builtin.SmallTypes.nextOf
  refine wpAny_bind (wpAny_callSpecial?_slot (name:=Str.ofString "__next__") hi.typeIs F.slot_tuple_iterator_next (wpAny_call_entry F.slot_tuple_iterator_next hi.typeIs F.entry_tuple_iterator_next ?_ (F.args_tuple_iterator_next_1 _)))
  show wpAny _ _ (field (.ref it) 0 >>= _) _ _ s;refine wpAny_bind (wpAny_field ho hd (x:=.ref t) rfl ?_)
  show wpAny _ _ (if (Value.ref t==Value.none)=true then _ else _) _ _ s;rw [if_neg (show ¬((Value.ref t==Value.none)=true) from Bool.false_ne_true)]
  show wpAny _ _ (field (.ref it) 1 >>= _) _ _ s;refine wpAny_bind (wpAny_field ho hd (x:=.int i 0) rfl ?_)
  show wpAny _ _ (seqItems? (.ref t) >>= _) _ _ s;refine wpAny_bind (wpAny_seqItems hp hpd ?_)
  simp only [Int.toNat_natCast,hx];refine wpAny_bind (wpAny_rule (wpAny_bind (wpAny_setField ho hd (by simp) ?_)))
  show wpAny _ _ (newExc (.type "StopIteration") [] >>= _) _ _ _;refine wpAny_bind ?_;simp only [newExc,newTuple]
  refine wpAny_bind (wpAny_newObj_type ?_ (by size_fits));refine wpAny_bind (m:=firstArgMember _ _) (wpAny_of_eq (a:=Value.none) (by first | rfl | (simp only [firstArgMember];rfl)) ?_)
  refine wpAny_newObj_type ?_ (by size_fits);simp only [raiseNew];refine wpAny_bind (wpAny_handled ?_);first | rw [show A.in1.handled=none from hh] | rw [hh]
  refine wpAny_bind (wpAny_pure (wpAny_throw ?_));exact q _ _ (((Heap.SameBut.update ..).extBut.push _).push _) ⟨_,Heap.get?_push_size _ rfl,rfl⟩
end
structure Sc (prog:Program) (w:World) (it l:Addr) (St:Nat→Heap→Prop) (Sq:Heap→Array Value→Prop):Prop where
  stay:∀{k h h'},St k h→(∀o,h.get? it=some o→h'.get? it=some o)→St k h'
  live:∀{k h},St k h→∃o,h.get? it=some o∧∀v,o.data≠.cell v
  row:∀{h h' xs},Sq h xs→(∀o,h.get? l=some o→h'.get? l=some o)→Sq h' xs
  next:∀{A:Around} {s:Shared} {E:Value→Shared→Prop} {Q:Value→Shared→Prop} {k:Nat} {xs:Array Value} {x:Value},St k s.heap→Sq s.heap xs→xs[k]?=some x→(∀g,St (k+1) g→Heap.SameBut it s.heap g→Q x {s with heap:=g})→wpAny (model prog w) A (Builtin.SmallTypes.nextOf (.ref it)) Q E s
  last:∀{A:Around} {s:Shared} {E:Value→Shared→Prop} {Q:Value→Shared→Prop} {k:Nat} {xs:Array Value},A.handled=none→St k s.heap→Sq s.heap xs→xs[k]?=none→(∀g e,Heap.ExtBut it s.heap g→(∃o,g.get? e=some o∧o.cls=.type "StopIteration")→E (.ref e) {s with heap:=g})→wpAny (model prog w) A (Builtin.SmallTypes.nextOf (.ref it)) Q E s
theorem hV{prog:Program}{w:World}(it l:Addr):Sc prog w it l (fun k h=>h.IsTupleIter it l k) (fun h xs=>h.IsTuple l xs) where
  stay:=fun st k=>st.at fun o e=>k o e
  live:=fun st=>by
    obtain⟨o,e,c,d⟩:=st
    exact⟨o,e,fun v z=>by rw [d] at z;cases z⟩
  row:=fun q k=>by
    obtain⟨o,e,r⟩:=q
    exact⟨o,k o e,r⟩
  next:=fun st sq hx q=>yz st sq hx q
  last:=fun hh st sq hx q=>yy hh st sq hx q
theorem eu{prog:Program}{w:World}(it l:Addr):Sc prog w it l (fun k h=>h.IsListIter it l k) (fun h xs=>h.IsList l xs) where
  stay:=fun st k=>st.at fun o e=>k o e
  live:=fun st=>by
    obtain⟨o,e,c,d⟩:=st
    exact⟨o,e,fun v z=>by rw [d] at z;cases z⟩
  row:=fun q k=>by
    obtain⟨o,e,r⟩:=q
    exact⟨o,k o e,r⟩
  next:=fun st sq hx q=>wpAny_nextOf_list_item st sq hx q
  last:=fun hh st sq hx q=>wpAny_nextOf_list_end hh st sq hx q
structure i4 (z TI TO i1 i2 l1 l2:Addr):Prop where
  a1:TO≠z
  a2:i1≠z
  a3:i2≠z
  a4:TO≠i1
  a5:TO≠i2
  a6:i1≠i2
  b1:l1≠z
  b2:l1≠TO
  b3:l1≠i1
  b4:l1≠i2
  c1:l2≠z
  c2:l2≠TO
  c3:l2≠i1
  c4:l2≠i2
section
variable{prog:Program}{w:World}{A:Around}{E:Value→Shared→Prop}{s:Shared}{z TI TO i1 i2 l1 l2:Addr}{k:Nat}{xs ys:Array Value}{a b:Value}{S1 S2:Nat→Heap→Prop}{R1 R2:Heap→Array Value→Prop}
theorem Di{x y:Value}{Q:Value→Shared→Prop}(P1:Sc prog w i1 l1 S1 R1)(P2:Sc prog w i2 l2 S2 R2)(D:i4 z TI TO i1 i2 l1 l2)(hz:IsZip s.heap z TI TO .none)(hI:IsPair s.heap TI (.ref i1) (.ref i2))(hO:IsPair s.heap TO a b)(u1:S1 k s.heap)(u2:S2 k s.heap)(r1:R1 s.heap xs)(r2:R2 s.heap ys)(hx:xs[k]?=some x)(hy:ys[k]?=some y)
    (q:∀g,IsZip g z TI TO (rawInt s.heap.objs.size)→IsPair g TO x y→S1 (k+1) g→S2 (k+1) g→IsPair g s.heap.objs.size x y→g.objs.size=s.heap.objs.size+1→(∀c o,c≠z→c≠TO→c≠i1→c≠i2→s.heap.get? c=some o→g.get? c=some o)→Q (.ref s.heap.objs.size) {s with heap:=g}):
    wpAny (model prog w) A (Builtin.«zip.__next__» ⟨[.ref z],[]⟩) (fun f s'=>∃v,f=.done (.ret v)∧Q v s') E s:=by
  show wpAny _ _ (field (.ref z) 2 >>= _) _ _ _;refine wpAny_bind (wpAny_field hz rfl (x:=.bool false) rfl ?_)
  show wpAny _ _ (field (.ref z) 3 >>= _) _ _ _;refine wpAny_bind (wpAny_field hz rfl (x:=.ref TI) rfl ?_);refine wpAny_bind (wpAny_seqItems hI rfl ?_)
  show wpAny _ _ (Builtin.SmallTypes.ownedTupleIsFree (.ref z) >>= _) _ _ _;refine wpAny_bind ?_;unfold Builtin.SmallTypes.ownedTupleIsFree
  refine wpAny_bind (wpAny_field hz rfl (x:=.none) rfl (wpAny_pure ?_));simp only [if_true];refine wpAny_bind (wpAny_rule ?_)
  refine wpAny_bind (wpAny_field hz rfl (x:=.ref TO) rfl ?_);refine wpAny_bind (wpAny_setField_rec hz (by simp) fun g1 z1 e1=>?_)
  replace z1:IsZip g1 z TI TO .ellipsis:=z1;refine wpAny_bind ?_;simp only [List.zipIdx_cons,List.zipIdx_nil,List.forIn_cons,List.forIn_nil]
  refine wpAny_bind (wpAny_bind (wpAny_onRaise ?_));show wpAny _ _ (Builtin.SmallTypes.nextOf (.ref i1) >>= _) _ _ _
  refine wpAny_bind (P1.next (P1.stay u1 fun o e=>e1.extBut _ _ D.a2 e) (P1.row r1 fun o e=>e1.extBut _ _ D.b1 e) hx fun g2 v1 e2=>wpAny_pure ?_)
  have O2:IsPair g2 TO a b:=e2.extBut _ _ D.a4 (e1.extBut _ _ D.a1 hO)
  refine wpAny_bind (wpAny_seqItems O2 rfl ?_);refine wpAny_bind (wpAny_updateSeq_pair O2 fun g3 O3 e3=>?_);replace O3:IsPair g3 TO x b:=O3;refine wpAny_bind (wpAny_letGo (wpAny_pure ?_))
  refine wpAny_bind (wpAny_bind (wpAny_onRaise ?_));show wpAny _ _ (Builtin.SmallTypes.nextOf (.ref i2) >>= _) _ _ _
  have up3:∀c o,c≠z→c≠i1→c≠TO→s.heap.get? c=some o→g3.get? c=some o:=fun c o n1 n2 n3 e=>e3.extBut _ _ n3 (e2.extBut _ _ n2 (e1.extBut _ _ n1 e))
  refine wpAny_bind (P2.next (P2.stay u2 fun o e=>up3 _ _ D.a3 D.a6.symm D.a5.symm e) (P2.row r2 fun o e=>up3 _ _ D.c1 D.c3 D.c2 e) hy fun g4 v2 e4=>wpAny_pure ?_)
  have O4:IsPair g4 TO x b:=e4.extBut _ _ D.a5 O3
  refine wpAny_bind (wpAny_seqItems O4 rfl ?_);refine wpAny_bind (wpAny_updateSeq_pair O4 fun g5 O5 e5=>?_);replace O5:IsPair g5 TO x y:=O5;refine wpAny_bind (wpAny_letGo (wpAny_pure (wpAny_pure ?_)))
  refine wpAny_bind (wpAny_seqItems O5 rfl ?_);refine wpAny_bind (wpAny_newTuple ?_)
  have sz:g5.objs.size=s.heap.objs.size:=by rw [e5.1,e4.1,e3.1,e2.1,e1.1]
  have z5:IsZip g5 z TI TO .ellipsis:=e5.extBut _ _ D.a1.symm (e4.extBut _ _ D.a3.symm (e3.extBut _ _ D.a1.symm (e2.extBut _ _ D.a2.symm z1)))
  have k5:∀c o,c≠z→c≠TO→c≠i1→c≠i2→s.heap.get? c=some o→g5.get? c=some o:=fun c o n1 n2 n3 n4 e=>e5.extBut _ _ n2 (e4.extBut _ _ n4 (up3 c o n1 n3 n2 e))
  have w1:S1 (k+1) g5:=P1.stay v1 fun o e=>e5.extBut _ _ D.a4.symm (e4.extBut _ _ D.a6 (e3.extBut _ _ D.a4.symm e))
  have w2:S2 (k+1) g5:=P2.stay v2 fun o e=>e5.extBut _ _ D.a5.symm e
  have lz:z < g5.objs.size:=Heap.lt_size z5
  show wpAny _ _ (Builtin.SmallTypes.ownedTupleHandOut (.ref z) (.ref g5.objs.size) >>= _) _ _ _;refine wpAny_bind ?_;unfold Builtin.SmallTypes.ownedTupleHandOut
  have z6:IsZip (g5.push {cls:=.type "tuple",data:=.seq #[x,y]}) z TI TO .ellipsis:=Heap.get?_push_of_some _ z5
  refine wpAny_bind (wpAny_setField_rec z6 (by simp) fun g7 z7 e7=>?_);replace z7:IsZip g7 z TI TO (rawInt g5.objs.size):=z7
  refine wpAny_setField_rec z7 (by simp) fun g8 z8 e8=>?_;replace z8:IsZip g8 z TI TO (rawInt g5.objs.size):=z8
  have up:∀c o,c≠z→g5.get? c=some o→g8.get? c=some o:=fun c o n e=>e8.extBut _ _ n (e7.extBut _ _ n (Heap.get?_push_of_some _ e))
  have T8:IsPair g8 g5.objs.size x y:=e8.extBut _ _ (Nat.ne_of_gt lz) (e7.extBut _ _ (Nat.ne_of_gt lz) (Heap.get?_push_size _ rfl))
  have n8:g8.objs.size=g5.objs.size+1:=by rw [e8.1,e7.1,Heap.size_push]
  rw [sz] at z8 T8 n8;refine wpAny_pure ⟨_,rfl,?_⟩;show Q (.ref g5.objs.size) _;rw [sz]
  exact q g8 z8 (up _ _ D.a1 O5) (P1.stay w1 fun o e=>up _ o D.a2 e) (P2.stay w2 fun o e=>up _ o D.a3 e) T8 n8 fun c o n1 n2 n3 n4 e=>up c o n1 (k5 c o n1 n2 n3 n4 e)
theorem AF{Q:Fin→Shared→Prop}(hh:A.handled=none)(P1:Sc prog w i1 l1 S1 R1)(P2:Sc prog w i2 l2 S2 R2)(D:i4 z TI TO i1 i2 l1 l2)(hz:IsZip s.heap z TI TO .none)(hI:IsPair s.heap TI (.ref i1) (.ref i2))(hO:IsPair s.heap TO a b)(u1:S1 k s.heap)(u2:S2 k s.heap)(r1:R1 s.heap xs)(r2:R2 s.heap ys)(hn:xs[k]?=none∨ys[k]?=none)
    (q:∀g e,(∀c o,c≠z→c≠TO→c≠i1→c≠i2→s.heap.get? c=some o→g.get? c=some o)→(∃o,g.get? e=some o∧o.cls=.type "StopIteration")→E (.ref e) {s with heap:=g}):
    wpAny (model prog w) A (Builtin.«zip.__next__» ⟨[.ref z],[]⟩) Q E s:=by
  show wpAny _ _ (field (.ref z) 2 >>= _) _ _ _;refine wpAny_bind (wpAny_field hz rfl (x:=.bool false) rfl ?_)
  show wpAny _ _ (field (.ref z) 3 >>= _) _ _ _;refine wpAny_bind (wpAny_field hz rfl (x:=.ref TI) rfl ?_);refine wpAny_bind (wpAny_seqItems hI rfl ?_)
  show wpAny _ _ (Builtin.SmallTypes.ownedTupleIsFree (.ref z) >>= _) _ _ _;refine wpAny_bind ?_;unfold Builtin.SmallTypes.ownedTupleIsFree
  refine wpAny_bind (wpAny_field hz rfl (x:=.none) rfl (wpAny_pure ?_));simp only [if_true];refine wpAny_bind (wpAny_rule ?_)
  refine wpAny_bind (wpAny_field hz rfl (x:=.ref TO) rfl ?_);refine wpAny_bind (wpAny_setField_rec hz (by simp) fun g1 z1 e1=>?_)
  replace z1:IsZip g1 z TI TO .ellipsis:=z1;refine wpAny_bind ?_;simp only [List.zipIdx_cons,List.zipIdx_nil,List.forIn_cons,List.forIn_nil]
  refine wpAny_bind (wpAny_bind (wpAny_onRaise ?_));show wpAny _ _ (Builtin.SmallTypes.nextOf (.ref i1) >>= _) _ _ _
  cases hx:xs[k]? with
  | none=>
    refine wpAny_bind (P1.last hh (P1.stay u1 fun o e=>e1.extBut _ _ D.a2 e) (P1.row r1 fun o e=>e1.extBut _ _ D.b1 e) hx fun g2 e e2 he=>?_)
    obtain⟨oe,h1,h2⟩:=he;have z2:IsZip g2 z TI TO .ellipsis:=e2 _ _ D.a2.symm z1
    have nz:e≠z:=fun x=>by subst x;rw [z2] at h1;cases h1;simp at h2
    refine wpAny_setField_rec z2 (by simp) fun g3 _ e3=>q g3 e (fun c o n1 _ n3 _ x=>e3.extBut _ _ n1 (e2 _ _ n3 (e1.extBut _ _ n1 x))) ⟨oe,e3.extBut _ _ nz h1,h2⟩
  | some x=>
    have hy:ys[k]?=none:=by
      rcases hn with h | h
      · rw [hx] at h;cases h
      · exact h
    refine wpAny_bind (P1.next (P1.stay u1 fun o e=>e1.extBut _ _ D.a2 e) (P1.row r1 fun o e=>e1.extBut _ _ D.b1 e) hx fun g2 v1 e2=>wpAny_pure ?_)
    have O2:IsPair g2 TO a b:=e2.extBut _ _ D.a4 (e1.extBut _ _ D.a1 hO)
    refine wpAny_bind (wpAny_seqItems O2 rfl ?_);refine wpAny_bind (wpAny_updateSeq_pair O2 fun g3 O3 e3=>?_);refine wpAny_bind (wpAny_letGo (wpAny_pure ?_))
    refine wpAny_bind (wpAny_bind (wpAny_onRaise ?_));show wpAny _ _ (Builtin.SmallTypes.nextOf (.ref i2) >>= _) _ _ _
    have up3:∀c o,c≠z→c≠i1→c≠TO→s.heap.get? c=some o→g3.get? c=some o:=fun c o n1 n2 n3 e=>e3.extBut _ _ n3 (e2.extBut _ _ n2 (e1.extBut _ _ n1 e))
    refine wpAny_bind (P2.last hh (P2.stay u2 fun o e=>up3 _ _ D.a3 D.a6.symm D.a5.symm e) (P2.row r2 fun o e=>up3 _ _ D.c1 D.c3 D.c2 e) hy fun g4 e e4 he=>?_)
    obtain⟨oe,h1,h2⟩:=he;have z4:IsZip g4 z TI TO .ellipsis:=e4 _ _ D.a3.symm (e3.extBut _ _ D.a1.symm (e2.extBut _ _ D.a2.symm z1))
    have nz:e≠z:=fun x=>by subst x;rw [z4] at h1;cases h1;simp at h2
    refine wpAny_setField_rec z4 (by simp) fun g5 _ e5=>q g5 e (fun c o n1 n2 n3 n4 x=>e5.extBut _ _ n1 (e4 _ _ n4 (up3 c o n1 n3 n2 x))) ⟨oe,e5.extBut _ _ nz h1,h2⟩
theorem lI{x y:Value}{Q:Option Value→Shared→Prop}(P1:Sc prog w i1 l1 S1 R1)(P2:Sc prog w i2 l2 S2 R2)(D:i4 z TI TO i1 i2 l1 l2)(hz:IsZip s.heap z TI TO .none)(hI:IsPair s.heap TI (.ref i1) (.ref i2))(hO:IsPair s.heap TO a b)(u1:S1 k s.heap)(u2:S2 k s.heap)(r1:R1 s.heap xs)(r2:R2 s.heap ys)(hx:xs[k]?=some x)(hy:ys[k]?=some y)
    (q:∀g,IsZip g z TI TO (rawInt s.heap.objs.size)→IsPair g TO x y→S1 (k+1) g→S2 (k+1) g→IsPair g s.heap.objs.size x y→g.objs.size=s.heap.objs.size+1→(∀c o,c≠z→c≠TO→c≠i1→c≠i2→s.heap.get? c=some o→g.get? c=some o)→Q (some (.ref s.heap.objs.size)) {s with heap:=g}):
    wpAny (model prog w) A (pyNext (.ref z)) Q E s:=by
  have hT:s.TypeIs (.ref z) "zip":=⟨_,hz,rfl⟩;unfold pyNext
  refine wpAny_bind (wpAny_attempt (wpAny_callSpecial?_slot (name:=Str.ofString "__next__") hT F.slot_zip_next (wpAny_call_entry F.slot_zip_next hT F.entry_zip_next ?_ (F.args_zip_next_1 _))))
  exact Di P1 P2 D hz hI hO u1 u2 r1 r2 hx hy fun g b1 b2 b3 b4 b5 b6 b7=>wpAny_pure (q g b1 b2 b3 b4 b5 b6 b7)
theorem lJ{Q:Option Value→Shared→Prop}(hh:A.handled=none)(P1:Sc prog w i1 l1 S1 R1)(P2:Sc prog w i2 l2 S2 R2)(D:i4 z TI TO i1 i2 l1 l2)(hz:IsZip s.heap z TI TO .none)(hI:IsPair s.heap TI (.ref i1) (.ref i2))(hO:IsPair s.heap TO a b)(u1:S1 k s.heap)(u2:S2 k s.heap)(r1:R1 s.heap xs)(r2:R2 s.heap ys)(hn:xs[k]?=none∨ys[k]?=none)
    (q:∀g,(∀c o,c≠z→c≠TO→c≠i1→c≠i2→s.heap.get? c=some o→g.get? c=some o)→Q none {s with heap:=g}):wpAny (model prog w) A (pyNext (.ref z)) Q E s:=by
  have hT:s.TypeIs (.ref z) "zip":=⟨_,hz,rfl⟩;unfold pyNext
  refine wpAny_bind (wpAny_attempt (wpAny_callSpecial?_slot (name:=Str.ofString "__next__") hT F.slot_zip_next (wpAny_call_entry F.slot_zip_next hT F.entry_zip_next (AF hh P1 P2 D hz hI hO u1 u2 r1 r2 hn fun g e hk he=>?_) (F.args_zip_next_1 _))))
  obtain⟨o,ho,hc⟩:=he;refine wpAny_bind (wpAny_isInstance (T:="StopIteration") (b:=true) ⟨o,ho,hc⟩ isSubtype_stop ?_);exact wpAny_pure (q _ hk)
end
end L2
namespace L2
open PySem PySem.Spec PyProof.Rows
section
variable{X:Cx}{pins:List (Addr × Obj)}{σ:L2.St}{H:Hp}{s:Shared}{h':Heap}
theorem aF.turnedL{t':Nat}{fp:List Addr}(I:aF X pins σ H s)(hf:∀b∈fp,hX X pins H b)(k:∀b o,b∉fp→s.heap.get? b=some o→h'.get? b=some o):aF X pins σ H {s with heap:=h',toks:=t'}:=by
  have hL:X.env.locals∉fp:=fun z=>(hf _ z).2.1 rfl
  have nit:∀b u,H b=some u→b∉fp:=fun b u e z=>by have:=(hf b z).1;rw [this] at e;cases e
  refine I.step (g':=s.gens) (d':=s.drawn) (ch:=fp) (fun b hb=>?_) (fun b o _ _ hc e _=>k b o hc e) (fun b o _ _ hc e _=>⟨o.slots,k b o hc e⟩) (fun _ _ _ _ n=>n) (fun b o hc e=>⟨o,k b o hc e⟩) (fun _ _ e=>e) (fun _ _ _ e=>e) (fun b ps e=>⟨#[],by rw [e];simp⟩) (fun m hm=>?_) (fun b u e=>?_) I.bare
  · obtain⟨f0,f1,f2,f3,f4,f5⟩:=hf b hb
    exact⟨f3,f1,f4,f5⟩
  · obtain⟨o,es,ep,ho,r⟩:=hm
    exact⟨o,es,ep,k _ o hL ho,r⟩
  · refine(I.hok b u e).stay (fun c v hc q=>k c v ?_ q) (fun _ q=>q) fun _ _ q=>q
    rcases hc with z | z
    · rw [z];exact nit b u e
    · exact nit c _ z
theorem aE(I:aF X pins σ H s){b l:Addr}{xs:List V}(f:hX X pins H b)(q:cg X.K H l xs):l≠b:=by
  intro z
  subst z
  rcases q with (q | ⟨o,q⟩) | ⟨o,its,n,hk,_⟩
  · rw [f.1] at q;cases q
  · rw [f.1] at q;cases q
  · have hb:X.base.get? l=some o:=I.ok.mod.kin l o hk
    rcases f.2.2.2.1 with z | z
    · exact I.ok.noex l o hb z
    · exact absurd (Nat.lt_of_lt_of_le (Heap.lt_size (I.ok.bs l o hb).1) z) (Nat.lt_irrefl _)
end
def FU(K:PySem.W.Frag)(l1 l2:Addr):It:=
  ⟨fun i H=>∃xs ys x y,cg K H l1 xs∧cg K H l2 ys∧xs[i]?=some x∧ys[i]?=some y,
   fun i H v H'=>∃p x y,v=.ref p∧H p=none∧H'=bj H p (.tup [x,y])∧∀xs ys,cg K H l1 xs→cg K H l2 ys→xs[i]?=some x∧ys[i]?=some y,
   fun i H=>∃xs ys,cg K H l1 xs∧cg K H l2 ys∧(xs.length≤i∨ys.length≤i)⟩
def Bn(z TI TO i1 i2 l1 l2:Addr)(i:Nat)(h:Heap):Prop:=IsZip h z TI TO .none∧IsPair h TI (.ref i1) (.ref i2)∧(∃a b,IsPair h TO a b)∧h.IsTupleIter i1 l1 i∧h.IsTupleIter i2 l2 i
theorem yA{P:Program}{w:World}{K:PySem.W.Frag}{es:List Expr}{k0:Nat}{pos:Pos}{z TI TO i1 i2:Addr}(l1 l2:Addr)(n1:TO≠z)(n2:i1≠z)(n3:i2≠z)(n4:TO≠i1)(n5:TO≠i2)(n6:i1≠i2)(n7:TI≠z)(n8:TI≠TO)(n9:TI≠i1)(n10:TI≠i2):
    mY P w K (.Tuple es k0 pos) (FU K l1 l2) [z,TI,TO,i1,i2] z (Bn z TI TO i1 i2 l1 l2) where
  mem:=by simp
  obj:=fun i h st b hb=>by
    obtain⟨hz,hI,⟨a,c,hO⟩,u1,u2⟩:=st
    simp only [List.mem_cons,List.not_mem_nil,or_false] at hb
    rcases hb with rfl | rfl | rfl | rfl | rfl
    · exact⟨_,hz,fun v z=>by cases z⟩
    · exact⟨_,hI,fun v z=>by cases z⟩
    · exact⟨_,hO,fun v z=>by cases z⟩
    · obtain⟨o,e,c,d⟩:=u1
      exact⟨o,e,fun v z=>by rw [d] at z;cases z⟩
    · obtain⟨o,e,c,d⟩:=u2
      exact⟨o,e,fun v z=>by rw [d] at z;cases z⟩
  keep:=fun i h h' st k=>by
    obtain⟨hz,hI,⟨a,c,hO⟩,u1,u2⟩:=st
    exact⟨k _ (by simp) _ hz,k _ (by simp) _ hI,⟨a,c,k _ (by simp) _ hO⟩,u1.at fun o e=>k _ (by simp) o e,u2.at fun o e=>k _ (by simp) o e⟩
  item:=by
    intro X hP hw hK hc i pins s σ H E I hf st hg
    subst hP hw hK
    obtain⟨xs,ys,x,y,q1,q2,hx,hy⟩:=hg
    obtain⟨hz,hI,⟨a,b,hO⟩,u1,u2⟩:=id st
    obtain⟨its1,rv1,p1,z1⟩:=I.tuple q1
    obtain⟨its2,rv2,p2,z2⟩:=I.tuple q2
    obtain⟨ux,hux,rux⟩:=rv1.get hx
    obtain⟨uy,huy,ruy⟩:=rv2.get hy
    have fz:=hf z (by simp);have fO:=hf TO (by simp);have f1:=hf i1 (by simp);have f2:=hf i2 (by simp)
    have D:i4 z TI TO i1 i2 l1 l2:=⟨n1,n2,n3,n4,n5,n6,aE I fz q1,aE I fO q1,aE I f1 q1,aE I f2 q1,aE I fz q2,aE I fO q2,aE I f1 q2,aE I f2 q2⟩
    refine lI (xs:=its1.toArray) (ys:=its2.toArray) (hV i1 l1) (hV i2 l2) D hz hI hO u1 u2 p1 p2 (by simpa using hux) (by simpa using huy) fun g gz gO g1 g2 gT gs gk=>?_
    refine⟨_,rfl,wpAny_letOwnedTupleGo_zip gz fun g' gz' ge=>?_⟩
    have lt:∀b∈[z,TI,TO,i1,i2],b < s.heap.objs.size:=fun b hb=>by
      simp only [List.mem_cons,List.not_mem_nil,or_false] at hb
      rcases hb with rfl | rfl | rfl | rfl | rfl
      · exact Heap.lt_size hz
      · exact Heap.lt_size hI
      · exact Heap.lt_size hO
      · obtain⟨o,e,_⟩:=u1;exact Heap.lt_size e
      · obtain⟨o,e,_⟩:=u2;exact Heap.lt_size e
    have hT:H s.heap.objs.size=none:=I.hok.fresh (Nat.le_refl _)
    have vv:aR [x,y] [ux,uy]:=.cons rux (.cons ruy .nil)
    have I1:aF X pins σ (bj H s.heap.objs.size (.tup [x,y])) {s with heap:=s.heap.push {cls:=.type "tuple",data:=.seq #[ux,uy]},toks:=s.toks}:=
      I.laid (t':=s.toks) (fun b u e=>Heap.get?_push_of_some _ e) (Nat.le_refl _) ⟨(by show 2≤sizeLine;decide),[ux,uy],vv,⟨_,Heap.get?_push_size _ rfl,rfl,_,rfl⟩⟩
    have hf1:∀b∈[z,TI,TO,i1,i2],hX X pins (bj H s.heap.objs.size (.tup [x,y])) b:=fun b hb=>by
      obtain⟨f0,fr⟩:=hf b hb
      exact⟨by rw [aA (Nat.ne_of_lt (lt b hb))];exact f0,fr⟩
    have nzT:s.heap.objs.size≠z:=Nat.ne_of_gt (lt z (by simp))
    have I2:aF X pins σ (bj H s.heap.objs.size (.tup [x,y])) {s with heap:=g',toks:=s.toks}:=by
      refine I1.turnedL (t':=s.toks) hf1 fun b o nb e=>?_
      have nb':b≠z∧b≠TI∧b≠TO∧b≠i1∧b≠i2:=by simpa using nb
      refine ge.extBut _ _ nb'.1 ?_
      rcases Heap.get?_push_cases e with ⟨rfl,rfl⟩ | e
      · exact gT
      · exact gk b o nb'.1 nb'.2.2.1 nb'.2.2.2.1 nb'.2.2.2.2 e
    refine⟨.ref s.heap.objs.size,_,I2,rfl,⟨_,x,y,rfl,hT,rfl,fun xs' ys' w1 w2=>?_⟩,⟨gz',ge.extBut _ _ n7 (gk _ _ n7 n8 n9 n10 hI),⟨ux,uy,ge.extBut _ _ n1 gO⟩,g1.at fun o e=>ge.extBut _ _ n2 e,g2.at fun o e=>ge.extBut _ _ n3 e⟩,fun b hb=>(hf1 b hb).1⟩
    rw [I.tuple_inj w1 q1,I.tuple_inj w2 q2]
    exact⟨hx,hy⟩
  done:=by
    intro X hP hw hK hc i pins s σ H E I hf st hg
    subst hP hw hK
    obtain⟨xs,ys,q1,q2,hn⟩:=hg
    obtain⟨hz,hI,⟨a,b,hO⟩,u1,u2⟩:=id st
    obtain⟨its1,rv1,p1,z1⟩:=I.tuple q1
    obtain⟨its2,rv2,p2,z2⟩:=I.tuple q2
    have fz:=hf z (by simp);have fO:=hf TO (by simp);have f1:=hf i1 (by simp);have f2:=hf i2 (by simp)
    have D:i4 z TI TO i1 i2 l1 l2:=⟨n1,n2,n3,n4,n5,n6,aE I fz q1,aE I fO q1,aE I f1 q1,aE I f2 q1,aE I fz q2,aE I fO q2,aE I f1 q2,aE I f2 q2⟩
    have e1:=rv1.length
    have e2:=rv2.length
    refine lJ (xs:=its1.toArray) (ys:=its2.toArray) (I.ok.hd hc) (hV i1 l1) (hV i2 l2) D hz hI hO u1 u2 p1 p2 ?_ fun g gk=>⟨rfl,I.turnedL (t':=s.toks) hf fun b o nb e=>?_⟩
    · rcases hn with hn | hn
      · exact .inl (by simp;lia)
      · exact .inr (by simp;lia)
    · have nb':b≠z∧b≠TI∧b≠TO∧b≠i1∧b≠i2:=by simpa using nb
      exact gk b o nb'.1 nb'.2.2.1 nb'.2.2.2.1 nb'.2.2.2.2 e
  self:=fun A i s Q E st h=>wpAny_pyIter_zip st.1 h
theorem AG(l1 l2:Addr)(xs ys:Array Value):
    Meets (Builtin.«zip.__new__» ⟨[.type "zip",.ref l1,.ref l2],[]⟩) (fun _ R s=>s.heap.IsTuple l1 xs∧s.heap.IsTuple l2 ys∧
      R (.ok (.ret (.ref (s.heap.objs.size+4)))) {s with heap:=((((s.heap.push {cls:=.type "tuple_iterator",data:=.fields #[.ref l1,.int 0 0]}).push {cls:=.type "tuple_iterator",data:=.fields #[.ref l2,.int 0 0]}).push {cls:=.type "tuple",data:=.seq #[.ref s.heap.objs.size,.ref (s.heap.objs.size+1)]}).push {cls:=.type "tuple",data:=.seq #[.none,.none]}).push {cls:=.type "zip",data:=.fields #[.none,.bool false,.bool false,.ref (s.heap.objs.size+2),.ref (s.heap.objs.size+3)]}}):=
  .of_wp fun prog w A R s h=>by
    obtain⟨hp,g,d,tk,os⟩:=s;obtain⟨t1,t2,h⟩:=h;have sz:=PySem.sub_zip
    have T1:Heap.IsTuple (Shared.heap ⟨hp,g,d,tk,os⟩) l1 xs:=t1
    have T2:Heap.IsTuple (Shared.heap ⟨hp.push {cls:=.type "tuple_iterator",data:=.fields #[.ref l1,.int 0 0]},g,d,tk,os⟩) l2 ys:=Heap.IsTuple.push t2 _
    wp_walk using wpAny_pyIter_tuple T1,wpAny_pyIter_tuple T2
    refine⟨_,rfl,?_⟩
    simp only [Heap.size_push]
    exact h
section
variable{prog:Program}{w:World}{A:Around}{E:Value→Shared→Prop}{s:Shared}
theorem yI{l1 l2:Addr}{xs ys:Array Value}{Q:Value→Shared→Prop}(t1:s.heap.IsTuple l1 xs)(t2:s.heap.IsTuple l2 ys)
    (h:∀g,Bn (s.heap.objs.size+4) (s.heap.objs.size+2) (s.heap.objs.size+3) s.heap.objs.size (s.heap.objs.size+1) l1 l2 0 g→(∀c o,s.heap.get? c=some o→g.get? c=some o)→Q (.ref (s.heap.objs.size+4)) {s with heap:=g}):
    wpAny (model prog w) A (call (.type "zip") [.ref l1,.ref l2]) Q E s:=by
  refine callType_new F.called_zip (by decide) (F.typeCall_zip_2 _ _) (F.newCall_zip_2 _ _) (fun obj=>F.args_object_init_3 obj _ _) F.entry_zip_new (AG l1 l2 xs ys) ⟨t1,t2,?_⟩
  have at5:∀(g:Heap) (o:Obj) (a:Addr),o.isFreed=false→a=g.objs.size→(g.push o).get? a=some o:=fun g o a hf e=>by rw [e];exact Heap.get?_push_size _ hf
  have g5:=at5 ((((s.heap.push {cls:=.type "tuple_iterator",data:=.fields #[.ref l1,.int 0 0]}).push {cls:=.type "tuple_iterator",data:=.fields #[.ref l2,.int 0 0]}).push {cls:=.type "tuple",data:=.seq #[.ref s.heap.objs.size,.ref (s.heap.objs.size+1)]}).push {cls:=.type "tuple",data:=.seq #[.none,.none]}) {cls:=.type "zip",data:=.fields #[.none,.bool false,.bool false,.ref (s.heap.objs.size+2),.ref (s.heap.objs.size+3)]} (s.heap.objs.size+4) rfl (by simp only [Heap.size_push])
  have g4:=at5 (((s.heap.push {cls:=.type "tuple_iterator",data:=.fields #[.ref l1,.int 0 0]}).push {cls:=.type "tuple_iterator",data:=.fields #[.ref l2,.int 0 0]}).push {cls:=.type "tuple",data:=.seq #[.ref s.heap.objs.size,.ref (s.heap.objs.size+1)]}) {cls:=.type "tuple",data:=.seq #[.none,.none]} (s.heap.objs.size+3) rfl (by simp only [Heap.size_push])
  have g3:=at5 ((s.heap.push {cls:=.type "tuple_iterator",data:=.fields #[.ref l1,.int 0 0]}).push {cls:=.type "tuple_iterator",data:=.fields #[.ref l2,.int 0 0]}) {cls:=.type "tuple",data:=.seq #[.ref s.heap.objs.size,.ref (s.heap.objs.size+1)]} (s.heap.objs.size+2) rfl (by simp only [Heap.size_push])
  have g2:=at5 (s.heap.push {cls:=.type "tuple_iterator",data:=.fields #[.ref l1,.int 0 0]}) {cls:=.type "tuple_iterator",data:=.fields #[.ref l2,.int 0 0]} (s.heap.objs.size+1) rfl (by simp only [Heap.size_push])
  have g1:=at5 s.heap {cls:=.type "tuple_iterator",data:=.fields #[.ref l1,.int 0 0]} s.heap.objs.size rfl rfl
  have up:∀{g:Heap} {a:Addr} {u:Obj} (o:Obj),g.get? a=some u→(g.push o).get? a=some u:=fun o e=>Heap.get?_push_of_some o e
  refine⟨⟨_,g5,rfl⟩,h _ ⟨g5,up _ (up _ g3),⟨_,_,up _ g4⟩,⟨_,up _ (up _ (up _ (up _ g1))),rfl,rfl⟩,⟨_,up _ (up _ (up _ g2)),rfl,rfl⟩⟩ fun c o x=>up _ (up _ (up _ (up _ (up _ x))))⟩
end
theorem kJ:PySem.bootBuiltins "zip"=some (.type "zip"):=by decide+kernel
def Fk(K:PySem.W.Frag)(ta:TA):TI:=fun σ H R=>ta σ H fun vs H1=>∃a b,vs=[.ref a,.ref b]∧(∃xs,cg K H1 a xs)∧(∃ys,cg K H1 b ys)∧R (FU K a b) H1
theorem Cp{X:Cx}{K:PySem.W.Frag}{es:List Expr}{k0:Nat}{tp:Pos}{a b:Expr}{ta:TA}{p pos:Pos}(hK:X.K=K)(hg:Gl X "zip")(hm:X.mg "zip"=none)(ha:PA X [a,b] ta)(hs:starEach [a,b] X.env=[(false,eval a X.env),(false,eval b X.env)]:=by rfl)(hs2:starEach [b] X.env=[(false,eval b X.env)]:=by rfl):
    PI X (.Tuple es k0 tp) (.Call (.Name "zip" p) [a,b] [] pos) (Fk K ta):=by
  intro pins s σ H R I h
  subst hK
  refine Call_ (gj I hg hm kJ (PyProof.Rows.callWith_type1 (ci (ha pos pins s σ H _ I h) fun us s1 ⟨vs,H1,I1,r1,q1⟩=>?_) (by rw [hs,hs2]) (by rw [hs2];rfl)))
  obtain⟨a,b,e,⟨xs,qx⟩,⟨ys,qy⟩,q⟩:=q1
  subst e
  cases r1 with
  | cons r rr=>
    cases rr with
    | cons r' rr=>
      cases rr
      cases r
      cases r'
      obtain⟨i1,v1,p1,_⟩:=I1.tuple qx
      obtain⟨i2,v2,p2,_⟩:=I1.tuple qy
      refine yI p1 p2 fun g st hk=>wpAny_pyIter_zip st.1 ?_
      have I2:aF X pins σ H1 {s1 with heap:=g,toks:=s1.toks}:=I1.kept (t':=s1.toks) fun b o e=>hk b o e
      refine⟨s1.heap.objs.size+4,[s1.heap.objs.size+4,s1.heap.objs.size+2,s1.heap.objs.size+3,s1.heap.objs.size,s1.heap.objs.size+1],_,_,H1,rfl,I2,yA a b (show((s1.heap.objs.size+3:Nat)≠s1.heap.objs.size+4) by lia) (show((s1.heap.objs.size:Nat)≠s1.heap.objs.size+4) by lia) (show((s1.heap.objs.size+1:Nat)≠s1.heap.objs.size+4) by lia) (show((s1.heap.objs.size+3:Nat)≠s1.heap.objs.size) by lia) (show((s1.heap.objs.size+3:Nat)≠s1.heap.objs.size+1) by lia) (show((s1.heap.objs.size:Nat)≠s1.heap.objs.size+1) by lia) (show((s1.heap.objs.size+2:Nat)≠s1.heap.objs.size+4) by lia) (show((s1.heap.objs.size+2:Nat)≠s1.heap.objs.size+3) by lia) (show((s1.heap.objs.size+2:Nat)≠s1.heap.objs.size) by lia) (show((s1.heap.objs.size+2:Nat)≠s1.heap.objs.size+1) by lia),st,fun c hc=>?_,q⟩
      have le:s1.heap.objs.size≤c:=by
        simp only [List.mem_cons,List.not_mem_nil,or_false] at hc
        rcases hc with rfl | rfl | rfl | rfl | rfl
        · exact Nat.le_add_right _ 4
        · exact Nat.le_add_right _ 2
        · exact Nat.le_add_right _ 3
        · exact Nat.le_refl _
        · exact Nat.le_add_right _ 1
      have f:=I1.fpOk (H':=H1) le (I1.hok.fresh le)
      exact f
end L2
namespace L2
open PySem PySem.Spec PyProof.Rows
section
variable{prog:Program}{w:World}{A:Around}{E:Value→Shared→Prop}{s:Shared}{e it l:Addr}{k:Nat}{xs:Array Value}{S:Nat→Heap→Prop}{R:Heap→Array Value→Prop}
theorem rV(P1:Sc prog w it l S R)(hh:A.handled=none)(hne:l≠it)(xs:Array Value):Draws prog w A it [it,l] xs.size (fun i v=>xs[i]?=some v) (fun i h=>S i h∧R h xs) where
  live:=fun _ _ st=>let ⟨o,ho,_⟩:=P1.live st.1;⟨o,ho⟩
  frame:=fun _ _ _ st hk=>⟨P1.stay st.1 fun o e=>hk it (by simp) o e,P1.row st.2 fun o e=>hk l (by simp) o e⟩
  item:=fun i s Q E hi st hQ=>P1.next st.1 st.2 (x:=xs[i]) (by simp [hi]) fun g h1 h2=>hQ _ g s.toks (by simp [hi]) ⟨h1,P1.row st.2 fun o e=>h2.extBut _ _ hne e⟩ h2
  done:=fun s Q E st hE=>P1.last hh st.1 st.2 (by simp) hE
theorem o_{i:Int}{old:Value}{Q:Option Value→Shared→Prop}(P1:Sc prog w it l S R)(hh:A.handled=none)(he:IsEnum s.heap e it i old)(st:S k s.heap)(sq:R s.heap xs)(hx:xs[k]?=none)(q:∀g,Heap.ExtBut it s.heap g→Q none {s with heap:=g}):wpAny (model prog w) A (pyNext (.ref e)) Q E s:=by
  have hT:s.TypeIs (.ref e) "enumerate":=⟨_,he,rfl⟩;unfold pyNext
  refine wpAny_bind (wpAny_attempt (wpAny_callSpecial?_slot (name:=Str.ofString "__next__") hT F.slot_enumerate_next (wpAny_call_entry F.slot_enumerate_next hT F.entry_enumerate_next ?_ (F.args_enumerate_next_1 _))))
  show wpAny _ _ (field (.ref e) 2 >>= _) _ _ _;refine wpAny_bind (wpAny_field he rfl (x:=.ref it) rfl ?_)
  refine wpAny_bind (P1.last hh st sq hx fun g x hk hx'=>?_);obtain⟨o,ho,hc⟩:=hx'
  refine wpAny_bind (wpAny_isInstance (T:="StopIteration") (b:=true) ⟨o,ho,hc⟩ isSubtype_stop ?_);exact wpAny_pure (q _ hk)
theorem jS{i:Int}{old:Value}{Q:Value→Shared→Prop}(he:IsEnum s.heap e it i old)(h:Q (.ref e) s):wpAny (model prog w) A (pyIter (.ref e)) Q E s:=by
  have hT:s.TypeIs (.ref e) "enumerate":=⟨_,he,rfl⟩
  refine wpAny_pyIter_slot hT F.slot_enumerate_iter (wpAny_call_entry F.slot_enumerate_iter hT F.entry_enumerate_iter ?_ (F.args_enumerate_iter_1 _))
  show wpAny _ _ (ret (.ref e)) _ _ s;exact wpAny_pure ⟨_,rfl,"enumerate",_,hT,F.slot_enumerate_next.lookup,h⟩
end
section
variable{X:Cx}{pins:List (Addr × Obj)}{σ:L2.St}{H:Hp}{s:Shared}
theorem au(I:aF X pins σ H s){b l:Addr}{xs:List V}(f:hX X pins H b)(q:cX X.K H l xs):l≠b:=by
  intro z
  subst z
  rcases q with (q | ⟨o,q⟩) | ⟨o,its,n,hk,_⟩
  · rw [f.1] at q;cases q
  · rw [f.1] at q;cases q
  · have hb:X.base.get? l=some o:=I.ok.mod.kin l o hk
    rcases f.2.2.2.1 with z | z
    · exact I.ok.noex l o hb z
    · exact absurd (Nat.lt_of_lt_of_le (Heap.lt_size (I.ok.bs l o hb).1) z) (Nat.lt_irrefl _)
end
def Bq(K:PySem.W.Frag)(l:Addr):It:=
  ⟨fun i H=>∃xs x,cg K H l xs∧xs[i]?=some x,fun i H v H'=>∃p x,v=.ref p∧H p=none∧H'=bj H p (.tup [.int i,x])∧∀xs,cg K H l xs→xs[i]?=some x,fun i H=>∃xs,cg K H l xs∧xs.length≤i⟩
def uf(e it l:Addr)(i:Nat)(h:Heap):Prop:=(∃old,IsEnum h e it i old)∧h.IsTupleIter it l i
theorem tI{P:Program}{w:World}{K:PySem.W.Frag}{es:List Expr}{k0:Nat}{pos:Pos}{e it:Addr}(l:Addr)(ne:e≠it):mY P w K (.Tuple es k0 pos) (Bq K l) [e,it] e (uf e it l) where
  mem:=by simp
  obj:=fun i h st b hb=>by
    obtain⟨⟨old,he⟩,u⟩:=st
    simp only [List.mem_cons,List.not_mem_nil,or_false] at hb
    rcases hb with rfl | rfl
    · exact⟨_,he,fun v z=>by cases z⟩
    · obtain⟨o,e,c,d⟩:=u
      exact⟨o,e,fun v z=>by rw [d] at z;cases z⟩
  keep:=fun i h h' st k=>by
    obtain⟨⟨old,he⟩,u⟩:=st
    exact⟨⟨old,k _ (by simp) _ he⟩,u.at fun o e=>k _ (by simp) o e⟩
  item:=by
    intro X hP hw hK hc i pins s σ H E I hf st hg
    subst hP hw hK
    obtain⟨xs,x,q1,hx⟩:=hg
    obtain⟨⟨old,he⟩,u⟩:=id st
    obtain⟨its,rv,p,hz⟩:=I.tuple q1
    obtain⟨ux,hux,rux⟩:=rv.get hx
    have fe:=hf e (by simp);have ft:=hf it (by simp)
    have n1:l≠e:=aE I fe q1
    have n2:l≠it:=aE I ft q1
    have hi:i < its.toArray.size:=by have:=(List.getElem?_eq_some_iff.mp hux).1;simpa using this
    refine wpAny_pyNext_enum_itemD (rV (A:=X.A.in1) (hV it l) (show X.A.in1.handled=none from I.ok.hd hc) n2 its.toArray) he ⟨u,p⟩ hi ne (by simpa using ⟨ne,fun z=>n1 z.symm⟩) fun x' g tk hP ho hs hT hsz hk=>?_
    have ex:x'=ux:=by
      have:its[i]?=some x':=by simpa using hP
      rw [hux] at this;exact(Option.some.inj this).symm
    subst ex
    refine⟨_,rfl,wpAny_letOwnedTupleGo_enum ho fun g' he' ge=>?_⟩
    have lt:∀b∈[e,it],b < s.heap.objs.size:=fun b hb=>by
      simp only [List.mem_cons,List.not_mem_nil,or_false] at hb
      rcases hb with rfl | rfl
      · exact Heap.lt_size he
      · obtain⟨o,e,_⟩:=u;exact Heap.lt_size e
    have hTn:H s.heap.objs.size=none:=I.hok.fresh (Nat.le_refl _)
    have vv:aR [.int i,x] [.int i tk,x']:=.cons ⟨tk,rfl⟩ (.cons rux .nil)
    have I1:aF X pins σ (bj H s.heap.objs.size (.tup [.int i,x])) {s with heap:=s.heap.push {cls:=.type "tuple",data:=.seq #[.int i tk,x']},toks:=s.toks}:=
      I.laid (t':=s.toks) (fun b u e=>Heap.get?_push_of_some _ e) (Nat.le_refl _) ⟨(by show 2≤sizeLine;decide),[.int i tk,x'],vv,⟨_,Heap.get?_push_size _ rfl,rfl,_,rfl⟩⟩
    have hf1:∀b∈[e,it],hX X pins (bj H s.heap.objs.size (.tup [.int i,x])) b:=fun b hb=>by
      obtain⟨f0,fr⟩:=hf b hb
      exact⟨by rw [aA (Nat.ne_of_lt (lt b hb))];exact f0,fr⟩
    have I2:aF X pins σ (bj H s.heap.objs.size (.tup [.int i,x])) {s with heap:=g',toks:=tk+1}:=by
      refine I1.turnedL (t':=tk+1) hf1 fun b o nb eb=>?_
      have nb':b≠e∧b≠it:=by simpa using nb
      refine ge.extBut _ _ nb'.1 ?_
      rcases Heap.get?_push_cases eb with ⟨rfl,rfl⟩ | eb
      · exact hT
      · exact hk b o nb'.1 nb'.2 eb
    refine⟨.ref s.heap.objs.size,_,I2,rfl,⟨_,x,rfl,hTn,rfl,fun xs' w1=>by rw [I.tuple_inj w1 q1];exact hx⟩,⟨⟨_,by simpa using he'⟩,hs.1.at fun o e=>ge.extBut _ _ (fun z=>ne z.symm) e⟩,fun b hb=>(hf1 b hb).1⟩
  done:=by
    intro X hP hw hK hc i pins s σ H E I hf st hg
    subst hP hw hK
    obtain⟨xs,q1,hn⟩:=hg
    obtain⟨⟨old,he⟩,u⟩:=id st
    obtain⟨its,rv,p,hz⟩:=I.tuple q1
    have e1:=rv.length
    refine o_ (xs:=its.toArray) (hV it l) (I.ok.hd hc) he u p (by simp;lia) fun g gk=>⟨rfl,I.turnedL (t':=s.toks) hf fun b o nb eb=>?_⟩
    have nb':b≠e∧b≠it:=by simpa using nb
    exact gk b o nb'.2 eb
  self:=fun A i s Q E st h=>by
    obtain⟨⟨old,he⟩,u⟩:=st
    exact jS he h
def Bp(K:PySem.W.Frag)(l:Addr):It:=
  ⟨fun i H=>∃xs x,cX K H l xs∧xs[i]?=some x,fun i H v H'=>∃p x,v=.ref p∧H p=none∧H'=bj H p (.tup [.int i,x])∧∀xs,cX K H l xs→xs[i]?=some x,fun i H=>∃xs,cX K H l xs∧xs.length≤i⟩
def y4(e it l:Addr)(i:Nat)(h:Heap):Prop:=(∃old,IsEnum h e it i old)∧h.IsListIter it l i
theorem tH{P:Program}{w:World}{K:PySem.W.Frag}{es:List Expr}{k0:Nat}{pos:Pos}{e it:Addr}(l:Addr)(ne:e≠it):mY P w K (.Tuple es k0 pos) (Bp K l) [e,it] e (y4 e it l) where
  mem:=by simp
  obj:=fun i h st b hb=>by
    obtain⟨⟨old,he⟩,u⟩:=st
    simp only [List.mem_cons,List.not_mem_nil,or_false] at hb
    rcases hb with rfl | rfl
    · exact⟨_,he,fun v z=>by cases z⟩
    · obtain⟨o,e,c,d⟩:=u
      exact⟨o,e,fun v z=>by rw [d] at z;cases z⟩
  keep:=fun i h h' st k=>by
    obtain⟨⟨old,he⟩,u⟩:=st
    exact⟨⟨old,k _ (by simp) _ he⟩,u.at fun o e=>k _ (by simp) o e⟩
  item:=by
    intro X hP hw hK hc i pins s σ H E I hf st hg
    subst hP hw hK
    obtain⟨xs,x,q1,hx⟩:=hg
    obtain⟨⟨old,he⟩,u⟩:=id st
    obtain⟨its,rv,p,hz⟩:=I.list q1
    obtain⟨ux,hux,rux⟩:=rv.get hx
    have fe:=hf e (by simp);have ft:=hf it (by simp)
    have n1:l≠e:=au I fe q1
    have n2:l≠it:=au I ft q1
    have hi:i < its.toArray.size:=by have:=(List.getElem?_eq_some_iff.mp hux).1;simpa using this
    refine wpAny_pyNext_enum_itemD (rV (A:=X.A.in1) (eu it l) (show X.A.in1.handled=none from I.ok.hd hc) n2 its.toArray) he ⟨u,p.isList⟩ hi ne (by simpa using ⟨ne,fun z=>n1 z.symm⟩) fun x' g tk hP ho hs hT hsz hk=>?_
    have ex:x'=ux:=by
      have:its[i]?=some x':=by simpa using hP
      rw [hux] at this;exact(Option.some.inj this).symm
    subst ex
    refine⟨_,rfl,wpAny_letOwnedTupleGo_enum ho fun g' he' ge=>?_⟩
    have lt:∀b∈[e,it],b < s.heap.objs.size:=fun b hb=>by
      simp only [List.mem_cons,List.not_mem_nil,or_false] at hb
      rcases hb with rfl | rfl
      · exact Heap.lt_size he
      · obtain⟨o,e,_⟩:=u;exact Heap.lt_size e
    have hTn:H s.heap.objs.size=none:=I.hok.fresh (Nat.le_refl _)
    have vv:aR [.int i,x] [.int i tk,x']:=.cons ⟨tk,rfl⟩ (.cons rux .nil)
    have I1:aF X pins σ (bj H s.heap.objs.size (.tup [.int i,x])) {s with heap:=s.heap.push {cls:=.type "tuple",data:=.seq #[.int i tk,x']},toks:=s.toks}:=
      I.laid (t':=s.toks) (fun b u e=>Heap.get?_push_of_some _ e) (Nat.le_refl _) ⟨(by show 2≤sizeLine;decide),[.int i tk,x'],vv,⟨_,Heap.get?_push_size _ rfl,rfl,_,rfl⟩⟩
    have hf1:∀b∈[e,it],hX X pins (bj H s.heap.objs.size (.tup [.int i,x])) b:=fun b hb=>by
      obtain⟨f0,fr⟩:=hf b hb
      exact⟨by rw [aA (Nat.ne_of_lt (lt b hb))];exact f0,fr⟩
    have I2:aF X pins σ (bj H s.heap.objs.size (.tup [.int i,x])) {s with heap:=g',toks:=tk+1}:=by
      refine I1.turnedL (t':=tk+1) hf1 fun b o nb eb=>?_
      have nb':b≠e∧b≠it:=by simpa using nb
      refine ge.extBut _ _ nb'.1 ?_
      rcases Heap.get?_push_cases eb with ⟨rfl,rfl⟩ | eb
      · exact hT
      · exact hk b o nb'.1 nb'.2 eb
    refine⟨.ref s.heap.objs.size,_,I2,rfl,⟨_,x,rfl,hTn,rfl,fun xs' w1=>by rw [I.list_inj w1 q1];exact hx⟩,⟨⟨_,by simpa using he'⟩,hs.1.at fun o e=>ge.extBut _ _ (fun z=>ne z.symm) e⟩,fun b hb=>(hf1 b hb).1⟩
  done:=by
    intro X hP hw hK hc i pins s σ H E I hf st hg
    subst hP hw hK
    obtain⟨xs,q1,hn⟩:=hg
    obtain⟨⟨old,he⟩,u⟩:=id st
    obtain⟨its,rv,p,hz⟩:=I.list q1
    have e1:=rv.length
    refine o_ (xs:=its.toArray) (eu it l) (I.ok.hd hc) he u p.isList (by simp;lia) fun g gk=>⟨rfl,I.turnedL (t':=s.toks) hf fun b o nb eb=>?_⟩
    have nb':b≠e∧b≠it:=by simpa using nb
    exact gk b o nb'.2 eb
  self:=fun A i s Q E st h=>by
    obtain⟨⟨old,he⟩,u⟩:=st
    exact jS he h
end L2
namespace L2
open PySem PySem.Spec PyProof.Rows
section
variable{X:Cx}{a:Expr}{ta:TA}{p p2 pos pos2:Pos}
end
end L2
namespace L2
open PySem PySem.Spec PyProof.Rows
theorem vq:fillsNumberSlot (.type "tuple") "mul"=pure false:=
  PySem.fillsNumberSlot_seq (id:="tuple.__mul__") (r:=some (.builtin "tuple.__rmul__")) F.slot_tuple_mul.lookup (by decide+kernel) F.slot_tuple_rmul.lookup (by decide+kernel)
theorem CQ:seqRepeat? (.type "tuple")=pure (some (.builtin "tuple.__mul__")):=by
  unfold seqRepeat?;rw [PySem.seqSlot_of (T:="tuple") (name:="__mul__") (id:="tuple.__mul__") F.slot_tuple_mul.lookup (by decide+kernel),PySem.seqSlot_of (T:="tuple") (name:="__rmul__") (id:="tuple.__rmul__") F.slot_tuple_rmul.lookup (by decide+kernel)];rfl
theorem Ak(a:Int)(t:Tok)(l:Addr)(items:Array Value)(n:Nat)(dd:Option Addr)(sl:Array (Option Value)):
    Meets (Builtin.«int.__rmul__» ⟨[.int a t,.ref l],[]⟩) (fun _ R s=>s.heap.get? l=some {cls:=.type "tuple",dict:=dd,data:=.seq items n,slots:=sl}∧R (.ok (.ret Value.notImplemented)) s):=
  .of_wp fun prog w A R s h=>by obtain⟨hp,g,d,tk,os⟩:=s;obtain⟨hl,h⟩:=h;wp_walk;exact⟨_,rfl,h⟩
theorem BZ(l:Addr)(x:Value)(n:Nat)(k:Int)(u:Tok)(dd:Option Addr)(sl:Array (Option Value))(h0:2≤k)(h1:k≤100000):
    Meets (Builtin.«tuple.__mul__» ⟨[.ref l,.int k u],[]⟩) (fun _ R s=>s.heap.get? l=some {cls:=.type "tuple",dict:=dd,data:=.seq #[x] n,slots:=sl}∧
      R (.ok (.ret (.ref s.heap.objs.size))) {s with heap:=s.heap.push {cls:=.type "tuple",data:=.seq (List.replicate k.toNat x).toArray}}):=
  .of_wp fun prog w A R s h=>by
    obtain⟨hp,g,d,tk,os⟩:=s;obtain⟨hl,h⟩:=h
    have f1:=AutoSeq1.idx_int
    have c1:¬(decide (k < -(2 ^ 63)) || decide (k≥2 ^ 63))=true:=by simp;lia
    have c2:¬((#[x]:Array Value).isEmpty || k==1)=true:=by simp;lia
    have c3:¬(decide (k≤0) || (#[x]:Array Value).isEmpty)=true:=by simp;lia
    have c4:¬(((#[x]:Array Value).size:Int)*k > (2 ^ 63 - 1) / 8):=by simp;lia
    have c5:¬Builtin.Tuple.tupleTooMany (((#[x]:Array Value).size:Int)*k)=true:=by
      unfold Builtin.Tuple.tupleTooMany;rw [sizeLine_eq];simp;lia
    wp_walk using wpAny_loadPart' hl
    rw [if_neg c1]
    wp_walk using wpAny_loadPart' hl
    rw [if_neg c2]
    wp_walk using wpAny_loadPart' hl
    rw [if_neg c3]
    wp_walk using wpAny_loadPart' hl
    rw [if_neg c4]
    show wpAny _ _ (if Builtin.Tuple.tupleTooMany (((#[x]:Array Value).size:Int)*k)=true then _ else _) _ _ _
    rw [if_neg c5]
    have f0:∀(m:Nat) (acc:Array Value),List.foldl (fun x1 x2=>x1++x2) acc (List.replicate m #[x])=acc++(List.replicate m x).toArray:=by
      intro m
      induction m with
      | zero=>intro acc;simp
      | succ m ih=>intro acc;rw [List.replicate_succ,List.foldl_cons,ih,List.replicate_succ];apply Array.toList_inj.mp;simp
    have e:List.foldl (fun x1 x2=>x1++x2) #[] (List.replicate k.toNat #[x])=(List.replicate k.toNat x).toArray:=by rw [f0];simp
    show wpAny _ _ (Builtin.Tuple.tupleExact (List.foldl (fun x1 x2=>x1++x2) #[] (List.replicate k.toNat #[x])) >>= fun v=>ret v) _ _ _
    rw [e]
    unfold Builtin.Tuple.tupleExact
    refine wpAny_bind (wpAny_newObj_type ?_ (by show(List.replicate k.toNat x).toArray.size≤sizeLine;rw [List.size_toArray,List.length_replicate,sizeLine_eq];lia))
    exact wpAny_pure ⟨_,rfl,h⟩
theorem zm(l:Addr)(x:Value)(n:Nat)(u:Tok)(dd:Option Addr)(sl:Array (Option Value)):
    Meets (Builtin.«tuple.__mul__» ⟨[.ref l,.int 0 u],[]⟩) (fun _ R s=>s.heap.get? l=some {cls:=.type "tuple",dict:=dd,data:=.seq #[x] n,slots:=sl}∧R (.ok (.ret (.ref s.heap.objs.size))) {s with heap:=s.heap.push {cls:=.type "tuple",data:=.seq #[]}}):=
  .of_wp fun prog w A R s h=>by
    obtain⟨hp,g,d,tk,os⟩:=s;obtain⟨hl,h⟩:=h;have f1:=AutoSeq1.idx_int
    have c2:¬((#[x]:Array Value).isEmpty || (0:Int)==1)=true:=by simp
    wp_walk using wpAny_loadPart' hl
    first | rw [if_neg c2] | skip
    wp_walk using wpAny_loadPart' hl
    exact⟨_,rfl,h⟩
theorem zo(l:Addr)(x:Value)(n:Nat)(u:Tok)(dd:Option Addr)(sl:Array (Option Value)):
    Meets (Builtin.«tuple.__mul__» ⟨[.ref l,.int 1 u],[]⟩) (fun _ R s=>s.heap.get? l=some {cls:=.type "tuple",dict:=dd,data:=.seq #[x] n,slots:=sl}∧R (.ok (.ret (.ref l))) s):=
  .of_wp fun prog w A R s h=>by
    obtain⟨hp,g,d,tk,os⟩:=s;obtain⟨hl,h⟩:=h;have f1:=AutoSeq1.idx_int
    wp_walk using wpAny_loadPart' hl
    exact⟨_,rfl,h⟩
section
variable{X:Cx}
def yc(K:PySem.W.Frag):R2:=fun x y H Q=>∃a k v,x=.ref a∧y=.int k∧cg K H a [v]∧0≤k∧k≤100000∧∀p H',av H H'→cg K H' p (List.replicate k.toNat v)→Q (.ref p) H'
theorem zI:i6 X (binaryOp .Mult) (yc X.K):=by
  intro pins s σ H x y v u Q I rx ry h
  obtain⟨a,k,z,rfl,rfl,ha,k0,k1,q⟩:=h
  cases rx
  obtain⟨t,rfl⟩:=ry
  obtain⟨its,r,p,hz⟩:=I.tuple ha
  obtain⟨uz,rfl,rz⟩:=nM r
  obtain⟨⟨cls,dd,data,sl⟩,ho,hc,n,hd⟩:=id p
  simp only at hc hd
  subst hc hd
  refine wpAny_binaryOp_repeat_ref (T:="tuple") (U:="int") (by decide) ⟨_,ho,rfl⟩ (fun s'=>PySem.typeIs_int s' k t) vq F.fills_int_mul F.slot_int_rmul CQ F.slot_int_index.lookup (call_meets F.slot_int_rmul (PySem.typeIs_int s k t) F.entry_int_rmul (F.args_int_rmul_2 _ _) (Ak k t a #[uz] n dd sl) ⟨ho,rfl,⟨_,ho,rfl⟩,?_⟩)
  have new:∀m:Nat,m=k.toNat→EP X pins σ Q (.ref s.heap.objs.size) {s with heap:=s.heap.push {cls:=.type "tuple",data:=.seq (List.replicate m uz).toArray},toks:=s.toks}:=fun m hm=>by
    have hf:H s.heap.objs.size=none:=I.hok.fresh (Nat.le_refl _)
    have vv:∀j:Nat,aR (List.replicate j z) (List.replicate j uz):=fun j=>by
      induction j with
      | zero=>exact .nil
      | succ j ih=>exact .cons rz ih
    refine⟨.ref s.heap.objs.size,_,I.laid (t':=s.toks) (o:=.tup (List.replicate m z)) (fun b ob q=>Heap.get?_push_of_some _ q) (Nat.le_refl _) ⟨by rw [List.length_replicate,sizeLine_eq];lia,_,vv m,IsTup.new _ _⟩,rfl,q _ _ (av.new hf) (cg.of (by rw [ax,hm]))⟩
  rcases(by lia:k=0∨k=1∨2≤k) with e | e | e
  · subst e
    exact call_meets F.slot_tuple_mul ⟨_,ho,rfl⟩ F.entry_tuple_mul (F.args_tuple_mul_2 _ _) (zm a uz n t dd sl) ⟨ho,new 0 rfl⟩
  · subst e
    exact call_meets F.slot_tuple_mul ⟨_,ho,rfl⟩ F.entry_tuple_mul (F.args_tuple_mul_2 _ _) (zo a uz n t dd sl) ⟨ho,⟨.ref a,H,I,rfl,q a H (av.refl H) ha⟩⟩
  · exact call_meets F.slot_tuple_mul ⟨_,ho,rfl⟩ F.entry_tuple_mul (F.args_tuple_mul_2 _ _) (BZ a uz n k t dd sl e k1) ⟨ho,new _ rfl⟩
end
end L2
namespace L2
open PySem PySem.Spec PyProof.Rows
section
variable{prog:Program}{w:World}{A:Around}{E:Value→Shared→Prop}{s:Shared}
end
section
variable{X:Cx}{a:Expr}{ta:TA}{p p2 p3 pos pos2 pos3:Pos}
end
end L2
namespace L2
open PySem PySem.Spec PyProof.Rows
theorem vf(l:Addr)(xs:Array Value):
    Meets (Builtin.«enumerate.__new__» ⟨[.type "enumerate",.ref l],[]⟩) (fun _ R s=>s.heap.IsTuple l xs∧R (.ok (.ret (.ref (s.heap.objs.size+1)))) {s with heap:=(s.heap.push {cls:=.type "tuple_iterator",data:=.fields #[.ref l,.int 0 0]}).push {cls:=.type "enumerate",data:=.fields #[.none,.bool false,.ref s.heap.objs.size,rawInt 0,.none,.none]}}):=
  .of_wp fun prog w A R s h=>by
    obtain⟨hp,g,d,tk,os⟩:=s;obtain⟨ht,h⟩:=h;have a1:=sub_enumerate
    have T1:Heap.IsTuple (Shared.heap ⟨hp,g,d,tk,os⟩) l xs:=ht
    obtain⟨⟨cls,dd,data,sl⟩,ho,hc,n,hd⟩:=id ht
    simp only at hc hd
    subst hc hd
    wp_walk using wpAny_loadPart' ho
    refine wpAny_stack_any fun st=>wpAny_pure ?_
    split
    · rename_i c _ _ _ _ _
      cases (c==Value.type "enumerate")
      · wp_walk using wpAny_loadPart' ho,wpAny_pyIter_tuple T1
        refine⟨_,rfl,?_⟩
        simp only [Heap.size_push]
        exact h
      · wp_walk using wpAny_loadPart' ho,wpAny_pyIter_tuple T1
        refine⟨_,rfl,?_⟩
        simp only [Heap.size_push]
        exact h
    · wp_walk using wpAny_loadPart' ho,wpAny_pyIter_tuple T1
      refine⟨_,rfl,?_⟩
      simp only [Heap.size_push]
      exact h
section
variable{prog:Program}{w:World}{A:Around}{E:Value→Shared→Prop}{s:Shared}
theorem sE{l:Addr}{xs:Array Value}{Q:Value→Shared→Prop}(t1:s.heap.IsTuple l xs)(h:∀g,uf (s.heap.objs.size+1) s.heap.objs.size l 0 g→(∀c o,s.heap.get? c=some o→g.get? c=some o)→Q (.ref (s.heap.objs.size+1)) {s with heap:=g}):wpAny (model prog w) A (call (.type "enumerate") [.ref l]) Q E s:=by
  refine callType_new F.called_enumerate (by decide) (F.typeCall_enumerate_1 _) (F.newCall_enumerate_1 _) (fun obj=>F.args_object_init_2 obj _) F.entry_enumerate_new (vf l xs) ⟨t1,?_⟩
  have g2:((s.heap.push {cls:=.type "tuple_iterator",data:=.fields #[.ref l,.int 0 0]}).push {cls:=.type "enumerate",data:=.fields #[.none,.bool false,.ref s.heap.objs.size,rawInt 0,.none,.none]}).get? (s.heap.objs.size+1)=some {cls:=.type "enumerate",data:=.fields #[.none,.bool false,.ref s.heap.objs.size,rawInt 0,.none,.none]}:=by
    have e:s.heap.objs.size+1=(s.heap.push {cls:=.type "tuple_iterator",data:=.fields #[.ref l,.int 0 0]}).objs.size:=by simp only [Heap.size_push]
    rw [e];exact Heap.get?_push_size _ rfl
  exact⟨⟨_,g2,rfl⟩,h _ ⟨⟨.none,g2⟩,⟨_,Heap.get?_push_of_some _ (Heap.get?_push_size _ rfl),rfl,rfl⟩⟩ fun c o x=>Heap.get?_push_of_some _ (Heap.get?_push_of_some _ x)⟩
end
theorem jk:PySem.bootBuiltins "enumerate"=some (.type "enumerate"):=by decide+kernel
def Fg(K:PySem.W.Frag)(ta:TA):TI:=fun σ H R=>ta σ H fun vs H1=>∃a,vs=[.ref a]∧(∃xs,cg K H1 a xs)∧R (Bq K a) H1
def Ff(K:PySem.W.Frag)(ta:TA):TI:=fun σ H R=>ta σ H fun vs H1=>∃a,vs=[.ref a]∧(∃xs,cX K H1 a xs)∧R (Bp K a) H1
section
variable{X:Cx}{K:PySem.W.Frag}{es:List Expr}{k0:Nat}{tp:Pos}{a:Expr}{ta:TA}{p pos:Pos}
theorem xP(hK:X.K=K)(hg:Gl X "enumerate")(hm:X.mg "enumerate"=none)(ha:PA X [a] ta)(hs:starEach [a] X.env=[(false,eval a X.env)]:=by rfl):PI X (.Tuple es k0 tp) (.Call (.Name "enumerate" p) [a] [] pos) (Fg K ta):=by
  intro pins s σ H R I h
  subst hK
  refine Call_ (gj I hg hm jk (PyProof.Rows.callWith_type1 (ci (ha pos pins s σ H _ I h) fun us s1 ⟨vs,H1,I1,r1,q1⟩=>?_) hs rfl))
  obtain⟨a,e,⟨xs,qx⟩,q⟩:=q1
  subst e
  obtain⟨u,rfl,ru⟩:=nM r1
  cases ru
  obtain⟨i1,v1,p1,_⟩:=I1.tuple qx
  refine sE p1 fun g st hk=>?_
  obtain⟨⟨old,he⟩,hit⟩:=id st
  refine jS he ?_
  have I2:aF X pins σ H1 {s1 with heap:=g,toks:=s1.toks}:=I1.kept (t':=s1.toks) fun b o e=>hk b o e
  refine⟨s1.heap.objs.size+1,[s1.heap.objs.size+1,s1.heap.objs.size],_,_,H1,rfl,I2,tI a (show((s1.heap.objs.size+1:Nat)≠s1.heap.objs.size) by lia),st,fun c hc=>?_,q⟩
  have le:s1.heap.objs.size≤c:=by
    simp only [List.mem_cons,List.not_mem_nil,or_false] at hc
    rcases hc with rfl | rfl
    · exact Nat.le_add_right _ 1
    · exact Nat.le_refl _
  exact I1.fpOk (H':=H1) le (I1.hok.fresh le)
theorem xO(hK:X.K=K)(hg:Gl X "enumerate")(hm:X.mg "enumerate"=none)(ha:PA X [a] ta)(hs:starEach [a] X.env=[(false,eval a X.env)]:=by rfl):PI X (.Tuple es k0 tp) (.Call (.Name "enumerate" p) [a] [] pos) (Ff K ta):=by
  intro pins s σ H R I h
  subst hK
  refine Call_ (gj I hg hm jk (PyProof.Rows.callWith_type1 (ci (ha pos pins s σ H _ I h) fun us s1 ⟨vs,H1,I1,r1,q1⟩=>?_) hs rfl))
  obtain⟨a,e,⟨xs,qx⟩,q⟩:=q1
  subst e
  obtain⟨u,rfl,ru⟩:=nM r1
  cases ru
  obtain⟨i1,v1,p1,_⟩:=I1.list qx
  refine call_enumerate_list p1.isList fun g he hit hsz hk=>?_
  refine jS he ?_
  have I2:aF X pins σ H1 {s1 with heap:=g,toks:=s1.toks}:=I1.kept (t':=s1.toks) fun b o e=>hk b o e
  refine⟨s1.heap.objs.size+1,[s1.heap.objs.size+1,s1.heap.objs.size],_,_,H1,rfl,I2,tH a (show((s1.heap.objs.size+1:Nat)≠s1.heap.objs.size) by lia),⟨⟨_,he⟩,hit⟩,fun c hc=>?_,q⟩
  have le:s1.heap.objs.size≤c:=by
    simp only [List.mem_cons,List.not_mem_nil,or_false] at hc
    rcases hc with rfl | rfl
    · exact Nat.le_add_right _ 1
    · exact Nat.le_refl _
  exact I1.fpOk (H':=H1) le (I1.hok.fresh le)
end
end L2
namespace L2
open PySem PySem.Spec PyProof.Rows
def AL(K:PySem.W.Frag)(l1 l2:Addr):It:=
  ⟨fun i H=>∃xs ys x y,cX K H l1 xs∧cg K H l2 ys∧xs[i]?=some x∧ys[i]?=some y,
   fun i H v H'=>∃p x y,v=.ref p∧H p=none∧H'=bj H p (.tup [x,y])∧∀xs ys,cX K H l1 xs→cg K H l2 ys→xs[i]?=some x∧ys[i]?=some y,
   fun i H=>∃xs ys,cX K H l1 xs∧cg K H l2 ys∧(xs.length≤i∨ys.length≤i)⟩
def uR(z TI TO i1 i2 l1 l2:Addr)(i:Nat)(h:Heap):Prop:=IsZip h z TI TO .none∧IsPair h TI (.ref i1) (.ref i2)∧(∃a b,IsPair h TO a b)∧h.IsListIter i1 l1 i∧h.IsTupleIter i2 l2 i
theorem tM{P:Program}{w:World}{K:PySem.W.Frag}{es:List Expr}{k0:Nat}{pos:Pos}{z TI TO i1 i2:Addr}(l1 l2:Addr)(n1:TO≠z)(n2:i1≠z)(n3:i2≠z)(n4:TO≠i1)(n5:TO≠i2)(n6:i1≠i2)(n7:TI≠z)(n8:TI≠TO)(n9:TI≠i1)(n10:TI≠i2):
    mY P w K (.Tuple es k0 pos) (AL K l1 l2) [z,TI,TO,i1,i2] z (uR z TI TO i1 i2 l1 l2) where
  mem:=by simp
  obj:=fun i h st b hb=>by
    obtain⟨hz,hI,⟨a,c,hO⟩,u1,u2⟩:=st
    simp only [List.mem_cons,List.not_mem_nil,or_false] at hb
    rcases hb with rfl | rfl | rfl | rfl | rfl
    · exact⟨_,hz,fun v z=>by cases z⟩
    · exact⟨_,hI,fun v z=>by cases z⟩
    · exact⟨_,hO,fun v z=>by cases z⟩
    · obtain⟨o,e,c,d⟩:=u1
      exact⟨o,e,fun v z=>by rw [d] at z;cases z⟩
    · obtain⟨o,e,c,d⟩:=u2
      exact⟨o,e,fun v z=>by rw [d] at z;cases z⟩
  keep:=fun i h h' st k=>by
    obtain⟨hz,hI,⟨a,c,hO⟩,u1,u2⟩:=st
    exact⟨k _ (by simp) _ hz,k _ (by simp) _ hI,⟨a,c,k _ (by simp) _ hO⟩,u1.at fun o e=>k _ (by simp) o e,u2.at fun o e=>k _ (by simp) o e⟩
  item:=by
    intro X hP hw hK hc i pins s σ H E I hf st hg
    subst hP hw hK
    obtain⟨xs,ys,x,y,q1,q2,hx,hy⟩:=hg
    obtain⟨hz,hI,⟨a,b,hO⟩,u1,u2⟩:=id st
    obtain⟨its1,rv1,p1,z1⟩:=I.list q1
    obtain⟨its2,rv2,p2,z2⟩:=I.tuple q2
    obtain⟨ux,hux,rux⟩:=rv1.get hx
    obtain⟨uy,huy,ruy⟩:=rv2.get hy
    have fz:=hf z (by simp);have fO:=hf TO (by simp);have f1:=hf i1 (by simp);have f2:=hf i2 (by simp)
    have D:i4 z TI TO i1 i2 l1 l2:=⟨n1,n2,n3,n4,n5,n6,au I fz q1,au I fO q1,au I f1 q1,au I f2 q1,aE I fz q2,aE I fO q2,aE I f1 q2,aE I f2 q2⟩
    refine lI (xs:=its1.toArray) (ys:=its2.toArray) (eu i1 l1) (hV i2 l2) D hz hI hO u1 u2 p1.isList p2 (by simpa using hux) (by simpa using huy) fun g gz gO g1 g2 gT gs gk=>?_
    refine⟨_,rfl,wpAny_letOwnedTupleGo_zip gz fun g' gz' ge=>?_⟩
    have lt:∀b∈[z,TI,TO,i1,i2],b < s.heap.objs.size:=fun b hb=>by
      simp only [List.mem_cons,List.not_mem_nil,or_false] at hb
      rcases hb with rfl | rfl | rfl | rfl | rfl
      · exact Heap.lt_size hz
      · exact Heap.lt_size hI
      · exact Heap.lt_size hO
      · obtain⟨o,e,_⟩:=u1;exact Heap.lt_size e
      · obtain⟨o,e,_⟩:=u2;exact Heap.lt_size e
    have hT:H s.heap.objs.size=none:=I.hok.fresh (Nat.le_refl _)
    have vv:aR [x,y] [ux,uy]:=.cons rux (.cons ruy .nil)
    have I1:aF X pins σ (bj H s.heap.objs.size (.tup [x,y])) {s with heap:=s.heap.push {cls:=.type "tuple",data:=.seq #[ux,uy]},toks:=s.toks}:=
      I.laid (t':=s.toks) (fun b u e=>Heap.get?_push_of_some _ e) (Nat.le_refl _) ⟨(by show 2≤sizeLine;decide),[ux,uy],vv,⟨_,Heap.get?_push_size _ rfl,rfl,_,rfl⟩⟩
    have hf1:∀b∈[z,TI,TO,i1,i2],hX X pins (bj H s.heap.objs.size (.tup [x,y])) b:=fun b hb=>by
      obtain⟨f0,fr⟩:=hf b hb
      exact⟨by rw [aA (Nat.ne_of_lt (lt b hb))];exact f0,fr⟩
    have nzT:s.heap.objs.size≠z:=Nat.ne_of_gt (lt z (by simp))
    have I2:aF X pins σ (bj H s.heap.objs.size (.tup [x,y])) {s with heap:=g',toks:=s.toks}:=by
      refine I1.turnedL (t':=s.toks) hf1 fun b o nb e=>?_
      have nb':b≠z∧b≠TI∧b≠TO∧b≠i1∧b≠i2:=by simpa using nb
      refine ge.extBut _ _ nb'.1 ?_
      rcases Heap.get?_push_cases e with ⟨rfl,rfl⟩ | e
      · exact gT
      · exact gk b o nb'.1 nb'.2.2.1 nb'.2.2.2.1 nb'.2.2.2.2 e
    refine⟨.ref s.heap.objs.size,_,I2,rfl,⟨_,x,y,rfl,hT,rfl,fun xs' ys' w1 w2=>?_⟩,⟨gz',ge.extBut _ _ n7 (gk _ _ n7 n8 n9 n10 hI),⟨ux,uy,ge.extBut _ _ n1 gO⟩,g1.at fun o e=>ge.extBut _ _ n2 e,g2.at fun o e=>ge.extBut _ _ n3 e⟩,fun b hb=>(hf1 b hb).1⟩
    rw [I.list_inj w1 q1,I.tuple_inj w2 q2]
    exact⟨hx,hy⟩
  done:=by
    intro X hP hw hK hc i pins s σ H E I hf st hg
    subst hP hw hK
    obtain⟨xs,ys,q1,q2,hn⟩:=hg
    obtain⟨hz,hI,⟨a,b,hO⟩,u1,u2⟩:=id st
    obtain⟨its1,rv1,p1,z1⟩:=I.list q1
    obtain⟨its2,rv2,p2,z2⟩:=I.tuple q2
    have fz:=hf z (by simp);have fO:=hf TO (by simp);have f1:=hf i1 (by simp);have f2:=hf i2 (by simp)
    have D:i4 z TI TO i1 i2 l1 l2:=⟨n1,n2,n3,n4,n5,n6,au I fz q1,au I fO q1,au I f1 q1,au I f2 q1,aE I fz q2,aE I fO q2,aE I f1 q2,aE I f2 q2⟩
    have e1:=rv1.length
    have e2:=rv2.length
    refine lJ (xs:=its1.toArray) (ys:=its2.toArray) (I.ok.hd hc) (eu i1 l1) (hV i2 l2) D hz hI hO u1 u2 p1.isList p2 ?_ fun g gk=>⟨rfl,I.turnedL (t':=s.toks) hf fun b o nb e=>?_⟩
    · rcases hn with hn | hn
      · exact .inl (by simp;lia)
      · exact .inr (by simp;lia)
    · have nb':b≠z∧b≠TI∧b≠TO∧b≠i1∧b≠i2:=by simpa using nb
      exact gk b o nb'.1 nb'.2.2.1 nb'.2.2.2.1 nb'.2.2.2.2 e
  self:=fun A i s Q E st h=>wpAny_pyIter_zip st.1 h
theorem v_(l1 l2:Addr)(xs ys:Array Value):
    Meets (Builtin.«zip.__new__» ⟨[.type "zip",.ref l1,.ref l2],[]⟩) (fun _ R s=>s.heap.IsList l1 xs∧s.heap.IsTuple l2 ys∧
      R (.ok (.ret (.ref (s.heap.objs.size+4)))) {s with heap:=((((s.heap.push {cls:=.type "list_iterator",data:=.fields #[.ref l1,.int 0 0]}).push {cls:=.type "tuple_iterator",data:=.fields #[.ref l2,.int 0 0]}).push {cls:=.type "tuple",data:=.seq #[.ref s.heap.objs.size,.ref (s.heap.objs.size+1)]}).push {cls:=.type "tuple",data:=.seq #[.none,.none]}).push {cls:=.type "zip",data:=.fields #[.none,.bool false,.bool false,.ref (s.heap.objs.size+2),.ref (s.heap.objs.size+3)]}}):=
  .of_wp fun prog w A R s h=>by
    obtain⟨hp,g,d,tk,os⟩:=s;obtain⟨t1,t2,h⟩:=h;have sz:=PySem.sub_zip
    have T1:Heap.IsList (Shared.heap ⟨hp,g,d,tk,os⟩) l1 xs:=t1
    have T2:Heap.IsTuple (Shared.heap ⟨hp.push {cls:=.type "list_iterator",data:=.fields #[.ref l1,.int 0 0]},g,d,tk,os⟩) l2 ys:=Heap.IsTuple.push t2 _
    wp_walk using wpAny_pyIter_list T1,wpAny_pyIter_tuple T2
    refine⟨_,rfl,?_⟩
    simp only [Heap.size_push]
    exact h
section
variable{prog:Program}{w:World}{A:Around}{E:Value→Shared→Prop}{s:Shared}
theorem tP{l1 l2:Addr}{xs ys:Array Value}{Q:Value→Shared→Prop}(t1:s.heap.IsList l1 xs)(t2:s.heap.IsTuple l2 ys)
    (h:∀g,uR (s.heap.objs.size+4) (s.heap.objs.size+2) (s.heap.objs.size+3) s.heap.objs.size (s.heap.objs.size+1) l1 l2 0 g→(∀c o,s.heap.get? c=some o→g.get? c=some o)→Q (.ref (s.heap.objs.size+4)) {s with heap:=g}):
    wpAny (model prog w) A (call (.type "zip") [.ref l1,.ref l2]) Q E s:=by
  refine callType_new F.called_zip (by decide) (F.typeCall_zip_2 _ _) (F.newCall_zip_2 _ _) (fun obj=>F.args_object_init_3 obj _ _) F.entry_zip_new (v_ l1 l2 xs ys) ⟨t1,t2,?_⟩
  have at5:∀(g:Heap) (o:Obj) (a:Addr),o.isFreed=false→a=g.objs.size→(g.push o).get? a=some o:=fun g o a hf e=>by rw [e];exact Heap.get?_push_size _ hf
  have g5:=at5 ((((s.heap.push {cls:=.type "list_iterator",data:=.fields #[.ref l1,.int 0 0]}).push {cls:=.type "tuple_iterator",data:=.fields #[.ref l2,.int 0 0]}).push {cls:=.type "tuple",data:=.seq #[.ref s.heap.objs.size,.ref (s.heap.objs.size+1)]}).push {cls:=.type "tuple",data:=.seq #[.none,.none]}) {cls:=.type "zip",data:=.fields #[.none,.bool false,.bool false,.ref (s.heap.objs.size+2),.ref (s.heap.objs.size+3)]} (s.heap.objs.size+4) rfl (by simp only [Heap.size_push])
  have g4:=at5 (((s.heap.push {cls:=.type "list_iterator",data:=.fields #[.ref l1,.int 0 0]}).push {cls:=.type "tuple_iterator",data:=.fields #[.ref l2,.int 0 0]}).push {cls:=.type "tuple",data:=.seq #[.ref s.heap.objs.size,.ref (s.heap.objs.size+1)]}) {cls:=.type "tuple",data:=.seq #[.none,.none]} (s.heap.objs.size+3) rfl (by simp only [Heap.size_push])
  have g3:=at5 ((s.heap.push {cls:=.type "list_iterator",data:=.fields #[.ref l1,.int 0 0]}).push {cls:=.type "tuple_iterator",data:=.fields #[.ref l2,.int 0 0]}) {cls:=.type "tuple",data:=.seq #[.ref s.heap.objs.size,.ref (s.heap.objs.size+1)]} (s.heap.objs.size+2) rfl (by simp only [Heap.size_push])
  have g2:=at5 (s.heap.push {cls:=.type "list_iterator",data:=.fields #[.ref l1,.int 0 0]}) {cls:=.type "tuple_iterator",data:=.fields #[.ref l2,.int 0 0]} (s.heap.objs.size+1) rfl (by simp only [Heap.size_push])
  have g1:=at5 s.heap {cls:=.type "list_iterator",data:=.fields #[.ref l1,.int 0 0]} s.heap.objs.size rfl rfl
  have up:∀{g:Heap} {a:Addr} {u:Obj} (o:Obj),g.get? a=some u→(g.push o).get? a=some u:=fun o e=>Heap.get?_push_of_some o e
  refine⟨⟨_,g5,rfl⟩,h _ ⟨g5,up _ (up _ g3),⟨_,_,up _ g4⟩,⟨_,up _ (up _ (up _ (up _ g1))),rfl,rfl⟩,⟨_,up _ (up _ (up _ g2)),rfl,rfl⟩⟩ fun c o x=>up _ (up _ (up _ (up _ (up _ x))))⟩
end
def BJ(K:PySem.W.Frag)(ta:TA):TI:=fun σ H R=>ta σ H fun vs H1=>∃a b,vs=[.ref a,.ref b]∧(∃xs,cX K H1 a xs)∧(∃ys,cg K H1 b ys)∧R (AL K a b) H1
theorem xR{X:Cx}{K:PySem.W.Frag}{es:List Expr}{k0:Nat}{tp:Pos}{a b:Expr}{ta:TA}{p pos:Pos}(hK:X.K=K)(hg:Gl X "zip")(hm:X.mg "zip"=none)(ha:PA X [a,b] ta)(hs:starEach [a,b] X.env=[(false,eval a X.env),(false,eval b X.env)]:=by rfl)(hs2:starEach [b] X.env=[(false,eval b X.env)]:=by rfl):
    PI X (.Tuple es k0 tp) (.Call (.Name "zip" p) [a,b] [] pos) (BJ K ta):=by
  intro pins s σ H R I h
  subst hK
  refine Call_ (gj I hg hm kJ (PyProof.Rows.callWith_type1 (ci (ha pos pins s σ H _ I h) fun us s1 ⟨vs,H1,I1,r1,q1⟩=>?_) (by rw [hs,hs2]) (by rw [hs2];rfl)))
  obtain⟨a,b,e,⟨xs,qx⟩,⟨ys,qy⟩,q⟩:=q1
  subst e
  cases r1 with
  | cons r rr=>
    cases rr with
    | cons r' rr=>
      cases rr
      cases r
      cases r'
      obtain⟨i1,v1,p1,_⟩:=I1.list qx
      obtain⟨i2,v2,p2,_⟩:=I1.tuple qy
      refine tP p1.isList p2 fun g st hk=>wpAny_pyIter_zip st.1 ?_
      have I2:aF X pins σ H1 {s1 with heap:=g,toks:=s1.toks}:=I1.kept (t':=s1.toks) fun b o e=>hk b o e
      refine⟨s1.heap.objs.size+4,[s1.heap.objs.size+4,s1.heap.objs.size+2,s1.heap.objs.size+3,s1.heap.objs.size,s1.heap.objs.size+1],_,_,H1,rfl,I2,tM a b (show((s1.heap.objs.size+3:Nat)≠s1.heap.objs.size+4) by lia) (show((s1.heap.objs.size:Nat)≠s1.heap.objs.size+4) by lia) (show((s1.heap.objs.size+1:Nat)≠s1.heap.objs.size+4) by lia) (show((s1.heap.objs.size+3:Nat)≠s1.heap.objs.size) by lia) (show((s1.heap.objs.size+3:Nat)≠s1.heap.objs.size+1) by lia) (show((s1.heap.objs.size:Nat)≠s1.heap.objs.size+1) by lia) (show((s1.heap.objs.size+2:Nat)≠s1.heap.objs.size+4) by lia) (show((s1.heap.objs.size+2:Nat)≠s1.heap.objs.size+3) by lia) (show((s1.heap.objs.size+2:Nat)≠s1.heap.objs.size) by lia) (show((s1.heap.objs.size+2:Nat)≠s1.heap.objs.size+1) by lia),st,fun c hc=>?_,q⟩
      have le:s1.heap.objs.size≤c:=by
        simp only [List.mem_cons,List.not_mem_nil,or_false] at hc
        rcases hc with rfl | rfl | rfl | rfl | rfl
        · exact Nat.le_add_right _ 4
        · exact Nat.le_add_right _ 2
        · exact Nat.le_add_right _ 3
        · exact Nat.le_refl _
        · exact Nat.le_add_right _ 1
      have f:=I1.fpOk (H':=H1) le (I1.hok.fresh le)
      exact f
def AM(K:PySem.W.Frag)(l1 l2:Addr):It:=
  ⟨fun i H=>∃xs ys x y,cg K H l1 xs∧cX K H l2 ys∧xs[i]?=some x∧ys[i]?=some y,
   fun i H v H'=>∃p x y,v=.ref p∧H p=none∧H'=bj H p (.tup [x,y])∧∀xs ys,cg K H l1 xs→cX K H l2 ys→xs[i]?=some x∧ys[i]?=some y,
   fun i H=>∃xs ys,cg K H l1 xs∧cX K H l2 ys∧(xs.length≤i∨ys.length≤i)⟩
def uS(z TI TO i1 i2 l1 l2:Addr)(i:Nat)(h:Heap):Prop:=IsZip h z TI TO .none∧IsPair h TI (.ref i1) (.ref i2)∧(∃a b,IsPair h TO a b)∧h.IsTupleIter i1 l1 i∧h.IsListIter i2 l2 i
theorem tN{P:Program}{w:World}{K:PySem.W.Frag}{es:List Expr}{k0:Nat}{pos:Pos}{z TI TO i1 i2:Addr}(l1 l2:Addr)(n1:TO≠z)(n2:i1≠z)(n3:i2≠z)(n4:TO≠i1)(n5:TO≠i2)(n6:i1≠i2)(n7:TI≠z)(n8:TI≠TO)(n9:TI≠i1)(n10:TI≠i2):
    mY P w K (.Tuple es k0 pos) (AM K l1 l2) [z,TI,TO,i1,i2] z (uS z TI TO i1 i2 l1 l2) where
  mem:=by simp
  obj:=fun i h st b hb=>by
    obtain⟨hz,hI,⟨a,c,hO⟩,u1,u2⟩:=st
    simp only [List.mem_cons,List.not_mem_nil,or_false] at hb
    rcases hb with rfl | rfl | rfl | rfl | rfl
    · exact⟨_,hz,fun v z=>by cases z⟩
    · exact⟨_,hI,fun v z=>by cases z⟩
    · exact⟨_,hO,fun v z=>by cases z⟩
    · obtain⟨o,e,c,d⟩:=u1
      exact⟨o,e,fun v z=>by rw [d] at z;cases z⟩
    · obtain⟨o,e,c,d⟩:=u2
      exact⟨o,e,fun v z=>by rw [d] at z;cases z⟩
  keep:=fun i h h' st k=>by
    obtain⟨hz,hI,⟨a,c,hO⟩,u1,u2⟩:=st
    exact⟨k _ (by simp) _ hz,k _ (by simp) _ hI,⟨a,c,k _ (by simp) _ hO⟩,u1.at fun o e=>k _ (by simp) o e,u2.at fun o e=>k _ (by simp) o e⟩
  item:=by
    intro X hP hw hK hc i pins s σ H E I hf st hg
    subst hP hw hK
    obtain⟨xs,ys,x,y,q1,q2,hx,hy⟩:=hg
    obtain⟨hz,hI,⟨a,b,hO⟩,u1,u2⟩:=id st
    obtain⟨its1,rv1,p1,z1⟩:=I.tuple q1
    obtain⟨its2,rv2,p2,z2⟩:=I.list q2
    obtain⟨ux,hux,rux⟩:=rv1.get hx
    obtain⟨uy,huy,ruy⟩:=rv2.get hy
    have fz:=hf z (by simp);have fO:=hf TO (by simp);have f1:=hf i1 (by simp);have f2:=hf i2 (by simp)
    have D:i4 z TI TO i1 i2 l1 l2:=⟨n1,n2,n3,n4,n5,n6,aE I fz q1,aE I fO q1,aE I f1 q1,aE I f2 q1,au I fz q2,au I fO q2,au I f1 q2,au I f2 q2⟩
    refine lI (xs:=its1.toArray) (ys:=its2.toArray) (hV i1 l1) (eu i2 l2) D hz hI hO u1 u2 p1 p2.isList (by simpa using hux) (by simpa using huy) fun g gz gO g1 g2 gT gs gk=>?_
    refine⟨_,rfl,wpAny_letOwnedTupleGo_zip gz fun g' gz' ge=>?_⟩
    have lt:∀b∈[z,TI,TO,i1,i2],b < s.heap.objs.size:=fun b hb=>by
      simp only [List.mem_cons,List.not_mem_nil,or_false] at hb
      rcases hb with rfl | rfl | rfl | rfl | rfl
      · exact Heap.lt_size hz
      · exact Heap.lt_size hI
      · exact Heap.lt_size hO
      · obtain⟨o,e,_⟩:=u1;exact Heap.lt_size e
      · obtain⟨o,e,_⟩:=u2;exact Heap.lt_size e
    have hT:H s.heap.objs.size=none:=I.hok.fresh (Nat.le_refl _)
    have vv:aR [x,y] [ux,uy]:=.cons rux (.cons ruy .nil)
    have I1:aF X pins σ (bj H s.heap.objs.size (.tup [x,y])) {s with heap:=s.heap.push {cls:=.type "tuple",data:=.seq #[ux,uy]},toks:=s.toks}:=
      I.laid (t':=s.toks) (fun b u e=>Heap.get?_push_of_some _ e) (Nat.le_refl _) ⟨(by show 2≤sizeLine;decide),[ux,uy],vv,⟨_,Heap.get?_push_size _ rfl,rfl,_,rfl⟩⟩
    have hf1:∀b∈[z,TI,TO,i1,i2],hX X pins (bj H s.heap.objs.size (.tup [x,y])) b:=fun b hb=>by
      obtain⟨f0,fr⟩:=hf b hb
      exact⟨by rw [aA (Nat.ne_of_lt (lt b hb))];exact f0,fr⟩
    have nzT:s.heap.objs.size≠z:=Nat.ne_of_gt (lt z (by simp))
    have I2:aF X pins σ (bj H s.heap.objs.size (.tup [x,y])) {s with heap:=g',toks:=s.toks}:=by
      refine I1.turnedL (t':=s.toks) hf1 fun b o nb e=>?_
      have nb':b≠z∧b≠TI∧b≠TO∧b≠i1∧b≠i2:=by simpa using nb
      refine ge.extBut _ _ nb'.1 ?_
      rcases Heap.get?_push_cases e with ⟨rfl,rfl⟩ | e
      · exact gT
      · exact gk b o nb'.1 nb'.2.2.1 nb'.2.2.2.1 nb'.2.2.2.2 e
    refine⟨.ref s.heap.objs.size,_,I2,rfl,⟨_,x,y,rfl,hT,rfl,fun xs' ys' w1 w2=>?_⟩,⟨gz',ge.extBut _ _ n7 (gk _ _ n7 n8 n9 n10 hI),⟨ux,uy,ge.extBut _ _ n1 gO⟩,g1.at fun o e=>ge.extBut _ _ n2 e,g2.at fun o e=>ge.extBut _ _ n3 e⟩,fun b hb=>(hf1 b hb).1⟩
    rw [I.tuple_inj w1 q1,I.list_inj w2 q2]
    exact⟨hx,hy⟩
  done:=by
    intro X hP hw hK hc i pins s σ H E I hf st hg
    subst hP hw hK
    obtain⟨xs,ys,q1,q2,hn⟩:=hg
    obtain⟨hz,hI,⟨a,b,hO⟩,u1,u2⟩:=id st
    obtain⟨its1,rv1,p1,z1⟩:=I.tuple q1
    obtain⟨its2,rv2,p2,z2⟩:=I.list q2
    have fz:=hf z (by simp);have fO:=hf TO (by simp);have f1:=hf i1 (by simp);have f2:=hf i2 (by simp)
    have D:i4 z TI TO i1 i2 l1 l2:=⟨n1,n2,n3,n4,n5,n6,aE I fz q1,aE I fO q1,aE I f1 q1,aE I f2 q1,au I fz q2,au I fO q2,au I f1 q2,au I f2 q2⟩
    have e1:=rv1.length
    have e2:=rv2.length
    refine lJ (xs:=its1.toArray) (ys:=its2.toArray) (I.ok.hd hc) (hV i1 l1) (eu i2 l2) D hz hI hO u1 u2 p1 p2.isList ?_ fun g gk=>⟨rfl,I.turnedL (t':=s.toks) hf fun b o nb e=>?_⟩
    · rcases hn with hn | hn
      · exact .inl (by simp;lia)
      · exact .inr (by simp;lia)
    · have nb':b≠z∧b≠TI∧b≠TO∧b≠i1∧b≠i2:=by simpa using nb
      exact gk b o nb'.1 nb'.2.2.1 nb'.2.2.2.1 nb'.2.2.2.2 e
  self:=fun A i s Q E st h=>wpAny_pyIter_zip st.1 h
theorem wa(l1 l2:Addr)(xs ys:Array Value):
    Meets (Builtin.«zip.__new__» ⟨[.type "zip",.ref l1,.ref l2],[]⟩) (fun _ R s=>s.heap.IsTuple l1 xs∧s.heap.IsList l2 ys∧
      R (.ok (.ret (.ref (s.heap.objs.size+4)))) {s with heap:=((((s.heap.push {cls:=.type "tuple_iterator",data:=.fields #[.ref l1,.int 0 0]}).push {cls:=.type "list_iterator",data:=.fields #[.ref l2,.int 0 0]}).push {cls:=.type "tuple",data:=.seq #[.ref s.heap.objs.size,.ref (s.heap.objs.size+1)]}).push {cls:=.type "tuple",data:=.seq #[.none,.none]}).push {cls:=.type "zip",data:=.fields #[.none,.bool false,.bool false,.ref (s.heap.objs.size+2),.ref (s.heap.objs.size+3)]}}):=
  .of_wp fun prog w A R s h=>by
    obtain⟨hp,g,d,tk,os⟩:=s;obtain⟨t1,t2,h⟩:=h;have sz:=PySem.sub_zip
    have T1:Heap.IsTuple (Shared.heap ⟨hp,g,d,tk,os⟩) l1 xs:=t1
    have T2:Heap.IsList (Shared.heap ⟨hp.push {cls:=.type "tuple_iterator",data:=.fields #[.ref l1,.int 0 0]},g,d,tk,os⟩) l2 ys:=Heap.IsList.push t2 _
    wp_walk using wpAny_pyIter_tuple T1,wpAny_pyIter_list T2
    refine⟨_,rfl,?_⟩
    simp only [Heap.size_push]
    exact h
section
variable{prog:Program}{w:World}{A:Around}{E:Value→Shared→Prop}{s:Shared}
theorem tQ{l1 l2:Addr}{xs ys:Array Value}{Q:Value→Shared→Prop}(t1:s.heap.IsTuple l1 xs)(t2:s.heap.IsList l2 ys)
    (h:∀g,uS (s.heap.objs.size+4) (s.heap.objs.size+2) (s.heap.objs.size+3) s.heap.objs.size (s.heap.objs.size+1) l1 l2 0 g→(∀c o,s.heap.get? c=some o→g.get? c=some o)→Q (.ref (s.heap.objs.size+4)) {s with heap:=g}):
    wpAny (model prog w) A (call (.type "zip") [.ref l1,.ref l2]) Q E s:=by
  refine callType_new F.called_zip (by decide) (F.typeCall_zip_2 _ _) (F.newCall_zip_2 _ _) (fun obj=>F.args_object_init_3 obj _ _) F.entry_zip_new (wa l1 l2 xs ys) ⟨t1,t2,?_⟩
  have at5:∀(g:Heap) (o:Obj) (a:Addr),o.isFreed=false→a=g.objs.size→(g.push o).get? a=some o:=fun g o a hf e=>by rw [e];exact Heap.get?_push_size _ hf
  have g5:=at5 ((((s.heap.push {cls:=.type "tuple_iterator",data:=.fields #[.ref l1,.int 0 0]}).push {cls:=.type "list_iterator",data:=.fields #[.ref l2,.int 0 0]}).push {cls:=.type "tuple",data:=.seq #[.ref s.heap.objs.size,.ref (s.heap.objs.size+1)]}).push {cls:=.type "tuple",data:=.seq #[.none,.none]}) {cls:=.type "zip",data:=.fields #[.none,.bool false,.bool false,.ref (s.heap.objs.size+2),.ref (s.heap.objs.size+3)]} (s.heap.objs.size+4) rfl (by simp only [Heap.size_push])
  have g4:=at5 (((s.heap.push {cls:=.type "tuple_iterator",data:=.fields #[.ref l1,.int 0 0]}).push {cls:=.type "list_iterator",data:=.fields #[.ref l2,.int 0 0]}).push {cls:=.type "tuple",data:=.seq #[.ref s.heap.objs.size,.ref (s.heap.objs.size+1)]}) {cls:=.type "tuple",data:=.seq #[.none,.none]} (s.heap.objs.size+3) rfl (by simp only [Heap.size_push])
  have g3:=at5 ((s.heap.push {cls:=.type "tuple_iterator",data:=.fields #[.ref l1,.int 0 0]}).push {cls:=.type "list_iterator",data:=.fields #[.ref l2,.int 0 0]}) {cls:=.type "tuple",data:=.seq #[.ref s.heap.objs.size,.ref (s.heap.objs.size+1)]} (s.heap.objs.size+2) rfl (by simp only [Heap.size_push])
  have g2:=at5 (s.heap.push {cls:=.type "tuple_iterator",data:=.fields #[.ref l1,.int 0 0]}) {cls:=.type "list_iterator",data:=.fields #[.ref l2,.int 0 0]} (s.heap.objs.size+1) rfl (by simp only [Heap.size_push])
  have g1:=at5 s.heap {cls:=.type "tuple_iterator",data:=.fields #[.ref l1,.int 0 0]} s.heap.objs.size rfl rfl
  have up:∀{g:Heap} {a:Addr} {u:Obj} (o:Obj),g.get? a=some u→(g.push o).get? a=some u:=fun o e=>Heap.get?_push_of_some o e
  refine⟨⟨_,g5,rfl⟩,h _ ⟨g5,up _ (up _ g3),⟨_,_,up _ g4⟩,⟨_,up _ (up _ (up _ (up _ g1))),rfl,rfl⟩,⟨_,up _ (up _ (up _ g2)),rfl,rfl⟩⟩ fun c o x=>up _ (up _ (up _ (up _ (up _ x))))⟩
end
def BK(K:PySem.W.Frag)(ta:TA):TI:=fun σ H R=>ta σ H fun vs H1=>∃a b,vs=[.ref a,.ref b]∧(∃xs,cg K H1 a xs)∧(∃ys,cX K H1 b ys)∧R (AM K a b) H1
theorem xS{X:Cx}{K:PySem.W.Frag}{es:List Expr}{k0:Nat}{tp:Pos}{a b:Expr}{ta:TA}{p pos:Pos}(hK:X.K=K)(hg:Gl X "zip")(hm:X.mg "zip"=none)(ha:PA X [a,b] ta)(hs:starEach [a,b] X.env=[(false,eval a X.env),(false,eval b X.env)]:=by rfl)(hs2:starEach [b] X.env=[(false,eval b X.env)]:=by rfl):
    PI X (.Tuple es k0 tp) (.Call (.Name "zip" p) [a,b] [] pos) (BK K ta):=by
  intro pins s σ H R I h
  subst hK
  refine Call_ (gj I hg hm kJ (PyProof.Rows.callWith_type1 (ci (ha pos pins s σ H _ I h) fun us s1 ⟨vs,H1,I1,r1,q1⟩=>?_) (by rw [hs,hs2]) (by rw [hs2];rfl)))
  obtain⟨a,b,e,⟨xs,qx⟩,⟨ys,qy⟩,q⟩:=q1
  subst e
  cases r1 with
  | cons r rr=>
    cases rr with
    | cons r' rr=>
      cases rr
      cases r
      cases r'
      obtain⟨i1,v1,p1,_⟩:=I1.tuple qx
      obtain⟨i2,v2,p2,_⟩:=I1.list qy
      refine tQ p1 p2.isList fun g st hk=>wpAny_pyIter_zip st.1 ?_
      have I2:aF X pins σ H1 {s1 with heap:=g,toks:=s1.toks}:=I1.kept (t':=s1.toks) fun b o e=>hk b o e
      refine⟨s1.heap.objs.size+4,[s1.heap.objs.size+4,s1.heap.objs.size+2,s1.heap.objs.size+3,s1.heap.objs.size,s1.heap.objs.size+1],_,_,H1,rfl,I2,tN a b (show((s1.heap.objs.size+3:Nat)≠s1.heap.objs.size+4) by lia) (show((s1.heap.objs.size:Nat)≠s1.heap.objs.size+4) by lia) (show((s1.heap.objs.size+1:Nat)≠s1.heap.objs.size+4) by lia) (show((s1.heap.objs.size+3:Nat)≠s1.heap.objs.size) by lia) (show((s1.heap.objs.size+3:Nat)≠s1.heap.objs.size+1) by lia) (show((s1.heap.objs.size:Nat)≠s1.heap.objs.size+1) by lia) (show((s1.heap.objs.size+2:Nat)≠s1.heap.objs.size+4) by lia) (show((s1.heap.objs.size+2:Nat)≠s1.heap.objs.size+3) by lia) (show((s1.heap.objs.size+2:Nat)≠s1.heap.objs.size) by lia) (show((s1.heap.objs.size+2:Nat)≠s1.heap.objs.size+1) by lia),st,fun c hc=>?_,q⟩
      have le:s1.heap.objs.size≤c:=by
        simp only [List.mem_cons,List.not_mem_nil,or_false] at hc
        rcases hc with rfl | rfl | rfl | rfl | rfl
        · exact Nat.le_add_right _ 4
        · exact Nat.le_add_right _ 2
        · exact Nat.le_add_right _ 3
        · exact Nat.le_refl _
        · exact Nat.le_add_right _ 1
      have f:=I1.fpOk (H':=H1) le (I1.hok.fresh le)
      exact f
def AK(K:PySem.W.Frag)(l1 l2:Addr):It:=
  ⟨fun i H=>∃xs ys x y,cX K H l1 xs∧cX K H l2 ys∧xs[i]?=some x∧ys[i]?=some y,
   fun i H v H'=>∃p x y,v=.ref p∧H p=none∧H'=bj H p (.tup [x,y])∧∀xs ys,cX K H l1 xs→cX K H l2 ys→xs[i]?=some x∧ys[i]?=some y,
   fun i H=>∃xs ys,cX K H l1 xs∧cX K H l2 ys∧(xs.length≤i∨ys.length≤i)⟩
def uQ(z TI TO i1 i2 l1 l2:Addr)(i:Nat)(h:Heap):Prop:=IsZip h z TI TO .none∧IsPair h TI (.ref i1) (.ref i2)∧(∃a b,IsPair h TO a b)∧h.IsListIter i1 l1 i∧h.IsListIter i2 l2 i
theorem tL{P:Program}{w:World}{K:PySem.W.Frag}{es:List Expr}{k0:Nat}{pos:Pos}{z TI TO i1 i2:Addr}(l1 l2:Addr)(n1:TO≠z)(n2:i1≠z)(n3:i2≠z)(n4:TO≠i1)(n5:TO≠i2)(n6:i1≠i2)(n7:TI≠z)(n8:TI≠TO)(n9:TI≠i1)(n10:TI≠i2):
    mY P w K (.Tuple es k0 pos) (AK K l1 l2) [z,TI,TO,i1,i2] z (uQ z TI TO i1 i2 l1 l2) where
  mem:=by simp
  obj:=fun i h st b hb=>by
    obtain⟨hz,hI,⟨a,c,hO⟩,u1,u2⟩:=st
    simp only [List.mem_cons,List.not_mem_nil,or_false] at hb
    rcases hb with rfl | rfl | rfl | rfl | rfl
    · exact⟨_,hz,fun v z=>by cases z⟩
    · exact⟨_,hI,fun v z=>by cases z⟩
    · exact⟨_,hO,fun v z=>by cases z⟩
    · obtain⟨o,e,c,d⟩:=u1
      exact⟨o,e,fun v z=>by rw [d] at z;cases z⟩
    · obtain⟨o,e,c,d⟩:=u2
      exact⟨o,e,fun v z=>by rw [d] at z;cases z⟩
  keep:=fun i h h' st k=>by
    obtain⟨hz,hI,⟨a,c,hO⟩,u1,u2⟩:=st
    exact⟨k _ (by simp) _ hz,k _ (by simp) _ hI,⟨a,c,k _ (by simp) _ hO⟩,u1.at fun o e=>k _ (by simp) o e,u2.at fun o e=>k _ (by simp) o e⟩
  item:=by
    intro X hP hw hK hc i pins s σ H E I hf st hg
    subst hP hw hK
    obtain⟨xs,ys,x,y,q1,q2,hx,hy⟩:=hg
    obtain⟨hz,hI,⟨a,b,hO⟩,u1,u2⟩:=id st
    obtain⟨its1,rv1,p1,z1⟩:=I.list q1
    obtain⟨its2,rv2,p2,z2⟩:=I.list q2
    obtain⟨ux,hux,rux⟩:=rv1.get hx
    obtain⟨uy,huy,ruy⟩:=rv2.get hy
    have fz:=hf z (by simp);have fO:=hf TO (by simp);have f1:=hf i1 (by simp);have f2:=hf i2 (by simp)
    have D:i4 z TI TO i1 i2 l1 l2:=⟨n1,n2,n3,n4,n5,n6,au I fz q1,au I fO q1,au I f1 q1,au I f2 q1,au I fz q2,au I fO q2,au I f1 q2,au I f2 q2⟩
    refine lI (xs:=its1.toArray) (ys:=its2.toArray) (eu i1 l1) (eu i2 l2) D hz hI hO u1 u2 p1.isList p2.isList (by simpa using hux) (by simpa using huy) fun g gz gO g1 g2 gT gs gk=>?_
    refine⟨_,rfl,wpAny_letOwnedTupleGo_zip gz fun g' gz' ge=>?_⟩
    have lt:∀b∈[z,TI,TO,i1,i2],b < s.heap.objs.size:=fun b hb=>by
      simp only [List.mem_cons,List.not_mem_nil,or_false] at hb
      rcases hb with rfl | rfl | rfl | rfl | rfl
      · exact Heap.lt_size hz
      · exact Heap.lt_size hI
      · exact Heap.lt_size hO
      · obtain⟨o,e,_⟩:=u1;exact Heap.lt_size e
      · obtain⟨o,e,_⟩:=u2;exact Heap.lt_size e
    have hT:H s.heap.objs.size=none:=I.hok.fresh (Nat.le_refl _)
    have vv:aR [x,y] [ux,uy]:=.cons rux (.cons ruy .nil)
    have I1:aF X pins σ (bj H s.heap.objs.size (.tup [x,y])) {s with heap:=s.heap.push {cls:=.type "tuple",data:=.seq #[ux,uy]},toks:=s.toks}:=
      I.laid (t':=s.toks) (fun b u e=>Heap.get?_push_of_some _ e) (Nat.le_refl _) ⟨(by show 2≤sizeLine;decide),[ux,uy],vv,⟨_,Heap.get?_push_size _ rfl,rfl,_,rfl⟩⟩
    have hf1:∀b∈[z,TI,TO,i1,i2],hX X pins (bj H s.heap.objs.size (.tup [x,y])) b:=fun b hb=>by
      obtain⟨f0,fr⟩:=hf b hb
      exact⟨by rw [aA (Nat.ne_of_lt (lt b hb))];exact f0,fr⟩
    have nzT:s.heap.objs.size≠z:=Nat.ne_of_gt (lt z (by simp))
    have I2:aF X pins σ (bj H s.heap.objs.size (.tup [x,y])) {s with heap:=g',toks:=s.toks}:=by
      refine I1.turnedL (t':=s.toks) hf1 fun b o nb e=>?_
      have nb':b≠z∧b≠TI∧b≠TO∧b≠i1∧b≠i2:=by simpa using nb
      refine ge.extBut _ _ nb'.1 ?_
      rcases Heap.get?_push_cases e with ⟨rfl,rfl⟩ | e
      · exact gT
      · exact gk b o nb'.1 nb'.2.2.1 nb'.2.2.2.1 nb'.2.2.2.2 e
    refine⟨.ref s.heap.objs.size,_,I2,rfl,⟨_,x,y,rfl,hT,rfl,fun xs' ys' w1 w2=>?_⟩,⟨gz',ge.extBut _ _ n7 (gk _ _ n7 n8 n9 n10 hI),⟨ux,uy,ge.extBut _ _ n1 gO⟩,g1.at fun o e=>ge.extBut _ _ n2 e,g2.at fun o e=>ge.extBut _ _ n3 e⟩,fun b hb=>(hf1 b hb).1⟩
    rw [I.list_inj w1 q1,I.list_inj w2 q2]
    exact⟨hx,hy⟩
  done:=by
    intro X hP hw hK hc i pins s σ H E I hf st hg
    subst hP hw hK
    obtain⟨xs,ys,q1,q2,hn⟩:=hg
    obtain⟨hz,hI,⟨a,b,hO⟩,u1,u2⟩:=id st
    obtain⟨its1,rv1,p1,z1⟩:=I.list q1
    obtain⟨its2,rv2,p2,z2⟩:=I.list q2
    have fz:=hf z (by simp);have fO:=hf TO (by simp);have f1:=hf i1 (by simp);have f2:=hf i2 (by simp)
    have D:i4 z TI TO i1 i2 l1 l2:=⟨n1,n2,n3,n4,n5,n6,au I fz q1,au I fO q1,au I f1 q1,au I f2 q1,au I fz q2,au I fO q2,au I f1 q2,au I f2 q2⟩
    have e1:=rv1.length
    have e2:=rv2.length
    refine lJ (xs:=its1.toArray) (ys:=its2.toArray) (I.ok.hd hc) (eu i1 l1) (eu i2 l2) D hz hI hO u1 u2 p1.isList p2.isList ?_ fun g gk=>⟨rfl,I.turnedL (t':=s.toks) hf fun b o nb e=>?_⟩
    · rcases hn with hn | hn
      · exact .inl (by simp;lia)
      · exact .inr (by simp;lia)
    · have nb':b≠z∧b≠TI∧b≠TO∧b≠i1∧b≠i2:=by simpa using nb
      exact gk b o nb'.1 nb'.2.2.1 nb'.2.2.2.1 nb'.2.2.2.2 e
  self:=fun A i s Q E st h=>wpAny_pyIter_zip st.1 h
theorem v0(l1 l2:Addr)(xs ys:Array Value):
    Meets (Builtin.«zip.__new__» ⟨[.type "zip",.ref l1,.ref l2],[]⟩) (fun _ R s=>s.heap.IsList l1 xs∧s.heap.IsList l2 ys∧
      R (.ok (.ret (.ref (s.heap.objs.size+4)))) {s with heap:=((((s.heap.push {cls:=.type "list_iterator",data:=.fields #[.ref l1,.int 0 0]}).push {cls:=.type "list_iterator",data:=.fields #[.ref l2,.int 0 0]}).push {cls:=.type "tuple",data:=.seq #[.ref s.heap.objs.size,.ref (s.heap.objs.size+1)]}).push {cls:=.type "tuple",data:=.seq #[.none,.none]}).push {cls:=.type "zip",data:=.fields #[.none,.bool false,.bool false,.ref (s.heap.objs.size+2),.ref (s.heap.objs.size+3)]}}):=
  .of_wp fun prog w A R s h=>by
    obtain⟨hp,g,d,tk,os⟩:=s;obtain⟨t1,t2,h⟩:=h;have sz:=PySem.sub_zip
    have T1:Heap.IsList (Shared.heap ⟨hp,g,d,tk,os⟩) l1 xs:=t1
    have T2:Heap.IsList (Shared.heap ⟨hp.push {cls:=.type "list_iterator",data:=.fields #[.ref l1,.int 0 0]},g,d,tk,os⟩) l2 ys:=Heap.IsList.push t2 _
    wp_walk using wpAny_pyIter_list T1,wpAny_pyIter_list T2
    refine⟨_,rfl,?_⟩
    simp only [Heap.size_push]
    exact h
section
variable{prog:Program}{w:World}{A:Around}{E:Value→Shared→Prop}{s:Shared}
theorem tO{l1 l2:Addr}{xs ys:Array Value}{Q:Value→Shared→Prop}(t1:s.heap.IsList l1 xs)(t2:s.heap.IsList l2 ys)
    (h:∀g,uQ (s.heap.objs.size+4) (s.heap.objs.size+2) (s.heap.objs.size+3) s.heap.objs.size (s.heap.objs.size+1) l1 l2 0 g→(∀c o,s.heap.get? c=some o→g.get? c=some o)→Q (.ref (s.heap.objs.size+4)) {s with heap:=g}):
    wpAny (model prog w) A (call (.type "zip") [.ref l1,.ref l2]) Q E s:=by
  refine callType_new F.called_zip (by decide) (F.typeCall_zip_2 _ _) (F.newCall_zip_2 _ _) (fun obj=>F.args_object_init_3 obj _ _) F.entry_zip_new (v0 l1 l2 xs ys) ⟨t1,t2,?_⟩
  have at5:∀(g:Heap) (o:Obj) (a:Addr),o.isFreed=false→a=g.objs.size→(g.push o).get? a=some o:=fun g o a hf e=>by rw [e];exact Heap.get?_push_size _ hf
  have g5:=at5 ((((s.heap.push {cls:=.type "list_iterator",data:=.fields #[.ref l1,.int 0 0]}).push {cls:=.type "list_iterator",data:=.fields #[.ref l2,.int 0 0]}).push {cls:=.type "tuple",data:=.seq #[.ref s.heap.objs.size,.ref (s.heap.objs.size+1)]}).push {cls:=.type "tuple",data:=.seq #[.none,.none]}) {cls:=.type "zip",data:=.fields #[.none,.bool false,.bool false,.ref (s.heap.objs.size+2),.ref (s.heap.objs.size+3)]} (s.heap.objs.size+4) rfl (by simp only [Heap.size_push])
  have g4:=at5 (((s.heap.push {cls:=.type "list_iterator",data:=.fields #[.ref l1,.int 0 0]}).push {cls:=.type "list_iterator",data:=.fields #[.ref l2,.int 0 0]}).push {cls:=.type "tuple",data:=.seq #[.ref s.heap.objs.size,.ref (s.heap.objs.size+1)]}) {cls:=.type "tuple",data:=.seq #[.none,.none]} (s.heap.objs.size+3) rfl (by simp only [Heap.size_push])
  have g3:=at5 ((s.heap.push {cls:=.type "list_iterator",data:=.fields #[.ref l1,.int 0 0]}).push {cls:=.type "list_iterator",data:=.fields #[.ref l2,.int 0 0]}) {cls:=.type "tuple",data:=.seq #[.ref s.heap.objs.size,.ref (s.heap.objs.size+1)]} (s.heap.objs.size+2) rfl (by simp only [Heap.size_push])
  have g2:=at5 (s.heap.push {cls:=.type "list_iterator",data:=.fields #[.ref l1,.int 0 0]}) {cls:=.type "list_iterator",data:=.fields #[.ref l2,.int 0 0]} (s.heap.objs.size+1) rfl (by simp only [Heap.size_push])
  have g1:=at5 s.heap {cls:=.type "list_iterator",data:=.fields #[.ref l1,.int 0 0]} s.heap.objs.size rfl rfl
  have up:∀{g:Heap} {a:Addr} {u:Obj} (o:Obj),g.get? a=some u→(g.push o).get? a=some u:=fun o e=>Heap.get?_push_of_some o e
  refine⟨⟨_,g5,rfl⟩,h _ ⟨g5,up _ (up _ g3),⟨_,_,up _ g4⟩,⟨_,up _ (up _ (up _ (up _ g1))),rfl,rfl⟩,⟨_,up _ (up _ (up _ g2)),rfl,rfl⟩⟩ fun c o x=>up _ (up _ (up _ (up _ (up _ x))))⟩
end
def BI(K:PySem.W.Frag)(ta:TA):TI:=fun σ H R=>ta σ H fun vs H1=>∃a b,vs=[.ref a,.ref b]∧(∃xs,cX K H1 a xs)∧(∃ys,cX K H1 b ys)∧R (AK K a b) H1
theorem xQ{X:Cx}{K:PySem.W.Frag}{es:List Expr}{k0:Nat}{tp:Pos}{a b:Expr}{ta:TA}{p pos:Pos}(hK:X.K=K)(hg:Gl X "zip")(hm:X.mg "zip"=none)(ha:PA X [a,b] ta)(hs:starEach [a,b] X.env=[(false,eval a X.env),(false,eval b X.env)]:=by rfl)(hs2:starEach [b] X.env=[(false,eval b X.env)]:=by rfl):
    PI X (.Tuple es k0 tp) (.Call (.Name "zip" p) [a,b] [] pos) (BI K ta):=by
  intro pins s σ H R I h
  subst hK
  refine Call_ (gj I hg hm kJ (PyProof.Rows.callWith_type1 (ci (ha pos pins s σ H _ I h) fun us s1 ⟨vs,H1,I1,r1,q1⟩=>?_) (by rw [hs,hs2]) (by rw [hs2];rfl)))
  obtain⟨a,b,e,⟨xs,qx⟩,⟨ys,qy⟩,q⟩:=q1
  subst e
  cases r1 with
  | cons r rr=>
    cases rr with
    | cons r' rr=>
      cases rr
      cases r
      cases r'
      obtain⟨i1,v1,p1,_⟩:=I1.list qx
      obtain⟨i2,v2,p2,_⟩:=I1.list qy
      refine tO p1.isList p2.isList fun g st hk=>wpAny_pyIter_zip st.1 ?_
      have I2:aF X pins σ H1 {s1 with heap:=g,toks:=s1.toks}:=I1.kept (t':=s1.toks) fun b o e=>hk b o e
      refine⟨s1.heap.objs.size+4,[s1.heap.objs.size+4,s1.heap.objs.size+2,s1.heap.objs.size+3,s1.heap.objs.size,s1.heap.objs.size+1],_,_,H1,rfl,I2,tL a b (show((s1.heap.objs.size+3:Nat)≠s1.heap.objs.size+4) by lia) (show((s1.heap.objs.size:Nat)≠s1.heap.objs.size+4) by lia) (show((s1.heap.objs.size+1:Nat)≠s1.heap.objs.size+4) by lia) (show((s1.heap.objs.size+3:Nat)≠s1.heap.objs.size) by lia) (show((s1.heap.objs.size+3:Nat)≠s1.heap.objs.size+1) by lia) (show((s1.heap.objs.size:Nat)≠s1.heap.objs.size+1) by lia) (show((s1.heap.objs.size+2:Nat)≠s1.heap.objs.size+4) by lia) (show((s1.heap.objs.size+2:Nat)≠s1.heap.objs.size+3) by lia) (show((s1.heap.objs.size+2:Nat)≠s1.heap.objs.size) by lia) (show((s1.heap.objs.size+2:Nat)≠s1.heap.objs.size+1) by lia),st,fun c hc=>?_,q⟩
      have le:s1.heap.objs.size≤c:=by
        simp only [List.mem_cons,List.not_mem_nil,or_false] at hc
        rcases hc with rfl | rfl | rfl | rfl | rfl
        · exact Nat.le_add_right _ 4
        · exact Nat.le_add_right _ 2
        · exact Nat.le_add_right _ 3
        · exact Nat.le_refl _
        · exact Nat.le_add_right _ 1
      have f:=I1.fpOk (H':=H1) le (I1.hok.fresh le)
      exact f
end L2
namespace L2
open PySem PySem.Spec PyProof.Rows
end L2
namespace L2
open PySem PySem.Spec PyProof.Rows
mutual
def DA(K:PySem.W.Frag)(F:Hp):PyData→V→Prop
  | .none,v=>v=.non
  | .bool b,v=>v=.bl b
  | .int i,v=>v=.int i
  | .str x,v=>v=.str x
  | .tuple ds,v=>∃a xs,v=.ref a∧cg K F a xs∧aL K F ds xs
  | .list ds,v=>∃a xs,v=.ref a∧cX K F a xs∧aL K F ds xs
  | .dict kvs,v=>∃(a:Addr) (m:List (Int × Int)),v=.ref a∧F a=some (.dK (m.map fun p=>(Sum.inl p.1,V.int p.2)))∧kvs=m.map fun p=>(PyData.int p.1,PyData.int p.2)
def aL(K:PySem.W.Frag)(F:Hp):List PyData→List V→Prop
  | [],xs=>xs=[]
  | d::ds,xs=>∃x r,xs=x::r∧DA K F d x∧aL K F ds r
end
mutual
theorem DA.mono{K:PySem.W.Frag}{F F':Hp}(h:av F F'):∀{d:PyData} {v:V},DA K F d v→DA K F' d v
  | .none,_,q=>by simp only [DA] at q ⊢;exact q
  | .bool b,_,q=>by simp only [DA] at q ⊢;exact q
  | .int i,_,q=>by simp only [DA] at q ⊢;exact q
  | .str x,_,q=>by simp only [DA] at q ⊢;exact q
  | .tuple ds,_,q=>by
    simp only [DA] at q ⊢
    obtain⟨a,xs,e,s,r⟩:=q
    exact⟨a,xs,e,h.tup s,aL.mono h r⟩
  | .list ds,_,q=>by
    simp only [DA] at q ⊢
    obtain⟨a,xs,e,s,r⟩:=q
    exact⟨a,xs,e,h.seq s,aL.mono h r⟩
  | .dict _,_,q=>by
    simp only [DA] at q ⊢
    obtain⟨a,m,e,s,k⟩:=q
    exact⟨a,m,e,h _ _ s,k⟩
theorem aL.mono{K:PySem.W.Frag}{F F':Hp}(h:av F F'):∀{ds:List PyData} {xs:List V},aL K F ds xs→aL K F' ds xs
  | [],_,q=>by simp only [aL] at q ⊢;exact q
  | d::ds,_,q=>by
    simp only [aL] at q ⊢
    obtain⟨x,r,e,a,b⟩:=q
    exact⟨x,r,e,DA.mono h a,aL.mono h b⟩
end
section
variable{K:PySem.W.Frag}{F:Hp}
theorem aL.len:∀{ds:List PyData} {xs:List V},aL K F ds xs→ds.length=xs.length
  | [],_,q=>by simp only [aL] at q;subst q;rfl
  | d::ds,_,q=>by
    simp only [aL] at q
    obtain⟨x,r,e,a,b⟩:=q
    subst e
    simp [aL.len b]
theorem aL.get:∀{ds:List PyData} {xs:List V} {i:Nat} {d:PyData},aL K F ds xs→ds[i]?=some d→∃v,xs[i]?=some v∧DA K F d v
  | [],_,_,_,_,h=>by simp at h
  | d::ds,_,i,d',q,h=>by
    simp only [aL] at q
    obtain⟨x,r,e,a,b⟩:=q
    subst e
    cases i with
    | zero=>simp at h;subst h;exact⟨x,rfl,a⟩
    | succ i=>
      obtain⟨v,h1,h2⟩:=aL.get (i:=i) b (by simpa using h)
      exact⟨v,by simpa using h1,h2⟩
theorem aL.append:∀{ds es:List PyData} {xs ys:List V},aL K F ds xs→aL K F es ys→aL K F (ds++es) (xs++ys)
  | [],_,_,_,q,s=>by simp only [aL] at q;subst q;simpa using s
  | d::ds,es,_,ys,q,s=>by
    simp only [aL] at q
    obtain⟨x,r,e,a,b⟩:=q
    subst e
    simp only [List.cons_append,aL]
    exact⟨x,_,rfl,a,aL.append b s⟩
theorem aL.one{d:PyData}{v:V}(h:DA K F d v):aL K F [d] [v]:=by simp only [aL];exact⟨_,_,rfl,h,rfl⟩
theorem aL.nil:aL K F [] []:=by simp only [aL]
theorem aL.cons{d:PyData}{v:V}{ds:List PyData}{vs:List V}(h:DA K F d v)(r:aL K F ds vs):aL K F (d::ds) (v::vs):=by simp only [aL];exact⟨_,_,rfl,h,r⟩
theorem aL.drop:∀{ds:List PyData} {xs:List V} (n:Nat),aL K F ds xs→aL K F (ds.drop n) (xs.drop n)
  | _,_,0,q=>q
  | [],_,n+1,q=>by simp only [aL] at q;subst q;exact aL.nil
  | d::ds,_,n+1,q=>by
    simp only [aL] at q
    obtain⟨x,r,e,a,b⟩:=q
    subst e
    simpa using aL.drop n b
theorem aL.take:∀{ds:List PyData} {xs:List V} (n:Nat),aL K F ds xs→aL K F (ds.take n) (xs.take n)
  | _,_,0,q=>by simpa using aL.nil
  | [],_,n+1,q=>by simp only [aL] at q;subst q;exact aL.nil
  | d::ds,_,n+1,q=>by
    simp only [aL] at q
    obtain⟨x,r,e,a,b⟩:=q
    subst e
    simpa using aL.cons a (aL.take n b)
theorem aL.set{d:PyData}{v:V}(h:DA K F d v):∀{ds:List PyData} {xs:List V} (n:Nat),aL K F ds xs→aL K F (ds.set n d) (xs.set n v)
  | [],_,_,q=>by simp only [aL] at q;subst q;exact aL.nil
  | e::ds,_,n,q=>by
    simp only [aL] at q
    obtain⟨x,r,e,a,b⟩:=q
    subst e
    cases n with
    | zero=>exact aL.cons h b
    | succ n=>exact aL.cons a (aL.set h n b)
theorem aL.erase:∀{ds:List PyData} {xs:List V} (n:Nat),aL K F ds xs→aL K F (ds.eraseIdx n) (xs.eraseIdx n)
  | [],_,_,q=>by simp only [aL] at q;subst q;exact aL.nil
  | e::ds,_,n,q=>by
    simp only [aL] at q
    obtain⟨x,r,e,a,b⟩:=q
    subst e
    cases n with
    | zero=>exact b
    | succ n=>exact aL.cons a (aL.erase n b)
theorem aL.ints:∀{ns:List Int} {xs:List V},aL K F (ns.map .int) xs↔ xs=ns.map V.int
  | [],xs=>by simp [aL]
  | n::ns,xs=>by
    simp only [List.map_cons,aL,DA]
    constructor
    · rintro⟨x,r,e,rfl,q⟩;rw [e,aL.ints.mp q]
    · rintro rfl;exact⟨_,_,rfl,rfl,aL.ints.mpr rfl⟩
theorem aL.bools:∀{ns:List Bool} {xs:List V},aL K F (ns.map .bool) xs↔ xs=ns.map V.bl
  | [],xs=>by simp [aL]
  | n::ns,xs=>by
    simp only [List.map_cons,aL,DA]
    constructor
    · rintro⟨x,r,e,rfl,q⟩;rw [e,aL.bools.mp q]
    · rintro rfl;exact⟨_,_,rfl,rfl,aL.bools.mpr rfl⟩
theorem bT{i:Int}{v:V}:DA K F (.int i) v↔ v=.int i:=by simp only [DA]
theorem dI{b:Bool}{v:V}:DA K F (.bool b) v↔ v=.bl b:=by simp only [DA]
theorem jN{v:V}:DA K F .none v↔ v=.non:=by simp only [DA]
theorem wJ{x:Str}{v:V}:DA K F (.str x) v↔ v=.str x:=by simp only [DA]
theorem dJ{ds:List PyData}{v:V}:DA K F (.tuple ds) v↔ ∃a xs,v=.ref a∧cg K F a xs∧aL K F ds xs:=by simp only [DA]
theorem cK{ds:List PyData}{v:V}:DA K F (.list ds) v↔ ∃a xs,v=.ref a∧cX K F a xs∧aL K F ds xs:=by simp only [DA]
end
inductive Sv where
  | d (x:PyData)
  | l (xs:List PyData)
  /-- a list of lists that nobody else holds -/
  | n (xss:List (List PyData))
abbrev En:=List (Option Sv)
inductive Rv where
  | d (x:PyData)
  | l (xs:List PyData)
  | s (i:Nat)
def Fp(σ:L2.St)(e:En)(H:Hp)(i:Nat)(a:Addr):Prop:=(∃xs:List PyData,e[i]?=some (some (Sv.l xs))∧σ[i]?=some (some (.ref a)))∨
  ∃(xss:List (List PyData)) (l:Addr) (bs:List Addr),e[i]?=some (some (Sv.n xss))∧σ[i]?=some (some (.ref l))∧H l=some (.lst (bs.map V.ref))∧(a=l∨a∈bs)
def cQ(σ:L2.St)(e:En)(H:Hp)(a:Addr):Prop:=∃i,Fp σ e H i a
structure a_ (K:PySem.W.Frag) (F H:Hp) (σ:L2.St) (e:En):Prop where
  sm:av F H
  len:σ.length=e.length
  dat:∀(i:Nat) (x:PyData),e[i]?=some (some (.d x))→∃v,σ[i]?=some (some v)∧DA K F x v
  own:∀(i:Nat) (xs:List PyData),e[i]?=some (some (.l xs))→∃l vs,σ[i]?=some (some (.ref l))∧F l=none∧H l=some (.lst vs)∧aL K F xs vs
  nst:∀(i:Nat) (xss:List (List PyData)),e[i]?=some (some (.n xss))→∃(l:Addr) (bs:List Addr),σ[i]?=some (some (.ref l))∧F l=none∧H l=some (.lst (bs.map V.ref))∧bs.length=xss.length∧bs.Nodup∧l∉bs∧
    ∀(k:Nat) (b:Addr) (ys:List PyData),bs[k]?=some b→xss[k]?=some ys→F b=none∧∃us,H b=some (.lst us)∧aL K F ys us
  fp:∀(i j:Nat) (a:Addr),Fp σ e H i a→Fp σ e H j a→i=j
theorem a_.inj{K:PySem.W.Frag}{F H:Hp}{σ:L2.St}{e:En}(R:a_ K F H σ e)(i j:Nat)(xs ys:List PyData)(l:Addr)(h1:e[i]?=some (some (.l xs)))(h2:e[j]?=some (some (.l ys)))(h3:σ[i]?=some (some (.ref l)))(h4:σ[j]?=some (some (.ref l))):i=j:=R.fp i j l (.inl ⟨xs,h1,h3⟩) (.inl ⟨ys,h2,h4⟩)
theorem a_.fpAt{K:PySem.W.Frag}{F H:Hp}{σ:L2.St}{e:En}(R:a_ K F H σ e){i:Nat}{a:Addr}(h:Fp σ e H i a):F a=none∧∃vs,H a=some (.lst vs):=by
  rcases h with ⟨xs,h1,h2⟩ | ⟨xss,l,bs,h1,h2,h3,h4⟩
  · obtain⟨l,vs,g1,g2,g3,_⟩:=R.own i xs h1
    rw [h2] at g1;cases g1
    exact⟨g2,vs,g3⟩
  · obtain⟨l',bs',g1,g2,g3,g4,g5,g6,g7⟩:=R.nst i xss h1
    rw [h2] at g1;cases g1
    rw [h3] at g3
    have e1:bs=bs':=by
      have:=HO.lst.inj (Option.some.inj g3)
      exact List.map_inj_right (fun _ _ z=>V.ref.inj z) |>.mp this
    subst e1
    rcases h4 with rfl | h4
    · exact⟨g2,_,h3⟩
    · obtain⟨k,hk⟩:=List.getElem?_of_mem h4
      have hk2:k < xss.length:=by rw [←g4];exact(List.getElem?_eq_some_iff.mp hk).1
      obtain⟨c1,us,c2,_⟩:=g7 k a xss[k] hk (List.getElem?_eq_getElem hk2)
      exact⟨c1,us,c2⟩
structure d9 (σ:L2.St) (F H:Hp) (e:En) (F' H':Hp) (e':En):Prop where
  sf:av F F'
  dom:∀a,H' a=none→H a=none
  fr:∀a vs,F a=none→H a=some (.lst vs)→¬cQ σ e H a→F' a=none
  lst:∀a vs,H a=some (.lst vs)→∃vs',H' a=some (.lst vs')
  tmp:∀a o,H a=some o→¬cQ σ e H a→H' a=some o
  shp:∀i:Nat,(∃xs,e'[i]?=some (some (.l xs)))↔ (∃xs,e[i]?=some (some (.l xs)))
  ow:∀a,cQ σ e' H' a→cQ σ e H a∨H a=none
theorem d9.refl(σ:L2.St)(F H:Hp)(e:En):d9 σ F H e F H e:=⟨av.refl _,fun _ h=>h,fun _ _ h _ _=>h,fun _ vs h=>⟨vs,h⟩,fun _ _ h _=>h,fun _=>Iff.rfl,fun _ h=>.inl h⟩
theorem d9.trans{σ:L2.St}{F H F1 H1 F2 H2:Hp}{e e1 e2:En}(x:d9 σ F H e F1 H1 e1)(y:d9 σ F1 H1 e1 F2 H2 e2):d9 σ F H e F2 H2 e2:=
  ⟨x.sf.trans y.sf,fun a h=>x.dom a (y.dom a h),fun a vs h n no=>let ⟨vs',q⟩:=x.lst a vs n;y.fr a vs' (x.fr a vs h n no) q (fun z=>(x.ow a z).elim no fun z=>by rw [n] at z;cases z),fun a vs h=>let ⟨vs',q⟩:=x.lst a vs h;y.lst a vs' q,
    fun a o h n=>y.tmp a o (x.tmp a o h n) (fun z=>(x.ow a z).elim n fun z=>by rw [h] at z;cases z),fun i=>(y.shp i).trans (x.shp i),fun a h=>(y.ow a h).elim (x.ow a) fun z=>.inr (x.dom a z)⟩
def cn(K:PySem.W.Frag)(σ:L2.St)(H0 F H:Hp)(e:En):Rv→V→Prop
  | .d x,v=>DA K F x v
  | .l xs,v=>∃l vs,v=.ref l∧H0 l=none∧F l=none∧H l=some (.lst vs)∧aL K F xs vs∧¬cQ σ e H l
  | .s i,v=>σ[i]?=some (some v)∧∃xs,e[i]?=some (some (.l xs))
section
variable{K:PySem.W.Frag}{σ:L2.St}{H0 F H F' H':Hp}{e e':En}{r:Rv}{v:V}
theorem cn.ext(h:cn K σ H0 F H e r v)(x:d9 σ F H e F' H' e'):cn K σ H0 F' H' e' r v:=by
  cases r with
  | d y=>exact DA.mono x.sf h
  | l xs=>
    obtain⟨l,vs,e1,h1,h2,h3,h4,h5⟩:=h
    exact⟨l,vs,e1,h1,x.fr l _ h2 h3 h5,x.tmp l _ h3 h5,aL.mono x.sf h4,fun z=>(x.ow l z).elim h5 fun z=>by rw [h3] at z;cases z⟩
  | s i=>exact⟨h.1,(x.shp i).mpr h.2⟩
theorem cn.weak{H1:Hp}(h:cn K σ H1 F H e r v)(d:∀a,H1 a=none→H0 a=none):cn K σ H0 F H e r v:=by
  cases r with
  | d y=>exact h
  | l xs=>
    obtain⟨l,vs,e1,h1,r⟩:=h
    exact⟨l,vs,e1,d l h1,r⟩
  | s i=>exact h
theorem a_.ownH(R:a_ K F H σ e)(a:Addr)(h:cQ σ e H a):H a≠none:=by
  obtain⟨i,h⟩:=h
  obtain⟨_,vs,h2⟩:=R.fpAt h
  rw [h2];simp
theorem a_.freeF(R:a_ K F H σ e){p:Addr}(hp:H p=none):F p=none:=R.sm.free hp
theorem y8(R:a_ K F H σ e)(h:∀l bs,H l=some (.lst bs)→cQ σ e H l→H' l=some (.lst bs)){i:Nat}{a:Addr}:Fp σ e H' i a↔ Fp σ e H i a:=by
  have key:∀xss l,e[i]?=some (some (.n xss))→σ[i]?=some (some (.ref l))→H' l=H l:=fun xss l h1 h2=>by
    obtain⟨l',bs,g1,g2,g3,_⟩:=R.nst i xss h1
    rw [h2] at g1;cases g1
    rw [g3]
    exact h l _ g3 ⟨i,.inr ⟨xss,l,bs,h1,h2,g3,.inl rfl⟩⟩
  constructor
  · rintro(h1 | ⟨xss,l,bs,h1,h2,h3,h4⟩)
    · exact .inl h1
    · exact .inr ⟨xss,l,bs,h1,h2,by rw [←key xss l h1 h2];exact h3,h4⟩
  · rintro(h1 | ⟨xss,l,bs,h1,h2,h3,h4⟩)
    · exact .inl h1
    · exact .inr ⟨xss,l,bs,h1,h2,by rw [key xss l h1 h2];exact h3,h4⟩
theorem a_.keep(R:a_ K F H σ e)(sF:av F F')(sm:av F' H')(hf:∀a,cQ σ e H a→F' a=none)(hh:∀a o,cQ σ e H a→H a=some o→H' a=some o):a_ K F' H' σ e∧∀a,cQ σ e H' a↔ cQ σ e H a:=by
  have fs:∀{i a},Fp σ e H' i a↔ Fp σ e H i a:=fun{i a}=>y8 R fun l bs h1 h2=>hh l _ h2 h1
  refine⟨⟨sm,R.len,fun i x h=>let ⟨v,h1,h2⟩:=R.dat i x h;⟨v,h1,DA.mono sF h2⟩,fun i xs h=>?_,fun i xss h=>?_,fun i j a h1 h2=>R.fp i j a (fs.mp h1) (fs.mp h2)⟩,fun a=>⟨fun⟨i,h⟩=>⟨i,fs.mp h⟩,fun⟨i,h⟩=>⟨i,fs.mpr h⟩⟩⟩
  · obtain⟨l,vs,h1,h2,h3,h4⟩:=R.own i xs h
    have o:cQ σ e H l:=⟨i,.inl ⟨xs,h,h1⟩⟩
    exact⟨l,vs,h1,hf l o,hh l _ o h3,h4.mono sF⟩
  · obtain⟨l,bs,h1,h2,h3,h4,h5,h6,h7⟩:=R.nst i xss h
    have o:cQ σ e H l:=⟨i,.inr ⟨xss,l,bs,h,h1,h3,.inl rfl⟩⟩
    refine⟨l,bs,h1,hf l o,hh l _ o h3,h4,h5,h6,fun k b ys g1 g2=>?_⟩
    obtain⟨c1,us,c2,c3⟩:=h7 k b ys g1 g2
    have ob:cQ σ e H b:=⟨i,.inr ⟨xss,l,bs,h,h1,h3,.inr (List.mem_of_getElem? g1)⟩⟩
    exact⟨hf b ob,us,hh b _ ob c2,c3.mono sF⟩
theorem a_.same(R:a_ K F H σ e)(s:av H H'):a_ K F H' σ e∧d9 σ F H e F H' e:=by
  obtain⟨R',o'⟩:=R.keep (av.refl F) (R.sm.trans s) (fun a ⟨i,h⟩=>(R.fpAt h).1) fun a o _ h=>s a o h
  exact⟨R',⟨av.refl _,fun a h=>s.free h,fun _ _ h _ _=>h,fun a vs h=>⟨vs,s _ _ h⟩,fun a o h _=>s a o h,fun _=>Iff.rfl,fun a h=>.inl ((o' a).mp h)⟩⟩
theorem a_.freeze(R:a_ K F H σ e){p:Addr}{o:HO}(hF:F p=none)(hp:H p=some o)(hn:¬cQ σ e H p):a_ K (bj F p o) H σ e∧av F (bj F p o):=by
  have sF:av F (bj F p o):=av.new hF
  refine⟨(R.keep sF (fun b u q=>?_) (fun a ha=>?_) fun _ _ _ h=>h).1,sF⟩
  · by_cases z:b=p
    · subst z;rw [ax] at q;cases q;exact hp
    · rw [aA z] at q;exact R.sm _ _ q
  · obtain⟨i,hi⟩:=ha
    have z:a≠p:=fun z=>hn ⟨i,by rw [←z];exact hi⟩
    rw [aA z];exact(R.fpAt hi).1
theorem a_.notOwn(R:a_ K F H σ e){p:Addr}{o:HO}(hp:H p=some o)(hl:∀vs,o≠.lst vs):¬cQ σ e H p:=fun⟨i,h⟩=>by
  obtain⟨_,vs,g⟩:=R.fpAt h
  rw [hp] at g;cases g
  exact hl _ rfl
theorem a_.newT(R:a_ K F H σ e){p:Addr}{vs:List V}(hp:H p=none):a_ K (bj F p (.tup vs)) (bj H p (.tup vs)) σ e∧d9 σ F H e (bj F p (.tup vs)) (bj H p (.tup vs)) e:=by
  have hF:=R.freeF hp
  obtain⟨R1,X1⟩:=R.same (av.new hp (o:=.tup vs))
  obtain⟨R2,s2⟩:=R1.freeze (p:=p) hF ax (R1.notOwn ax (fun _ z=>nomatch z))
  refine⟨R2,⟨s2,X1.dom,fun a ws h n _=>?_,X1.lst,X1.tmp,X1.shp,X1.ow⟩⟩
  have z:a≠p:=fun z=>by rw [z,hp] at n;cases n
  rw [aA z];exact h
theorem a_.sameOwn(R:a_ K F H σ e)(s:av H H')(a:Addr):cQ σ e H' a↔ cQ σ e H a:=(R.keep (av.refl F) (R.sm.trans s) (fun a ⟨i,h⟩=>(R.fpAt h).1) fun a o _ h=>s a o h).2 a
theorem a_.newL(R:a_ K F H σ e){p:Addr}{vs:List V}(hp:H p=none):a_ K F (bj H p (.lst vs)) σ e∧d9 σ F H e F (bj H p (.lst vs)) e∧F p=none∧¬cQ σ e (bj H p (.lst vs)) p:=
  ⟨(R.same (av.new hp)).1,(R.same (av.new hp)).2,R.freeF hp,fun z=>R.ownH p ((R.sameOwn (av.new hp) p).mp z) hp⟩
theorem a_.growT(R:a_ K F H σ e){p:Addr}{xs:List V}(s:av H H')(hp:cg K H' p xs):∃F',a_ K F' H' σ e∧d9 σ F H e F' H' e∧cg K F' p xs:=by
  obtain⟨R1,X1⟩:=R.same s
  rcases hp with hp | hp
  · have key:∀o,H' p=some o→(∀vs,o≠.lst vs)→(∀G:Hp,G p=some o→Rd G p (.tup xs))→∃F',a_ K F' H' σ e∧d9 σ F H e F' H' e∧cg K F' p xs:=by
      intro o ho hl hr
      cases q:F p with
      | some u=>
        have:=R1.sm _ _ q
        rw [ho] at this;cases this
        exact⟨F,R1,X1,.inl (hr F q)⟩
      | none=>
        obtain⟨R2,s2⟩:=R1.freeze q ho (R1.notOwn ho hl)
        refine⟨_,R2,⟨s2,X1.dom,fun a ws h n _=>?_,X1.lst,X1.tmp,X1.shp,X1.ow⟩,.inl (hr _ ax)⟩
        have z:a≠p:=fun z=>by rw [z] at n;rw [s _ _ n] at ho;cases ho;exact hl _ rfl
        rw [aA z];exact h
    rcases hp with hp | ⟨ob,hp⟩
    · exact key _ hp (fun _ z=>nomatch z) fun G g=>.inl g
    · exact key _ hp (fun _ z=>nomatch z) fun G g=>.inr ⟨ob,g⟩
  · exact⟨F,R1,X1,.inr hp⟩
theorem cn.frozen(R:a_ K F H σ e){xs:List PyData}(h:cn K σ H0 F H e (.l xs) v):∃F',a_ K F' H σ e∧av F F'∧DA K F' (.list xs) v∧(∀a,F a=none→H0 a≠none→F' a=none):=by
  obtain⟨l,vs,rfl,h1,h2,h3,h4,h5⟩:=h
  obtain⟨R2,s2⟩:=R.freeze h2 h3 h5
  refine⟨_,R2,s2,?_,fun a ha hn=>?_⟩
  · rw [cK]
    exact⟨l,vs,rfl,.inl (.inl ax),aL.mono s2 h4⟩
  · have z:a≠l:=fun z=>hn (by rw [z];exact h1)
    rw [aA z];exact ha
def el(e:En):Rv→Option (Bool × List PyData)
  | .d (.tuple xs)=>some (false,xs)
  | .d (.list xs)=>some (true,xs)
  | .l xs=>some (true,xs)
  | .s i=>match e[i]? with
    | some (some (.l xs))=>some (true,xs)
    | _=>none
  | _=>none
theorem dY(R:a_ K F H σ e)(h:cn K σ H0 F H e r v){b:Bool}{xs:List PyData}(q:el e r=some (b,xs)):
    ∃p vs,v=.ref p∧aL K F xs vs∧(if b=true then cX K H p vs else cg K H p vs):=by
  cases r with
  | d x=>
    cases x with
    | tuple ds=>
      cases q
      obtain⟨a,ys,e1,e2,e3⟩:=dJ.mp h
      exact⟨a,ys,e1,e3,R.sm.tup e2⟩
    | list ds=>
      cases q
      obtain⟨a,ys,e1,e2,e3⟩:=cK.mp h
      exact⟨a,ys,e1,e3,R.sm.seq e2⟩
    | _=>cases q
  | l ys=>
    cases q
    obtain⟨l,vs,e1,h1,h2,h3,h4,_⟩:=h
    exact⟨l,vs,e1,h4,.inl (.inl h3)⟩
  | s i=>
    obtain⟨h1,ys,h2⟩:=h
    simp only [el,h2] at q
    cases q
    obtain⟨l,vs,e1,e2,e3,e4⟩:=R.own i _ h2
    rw [h1] at e1;cases e1
    exact⟨l,vs,rfl,e4,.inl (.inl e3)⟩
end
end L2
namespace L2
open PySem PySem.Spec PyProof.Rows
abbrev FE:=En→Option (Rv × En)
abbrev FT:=En→Option (Bool × En)
abbrev FA:=En→Option (List Rv × En)
def cH(K:PySem.W.Frag)(σ:L2.St)(H0 F H:Hp)(e:En):List Rv→List V→Prop
  | [],vs=>vs=[]
  | r::rs,vs=>∃v ws,vs=v::ws∧cn K σ H0 F H e r v∧cH K σ H0 F H e rs ws
def fE(K:PySem.W.Frag)(f:FE):TE:=fun σ H Q=>∃F e r e',a_ K F H σ e∧f e=some (r,e')∧∀F' H' v,d9 σ F H e F' H' e'→a_ K F' H' σ e'→cn K σ H F' H' e' r v→Q v H'
def fT(K:PySem.W.Frag)(f:FT):TT:=fun σ H Q=>∃F e b e',a_ K F H σ e∧f e=some (b,e')∧∀F' H',d9 σ F H e F' H' e'→a_ K F' H' σ e'→Q b H'
def fA(K:PySem.W.Frag)(f:FA):TA:=fun σ H Q=>∃F e rs e',a_ K F H σ e∧f e=some (rs,e')∧∀F' H' vs,d9 σ F H e F' H' e'→a_ K F' H' σ e'→cH K σ H F' H' e' rs vs→Q vs H'
theorem PE.mono{X:Cx}{e:Expr}{t t':TE}(h:PE X e t)(m:∀σ H Q,t' σ H Q→t σ H Q):PE X e t':=fun pins s σ H Q I q=>h pins s σ H Q I (m σ H Q q)
theorem PT.mono{X:Cx}{e:Expr}{t t':TT}(h:PT X e t)(m:∀σ H Q,t' σ H Q→t σ H Q):PT X e t':=fun pins s σ H Q I q=>h pins s σ H Q I (m σ H Q q)
theorem PW.mono{X:Cx}{e:Expr}{t t':TT}(h:PW X e t)(m:∀σ H Q,t' σ H Q→t σ H Q):PW X e t':=fun wh pins s σ H Q I q=>h wh pins s σ H Q I (m σ H Q q)
theorem PA.mono{X:Cx}{es:List Expr}{t t':TA}(h:PA X es t)(m:∀σ H Q,t' σ H Q→t σ H Q):PA X es t':=fun pos pins s σ H Q I q=>h pos pins s σ H Q I (m σ H Q q)
section
variable{K:PySem.W.Frag}{σ:L2.St}{H0 F H F' H':Hp}{e e':En}
theorem cH.weak{H1:Hp}(d:∀a,H1 a=none→H0 a=none):∀{rs:List Rv} {vs:List V},cH K σ H1 F H e rs vs→cH K σ H0 F H e rs vs
  | [],_,h=>h
  | r::rs,_,h=>by
    obtain⟨v,ws,rfl,h1,h2⟩:=h
    exact⟨v,ws,rfl,h1.weak d,cH.weak d h2⟩
theorem d9.frz{F'':Hp}(x:d9 σ F H e F' H' e')(s:av F' F'')(h:∀a,F' a=none→H a≠none→F'' a=none):d9 σ F H e F'' H' e':=
  ⟨x.sf.trans s,x.dom,fun a vs h1 h2 h3=>h a (x.fr a vs h1 h2 h3) (by rw [h2];simp),x.lst,x.tmp,x.shp,x.ow⟩
def gg:List Rv→Option (List PyData)
  | []=>some []
  | .d x::rs=>(gg rs).map (x::·)
  | .l xs::rs=>(gg rs).map (.list xs::·)
  | .s _::_=>none
theorem cH.frozen:∀{rs:List Rv} {vs:List V} {ds:List PyData} {F:Hp},a_ K F H σ e→cH K σ H0 F H e rs vs→gg rs=some ds→
    ∃F',a_ K F' H σ e∧av F F'∧aL K F' ds vs∧(∀a,F a=none→H0 a≠none→F' a=none)
  | [],_,_,F,R,h,q=>by
    cases q
    have h':_=[]:=h
    subst h'
    exact⟨F,R,av.refl _,aL.nil,fun _ h _=>h⟩
  | .d x::rs,_,ds,F,R,h,q=>by
    obtain⟨v,ws,rfl,h1,h2⟩:=h
    obtain⟨ds',q1,rfl⟩:=Option.map_eq_some_iff.mp q
    obtain⟨F',R',s',d',f'⟩:=cH.frozen R h2 q1
    exact⟨F',R',s',.cons (DA.mono s' h1) d',f'⟩
  | .l xs::rs,_,ds,F,R,h,q=>by
    obtain⟨v,ws,rfl,h1,h2⟩:=h
    obtain⟨ds',q1,rfl⟩:=Option.map_eq_some_iff.mp q
    obtain⟨F',R',s',d',f'⟩:=cH.frozen R h2 q1
    obtain⟨l,us,rfl,g1,g2,g3,g4,g5⟩:=h1
    cases hl:F' l with
    | none=>
      have h1':cn K σ H0 F' H e (.l xs) (.ref l):=⟨l,us,rfl,g1,hl,g3,aL.mono s' g4,g5⟩
      obtain⟨F2,R2,s2,d2,f2⟩:=h1'.frozen R'
      exact⟨F2,R2,s'.trans s2,.cons d2 (aL.mono s2 d'),fun a ha hn=>f2 a (f' a ha hn) hn⟩
    | some o=>
      have:=R'.sm _ _ hl
      rw [g3] at this;cases this
      exact⟨F',R',s',.cons (cK.mpr ⟨l,us,rfl,.inl (.inl hl),aL.mono s' g4⟩) d',f'⟩
end
section
variable{X:Cx}{K:PySem.W.Frag}{a b c:Expr}{fa fb:FE}{ft fu:FT}{pos:Pos}{es:List Expr}{fs:FA}
def ac(i:Nat):FE:=fun e=>match e[i]? with
  | some (some (.d x))=>some (.d x,e)
  | some (some (.l _))=>some (.s i,e)
  | _=>none
def vC(x:PyData):FE:=fun e=>some (.d x,e)
theorem AB{i:Nat}{σ:L2.St}{H:Hp}{Q:VK}(h:fE K (ac i) σ H Q):EA i σ H Q:=by
  obtain⟨F,e,r,e',R,hf,q⟩:=h
  unfold ac at hf
  match h1:e[i]?,hf with
  | some (some (.d x)),hf=>
    cases hf
    obtain⟨v,h2,h3⟩:=R.dat i x h1
    exact⟨v,h2,q F H v (d9.refl _ _ _ _) R h3⟩
  | some (some (.n _)),hf=>cases hf
  | some (some (.l xs)),hf=>
    cases hf
    obtain⟨l,vs,h2,h3⟩:=R.own i xs h1
    exact⟨_,h2,q F H _ (d9.refl _ _ _ _) R ⟨h2,xs,h1⟩⟩
  | some none,hf=>cases hf
  | none,hf=>cases hf
theorem qv(i:Nat){x:Str}{pos:Pos}(hN:X.N[i]?=some x)(hv:yL X.env.scope x)(hd:(x==("__debug__":Str))=false)(hcd:(x==("__classdict__":Str))=false):PE X (.Name x pos) (fE K (ac i)):=(lR hN hv hd hcd).mono fun _ _ _ h=>AB h
theorem yB{x:PyData}{v:V}{σ:L2.St}{H:Hp}{Q:VK}(hx:∀F,DA K F x v)(h:fE K (vC x) σ H Q):tC v σ H Q:=by
  obtain⟨F,e,r,e',R,hf,q⟩:=h
  cases hf
  exact q F H v (d9.refl _ _ _ _) R (hx F)
theorem ae{i j pos}:PE X (.Constant (.int i) j pos) (fE K (vC (.int i))):=xH.mono fun _ _ _ h=>yB (fun _=>bT.mpr rfl) h
theorem ec{b j pos}:PE X (.Constant (.bool b) j pos) (fE K (vC (.bool b))):=D2.mono fun _ _ _ h=>yB (fun _=>dI.mpr rfl) h
theorem mS{x:Str}{v:V}{u:Value}{pos:Pos}{y:PyData}(hg:Gl X x)(hm:X.mg x=some u)(r:bI v u)(hy:∀F,DA K F y v)(hd:(x==("__debug__":Str))=false):PE X (.Name x pos) (fE K (vC y)):=(zM hg hm r hd).mono fun _ _ _ h=>yB hy h
def i5(K:PySem.W.Frag)(r:R2)(g:En→Rv→Rv→Option Rv):Prop:=
  ∀(σ:L2.St) (H0 F H:Hp) (e:En) (x y z:Rv) (v u:V) (Q:VK),a_ K F H σ e→cn K σ H0 F H e x v→cn K σ H0 F H e y u→g e x y=some z→
    (∀F' H' w,d9 σ F H e F' H' e→a_ K F' H' σ e→cn K σ H F' H' e z w→Q w H')→r v u H Q
def ar(g:En→Rv→Rv→Option Rv)(fa fb:FE):FE:=fun e=>(fa e).bind fun p=>(fb p.2).bind fun q=>(g q.2 p.1 q.1).map fun z=>(z,q.2)
theorem qL{r:R2}{g:En→Rv→Rv→Option Rv}(ho:i5 K r g){σ:L2.St}{H:Hp}{Q:VK}(h:fE K (ar g fa fb) σ H Q):Ew r (fE K fa) (fE K fb) σ H Q:=by
  obtain⟨F,e,z,e2,R,hf,q⟩:=h
  unfold ar at hf
  obtain⟨⟨x,e1⟩,h1,hf⟩:=Option.bind_eq_some_iff.mp hf
  obtain⟨⟨y,e2'⟩,h2,hf⟩:=Option.bind_eq_some_iff.mp hf
  obtain⟨z',h3,hf⟩:=Option.map_eq_some_iff.mp hf
  cases hf
  refine⟨F,e,x,e1,R,h1,fun F1 H1 v X1 R1 A1=>⟨F1,e1,y,_,R1,h2,fun F2 H2 u X2 R2 A2=>?_⟩⟩
  have X12:=X1.trans X2
  refine ho σ H F2 H2 _ x y _ v u Q R2 (A1.ext X2) (A2.weak X1.dom) h3 fun F3 H3 w X3 R3 A3=>?_
  exact q F3 H3 w (X12.trans X3) R3 (A3.weak X12.dom)
theorem pA{op:Operator}{r:R2}{g:En→Rv→Rv→Option Rv}(hr:i6 X (binaryOp op) r)(ho:i5 K r g)(ha:PE X a (fE K fa))(hb:PE X b (fE K fb)):PE X (.BinOp a op b pos) (fE K (ar g fa fb)):=(Bd hr ha hb).mono fun _ _ _ h=>qL ho h
theorem CB{op:CmpOp}{r:R2}{g:En→Rv→Rv→Option Rv}(hr:i6 X (compareOp op) r)(ho:i5 K r g)(ha:PE X a (fE K fa))(hb:PE X b (fE K fb))(hm:behindInMarks op b=false):PE X (.Compare a [op] [b] pos) (fE K (ar g fa fb)):=(zK hr ha hb hm).mono fun _ _ _ h=>qL ho h
theorem D9{r:R2}{g:En→Rv→Rv→Option Rv}(hr:yJ X r)(ho:i5 K r g)(ha:PE X a (fE K fa))(hb:PE X b (fE K fb))(hs:mK b):PE X (.Subscript a b pos) (fE K (ar g fa fb)):=(Bc hr ha hb hs).mono fun _ _ _ h=>qL ho h
def lG(g:En→Rv→Option Rv)(fa:FE):FE:=fun e=>(fa e).bind fun p=>(g p.2 p.1).map fun z=>(z,p.2)
def Dq(K:PySem.W.Frag)(r:V→Hp→VK→Prop)(g:En→Rv→Option Rv):Prop:=
  ∀(σ:L2.St) (H0 F H:Hp) (e:En) (x z:Rv) (v:V) (Q:VK),a_ K F H σ e→cn K σ H0 F H e x v→g e x=some z→
    (∀F' H' w,d9 σ F H e F' H' e→a_ K F' H' σ e→cn K σ H F' H' e z w→Q w H')→r v H Q
theorem yE{r:V→Hp→VK→Prop}{g:En→Rv→Option Rv}(ho:Dq K r g){σ:L2.St}{H:Hp}{Q:VK}(h:fE K (lG g fa) σ H Q):Ge r (fE K fa) σ H Q:=by
  obtain⟨F,e,z,e2,R,hf,q⟩:=h
  unfold lG at hf
  obtain⟨⟨x,e1⟩,h1,hf⟩:=Option.bind_eq_some_iff.mp hf
  obtain⟨z',h3,hf⟩:=Option.map_eq_some_iff.mp hf
  cases hf
  refine⟨F,e,x,_,R,h1,fun F1 H1 v X1 R1 A1=>?_⟩
  refine ho σ H F1 H1 _ x _ v Q R1 A1 h3 fun F3 H3 w X3 R3 A3=>?_
  exact q F3 H3 w (X1.trans X3) R3 (A3.weak X1.dom)
theorem Ea{op:UnaryOp}{r:V→Hp→VK→Prop}{g:En→Rv→Option Rv}(hr:EL X (unaryOp op) r)(ho:Dq K r g)(ha:PE X a (fE K fa)):PE X (.UnaryOp op a pos) (fE K (lG g fa)):=(D5 hr ha).mono fun _ _ _ h=>yE ho h
def cY:Rv→Option Bool
  | .d (.bool b)=>some b
  | _=>none
theorem fQ{σ:L2.St}{H0 F H:Hp}{e:En}{r:Rv}{v:V}{b:Bool}(h:cn K σ H0 F H e r v)(q:cY r=some b):v=.bl b:=by
  unfold cY at q
  split at q
  · cases q;exact dI.mp (show DA K F (.bool _) v from h)
  · cases q
theorem et{σ:L2.St}{H0 F H:Hp}{e:En}{b:Bool}:cn K σ H0 F H e (.d (.bool b)) (.bl b):=(dI (K:=K) (F:=F)).mpr rfl
def aH(f:FE):FT:=fun e=>(f e).bind fun p=>(cY p.1).map fun b=>(b,p.2)
theorem se{σ:L2.St}{H:Hp}{Q:Bool→Hp→Prop}(h:fT K (aH fa) σ H Q):fE K fa σ H fun x H'=>∃k,x=.bl k∧Q k H':=by
  obtain⟨F,e,b,e1,R,hf,q⟩:=h
  unfold aH at hf
  obtain⟨⟨x,e1'⟩,h1,hf⟩:=Option.bind_eq_some_iff.mp hf
  obtain⟨b',h3,hf⟩:=Option.map_eq_some_iff.mp hf
  cases hf
  exact⟨F,e,x,_,R,h1,fun F1 H1 v X1 R1 A1=>⟨_,fQ A1 h3,q F1 H1 X1 R1⟩⟩
theorem CJ{op:CmpOp}{r:R2}{g:En→Rv→Rv→Option Rv}(hr:i6 X (compareOp op) r)(ho:i5 K r g)(ha:PE X a (fE K fa))(hb:PE X b (fE K fb))(hm:behindInMarks op b=false):PT X (.Compare a [op] [b] pos) (fT K (aH (ar g fa fb))):=
  (z9 hr ha hb hm).mono fun σ H Q h=>by
    obtain⟨F,e,z,e2,R,hf,q⟩:=se h
    exact qL ho ⟨F,e,z,e2,R,hf,q⟩
theorem hJ{e:Expr}(h:PE X e (fE K fa))(he:∀whole,isTrue e X.env whole=(do let v ←whole;standAt e.pos;holding [v] (truthy v))):PT X e (fT K (aH fa)):=(Cv h he).mono fun _ _ _ h=>se h
def jb(f g:FT):FT:=fun e=>(f e).bind fun p=>if p.1=true then g p.2 else some (false,p.2)
def sd(f g:FT):FT:=fun e=>(f e).bind fun p=>if p.1=true then some (true,p.2) else g p.2
def jc(f:FT):FT:=fun e=>(f e).map fun p=>(!p.1,p.2)
theorem Ay{σ:L2.St}{H:Hp}{Q:Bool→Hp→Prop}(h:fT K (jb ft fu) σ H Q):Em (fT K ft) (fT K fu) σ H Q:=by
  obtain⟨F,e,b,e1,R,hf,q⟩:=h
  unfold jb at hf
  obtain⟨⟨x,e1'⟩,h1,hf⟩:=Option.bind_eq_some_iff.mp hf
  refine⟨F,e,x,e1',R,h1,fun F1 H1 X1 R1=>?_⟩
  cases x with
  | true=>exact⟨F1,e1',b,e1,R1,hf,fun F2 H2 X2 R2=>q F2 H2 (X1.trans X2) R2⟩
  | false=>cases hf;exact q F1 H1 X1 R1
theorem Df{σ:L2.St}{H:Hp}{Q:Bool→Hp→Prop}(h:fT K (sd ft fu) σ H Q):Gd (fT K ft) (fT K fu) σ H Q:=by
  obtain⟨F,e,b,e1,R,hf,q⟩:=h
  unfold sd at hf
  obtain⟨⟨x,e1'⟩,h1,hf⟩:=Option.bind_eq_some_iff.mp hf
  refine⟨F,e,x,e1',R,h1,fun F1 H1 X1 R1=>?_⟩
  cases x with
  | false=>exact⟨F1,e1',b,e1,R1,hf,fun F2 H2 X2 R2=>q F2 H2 (X1.trans X2) R2⟩
  | true=>cases hf;exact q F1 H1 X1 R1
theorem Az{σ:L2.St}{H:Hp}{Q:Bool→Hp→Prop}(h:fT K (jc ft) σ H Q):Et (fT K ft) σ H Q:=by
  obtain⟨F,e,b,e1,R,hf,q⟩:=h
  unfold jc at hf
  obtain⟨⟨x,e1'⟩,h1,hf⟩:=Option.map_eq_some_iff.mp hf
  cases hf
  exact⟨F,e,x,_,R,h1,fun F1 H1 X1 R1=>q F1 H1 X1 R1⟩
variable{eT:List Expr}
theorem mT(ha:PT X a (fT K ft)):PW X (.BoolOp .And [a] pos) (fT K ft):=Ac ha
theorem qD(ha:PT X a (fT K ft)):PW X (.BoolOp .Or [a] pos) (fT K ft):=Cz ha
theorem nQ(ha:PT X a (fT K ft))(hb:PW X (.BoolOp .And (b::eT) pos) (fT K fu)):PW X (.BoolOp .And (a::b::eT) pos) (fT K (jb ft fu)):=(Cy ha hb).mono fun _ _ _ h=>Ay h
theorem rK(ha:PT X a (fT K ft))(hb:PW X (.BoolOp .Or (b::eT) pos) (fT K fu)):PW X (.BoolOp .Or (a::b::eT) pos) (fT K (sd ft fu)):=(D8 ha hb).mono fun _ _ _ h=>Df h
theorem ky(ha:PT X a (fT K ft)):PT X (.UnaryOp .Not a pos) (fT K (jc ft)):=(Cu ha).mono fun _ _ _ h=>Az h
theorem rJ{e:Expr}(h:PW X e (fT K ft)):PT X e (fT K ft):=h.pt
def iz(f g:FE):FE:=fun e=>(f e).bind fun p=>(cY p.1).bind fun b=>if b=true then g p.2 else some (.d (.bool false),p.2)
def oq(f g:FE):FE:=fun e=>(f e).bind fun p=>(cY p.1).bind fun b=>if b=true then some (.d (.bool true),p.2) else g p.2
def jK(f:FE):FE:=fun e=>(f e).bind fun p=>(cY p.1).map fun b=>(.d (.bool (!b)),p.2)
theorem tj(ha:PE X a (fE K fa))(hb:PE X (.BoolOp .And (b::eT) pos) (fE K fb)):PE X (.BoolOp .And (a::b::eT) pos) (fE K (iz fa fb)):=(Ci ha hb).mono fun σ H Q h=>by
  obtain⟨F,e,z,e2,R,hf,q⟩:=h
  unfold iz at hf
  obtain⟨⟨x,e1⟩,h1,hf⟩:=Option.bind_eq_some_iff.mp hf
  obtain⟨b,h2,hf⟩:=Option.bind_eq_some_iff.mp hf
  refine⟨F,e,x,e1,R,h1,fun F1 H1 v X1 R1 A1=>⟨b,fQ A1 h2,?_⟩⟩
  cases b with
  | true=>exact⟨F1,e1,z,e2,R1,hf,fun F2 H2 w X2 R2 A2=>q F2 H2 w (X1.trans X2) R2 (A2.weak X1.dom)⟩
  | false=>cases hf;exact q F1 H1 _ X1 R1 et
theorem D_(ha:PE X a (fE K fa))(hb:PE X (.BoolOp .Or (b::eT) pos) (fE K fb)):PE X (.BoolOp .Or (a::b::eT) pos) (fE K (oq fa fb)):=(D3 ha hb).mono fun σ H Q h=>by
  obtain⟨F,e,z,e2,R,hf,q⟩:=h
  unfold oq at hf
  obtain⟨⟨x,e1⟩,h1,hf⟩:=Option.bind_eq_some_iff.mp hf
  obtain⟨b,h2,hf⟩:=Option.bind_eq_some_iff.mp hf
  refine⟨F,e,x,e1,R,h1,fun F1 H1 v X1 R1 A1=>⟨b,fQ A1 h2,?_⟩⟩
  cases b with
  | false=>exact⟨F1,e1,z,e2,R1,hf,fun F2 H2 w X2 R2 A2=>q F2 H2 w (X1.trans X2) R2 (A2.weak X1.dom)⟩
  | true=>cases hf;exact q F1 H1 _ X1 R1 et
theorem qz{op}(h:PE X a (fE K fa)):PE X (.BoolOp op [a] pos) (fE K fa):=Ck h
theorem CC(ha:PE X a (fE K fa)):PE X (.UnaryOp .Not a pos) (fE K (jK fa)):=(Cj ha).mono fun σ H Q h=>by
  obtain⟨F,e,z,e2,R,hf,q⟩:=h
  unfold jK at hf
  obtain⟨⟨x,e1⟩,h1,hf⟩:=Option.bind_eq_some_iff.mp hf
  obtain⟨b,h2,hf⟩:=Option.map_eq_some_iff.mp hf
  cases hf
  exact⟨F,e,x,_,R,h1,fun F1 H1 v X1 R1 A1=>⟨b,fQ A1 h2,q F1 H1 _ X1 R1 et⟩⟩
def vZ(t:FT)(f g:FE):FE:=fun e=>(t e).bind fun p=>if p.1=true then f p.2 else g p.2
theorem x5{c:Expr}(hc:PT X c (fT K ft))(ha:PE X a (fE K fa))(hb:PE X b (fE K fb)):PE X (.IfExp c a b pos) (fE K (vZ ft fa fb)):=(xG hc ha hb).mono fun σ H Q h=>by
  obtain⟨F,e,z,e2,R,hf,q⟩:=h
  unfold vZ at hf
  obtain⟨⟨x,e1⟩,h1,hf⟩:=Option.bind_eq_some_iff.mp hf
  refine⟨F,e,x,e1,R,h1,fun F1 H1 X1 R1=>?_⟩
  cases x with
  | true=>exact⟨F1,e1,z,e2,R1,hf,fun F2 H2 w X2 R2 A2=>q F2 H2 w (X1.trans X2) R2 (A2.weak X1.dom)⟩
  | false=>exact⟨F1,e1,z,e2,R1,hf,fun F2 H2 w X2 R2 A2=>q F2 H2 w (X1.trans X2) R2 (A2.weak X1.dom)⟩
def ah:FA:=fun e=>some ([],e)
def aa(fa:FE)(fs:FA):FA:=fun e=>(fa e).bind fun p=>(fs p.2).map fun q=>(p.1::q.1,q.2)
theorem ab:PA X [] (fA K ah):=nO.mono fun σ H Q h=>by
  obtain⟨F,e,r,e',R,hf,q⟩:=h
  cases hf
  exact q F H [] (d9.refl _ _ _ _) R rfl
theorem Fw(ha:PE X a (fE K fa))(hr:PA X es (fA K fs))(h:PySem.W.isStarred a=false):PA X (a::es) (fA K (aa fa fs)):=(Cg ha hr h).mono fun σ H Q h=>by
  obtain⟨F,e,z,e2,R,hf,q⟩:=h
  unfold aa at hf
  obtain⟨⟨x,e1⟩,h1,hf⟩:=Option.bind_eq_some_iff.mp hf
  obtain⟨⟨xs,e2'⟩,h2,hf⟩:=Option.map_eq_some_iff.mp hf
  cases hf
  refine⟨F,e,x,e1,R,h1,fun F1 H1 v X1 R1 A1=>⟨F1,e1,xs,_,R1,h2,fun F2 H2 vs X2 R2 A2=>?_⟩⟩
  exact q F2 H2 (v::vs) (X1.trans X2) R2 ⟨v,vs,rfl,A1.ext X2,A2.weak X1.dom⟩
def bB(fs:FA):FE:=fun e=>(fs e).bind fun p=>(gg p.1).bind fun ds=>if ds.length≤1000 then some (.d (.tuple ds),p.2) else none
def cW(fs:FA):FE:=fun e=>(fs e).bind fun p=>(gg p.1).bind fun ds=>if ds.length≤1000 then some (.l ds,p.2) else none
theorem aO{x1}(h:PA X es (fA K fs)):PE X (.Tuple es x1 pos) (fE K (bB fs)):=(Cm h).mono fun σ H Q h=>by
  obtain⟨F,e,z,e2,R,hf,q⟩:=h
  unfold bB at hf
  obtain⟨⟨rs,e1⟩,h1,hf⟩:=Option.bind_eq_some_iff.mp hf
  obtain⟨ds,h2,hf⟩:=Option.bind_eq_some_iff.mp hf
  split at hf
  case isFalse=>cases hf
  case isTrue hl=>
  cases hf
  refine⟨F,e,rs,_,R,h1,fun F1 H1 vs X1 R1 A1=>?_⟩
  obtain⟨F2,R2,s2,d2,f2⟩:=cH.frozen R1 A1 h2
  have hlen:=d2.len
  refine⟨Nat.le_of_lt (pJ (by lia)),fun p hp=>?_⟩
  obtain⟨R3,X3⟩:=R2.newT (vs:=vs) hp
  exact q _ _ _ ((X1.frz s2 f2).trans X3) R3 (dJ.mpr ⟨p,vs,rfl,.inl (.inl ax),aL.mono X3.sf d2⟩)
theorem bO(h:PA X es (fA K fs)):PE X (.List es pos) (fE K (cW fs)):=(xI h).mono fun σ H Q h=>by
  obtain⟨F,e,z,e2,R,hf,q⟩:=h
  unfold cW at hf
  obtain⟨⟨rs,e1⟩,h1,hf⟩:=Option.bind_eq_some_iff.mp hf
  obtain⟨ds,h2,hf⟩:=Option.bind_eq_some_iff.mp hf
  split at hf
  case isFalse=>cases hf
  case isTrue hl=>
  cases hf
  refine⟨F,e,rs,_,R,h1,fun F1 H1 vs X1 R1 A1=>?_⟩
  obtain⟨F2,R2,s2,d2,f2⟩:=cH.frozen R1 A1 h2
  have hlen:=d2.len
  refine⟨Nat.le_of_lt (pJ (by lia)),fun p hp=>?_⟩
  obtain⟨R3,X3,hF,no⟩:=R2.newL (vs:=vs) hp
  exact q _ _ _ ((X1.frz s2 f2).trans X3) R3 ⟨p,vs,rfl,X1.dom p hp,hF,ax,d2,no⟩
def fx(K:PySem.W.Frag)(r:List V→Hp→VK→Prop)(g:En→List Rv→Option Rv):Prop:=
  ∀(σ:L2.St) (H0 F H:Hp) (e:En) (xs:List Rv) (z:Rv) (vs:List V) (Q:VK),a_ K F H σ e→cH K σ H0 F H e xs vs→g e xs=some z→
    (∀F' H' w,d9 σ F H e F' H' e→a_ K F' H' σ e→cn K σ H F' H' e z w→Q w H')→r vs H Q
def aQ(g:En→List Rv→Option Rv)(fs:FA):FE:=fun e=>(fs e).bind fun p=>(g p.2 p.1).map fun z=>(z,p.2)
theorem r9{r:List V→Hp→VK→Prop}{g:En→List Rv→Option Rv}(ho:fx K r g){σ:L2.St}{H:Hp}{Q:VK}(h:fE K (aQ g fs) σ H Q):FC r (fA K fs) σ H Q:=by
  obtain⟨F,e,z,e2,R,hf,q⟩:=h
  unfold aQ at hf
  obtain⟨⟨x,e1⟩,h1,hf⟩:=Option.bind_eq_some_iff.mp hf
  obtain⟨z',h3,hf⟩:=Option.map_eq_some_iff.mp hf
  cases hf
  refine⟨F,e,x,_,R,h1,fun F1 H1 vs X1 R1 A1=>?_⟩
  refine ho σ H F1 H1 _ x _ vs Q R1 A1 h3 fun F3 H3 w X3 R3 A3=>?_
  exact q F3 H3 w (X1.trans X3) R3 (A3.weak X1.dom)
theorem x4{x:Str}{p pos:Pos}{id:String}{r:List V→Hp→VK→Prop}{g:En→List Rv→Option Rv}(hc:ey X (.builtin id) r)(ho:fx K r g)(hg:Gl X x)(hm:X.mg x=none)(hv:bootBuiltins x=some (.builtin id))(ha:PA X (a::es) (fA K fs))(hn:x≠"__name__")(hdb:(x==("__debug__":Str))=false)
    (he:starEach (a::es) X.env=(false,eval a X.env)::starEach es X.env)(hpl:(backTo pos (starEach es X.env)).any (·.1)=false):PE X (.Call (.Name x p) (a::es) [] pos) (fE K (aQ g fs)):=(nP hc hg hm hv ha hn hdb he hpl).mono fun _ _ _ h=>r9 ho h
theorem vG{x:Str}{p pos:Pos}{T:String}{r:List V→Hp→VK→Prop}{g:En→List Rv→Option Rv}(hc:ey X (.type T) r)(ho:fx K r g)(hg:Gl X x)(hm:X.mg x=none)(hv:bootBuiltins x=some (.type T))(ha:PA X (a::es) (fA K fs))(hn:x≠"__name__")(hdb:(x==("__debug__":Str))=false)
    (he:starEach (a::es) X.env=(false,eval a X.env)::starEach es X.env)(hpl:(backTo pos (starEach es X.env)).any (·.1)=false):PE X (.Call (.Name x p) (a::es) [] pos) (fE K (aQ g fs)):=(vA hc hg hm hv ha hn hdb he hpl).mono fun _ _ _ h=>r9 ho h
end
end L2
namespace L2
open PySem PySem.Spec PyProof.Rows
mutual
theorem DA.reads{X:Cx}{pins:List (Addr × Obj)}{σ:L2.St}{H:Hp}{s:Shared}(I:aF X pins σ H s):∀{d:PyData} {v:V} {u:Value},d.canLay0=true→DA X.K H d v→bI v u→∃as,Reads s.heap u d as
  | .none,_,_,_,q,r=>by
    simp only [DA] at q;subst q;cases r;exact⟨_,.none⟩
  | .bool b,_,_,_,q,r=>by
    simp only [DA] at q;subst q;cases r;exact⟨_,.bool b⟩
  | .int i,_,_,_,q,r=>by
    simp only [DA] at q;subst q;obtain⟨t,rfl⟩:=r;exact⟨_,.int i t⟩
  | .str x,_,_,_,q,r=>by
    simp only [DA] at q;subst q;obtain⟨t,rfl⟩:=r;exact⟨_,.str x t⟩
  | .tuple ds,_,_,c,q,r=>by
    simp only [DA] at q
    obtain⟨a,xs,e,hs,rr⟩:=q
    subst e;cases r
    obtain⟨its,rv,⟨o,ho,hc,n,hd⟩,hz⟩:=I.tuple hs
    obtain⟨as,q⟩:=aL.reads I (by simpa [PyData.canLay0] using c) rr rv
    exact⟨_,.tuple ho hc hd q⟩
  | .list ds,_,_,c,q,r=>by
    simp only [DA] at q
    obtain⟨a,xs,e,hs,rr⟩:=q
    subst e;cases r
    obtain⟨its,rv,ht,hz⟩:=I.list hs
    obtain⟨o,ho,hc,n,hd⟩:=ht.isList
    obtain⟨as,q⟩:=aL.reads I (by simpa [PyData.canLay0] using c) rr rv
    exact⟨_,.list ho hc hd q⟩
  | .dict _,_,_,c,_,_=>by simp [PyData.canLay0] at c
theorem aL.reads{X:Cx}{pins:List (Addr × Obj)}{σ:L2.St}{H:Hp}{s:Shared}(I:aF X pins σ H s):∀{ds:List PyData} {xs:List V} {us:List Value},PyData.canLayAll0 ds=true→aL X.K H ds xs→aR xs us→∃as,ReadsAll s.heap us ds as
  | [],_,_,_,q,r=>by
    simp only [aL] at q;subst q;cases r;exact⟨_,.nil⟩
  | d::ds,_,_,c,q,r=>by
    simp only [aL] at q
    simp only [PyData.canLayAll0,Bool.and_eq_true] at c
    obtain⟨x,rr,e,a,b⟩:=q
    subst e
    cases r with
    | cons p p'=>
      obtain⟨as,q1⟩:=DA.reads I c.1 a p
      obtain⟨bs,q2⟩:=aL.reads I c.2 b p'
      exact⟨_,.cons q1 q2⟩
end
def i7(e:En):Rv→Option PyData
  | .d x=>some x
  | .l xs=>some (.list xs)
  | .s i=>match e[i]? with
    | some (some (.l xs))=>some (.list xs)
    | _=>none
theorem kO{K:PySem.W.Frag}{σ:L2.St}{H0 F H:Hp}{e:En}{r:Rv}{v:V}{d:PyData}(R:a_ K F H σ e)(h:cn K σ H0 F H e r v)(q:i7 e r=some d):DA K H d v:=by
  cases r with
  | d x=>cases q;exact DA.mono R.sm h
  | l xs=>
    cases q
    obtain⟨l,vs,rfl,h1,h2,h3,h4,_⟩:=h
    exact cK.mpr ⟨l,vs,rfl,.inl (.inl h3),aL.mono R.sm h4⟩
  | s i=>
    obtain⟨h1,ys,h2⟩:=h
    simp only [i7,h2] at q
    cases q
    obtain⟨l,vs,e1,e2,e3,e4⟩:=R.own i _ h2
    rw [h1] at e1;cases e1
    exact cK.mpr ⟨l,vs,rfl,.inl (.inl e3),aL.mono R.sm e4⟩
section
variable{X:Cx}{K:PySem.W.Frag}
def bC:Rv→Option Int
  | .d (.int i)=>some i
  | _=>none
theorem bL{σ:L2.St}{H0 F H:Hp}{e:En}{r:Rv}{v:V}{i:Int}(h:cn K σ H0 F H e r v)(q:bC r=some i):v=.int i:=by
  unfold bC at q
  split at q
  · cases q;exact bT.mp (show DA K F (.int _) v from h)
  · cases q
theorem lV{σ:L2.St}{H0 F H:Hp}{e:En}{i:Int}:cn K σ H0 F H e (.d (.int i)) (.int i):=(bT (K:=K) (F:=F)).mpr rfl
def gI(C:Int→Int→Bool)(f:Int→Int→PyData):En→Rv→Rv→Option Rv:=fun _ x y=>(bC x).bind fun i=>(bC y).bind fun j=>if C i j=true then some (.d (f i j)) else none
theorem rG{C:Int→Int→Prop}{c:Int→Int→Bool}{g:Int→Int→V}{f:Int→Int→PyData}(hc:∀i j,c i j=true→C i j)(hf:∀F i j,DA K F (f i j) (g i j)):i5 K (rI C g) (gI c f):=by
  intro σ H0 F H e x y z v u Q R A B hg q
  unfold gI at hg
  obtain⟨i,h1,hg⟩:=Option.bind_eq_some_iff.mp hg
  obtain⟨j,h2,hg⟩:=Option.bind_eq_some_iff.mp hg
  split at hg
  case isFalse=>cases hg
  case isTrue hh=>
  cases hg
  exact⟨i,j,bL A h1,bL B h2,hc i j hh,q F H _ (d9.refl _ _ _ _) R (hf F i j)⟩
theorem ku{g:Int→Int→V}{f:Int→Int→PyData}(hf:∀F i j,DA K F (f i j) (g i j)):i5 K (vH g) (gI (fun _ _=>true) f):=by
  intro σ H0 F H e x y z v u Q R A B hg q
  obtain⟨i,j,h1,h2,h3,h4⟩:=rG (K:=K) (C:=fun _ _=>True) (c:=fun _ _=>true) (g:=g) (f:=f) (fun _ _ _=>trivial) hf σ H0 F H e x y z v u Q R A B hg q
  exact⟨i,j,h1,h2,h4⟩
def wV(g g':En→Rv→Rv→Option Rv):En→Rv→Rv→Option Rv:=fun e x y=>(g e x y).or (g' e x y)
theorem i5.or{r r':R2}{g g':En→Rv→Rv→Option Rv}(h:i5 K r g)(h':i5 K r' g'):i5 K (fun x y H Q=>r x y H Q∨r' x y H Q) (wV g g'):=by
  intro σ H0 F H e x y z v u Q R A B hg q
  unfold wV at hg
  cases e1:g e x y with
  | some w=>
    rw [e1] at hg
    cases hg
    exact .inl (h σ H0 F H e x y _ v u Q R A B e1 q)
  | none=>
    rw [e1] at hg
    exact .inr (h' σ H0 F H e x y _ v u Q R A B hg q)
def wO:=gI (fun _ _=>true) fun i j=>.int (i+j)
def gZ:=gI (fun _ _=>true) fun i j=>.int (i - j)
def iW(i:Int):Bool:=decide (-(2 ^ 64) < i)&&decide (i < 2 ^ 64)
def Du(n:Nat)(i:Int):Bool:=decide (i.natAbs < 2 ^ n)
theorem iH{n:Nat}{i:Int}:Du n i=true↔ Bt n i:=by unfold Du Bt;exact decide_eq_true_iff
def ko(i j:Int):Bool:=iW i || iW j || (Du 4000 i&&Du 4000 j)
def rc:=gI ko fun i j=>.int (i*j)
def dt:=gI (fun _ j=>j != 0&&Du 8000 j) fun i j=>.int (i.fdiv j)
def a9:=gI (fun _ j=>j != 0) fun i j=>.int (i.fmod j)
def xV(i j:Int):Bool:=decide (0≤j)&&decide (j≤1000000)&&iW i
def sI:=gI xV fun i j=>.int (i ^ j.toNat)
theorem kz{i:Int}(h:iW i=true): -(2 ^ 64) < i∧i < 2 ^ 64:=by
  unfold iW at h
  rw [Bool.and_eq_true,decide_eq_true_iff,decide_eq_true_iff] at h
  exact h
theorem zW{i j:Int}(h:xV i j=true):Bo i j:=by
  unfold xV at h
  rw [Bool.and_eq_true,Bool.and_eq_true,decide_eq_true_iff,decide_eq_true_iff] at h
  have:=kz h.2
  exact⟨h.1.1,h.1.2,by lia⟩
def tR(i j:Int):Prop:=yP i j∨AI i j
theorem zG:i6 X (binaryOp .Mult) (rI tR fun i j=>.int (i*j)):=by
  intro pins s σ H x y v u Q I rx ry h
  obtain⟨i,j,e1,e2,h1,q⟩:=h
  rcases h1 with h1 | h1
  · exact Cb pins s σ H x y v u Q I rx ry ⟨i,j,e1,e2,h1,q⟩
  · exact zH pins s σ H x y v u Q I rx ry ⟨i,j,e1,e2,h1,q⟩
theorem zr{i j:Int}(h:ko i j=true):tR i j:=by
  unfold ko at h
  rw [Bool.or_eq_true,Bool.or_eq_true,Bool.and_eq_true] at h
  rcases h with (h | h) | h
  · exact .inl (.inl (kz h))
  · exact .inl (.inr (kz h))
  · exact .inr ⟨iH.mp h.1,iH.mp h.2⟩
theorem BY:i5 K (rI tR fun i j=>.int (i*j)) rc:=rG (fun _ _ h=>zr h) fun _ _ _=>bT.mpr rfl
theorem El:i5 K (vH fun i j=>.int (i - j)) gZ:=ku fun _ _ _=>bT.mpr rfl
theorem BD:i5 K (rI AH fun i j=>.int (i.fdiv j)) dt:=rG (fun i j h=>by
  rw [Bool.and_eq_true] at h
  exact⟨by simpa using h.1,iH.mp h.2⟩) fun _ _ _=>bT.mpr rfl
theorem DS:i5 K (rI (fun _ j=>j≠0) fun i j=>.int (i.fmod j)) a9:=rG (fun i j h=>by simpa using h) fun _ _ _=>bT.mpr rfl
theorem D6:i5 K (rI Bo fun i j=>.int (i ^ j.toNat)) sI:=rG (fun _ _ h=>zW h) fun _ _ _=>bT.mpr rfl
def q_:En→Rv→Rv→Option Rv:=fun e x y=>match el e x,el e y with
  | some (false,xs),some (false,ys)=>if xs.length+ys.length≤1000000 then some (.d (.tuple (xs++ys))) else none
  | _,_=>none
theorem BC:i5 K (x_ K) q_:=by
  intro σ H0 F H e x y z v u Q R A B hg q
  unfold q_ at hg
  match h1:el e x,h2:el e y,hg with
  | some (false,xs),some (false,ys),hg=>
    obtain⟨p,vs,rfl,d1,s1⟩:=dY R A h1
    obtain⟨p',us,rfl,d2,s2⟩:=dY R B h2
    dsimp only at hg
    split at hg
    case isFalse=>cases hg
    case isTrue hl=>
    cases hg
    have l1:=d1.len
    have l2:=d2.len
    have sl:sizeLine=16777216:=sizeLine_eq
    refine⟨p,p',vs,us,rfl,rfl,s1,s2,by lia,fun t H' sm hT=>?_⟩
    obtain⟨F',R',X',hF⟩:=R.growT sm hT
    exact q F' H' _ X' R' (dJ.mpr ⟨t,_,rfl,hF,(d1.append d2).mono X'.sf⟩)
def sQ(e:En):Rv→Option (List PyData)
  | .l xs=>some xs
  | .s i=>match e[i]? with
    | some (some (.l xs))=>some xs
    | _=>none
  | _=>none
theorem qj{σ:L2.St}{H0 F H:Hp}{e:En}{r:Rv}{v:V}(R:a_ K F H σ e)(h:cn K σ H0 F H e r v){xs:List PyData}(q:sQ e r=some xs):∃p vs,v=.ref p∧F p=none∧H p=some (.lst vs)∧aL K F xs vs:=by
  cases r with
  | d x=>cases q
  | l ys=>
    cases q
    obtain⟨l,vs,e1,h1,h2,h3,h4,_⟩:=h
    exact⟨l,vs,e1,h2,h3,h4⟩
  | s i=>
    obtain⟨h1,ys,h2⟩:=h
    simp only [sQ,h2] at q
    cases q
    obtain⟨l,vs,e1,e2,e3,e4⟩:=R.own i _ h2
    rw [h1] at e1;cases e1
    exact⟨l,vs,rfl,e2,e3,e4⟩
def uh:En→Rv→Rv→Option Rv:=fun e x y=>(sQ e x).bind fun xs=>(sQ e y).bind fun ys=>if xs.length+ys.length≤1000000 then some (.l (xs++ys)) else none
theorem BA:i5 K CK uh:=by
  intro σ H0 F H e x y z v u Q R A B hg q
  unfold uh at hg
  obtain⟨xs,h1,hg⟩:=Option.bind_eq_some_iff.mp hg
  obtain⟨ys,h2,hg⟩:=Option.bind_eq_some_iff.mp hg
  split at hg
  case isFalse=>cases hg
  case isTrue hl=>
  cases hg
  obtain⟨p,vs,rfl,f1,s1,d1⟩:=qj R A h1
  obtain⟨p',us,rfl,f2,s2,d2⟩:=qj R B h2
  have l1:=d1.len
  have l2:=d2.len
  have sl:sizeLine=16777216:=sizeLine_eq
  refine⟨p,p',vs,us,rfl,rfl,s1,s2,by lia,fun t ht=>?_⟩
  obtain⟨R3,X3,hF,no⟩:=R.newL (vs:=vs++us) ht
  exact q _ _ _ X3 R3 ⟨t,_,rfl,ht,hF,ax,d1.append d2,no⟩
def cy:En→Rv→Rv→Option Rv:=wV wO (wV q_ uh)
def Bg(K:PySem.W.Frag):R2:=fun x y H Q=>vH (fun i j=>.int (i+j)) x y H Q∨(x_ K x y H Q∨CK x y H Q)
theorem zA:i6 X (binaryOp .Add) (Bg X.K):=xC.or (zC.or B6)
theorem Ds:i5 K (Bg K) cy:=i5.or (ku fun _ _ _=>bT.mpr rfl) (i5.or BC BA)
def rf:En→Rv→Rv→Option Rv:=fun e x y=>match el e x,bC y with
  | some (false,[d]),some k=>if 0≤k∧k≤100000 then some (.d (.tuple (List.replicate k.toNat d))) else none
  | _,_=>none
theorem aL.rep{F:Hp}{d:PyData}{v:V}(h:DA K F d v):∀n,aL K F (List.replicate n d) (List.replicate n v)
  | 0=>aL.nil
  | n+1=>aL.cons h (aL.rep h n)
theorem CP:i5 K (yc K) rf:=by
  intro σ H0 F H e x y z v u Q R A B hg q
  unfold rf at hg
  match h1:el e x,h2:bC y,hg with
  | some (false,[d]),some k,hg=>
    obtain⟨p,vs,rfl,d1,s1⟩:=dY R A h1
    dsimp only at hg
    split at hg
    case isFalse=>cases hg
    case isTrue hl=>
    cases hg
    have hd:=d1
    simp only [aL] at hd
    obtain⟨w,r,e1,hw,e2⟩:=hd
    subst e2 e1
    refine⟨p,k,w,rfl,bL B h2,s1,hl.1,hl.2,fun t H' sm hT=>?_⟩
    obtain⟨F',R',X',hF⟩:=R.growT sm hT
    exact q F' H' _ X' R' (dJ.mpr ⟨t,_,rfl,hF,(aL.rep hw _).mono X'.sf⟩)
def rd:En→Rv→Rv→Option Rv:=fun e x y=>(sQ e x).bind fun xs=>(bC y).bind fun k=>if -100000≤k∧k≤100000∧xs.length*k.toNat≤1000000 then some (.l (List.replicate k.toNat xs).flatten) else none
theorem aL.reps{F:Hp}{ds:List PyData}{vs:List V}(h:aL K F ds vs):∀n,aL K F (List.replicate n ds).flatten (List.replicate n vs).flatten
  | 0=>aL.nil
  | n+1=>by simpa [List.replicate_succ] using aL.append h (aL.reps h n)
theorem CO:i5 K CN rd:=by
  intro σ H0 F H e x y z v u Q R A B hg q
  unfold rd at hg
  obtain⟨xs,h1,hg⟩:=Option.bind_eq_some_iff.mp hg
  obtain⟨k,h2,hg⟩:=Option.bind_eq_some_iff.mp hg
  split at hg
  case isFalse=>cases hg
  case isTrue hl=>
  cases hg
  obtain⟨p,vs,rfl,f1,s1,d1⟩:=qj R A h1
  have l1:=d1.len
  have sl:sizeLine=16777216:=sizeLine_eq
  refine⟨p,k,vs,rfl,bL B h2,s1,by lia,by lia,by rw [←l1];lia,fun t ht=>?_⟩
  obtain⟨R3,X3,hF,no⟩:=R.newL (vs:=(List.replicate k.toNat vs).flatten) ht
  exact q _ _ _ X3 R3 ⟨t,_,rfl,ht,hF,ax,aL.reps d1 _,no⟩
def cD:En→Rv→Rv→Option Rv:=wV rc (wV rf rd)
def Bh(K:PySem.W.Frag):R2:=fun x y H Q=>rI tR (fun i j=>.int (i*j)) x y H Q∨(yc K x y H Q∨CN x y H Q)
theorem zF:i6 X (binaryOp .Mult) (Bh X.K):=zG.or (zI.or Ce)
theorem DT:i5 K (Bh K) cD:=i5.or BY (i5.or CP CO)
def wd:=gI (fun _ _=>true) fun i j=>.bool (decide (i < j))
def Gn:=gI (fun _ _=>true) fun i j=>.bool (decide (i≤j))
def Dz:=gI (fun _ _=>true) fun i j=>.bool (decide (j < i))
def y_:=gI (fun _ _=>true) fun i j=>.bool (decide (j≤i))
theorem Ft:i5 K (vH fun i j=>.bl (decide (i < j))) wd:=ku fun _ _ _=>dI.mpr rfl
theorem Fe:i5 K (vH fun i j=>.bl (decide (j < i))) Dz:=ku fun _ _ _=>dI.mpr rfl
theorem Fd:i5 K (vH fun i j=>.bl (decide (j≤i))) y_:=ku fun _ _ _=>dI.mpr rfl
def CL(K:PySem.W.Frag)(neg:Bool):R2:=fun x y H Q=>∃a b,DA K H a x∧DA K H b y∧SeqAt.shaped a=true∧SeqAt.shaped b=true∧Q (.bl (if neg then !PyData.eqv a b else PyData.eqv a b)) H
theorem B7{k:Nat}(hr:dZ k X.A):i6 X (compareOp .Eq) (CL X.K false):=by
  intro pins s σ H x y v u Q I rx ry h
  obtain⟨a,b,ha,hb,s1,s2,q⟩:=h
  obtain⟨as,ra⟩:=DA.reads I (SeqAt.canLay_of_shaped s1) ha rx
  obtain⟨bs,rb⟩:=DA.reads I (SeqAt.canLay_of_shaped s2) hb ry
  exact SeqAt.compareEq_shaped ra rb s1 s2 hr.units ⟨.bl _,H,I,rfl,q⟩
theorem Cc{k:Nat}(hr:dZ k X.A):i6 X (compareOp .NotEq) (CL X.K true):=by
  intro pins s σ H x y v u Q I rx ry h
  obtain⟨a,b,ha,hb,s1,s2,q⟩:=h
  obtain⟨as,ra⟩:=DA.reads I (SeqAt.canLay_of_shaped s1) ha rx
  obtain⟨bs,rb⟩:=DA.reads I (SeqAt.canLay_of_shaped s2) hb ry
  exact SeqAt.compareNe_shaped ra rb s1 s2 hr.units ⟨.bl _,H,I,rfl,q⟩
def bR(neg:Bool):En→Rv→Rv→Option Rv:=fun e x y=>(i7 e x).bind fun a=>(i7 e y).bind fun b=>if (SeqAt.shaped a&&SeqAt.shaped b)=true then some (.d (.bool (if neg then !PyData.eqv a b else PyData.eqv a b))) else none
theorem AW{neg:Bool}:i5 K (CL K neg) (bR neg):=by
  intro σ H0 F H e x y z v u Q R A B hg q
  unfold bR at hg
  obtain⟨a,h1,hg⟩:=Option.bind_eq_some_iff.mp hg
  obtain⟨b,h2,hg⟩:=Option.bind_eq_some_iff.mp hg
  split at hg
  case isFalse=>cases hg
  case isTrue hl=>
  cases hg
  rw [Bool.and_eq_true] at hl
  exact⟨a,b,kO R A h1,kO R B h2,hl.1,hl.2,q F H _ (d9.refl _ _ _ _) R et⟩
def Ec(K:PySem.W.Frag)(neg:Bool):R2:=fun x y H Q=>∃a xs,DA K H a x∧(DA K H (.list xs) y∨DA K H (.tuple xs) y)∧a.canLay0=true∧a.depth≤60∧PyData.canLayAll0 xs=true∧Q (.bl (if neg then !(xs.any fun y=>PyData.eqv y a) else xs.any fun y=>PyData.eqv y a)) H
theorem B8{k:Nat}(hr:dZ k X.A):i6 X (compareOp .In) (Ec X.K false):=by
  intro pins s σ H x y v u Q I rx ry h
  obtain⟨a,xs,ha,hb,s1,s2,s3,q⟩:=h
  obtain⟨as,ra⟩:=DA.reads I s1 ha rx
  have hu:=hr.units
  rcases hb with hb | hb
  · obtain⟨bs,rb⟩:=DA.reads I (by simpa [PyData.canLay0] using s3) hb ry
    exact PySem.SeqAt.in_list_reads rb ra s3 s1 (by lia) ⟨.bl _,H,I,rfl,q⟩
  · obtain⟨bs,rb⟩:=DA.reads I (by simpa [PyData.canLay0] using s3) hb ry
    exact PySem.SeqAt.in_tuple_reads rb ra s3 s1 (by lia) ⟨.bl _,H,I,rfl,q⟩
def za(neg:Bool):En→Rv→Rv→Option Rv:=fun e x y=>(i7 e x).bind fun a=>(el e y).bind fun p=>if (a.canLay0&&decide (a.depth≤60)&&PyData.canLayAll0 p.2)=true then some (.d (.bool (if neg then !(p.2.any fun y=>PyData.eqv y a) else p.2.any fun y=>PyData.eqv y a))) else none
theorem Fm{neg:Bool}:i5 K (Ec K neg) (za neg):=by
  intro σ H0 F H e x y z v u Q R A B hg q
  unfold za at hg
  obtain⟨a,h1,hg⟩:=Option.bind_eq_some_iff.mp hg
  obtain⟨⟨b,xs⟩,h2,hg⟩:=Option.bind_eq_some_iff.mp hg
  split at hg
  case isFalse=>cases hg
  case isTrue hl=>
  cases hg
  rw [Bool.and_eq_true,Bool.and_eq_true,decide_eq_true_iff] at hl
  obtain⟨p,vs,rfl,d1,s1⟩:=dY R B h2
  refine⟨a,xs,kO R A h1,?_,hl.1.1,hl.1.2,hl.2,q F H _ (d9.refl _ _ _ _) R et⟩
  cases b with
  | true=>exact .inl (cK.mpr ⟨p,vs,rfl,s1,d1.mono R.sm⟩)
  | false=>exact .inr (dJ.mpr ⟨p,vs,rfl,s1,d1.mono R.sm⟩)
def qe:PyData→Bool
  | .none=>true
  | _=>false
theorem vc{F:Hp}{d:PyData}{v:V}(h:DA K F d v):decide (v=.non)=qe d:=by
  cases d with
  | none=>rw [jN.mp h];rfl
  | bool b=>rw [dI.mp h];rfl
  | int b=>rw [bT.mp h];rfl
  | str b=>rw [wJ.mp h];rfl
  | tuple b=>obtain⟨a,_,e,_⟩:=dJ.mp h;rw [e];rfl
  | list b=>obtain⟨a,_,e,_⟩:=cK.mp h;rw [e];rfl
  | dict b=>simp only [DA] at h;obtain⟨a,m,rfl,_⟩:=h;rfl
def BG(neg:Bool):En→Rv→Rv→Option Rv:=fun e x y=>(i7 e x).bind fun a=>match y with
  | .d .none=>some (.d (.bool (if neg then !qe a else qe a)))
  | _=>none
def BF(neg:Bool):En→Rv→Rv→Option Rv:=fun e x y=>(cY x).bind fun a=>(cY y).bind fun b=>some (.d (.bool (if neg then !(a==b) else a==b)))
theorem DL:i5 K (fun x y H Q=>y=.non∧Q (.bl (decide (x=.non))) H) (BG false):=by
  intro σ H0 F H e x y z v u Q R A B hg q
  unfold BG at hg
  obtain⟨a,h1,hg⟩:=Option.bind_eq_some_iff.mp hg
  split at hg
  · cases hg
    refine⟨jN.mp (show DA K F .none u from B),?_⟩
    rw [vc (kO R A h1)]
    exact q F H _ (d9.refl _ _ _ _) R et
  · cases hg
theorem DK:i5 K (fun x y H Q=>∃b c,x=.bl b∧y=.bl c∧Q (.bl (b==c)) H) (BF false):=by
  intro σ H0 F H e x y z v u Q R A B hg q
  unfold BF at hg
  obtain⟨a,h1,hg⟩:=Option.bind_eq_some_iff.mp hg
  obtain⟨b,h2,hg⟩:=Option.bind_eq_some_iff.mp hg
  cases hg
  exact⟨a,b,fQ A h1,fQ B h2,q F H _ (d9.refl _ _ _ _) R et⟩
def DC:En→Rv→Rv→Option Rv:=wV (BG false) (BF false)
def Ed:R2:=fun x y H Q=>(y=.non∧Q (.bl (decide (x=.non))) H)∨∃b c,x=.bl b∧y=.bl c∧Q (.bl (b==c)) H
theorem B9:i6 X (compareOp .Is) Ed:=Ca.or B_
theorem Fn:i5 K Ed DC:=i5.or DL DK
def bE:En→Rv→Rv→Option Rv:=fun e x y=>(el e x).bind fun p=>(bC y).bind fun i=>(atI p.2 i).map .d
def Ee(K:PySem.W.Frag):R2:=fun x y H Q=>CM K x y H Q∨Ef K x y H Q
theorem Fo:yJ X (Ee X.K):=ut.or BP
theorem aL.atI{F:Hp}{ds:List PyData}{vs:List V}(h:aL K F ds vs){i:Int}{d:PyData}(q:atI ds i=some d):∃v,L2.atI vs i=some v∧DA K F d v:=by
  unfold L2.atI at q ⊢
  obtain⟨j,h1,h2⟩:=Option.bind_eq_some_iff.mp q
  obtain⟨v,h3,h4⟩:=h.get h2
  exact⟨v,by rw [←h.len,h1];exact h3,h4⟩
theorem Fq:i5 K (Ee K) bE:=by
  intro σ H0 F H e x y z v u Q R A B hg q
  unfold bE at hg
  obtain⟨⟨b,xs⟩,h1,hg⟩:=Option.bind_eq_some_iff.mp hg
  obtain⟨i,h2,hg⟩:=Option.bind_eq_some_iff.mp hg
  obtain⟨d,h3,hg⟩:=Option.map_eq_some_iff.mp hg
  cases hg
  obtain⟨p,vs,rfl,d1,s1⟩:=dY R A h1
  obtain⟨w,h4,h5⟩:=d1.atI h3
  have fin:=q F H w (d9.refl _ _ _ _) R h5
  cases b with
  | true=>exact .inl ⟨p,vs,i,w,rfl,bL B h2,s1,h4,fin⟩
  | false=>exact .inr ⟨p,vs,i,w,rfl,bL B h2,s1,h4,fin⟩
end
end L2
namespace HT
open PySem PySem.Spec PyProof.Rows
section
variable{prog:Program}{w:World}{A:Around}{E:Value→Shared→Prop}{s:Shared}
theorem getItem_tuple_all{t sl:Addr}{items:Array Value}{vl vu:Value}{lo hi:Option Int}{Q:Value→Shared→Prop}(ht:IsTup s.heap t items)(hs:s.heap.IsSliceOf sl vl vu .none)(pl:IsPart vl lo)(pu:IsPart vu hi)
    (hw:sIx items.size 0 lo=0∧sIx items.size items.size hi=items.size)
    (h:Q (.ref t) s):wpAny (model prog w) A (getItem (.ref t) (.ref sl)) Q E s:=by
  obtain⟨os,hos,hcs,hds⟩:=id hs
  have hTs:s.TypeIs (.ref sl) "slice":=⟨os,hos,hcs⟩
  unfold getItem
  try with_reducible refine wpAny_holding ?_
  first | refine wpAny_bind (wpAny_pure ?_) | skip
  refine wpAny_bind (wpAny_sequenceKey ht.typeIs (by decide) ?_)
  refine wpAny_bind (wpAny_callSpecial?_slot (name:=Str.ofString "__getitem__") ht.typeIs PyProof.Rows.slot_tuple_getitem
    (wpAny_call_entry PyProof.Rows.slot_tuple_getitem ht.typeIs entry_tuple_getitem ?_ (args_tuple_getitem _ _)))
  show wpAny _ _ (Builtin.Tuple.tupleItemsOf (.ref t) >>= _) _ _ s
  refine wpAny_bind (tupleItemsOf_ ht ?_)
  refine wpAny_bind (wpAny_typeOf hTs ?_)
  rw [if_pos (by decide)]
  refine wpAny_bind (iy hs pl pu ?_)
  have hno:(((sIx items.size 0 lo:Nat):Int)==0&&(1:Int)==1&&(sIx items.size items.size hi - sIx items.size 0 lo)==items.size)=true:=by
    rw [hw.1,hw.2];simp
  show wpAny _ _ (if (((sIx items.size 0 lo:Nat):Int)==0&&(1:Int)==1&&(sIx items.size items.size hi - sIx items.size 0 lo)==items.size)=true then _ else _) _ _ s
  rw [if_pos hno]
  unfold Builtin.Tuple.tupleIsExact
  refine wpAny_bind (wpAny_bind (wpAny_typeOf ht.typeIs (wpAny_pure ?_)))
  rw [if_pos (by decide)]
  exact wpAny_bind (wpAny_rule (wpAny_pure ⟨_,rfl,wpAny_pure h⟩))
end
end HT
namespace L2
open PySem PySem.Spec PyProof.Rows
section
variable{X:Cx}{K:PySem.W.Frag}{a:Expr}{fa:FE}{lo hi:Option Expr}{pos p2:Pos}
def kh(xs:List PyData)(lo hi:Option Int):List PyData:=(xs.drop (HT.sIx xs.length 0 lo)).take (HT.sIx xs.length xs.length hi - HT.sIx xs.length 0 lo)
def Ej(K:PySem.W.Frag):V→Option Int→Option Int→Hp→VK→Prop:=fun x lo hi H Q=>∃a xs,x=.ref a∧cg K H a xs∧
  (HT.sIx xs.length 0 lo=0∧HT.sIx xs.length xs.length hi=xs.length)∧Q (.ref a) H
theorem Ao:yS X (Ej X.K):=by
  intro pins s σ H x v vl vu lo hi sl Q I rx hs pl pu h
  obtain⟨a,xs,rfl,hx,hw,q⟩:=h
  cases rx
  obtain⟨its,r,ht,hz⟩:=I.tuple hx
  have hlen:its.toArray.size=xs.length:=by rw [List.size_toArray];exact r.length.symm
  refine⟨"tuple",_,PyProof.Rows.slot_tuple_getitem.lookup,ht.typeIs,?_⟩
  exact HT.getItem_tuple_all ht hs pl pu (by rw [hlen];exact hw) ⟨.ref a,H,I,rfl,q⟩
def Fx(K:PySem.W.Frag):V→Option Int→Option Int→Hp→VK→Prop:=fun x lo hi H Q=>Ei K x lo hi H Q∨(Ej K x lo hi H Q∨Eh K x lo hi H Q)
theorem Fz:yS X (Fx X.K):=CY.or (Ao.or An)
abbrev FO:=En→Option (Option Int × En)
def fO(K:PySem.W.Frag)(f:FO):TO:=fun σ H Q=>∃F e o e',a_ K F H σ e∧f e=some (o,e')∧∀F' H',d9 σ F H e F' H' e'→a_ K F' H' σ e'→Q o H'
theorem PO.mono{e:Option Expr}{t t':TO}(h:PO X e t)(m:∀σ H Q,t' σ H Q→t σ H Q):PO X e t':=fun pins s σ H Q I q=>h pins s σ H Q I (m σ H Q q)
def fD:FO:=fun e=>some (none,e)
def eR(f:FE):FO:=fun e=>(f e).bind fun p=>(bC p.1).map fun i=>(some i,p.2)
theorem iR:PO X none (fO K fD):=zT.mono fun σ H Q h=>by
  obtain⟨F,e,o,e',R,hf,q⟩:=h
  cases hf
  exact q F H (d9.refl _ _ _ _) R
theorem iS(h:PE X a (fE K fa)):PO X (some a) (fO K (eR fa)):=(zU h).mono fun σ H Q h=>by
  obtain⟨F,e,o,e',R,hf,q⟩:=h
  unfold eR at hf
  obtain⟨⟨x,e1⟩,h1,hf⟩:=Option.bind_eq_some_iff.mp hf
  obtain⟨i,h2,hf⟩:=Option.map_eq_some_iff.mp hf
  cases hf
  exact⟨F,e,x,_,R,h1,fun F1 H1 v X1 R1 A1=>⟨i,bL A1 h2,q F1 H1 X1 R1⟩⟩
def Dl(e:En)(x:Rv)(lo hi:Option Int):Option Rv:=(el e x).map fun p=>if p.1=true then .l (kh p.2 lo hi) else .d (.tuple (kh p.2 lo hi))
def qP(fa:FE)(fl fh:FO):FE:=fun e=>(fa e).bind fun p=>(fl p.2).bind fun l=>(fh l.2).bind fun h=>(Dl h.2 p.1 l.1 h.1).map fun z=>(z,h.2)
theorem wG{F:Hp}{ds:List PyData}{vs:List V}(h:aL K F ds vs)(lo hi:Option Int):aL K F (kh ds lo hi) (oD vs lo hi):=by
  unfold kh oD
  rw [h.len]
  exact(h.drop _).take _
theorem y0{α:Type}{xs:List α}{lo hi:Option Int}(h:HT.sIx xs.length 0 lo=0∧HT.sIx xs.length xs.length hi=xs.length):(xs.drop (HT.sIx xs.length 0 lo)).take (HT.sIx xs.length xs.length hi - HT.sIx xs.length 0 lo)=xs:=by
  rw [h.1,h.2];simp
theorem x6{fl fh:FO}(he:PE X a (fE X.K fa))(hl:PO X lo (fO X.K fl))(hh:PO X hi (fO X.K fh)):PE X (.Subscript a (.Slice lo hi none p2) pos) (fE X.K (qP fa fl fh)):=(xJ Fz he hl hh).mono fun σ H Q h=>by
  obtain⟨F,e,z,e',R,hf,q⟩:=h
  unfold qP at hf
  obtain⟨⟨x,e1⟩,h1,hf⟩:=Option.bind_eq_some_iff.mp hf
  obtain⟨⟨l,e2⟩,h2,hf⟩:=Option.bind_eq_some_iff.mp hf
  obtain⟨⟨u,e3⟩,h3,hf⟩:=Option.bind_eq_some_iff.mp hf
  obtain⟨z',h4,hf⟩:=Option.map_eq_some_iff.mp hf
  cases hf
  refine⟨F,e,x,e1,R,h1,fun F1 H1 v X1 R1 A1=>⟨F1,e1,l,e2,R1,h2,fun F2 H2 X2 R2=>⟨F2,e2,u,_,R2,h3,fun F3 H3 X3 R3=>?_⟩⟩⟩
  have X12:=X1.trans X2
  have X13:=X12.trans X3
  have A3:=(A1.ext X2).ext X3
  unfold Dl at h4
  obtain⟨⟨b,xs⟩,h5,h4⟩:=Option.map_eq_some_iff.mp h4
  obtain⟨p,vs,rfl,d1,s1⟩:=dY R3 A3 h5
  cases b with
  | true=>
    rw [if_pos rfl] at h4;cases h4
    refine .inr (.inr ⟨p,vs,rfl,s1,fun t ht=>?_⟩)
    obtain⟨R4,X4,hF,no⟩:=R3.newL (vs:=oD vs l u) ht
    exact q _ _ _ (X13.trans X4) R4 ⟨t,_,rfl,X13.dom _ ht,hF,ax,wG d1 l u,no⟩
  | false=>
    rw [if_neg (by simp)] at h4;cases h4
    by_cases hw:HT.sIx vs.length 0 l=0∧HT.sIx vs.length vs.length u=vs.length
    · refine .inr (.inl ⟨p,vs,rfl,s1,hw,?_⟩)
      have e5:kh xs l u=xs:=by unfold kh;exact y0 (by rw [d1.len];exact hw)
      rw [e5] at q
      obtain⟨F4,R4,X4,hF⟩:=R3.growT (av.refl _) s1
      exact q _ _ _ (X13.trans X4) R4 (dJ.mpr ⟨p,vs,rfl,hF,d1.mono X4.sf⟩)
    · refine .inl ⟨p,vs,rfl,s1,hw,fun t ht=>?_⟩
      obtain⟨R4,X4⟩:=R3.newT (vs:=oD vs l u) ht
      exact q _ _ _ (X13.trans X4) R4 (dJ.mpr ⟨t,_,rfl,.inl (.inl ax),(wG d1 l u).mono X4.sf⟩)
end
section
variable{X:Cx}{K:PySem.W.Frag}
theorem lj{σ:L2.St}{H0 F H:Hp}{e:En}{x:Rv}{vs:List V}(h:cH K σ H0 F H e [x] vs):∃v,vs=[v]∧cn K σ H0 F H e x v:=by
  obtain⟨v,ws,rfl,h1,h2⟩:=h
  have h2':ws=[]:=h2
  subst h2'
  exact⟨v,rfl,h1⟩
theorem mU{σ:L2.St}{H0 F H:Hp}{e:En}{x y:Rv}{vs:List V}(h:cH K σ H0 F H e [x,y] vs):∃v u,vs=[v,u]∧cn K σ H0 F H e x v∧cn K σ H0 F H e y u:=by
  obtain⟨v,ws,rfl,h1,h2⟩:=h
  obtain⟨u,rfl,h3⟩:=lj h2
  exact⟨v,u,rfl,h1,h3⟩
def g1(g:En→Rv→Option Rv):En→List Rv→Option Rv:=fun e xs=>match xs with
  | [x]=>g e x
  | _=>none
def g2(g:En→Rv→Rv→Option Rv):En→List Rv→Option Rv:=fun e xs=>match xs with
  | [x,y]=>g e x y
  | _=>none
theorem jM{r:List V→Hp→VK→Prop}{g:En→Rv→Option Rv}(h:Dq K (fun v H Q=>r [v] H Q) g):fx K r (g1 g):=by
  intro σ H0 F H e xs z vs Q R A hg q
  unfold g1 at hg
  match xs,hg with
  | [x],hg=>
    obtain⟨v,rfl,h1⟩:=lj A
    exact h σ H0 F H e x z v Q R h1 hg q
theorem uc{r:List V→Hp→VK→Prop}{g:En→Rv→Rv→Option Rv}(h:i5 K (fun v u H Q=>r [v,u] H Q) g):fx K r (g2 g):=by
  intro σ H0 F H e xs z vs Q R A hg q
  unfold g2 at hg
  match xs,hg with
  | [x,y],hg=>
    obtain⟨v,u,rfl,h1,h2⟩:=mU A
    exact h σ H0 F H e x y z v u Q R h1 h2 hg q
def eX:En→Rv→Option Rv:=fun e x=>(el e x).map fun p=>.d (.int p.2.length)
theorem DO:fx K (fun xs H Q=>∃p ys,xs=[.ref p]∧(cX K H p ys∨cg K H p ys)∧Q (.int ys.length) H) (g1 eX):=jM fun σ H0 F H e x z v Q R A hg q=>by
  obtain⟨⟨b,xs⟩,h5,h4⟩:=Option.map_eq_some_iff.mp hg
  obtain⟨p,vs,rfl,d1,s1⟩:=dY R A h5
  cases h4
  refine⟨p,vs,rfl,?_,?_⟩
  · cases b with
    | true=>exact .inl s1
    | false=>exact .inr s1
  · rw [←d1.len]
    exact q F H _ (d9.refl _ _ _ _) R lV
def sG:En→Rv→Option Rv:=fun _ x=>(bC x).map fun i=>.d (.int (if i < 0 then -i else i))
theorem Dr:fx K (fun xs H Q=>∃i,xs=[.int i]∧Q (.int (if i < 0 then -i else i)) H) (g1 sG):=jM fun σ H0 F H e x z v Q R A hg q=>by
  obtain⟨i,h5,h4⟩:=Option.map_eq_some_iff.mp hg
  cases h4
  exact⟨i,by rw [bL A h5],q F H _ (d9.refl _ _ _ _) R lV⟩
def vg:En→Rv→Option Rv:=fun _ x=>match x with
  | .d (.int i)=>some (.d (.int i))
  | .d (.bool k)=>some (.d (.int (if k then 1 else 0)))
  | _=>none
theorem DH:fx K (fun xs H Q=>(∃i,xs=[.int i]∧Q (.int i) H)∨∃k,xs=[.bl k]∧Q (.int (if k then 1 else 0)) H) (g1 vg):=jM fun σ H0 F H e x z v Q R A hg q=>by
  unfold vg at hg
  split at hg
  · cases hg
    exact .inl ⟨_,by rw [bT.mp (show DA K F (.int _) v from A)],q F H _ (d9.refl _ _ _ _) R lV⟩
  · cases hg
    exact .inr ⟨_,by rw [dI.mp (show DA K F (.bool _) v from A)],q F H _ (d9.refl _ _ _ _) R lV⟩
  · cases hg
def wR:=gI (fun _ _=>true) fun i j=>.int (if j < i then j else i)
def vh:=gI (fun _ _=>true) fun i j=>.int (if j > i then j else i)
theorem DR:fx K (fun xs H Q=>∃i j,xs=[.int i,.int j]∧Q (.int (if j < i then j else i)) H) (g2 wR):=uc fun σ H0 F H e x y z v u Q R A B hg q=>by
  obtain⟨i,j,h1,h2,h3⟩:=ku (K:=K) (g:=fun i j=>.int (if j < i then j else i)) (fun _ _ _=>bT.mpr rfl) σ H0 F H e x y z v u Q R A B hg q
  exact⟨i,j,by rw [h1,h2],h3⟩
theorem DQ:fx K (fun xs H Q=>∃i j,xs=[.int i,.int j]∧Q (.int (if j > i then j else i)) H) (g2 vh):=uc fun σ H0 F H e x y z v u Q R A B hg q=>by
  obtain⟨i,j,h1,h2,h3⟩:=ku (K:=K) (g:=fun i j=>.int (if j > i then j else i)) (fun _ _ _=>bT.mpr rfl) σ H0 F H e x y z v u Q R A B hg q
  exact⟨i,j,by rw [h1,h2],h3⟩
def c9:En→Rv→Option Rv:=fun e x=>(el e x).map fun p=>.d (.tuple p.2)
theorem Aw:fx K (fun xs H Q=>∃p ys,xs=[.ref p]∧((cX K H p ys∧∀l,H l=none→Q (.ref l) (bj H l (.tup ys)))∨(cg K H p ys∧Q (.ref p) H))) (g1 c9):=jM fun σ H0 F H e x z v Q R A hg q=>by
  obtain⟨⟨b,xs⟩,h5,h4⟩:=Option.map_eq_some_iff.mp hg
  obtain⟨p,vs,rfl,d1,s1⟩:=dY R A h5
  cases h4
  refine⟨p,vs,rfl,?_⟩
  cases b with
  | true=>
    refine .inl ⟨s1,fun t ht=>?_⟩
    obtain⟨R4,X4⟩:=R.newT (vs:=vs) ht
    exact q _ _ _ X4 R4 (dJ.mpr ⟨t,_,rfl,.inl (.inl ax),d1.mono X4.sf⟩)
  | false=>
    obtain⟨F4,R4,X4,hF⟩:=R.growT (av.refl _) s1
    exact .inr ⟨s1,q _ _ _ X4 R4 (dJ.mpr ⟨p,vs,rfl,hF,d1.mono X4.sf⟩)⟩
def rj:List PyData→Option (List Int)
  | []=>some []
  | .int i::r=>(rj r).map (i::·)
  | _=>none
theorem rl:∀{ds:List PyData} {ns:List Int},rj ds=some ns→ds=ns.map .int
  | [],_,h=>by cases h;rfl
  | .int i::r,_,h=>by
    obtain⟨ns,h1,rfl⟩:=Option.map_eq_some_iff.mp h
    rw [rl h1];rfl
theorem ph:∀(ns:List Int),rj (ns.map .int)=some ns
  | []=>rfl
  | i::r=>by simp [rj,ph r]
def m7:List PyData→Option (List Bool)
  | []=>some []
  | .bool i::r=>(m7 r).map (i::·)
  | _=>none
theorem o5:∀{ds:List PyData} {ns:List Bool},m7 ds=some ns→ds=ns.map .bool
  | [],_,h=>by cases h;rfl
  | .bool i::r,_,h=>by
    obtain⟨ns,h1,rfl⟩:=Option.map_eq_some_iff.mp h
    rw [o5 h1];rfl
def j8(g:List PyData→Option PyData):En→Rv→Option Rv:=fun e x=>match el e x with
  | some (true,xs)=>(g xs).map .d
  | _=>none
theorem CV{r:List V→Hp→VK→Prop}{g:List PyData→Option PyData}(h:∀(F H:Hp) (p:Addr) (xs:List PyData) (vs:List V) (d:PyData) (Q:VK),aL K F xs vs→cX K H p vs→g xs=some d→(∀v,(∀F,DA K F d v)→Q v H)→r [.ref p] H Q):fx K r (g1 (j8 g)):=jM fun σ H0 F H e x z v Q R A hg q=>by
  unfold j8 at hg
  split at hg
  case h_2=>cases hg
  case h_1 xs h5=>
  obtain⟨p,vs,rfl,d1,s1⟩:=dY R A h5
  obtain⟨d,h6,hg⟩:=Option.map_eq_some_iff.mp hg
  cases hg
  exact h F H p xs vs d Q d1 s1 h6 fun v hv=>q F H v (d9.refl _ _ _ _) R (hv F)
def ml:List PyData→Option PyData:=fun xs=>(m7 xs).map fun ns=>.bool (ns.all id)
theorem Dt:fx K (fun xs H Q=>∃(l:Addr) (bs:List Bool),xs=[.ref l]∧cX K H l (bs.map V.bl)∧Q (.bl (bs.all id)) H) (g1 (j8 ml)):=CV fun F H p xs vs d Q d1 s1 hg q=>by
  obtain⟨ns,h1,h2⟩:=Option.map_eq_some_iff.mp hg
  cases h2
  rw [o5 h1] at d1
  rw [aL.bools.mp d1] at s1
  exact⟨p,ns,rfl,s1,q _ fun _=>dI.mpr rfl⟩
def iL:En→Rv→Option Rv:=fun e x=>match el e x with
  | some (false,xs)=>(rj xs).bind fun ns=>if ns.length < 64 then some (.l ((jI ns).map .int)) else none
  | _=>none
def yd(K:PySem.W.Frag):List V→Hp→VK→Prop:=fun xs H Q=>∃(a:Addr) (ns:List Int),xs=[.ref a]∧cg K H a (ns.map V.int)∧ns.length < 64∧∀(l:Addr) (H':Hp),av H H'→H l=none→H' l=some (.lst ((jI ns).map V.int))→Q (.ref l) H'
theorem sC:ey X (.builtin "sorted") (yd X.K):=by
  intro pins s σ H xs us Q I rv h
  obtain⟨a,ns,e1,e2,e3,q⟩:=h
  exact qV pins s σ H xs us Q I rv ⟨a,ns,e1,e2,e3,fun l ns' H' sm hn hl hp hs=>q l H' sm hn (by rw [←yn hp hs];exact hl)⟩
theorem Ap:fx K (yd K) (g1 iL):=jM fun σ H0 F H e x z v Q R A hg q=>by
  unfold iL at hg
  split at hg
  case h_2=>cases hg
  case h_1 xs h5=>
  obtain⟨p,vs,rfl,d1,s1⟩:=dY R A h5
  obtain⟨ns,h6,hg⟩:=Option.bind_eq_some_iff.mp hg
  split at hg
  case isFalse=>cases hg
  case isTrue hl=>
  cases hg
  rw [rl h6] at d1
  have s1':cg K H p vs:=s1
  rw [aL.ints.mp d1] at s1'
  refine⟨p,ns,rfl,s1',hl,fun l H' sm hn hl'=>?_⟩
  obtain⟨R4,X4⟩:=R.same sm
  exact q F H' _ X4 R4 ⟨l,_,rfl,hn,R.freeF hn,hl',aL.ints.mpr rfl,fun z=>R.ownH l ((R.sameOwn sm l).mp z) hn⟩
mutual
def AX:PyData→Bool
  | .tuple ds=>ug ds
  | .list _=>false
  | .dict _=>false
  | _=>true
def ug:List PyData→Bool
  | []=>true
  | d::r=>AX d&&ug r
end
end
end L2
namespace L2
open PySem PySem.Spec PyProof.Rows
section
variable{K:PySem.W.Frag}{σ:L2.St}{H0 F H F' H':Hp}{e e':En}
theorem a_.upd1(R:a_ K F H σ e){σ':L2.St}(i:Nat)(hl:σ'.length=e'.length)(hσ:∀j,j≠i→σ'[j]?=σ[j]?)(he:∀j,j≠i→e'[j]?=e[j]?)(sF:av F F')(sm:av F' H')(hf:∀j a,j≠i→Fp σ e H j a→F' a=none)
    (hh:∀j a o,j≠i→Fp σ e H j a→H a=some o→H' a=some o)(hd:∀x,e'[i]?=some (some (.d x))→∃v,σ'[i]?=some (some v)∧DA K F' x v)
    (ho:∀xs,e'[i]?=some (some (.l xs))→∃l vs,σ'[i]?=some (some (.ref l))∧F' l=none∧H' l=some (.lst vs)∧aL K F' xs vs)
    (hn:∀xss,e'[i]?=some (some (.n xss))→∃(l:Addr) (bs:List Addr),σ'[i]?=some (some (.ref l))∧F' l=none∧H' l=some (.lst (bs.map V.ref))∧bs.length=xss.length∧bs.Nodup∧l∉bs∧
      ∀(k:Nat) (b:Addr) (ys:List PyData),bs[k]?=some b→xss[k]?=some ys→F' b=none∧∃us,H' b=some (.lst us)∧aL K F' ys us)
    (hi:∀a j,j≠i→Fp σ' e' H' i a→¬Fp σ e H j a):a_ K F' H' σ' e'∧∀j a,j≠i→(Fp σ' e' H' j a↔ Fp σ e H j a):=by
  have fs:∀j a,j≠i→(Fp σ' e' H' j a↔ Fp σ e H j a):=by
    intro j a hj
    have key:∀xss l,e[j]?=some (some (.n xss))→σ[j]?=some (some (.ref l))→H' l=H l:=fun xss l h1 h2=>by
      obtain⟨l',bs,g1,g2,g3,_⟩:=R.nst j xss h1
      rw [h2] at g1;cases g1
      rw [g3]
      exact hh j l _ hj (.inr ⟨xss,l,bs,h1,h2,g3,.inl rfl⟩) g3
    unfold Fp
    rw [he j hj,hσ j hj]
    constructor
    · rintro(h1 | ⟨xss,l,bs,h1,h2,h3,h4⟩)
      · exact .inl h1
      · exact .inr ⟨xss,l,bs,h1,h2,by rw [←key xss l h1 h2];exact h3,h4⟩
    · rintro(h1 | ⟨xss,l,bs,h1,h2,h3,h4⟩)
      · exact .inl h1
      · exact .inr ⟨xss,l,bs,h1,h2,by rw [key xss l h1 h2];exact h3,h4⟩
  refine⟨⟨sm,hl,fun j x q=>?_,fun j xs q=>?_,fun j xss q=>?_,fun j k a q1 q2=>?_⟩,fs⟩
  · by_cases z:j=i
    · subst z;exact hd x q
    · rw [he j z] at q
      obtain⟨v,h1,h2⟩:=R.dat j x q
      exact⟨v,by rw [hσ j z];exact h1,DA.mono sF h2⟩
  · by_cases z:j=i
    · subst z;exact ho xs q
    · rw [he j z] at q
      obtain⟨l,vs,h1,h2,h3,h4⟩:=R.own j xs q
      have o:Fp σ e H j l:=.inl ⟨xs,q,h1⟩
      exact⟨l,vs,by rw [hσ j z];exact h1,hf j l z o,hh j l _ z o h3,h4.mono sF⟩
  · by_cases z:j=i
    · subst z;exact hn xss q
    · rw [he j z] at q
      obtain⟨l,bs,h1,h2,h3,h4,h5,h6,h7⟩:=R.nst j xss q
      have o:Fp σ e H j l:=.inr ⟨xss,l,bs,q,h1,h3,.inl rfl⟩
      refine⟨l,bs,by rw [hσ j z];exact h1,hf j l z o,hh j l _ z o h3,h4,h5,h6,fun k b ys g1 g2=>?_⟩
      obtain⟨c1,us,c2,c3⟩:=h7 k b ys g1 g2
      have ob:Fp σ e H j b:=.inr ⟨xss,l,bs,q,h1,h3,.inr (List.mem_of_getElem? g1)⟩
      exact⟨hf j b z ob,us,hh j b _ z ob c2,c3.mono sF⟩
  · by_cases zj:j=i
    · subst zj
      by_cases zk:k=j
      · exact zk.symm
      · exact absurd ((fs k a zk).mp q2) (hi a k zk q1)
    · by_cases zk:k=i
      · subst zk
        exact absurd ((fs j a zj).mp q1) (hi a j zj q2)
      · exact R.fp j k a ((fs j a zj).mp q1) ((fs k a zk).mp q2)
theorem a_.putL(R:a_ K F H σ e){i:Nat}{xs ys:List PyData}{l:Addr}{vs:List V}(hi:e[i]?=some (some (.l xs)))(hl:σ[i]?=some (some (.ref l)))(hd:aL K F ys vs):
    a_ K F (bj H l (.lst vs)) σ (e.set i (some (.l ys)))∧d9 σ F H e F (bj H l (.lst vs)) (e.set i (some (.l ys))):=by
  obtain⟨l',vs',h1,h2,h3,h4⟩:=R.own i xs hi
  rw [hl] at h1;cases h1
  have hlt:i < e.length:=(List.getElem?_eq_some_iff.mp hi).1
  have fi:Fp σ e H i l:=.inl ⟨xs,hi,hl⟩
  have gi:(e.set i (some (Sv.l ys)))[i]?=some (some (.l ys)):=List.getElem?_set_self hlt
  obtain⟨R',fs⟩:=R.upd1 (F':=F) (H':=bj H l (.lst vs)) (e':=e.set i (some (.l ys))) i (by rw [List.length_set];exact R.len) (fun _ _=>rfl) (fun j hj=>List.getElem?_set_ne (Ne.symm hj)) (av.refl F)
    (fun b o q=>by
      have z:b≠l:=fun z=>by rw [z,h2] at q;cases q
      rw [aA z];exact R.sm b o q)
    (fun j a _ q=>(R.fpAt q).1)
    (fun j a o hj q ha=>by
      have z:a≠l:=fun z=>hj (R.fp j i a q (by rw [z];exact fi))
      rw [aA z];exact ha)
    (fun x q=>by rw [gi] at q;cases q) (fun zs q=>by rw [gi] at q;cases q;exact⟨l,vs,hl,h2,ax,hd⟩) (fun xss q=>by rw [gi] at q;cases q)
    (fun a j hj q q2=>by
      rcases q with ⟨zs,_,q⟩ | ⟨xss,_,_,q,_⟩
      · rw [hl] at q;cases q
        exact hj (R.fp j i _ q2 fi)
      · rw [gi] at q;cases q)
  refine⟨R',⟨av.refl _,fun a q=>?_,fun _ _ q _ _=>q,fun a ws q=>?_,fun a o q n=>?_,fun j=>?_,fun a ⟨j,q⟩=>?_⟩⟩
  · by_cases z:a=l
    · rw [z,ax] at q;cases q
    · rw [aA z] at q;exact q
  · by_cases z:a=l
    · rw [z];exact⟨vs,ax⟩
    · rw [aA z];exact⟨ws,q⟩
  · have z:a≠l:=fun z=>n ⟨i,by rw [z];exact fi⟩
    rw [aA z];exact q
  · by_cases z:j=i
    · subst z;rw [gi];exact⟨fun _=>⟨xs,hi⟩,fun _=>⟨ys,rfl⟩⟩
    · rw [List.getElem?_set_ne (Ne.symm z)]
  · by_cases z:j=i
    · subst z
      rcases q with ⟨zs,_,q⟩ | ⟨xss,_,_,q,_⟩
      · rw [hl] at q;cases q;exact .inl ⟨j,fi⟩
      · rw [gi] at q;cases q
    · exact .inl ⟨j,(fs j a z).mp q⟩
theorem a_.setD(R:a_ K F H σ e)(i:Nat){x:PyData}{v:V}(h:DA K F x v):a_ K F H (σ.set i (some v)) (e.set i (some (.d x)))∧∀a,cQ (σ.set i (some v)) (e.set i (some (.d x))) H a→cQ σ e H a:=by
  have gi:∀s,(e.set i (some (Sv.d x)))[i]?=some (some s)→s=.d x∧i < e.length:=fun s q=>by
    have hlt:i < e.length:=by have:=(List.getElem?_eq_some_iff.mp q).1;simpa using this
    rw [List.getElem?_set_self hlt] at q
    exact⟨(Option.some.inj (Option.some.inj q)).symm,hlt⟩
  have nofp:∀a,¬Fp (σ.set i (some v)) (e.set i (some (.d x))) H i a:=fun a q=>by
    rcases q with ⟨zs,q,_⟩ | ⟨xss,_,_,q,_⟩
    · cases (gi _ q).1
    · cases (gi _ q).1
  obtain⟨R',fs⟩:=R.upd1 (F':=F) (H':=H) (σ':=σ.set i (some v)) (e':=e.set i (some (.d x))) i (by rw [List.length_set,List.length_set];exact R.len) (fun j hj=>List.getElem?_set_ne (Ne.symm hj)) (fun j hj=>List.getElem?_set_ne (Ne.symm hj)) (av.refl F) R.sm
    (fun j a _ q=>(R.fpAt q).1) (fun j a o _ _ ha=>ha)
    (fun y q=>by
      obtain⟨z,hlt⟩:=gi _ q
      cases z
      exact⟨v,List.getElem?_set_self (by rw [R.len];exact hlt),h⟩)
    (fun zs q=>by cases (gi _ q).1) (fun xss q=>by cases (gi _ q).1) (fun a j hj q=>absurd q (nofp a))
  refine⟨R',fun a ⟨j,q⟩=>?_⟩
  by_cases z:j=i
  · subst z;exact absurd q (nofp a)
  · exact⟨j,(fs j a z).mp q⟩
theorem a_.setL(R:a_ K F H σ e)(i:Nat){xs:List PyData}{l:Addr}{vs:List V}(h1:F l=none)(h2:H l=some (.lst vs))(h3:aL K F xs vs)(h4:¬cQ σ e H l):a_ K F H (σ.set i (some (.ref l))) (e.set i (some (.l xs)))∧∀a,cQ (σ.set i (some (.ref l))) (e.set i (some (.l xs))) H a→cQ σ e H a∨a=l:=by
  have gi:∀s,(e.set i (some (Sv.l xs)))[i]?=some (some s)→s=.l xs∧i < e.length:=fun s q=>by
    have hlt:i < e.length:=by have:=(List.getElem?_eq_some_iff.mp q).1;simpa using this
    rw [List.getElem?_set_self hlt] at q
    exact⟨(Option.some.inj (Option.some.inj q)).symm,hlt⟩
  have onefp:∀a,Fp (σ.set i (some (.ref l))) (e.set i (some (.l xs))) H i a→a=l:=fun a q=>by
    rcases q with ⟨zs,q,q2⟩ | ⟨xss,_,_,q,_⟩
    · obtain⟨_,hlt⟩:=gi _ q
      rw [List.getElem?_set_self (by rw [R.len];exact hlt)] at q2
      cases q2;rfl
    · cases (gi _ q).1
  obtain⟨R',fs⟩:=R.upd1 (F':=F) (H':=H) (σ':=σ.set i (some (.ref l))) (e':=e.set i (some (.l xs))) i (by rw [List.length_set,List.length_set];exact R.len) (fun j hj=>List.getElem?_set_ne (Ne.symm hj)) (fun j hj=>List.getElem?_set_ne (Ne.symm hj)) (av.refl F) R.sm
    (fun j a _ q=>(R.fpAt q).1) (fun j a o _ _ ha=>ha) (fun y q=>by cases (gi _ q).1)
    (fun zs q=>by
      obtain⟨z,hlt⟩:=gi _ q
      cases z
      exact⟨l,vs,List.getElem?_set_self (by rw [R.len];exact hlt),h1,h2,h3⟩)
    (fun xss q=>by cases (gi _ q).1) (fun a j hj q q2=>h4 ⟨j,by rw [onefp a q] at q2;exact q2⟩)
  refine⟨R',fun a ⟨j,q⟩=>?_⟩
  by_cases z:j=i
  · subst z;exact .inr (onefp a q)
  · exact .inl ⟨j,(fs j a z).mp q⟩
end
section
variable{X:Cx}{K:PySem.W.Frag}{o a:Expr}{es:List Expr}{fo:FE}{fs:FA}{name:Str}{apos cpos:Pos}{id:String}
def tS(K:PySem.W.Frag)(r:V→List V→Hp→VK→Prop)(g:List PyData→List PyData→Option (PyData × List PyData)):Prop:=
  ∀(F H:Hp) (l:Addr) (xs ys ds:List PyData) (z:PyData) (vs us:List V) (Q:VK),F l=none→av F H→H l=some (.lst vs)→aL K F xs vs→aL K F ds us→g xs ds=some (z,ys)→
    (∀w ws,DA K F z w→aL K F ys ws→Q w (bj H l (.lst ws)))→r (.ref l) us H Q
def cF(g:List PyData→List PyData→Option (PyData × List PyData))(fo:FE)(fs:FA):FE:=fun e=>(fo e).bind fun p=>match p.1 with
  | .s i=>(fs p.2).bind fun q=>(gg q.1).bind fun ds=>match q.2[i]? with
    | some (some (.l xs))=>(g xs ds).map fun z=>(.d z.1,q.2.set i (some (.l z.2)))
    | _=>none
  | _=>none
theorem yD{r:V→List V→Hp→VK→Prop}{g:List PyData→List PyData→Option (PyData × List PyData)}(hm:tS K r g){σ:L2.St}{H:Hp}{Q:VK}(h:fE K (cF g fo fs) σ H Q):Gc K "list" r (fE K fo) (fA K fs) σ H Q:=by
  obtain⟨F,e,z,e',R,hf,q⟩:=h
  unfold cF at hf
  obtain⟨⟨x,e1⟩,h1,hf⟩:=Option.bind_eq_some_iff.mp hf
  match x,h1,hf with
  | .s i,h1,hf=>
  dsimp only at hf
  obtain⟨⟨rs,e2⟩,h2,hf⟩:=Option.bind_eq_some_iff.mp hf
  obtain⟨ds,h3,hf⟩:=Option.bind_eq_some_iff.mp hf
  refine⟨F,e,_,e1,R,h1,fun F1 H1 v X1 R1 A1=>?_⟩
  obtain⟨g1,zs,g2⟩:=A1
  obtain⟨l,vs,c1,c2,c3,c4⟩:=R1.own i zs g2
  rw [g1] at c1;cases c1
  refine⟨.inl ⟨rfl,vs,.inl (.inl c3)⟩,F1,e1,rs,e2,R1,h2,fun F2 H2 us X2 R2 A2=>?_⟩
  match h4:e2[i]?,hf with
  | some (some (.l xs)),hf=>
  dsimp only at hf
  obtain⟨⟨zd,ys⟩,h5,hf⟩:=Option.map_eq_some_iff.mp hf
  cases hf
  obtain⟨F3,R3,s3,d3,f3⟩:=cH.frozen R2 A2 h3
  obtain⟨l',vs',k1,k2,k3,k4⟩:=R3.own i xs h4
  rw [g1] at k1;cases k1
  refine hm F3 H2 l xs ys ds zd vs' us Q k2 R3.sm k3 k4 d3 h5 fun w ws hw hws=>?_
  obtain⟨R4,X4⟩:=R3.putL h4 g1 hws
  exact q _ _ _ ((X1.trans (X2.frz s3 f3)).trans X4) R4 hw
theorem Bf{r:V→List V→Hp→VK→Prop}{g:List PyData→List PyData→Option (PyData × List PyData)}(slot:Slot "list" name id)(hty:typeOf (.builtin id)=pure (.type "method_descriptor"))(hm:FW X id r)(hf:tS X.K r g)(ho:PE X o (fE X.K fo))(ha:PA X (a::es) (fA X.K fs))
    (hbase:attributeBase o name X.env (eval o X.env)=eval o X.env)
    (hfew:((backTo cpos (starEach (a::es) X.env)).all (fun x=> !x.1)&&(backToKw cpos (keywordEach [] X.env)).all (fun x=>x.1.isSome)
      &&decide ((a::es).length+([]:List Keyword).length+(if ([]:List Keyword).isEmpty then 0 else 1) < 30))=true)
    (hline:(apos.endLine==cpos.line)=true)(hs:starEach (a::es) X.env=(false,eval a X.env)::starEach es X.env)(hplain:(backTo cpos (starEach es X.env)).any (·.1)=false):
    PE X (.Call (.Attribute o name apos) (a::es) [] cpos) (fE X.K (cF g fo fs)):=(Bb PySem.F.plainAttrs_list slot hty hm ho ha hbase hfew hline hs hplain).mono fun _ _ _ h=>yD hf h
def bD:List PyData→List PyData→Option (PyData × List PyData):=fun xs ds=>match ds with
  | [d]=>if xs.length < 1000000 then some (.none,xs++[d]) else none
  | _=>none
theorem wj:tS K uE bD:=by
  intro F H l xs ys ds z vs us Q hF sm hl d1 d2 hg q
  unfold bD at hg
  match ds,hg,d2 with
  | [d],hg,d2=>
    simp only [aL] at d2
    obtain⟨w,r,rfl,hw,rfl⟩:=d2
    dsimp only at hg
    split at hg
    case isFalse=>cases hg
    case isTrue hlt=>
    cases hg
    have:=d1.len
    have sl:sizeLine=16777216:=sizeLine_eq
    exact⟨l,vs,w,rfl,rfl,hl,by lia,q _ _ (jN.mpr rfl) (d1.append (aL.one hw))⟩
def rB:List PyData→List PyData→Option (PyData × List PyData):=fun xs ds=>match ds with
  | []=>(xs[xs.length - 1]?).map fun d=>(d,xs.dropLast)
  | _=>none
def eg:List PyData→List PyData→Option (PyData × List PyData):=fun xs ds=>match ds with
  | [.int i]=>if 0≤i∧i < 1000000000 then(xs[i.toNat]?).map fun d=>(d,xs.eraseIdx i.toNat) else none
  | _=>none
theorem zV:tS K ya eg:=by
  intro F H l xs ys ds z vs us Q hF sm hl d1 d2 hg q
  unfold eg at hg
  match ds,hg,d2 with
  | [.int i],hg,d2=>
    simp only [aL,DA] at d2
    obtain⟨w,r,rfl,rfl,rfl⟩:=d2
    dsimp only at hg
    split at hg
    case isFalse=>cases hg
    case isTrue hlt=>
    obtain⟨d,h1,h2⟩:=Option.map_eq_some_iff.mp hg
    cases h2
    obtain⟨v,g1,g2⟩:=d1.get h1
    have hlt2:i.toNat < vs.length:=(List.getElem?_eq_some_iff.mp g1).1
    exact⟨l,vs,i,i.toNat,v,rfl,rfl,hl,by lia,by lia,seqIndex_of hlt.1 (by lia),g1,q _ _ g2 (d1.erase _)⟩
end
end L2
namespace L2
open PySem PySem.Spec PyProof.Rows
inductive Fl where
  | nx (e:En)
  | bk (e:En)
  | ct (e:En)
  | rt (r:Rv) (e:En)
abbrev FS:=En→Option Fl
structure di (W:List Nat) (σ:L2.St) (F H:Hp) (e:En) (σ':L2.St) (F' H':Hp) (e':En):Prop where
  sf:av F F'
  dom:∀a,H' a=none→H a=none
  fr:∀a vs,F a=none→H a=some (.lst vs)→¬cQ σ e H a→F' a=none
  lst:∀a vs,H a=some (.lst vs)→∃vs',H' a=some (.lst vs')
  tmp:∀a o,H a=some o→¬cQ σ e H a→H' a=some o
  own:∀a,cQ σ' e' H' a→cQ σ e H a∨H a=none
  wr:∀j,j∉W→σ'[j]?=σ[j]?
section
variable{K:PySem.W.Frag}{W W1 W2:List Nat}{σ σ1 σ2 σ':L2.St}{H0 F H F1 H1 F2 H2 F' H':Hp}{e e1 e2 e':En}
theorem di.refl:di W σ F H e σ F H e:=⟨av.refl _,fun _ h=>h,fun _ _ h _ _=>h,fun _ vs h=>⟨vs,h⟩,fun _ _ h _=>h,fun _ h=>.inl h,fun _ _=>rfl⟩
theorem d9.s(x:d9 σ F H e F' H' e'):di W σ F H e σ F' H' e':=⟨x.sf,x.dom,x.fr,x.lst,x.tmp,x.ow,fun _ _=>rfl⟩
theorem di.trans(x:di W σ F H e σ1 F1 H1 e1)(y:di W σ1 F1 H1 e1 σ2 F2 H2 e2):di W σ F H e σ2 F2 H2 e2:=
  ⟨x.sf.trans y.sf,fun a h=>x.dom a (y.dom a h),fun a vs h n no=>let ⟨vs',q⟩:=x.lst a vs n;y.fr a vs' (x.fr a vs h n no) q (fun z=>(x.own a z).elim no fun z=>by rw [n] at z;cases z),fun a vs h=>let ⟨vs',q⟩:=x.lst a vs h;y.lst a vs' q,
    fun a o h n=>y.tmp a o (x.tmp a o h n) (fun z=>(x.own a z).elim n fun z=>by rw [h] at z;cases z),
    fun a h=>(y.own a h).elim (x.own a) (fun z=>.inr (x.dom a z)),
    fun j h=>(y.wr j h).trans (x.wr j h)⟩
theorem di.mono(x:di W1 σ F H e σ' F' H' e')(h:∀j,j∈W1→j∈W):di W σ F H e σ' F' H' e':=⟨x.sf,x.dom,x.fr,x.lst,x.tmp,x.own,fun j n=>x.wr j fun z=>n (h j z)⟩
end
def ni(K:PySem.W.Frag)(W:List Nat)(σ:L2.St)(F H:Hp)(e:En)(D:sr):Fl→Prop
  | .nx e'=>∀F' H' σ',di W σ F H e σ' F' H' e'→a_ K F' H' σ' e'→D.nx σ' H'
  | .bk e'=>∀F' H' σ',di W σ F H e σ' F' H' e'→a_ K F' H' σ' e'→D.bk σ' H'
  | .ct e'=>∀F' H' σ',di W σ F H e σ' F' H' e'→a_ K F' H' σ' e'→D.ct σ' H'
  | .rt r e'=>∀F' H' σ' v,di W σ F H e σ' F' H' e'→a_ K F' H' σ' e'→cn K σ' H F' H' e' r v→D.rt v H'
def fS(K:PySem.W.Frag)(f:FS)(W:List Nat):TS:=fun D σ H=>∃F e fl,a_ K F H σ e∧f e=some fl∧ni K W σ F H e D fl
theorem PS.mono{X:Cx}{st:Stmt}{t t':TS}(h:PS X st t)(m:∀D σ H,t' D σ H→t D σ H):PS X st t':=fun pins s σ H D I q=>h pins s σ H D I (m D σ H q)
theorem mD.mono{X:Cx}{st:List Stmt}{t t':TS}(h:mD X st t)(m:∀D σ H,t' D σ H→t D σ H):mD X st t':=fun pins s σ H D I q=>h pins s σ H D I (m D σ H q)
theorem ni.later{K:PySem.W.Frag}{W W1 W2:List Nat}{σ σ1:L2.St}{F H F1 H1:Hp}{e e1:En}{D:sr}{fl:Fl}(h:ni K W σ F H e D fl)(x:di W1 σ F H e σ1 F1 H1 e1)(h1:∀j,j∈W1→j∈W)(h2:∀j,j∈W2→j∈W):ni K W2 σ1 F1 H1 e1 D fl:=by
  cases fl with
  | nx e'=>exact fun F' H' σ' y R=>h F' H' σ' ((x.mono h1).trans (y.mono h2)) R
  | bk e'=>exact fun F' H' σ' y R=>h F' H' σ' ((x.mono h1).trans (y.mono h2)) R
  | ct e'=>exact fun F' H' σ' y R=>h F' H' σ' ((x.mono h1).trans (y.mono h2)) R
  | rt r e'=>exact fun F' H' σ' v y R A=>h F' H' σ' v ((x.mono h1).trans (y.mono h2)) R (A.weak x.dom)
section
variable{X:Cx}{K:PySem.W.Frag}{W W1 W2:List Nat}{st:Stmt}{eT:List Stmt}{f g:FS}{a b:Expr}{fa:FE}{ft:FT}{pos:Pos}
def cG:FS:=fun e=>some (.nx e)
def aD(f g:FS):FS:=fun e=>(f e).bind fun fl=>match fl with
  | .nx e1=>g e1
  | fl=>some fl
theorem a':mD X [] (fS K cG []):=zY.mono fun D σ H h=>by
  obtain⟨F,e,fl,R,hf,q⟩:=h
  cases hf
  exact q F H σ di.refl R
theorem ag(h1:PS X st (fS K f W1))(h2:mD X eT (fS K g W2)):mD X (st::eT) (fS K (aD f g) (W1++W2)):=(xY h1 h2).mono fun D σ H h=>by
  obtain⟨F,e,fl,R,hf,q⟩:=h
  unfold aD at hf
  obtain⟨fl1,h1,hf⟩:=Option.bind_eq_some_iff.mp hf
  have s1:∀j,j∈W1→j∈W1++W2:=fun j h=>List.mem_append.mpr (.inl h)
  have s2:∀j,j∈W2→j∈W1++W2:=fun j h=>List.mem_append.mpr (.inr h)
  refine⟨F,e,fl1,R,h1,?_⟩
  cases fl1 with
  | nx e1=>exact fun F' H' σ' x R'=>⟨F',e1,fl,R',hf,q.later x s1 s2⟩
  | bk e1=>cases hf;exact fun F' H' σ' x R'=>q F' H' σ' (x.mono s1) R'
  | ct e1=>cases hf;exact fun F' H' σ' x R'=>q F' H' σ' (x.mono s1) R'
  | rt r e1=>cases hf;exact fun F' H' σ' v x R' A=>q F' H' σ' v (x.mono s1) R' A
theorem aj(h1:PS X st (fS K f W)):mD X [st] (fS K f W):=zZ h1
def dz(fa:FE):FS:=fun e=>(fa e).map fun p=>.nx p.2
theorem fN(he:PE X a (fE K fa))(hs:swapsWith a none pos.line X.env=pure false):PS X (.Expr a pos) (fS K (dz fa) []):=(zX he hs).mono fun D σ H h=>by
  obtain⟨F,e,fl,R,hf,q⟩:=h
  obtain⟨⟨x,e1⟩,h1,hf⟩:=Option.map_eq_some_iff.mp hf
  cases hf
  exact⟨F,e,x,e1,R,h1,fun F1 H1 v X1 R1 A1=>q F1 H1 σ X1.s R1⟩
def aY(fa:FE):FS:=fun e=>(fa e).map fun p=>.rt p.1 p.2
theorem az(he:PE X a (fE K fa)):PS X (.Return (some a) pos) (fS K (aY fa) []):=(Ct he).mono fun D σ H h=>by
  obtain⟨F,e,fl,R,hf,q⟩:=h
  obtain⟨⟨x,e1⟩,h1,hf⟩:=Option.map_eq_some_iff.mp hf
  cases hf
  exact⟨F,e,x,e1,R,h1,fun F1 H1 v X1 R1 A1=>q F1 H1 σ v X1.s R1 A1⟩
def ir(ft:FT)(f g:FS):FS:=fun e=>(ft e).bind fun p=>if p.1=true then f p.2 else g p.2
theorem cE{c:Expr}{bs cs:List Stmt}(hc:PT X c (fT K ft))(ha:mD X bs (fS K f W1))(hb:mD X cs (fS K g W2)):PS X (.If c bs cs pos) (fS K (ir ft f g) (W1++W2)):=(D7 hc ha hb).mono fun D σ H h=>by
  obtain⟨F,e,fl,R,hf,q⟩:=h
  unfold ir at hf
  obtain⟨⟨x,e1⟩,h1,hf⟩:=Option.bind_eq_some_iff.mp hf
  refine⟨F,e,x,e1,R,h1,fun F1 H1 X1 R1=>?_⟩
  cases x with
  | true=>exact⟨F1,e1,fl,R1,hf,q.later (W1:=[]) X1.s (fun j h=>by cases h) fun j h=>List.mem_append.mpr (.inl h)⟩
  | false=>exact⟨F1,e1,fl,R1,hf,q.later (W1:=[]) X1.s (fun j h=>by cases h) fun j h=>List.mem_append.mpr (.inr h)⟩
def oK(i:Nat)(r:Rv)(e:En):Option En:=match r with
  | .d x=>some (e.set i (some (.d x)))
  | .l xs=>some (e.set i (some (.l xs)))
  | .s _=>none
theorem Cw{σ:L2.St}{H F H1 F1:Hp}{e e1 e2:En}{i:Nat}{r:Rv}{v:V}(R:a_ K F H σ e)(X1:d9 σ F H e F1 H1 e1)(R1:a_ K F1 H1 σ e1)(A1:cn K σ H F1 H1 e1 r v)(h:oK i r e1=some e2):
    di [i] σ F H e (σ.set i (some v)) F1 H1 e2∧a_ K F1 H1 (σ.set i (some v)) e2:=by
  have wr:∀j,j∉[i]→(σ.set i (some v))[j]?=σ[j]?:=fun j n=>List.getElem?_set_ne (fun z=>n (by simp [z]))
  cases r with
  | d x=>
    cases h
    obtain⟨R2,o2⟩:=R1.setD i A1
    exact⟨⟨X1.sf,X1.dom,X1.fr,X1.lst,X1.tmp,fun a h=>X1.ow a (o2 a h),wr⟩,R2⟩
  | l xs=>
    cases h
    obtain⟨l,vs,rfl,h1,h2,h3,h4,h5⟩:=A1
    obtain⟨R2,o2⟩:=R1.setL i h2 h3 h4 h5
    refine⟨⟨X1.sf,X1.dom,X1.fr,X1.lst,X1.tmp,fun a h=>?_,wr⟩,R2⟩
    rcases o2 a h with z | z
    · exact X1.ow a z
    · exact .inr (by rw [z];exact h1)
  | s j=>cases h
def bh(i:Nat)(fa:FE):FS:=fun e=>(fa e).bind fun p=>(oK i p.1 p.2).map .nx
theorem aG{i:Nat}{x:Str}{pos':Pos}(hN:X.N.Nodup)(hi:X.N[i]?=some x)(hx:Br X.env.scope x)(he:PE X a (fE K fa))(hs:swapsWith a (some (.Name x pos')) pos.line X.env=pure false)(hf:X.fn x=true∨X.env.scope.names.lookup x=some .local):
    PS X (.Assign [.Name x pos'] a pos) (fS K (bh i fa) [i]):=(xW hN hi hx he hs hf).mono fun D σ H h=>by
  obtain⟨F,e,fl,R,hf,q⟩:=h
  unfold bh at hf
  obtain⟨⟨r,e1⟩,h1,hf⟩:=Option.bind_eq_some_iff.mp hf
  obtain⟨e2,h2,hf⟩:=Option.map_eq_some_iff.mp hf
  cases hf
  refine⟨F,e,r,e1,R,h1,fun F1 H1 v X1 R1 A1=>?_⟩
  obtain⟨x,R2⟩:=Cw R X1 R1 A1 h2
  exact q F1 H1 _ x R2
abbrev FG:=PyData→En→Option En
def fG(K:PySem.W.Frag)(g:FG)(W:List Nat):TG:=fun v σ H Q=>∃F e x e',a_ K F H σ e∧DA K F x v∧g x e=some e'∧∀σ',di W σ F H e σ' F H e'→a_ K F H σ' e'→Q σ' H
abbrev AJ:=List PyData→En→Option En
def ER(K:PySem.W.Frag)(g:AJ)(W:List Nat):yK:=fun vs σ H Q=>∃F e xs e',a_ K F H σ e∧aL K F xs vs∧g xs e=some e'∧∀σ',di W σ F H e σ' F H e'→a_ K F H σ' e'→Q σ' H
theorem PG.mono{tg:Expr}{t t':TG}(h:PG X tg t)(m:∀v σ H Q,t' v σ H Q→t v σ H Q):PG X tg t':=fun pins s σ H v u Q I r q=>h pins s σ H v u Q I r (m v σ H Q q)
theorem wb.mono{tg:List Expr}{t t':yK}(h:wb X tg t)(m:∀v σ H Q,t' v σ H Q→t v σ H Q):wb X tg t':=fun pins s σ H v u Q I r q=>h pins s σ H v u Q I r (m v σ H Q q)
def af(i:Nat):FG:=fun x e=>some (e.set i (some (.d x)))
def aK:AJ:=fun xs e=>match xs with
  | []=>some e
  | _=>none
def ai(g:FG)(gs:AJ):AJ:=fun xs e=>match xs with
  | x::r=>(g x e).bind fun e1=>gs r e1
  | _=>none
def aN(gs:AJ):FG:=fun x e=>match x with
  | .tuple xs=>gs xs e
  | _=>none
theorem ao{i:Nat}{x:Str}(hN:X.N.Nodup)(hi:X.N[i]?=some x)(hx:Br X.env.scope x)(hf:X.fn x=true∨X.env.scope.names.lookup x=some .local):PG X (.Name x pos) (fG K (af i) [i]):=(zO hN hi hx hf).mono fun v σ H Q h=>by
  obtain⟨F,e,x,e',R,hx,hg,q⟩:=h
  cases hg
  obtain⟨R2,o2⟩:=R.setD i hx
  exact q _ ⟨av.refl _,fun _ h=>h,fun _ _ h _ _=>h,fun _ vs h=>⟨vs,h⟩,fun _ _ h _=>h,fun a h=>.inl (o2 a h),fun j n=>List.getElem?_set_ne (fun z=>n (by simp [z]))⟩ R2
theorem bg:wb X [] (ER K aK []):=zQ.mono fun v σ H Q h=>by
  obtain⟨F,e,x,e',R,hx,hg,q⟩:=h
  unfold aK at hg
  split at hg
  · cases hg
    simp only [aL] at hx
    exact⟨hx,q σ di.refl R⟩
  · cases hg
theorem ap{es:List Expr}{g1:FG}{gs:AJ}(h1:PG X a (fG K g1 W1))(h2:wb X es (ER K gs W2))
    (hs:(assignEach (a::es) X.env).map (·.2)=assign a X.env::(assignEach es X.env).map (·.2)):wb X (a::es) (ER K (ai g1 gs) (W1++W2)):=(xN h1 h2 hs).mono fun v σ H Q h=>by
  obtain⟨F,e,xs,e',R,hx,hg,q⟩:=h
  unfold ai at hg
  match xs,hg,hx with
  | x::r,hg,hx=>
    simp only [aL] at hx
    obtain⟨w,ws,e1,hw,hr⟩:=hx
    dsimp only at hg
    obtain⟨e1',h3,h4⟩:=Option.bind_eq_some_iff.mp hg
    refine⟨w,ws,e1,F,e,x,e1',R,hw,h3,fun σ1 x1 R1=>⟨F,e1',r,e',R1,hr,h4,fun σ2 x2 R2=>?_⟩⟩
    exact q σ2 ((x1.mono fun j h=>List.mem_append.mpr (.inl h)).trans (x2.mono fun j h=>List.mem_append.mpr (.inr h))) R2
theorem bN{es:List Expr}{k n:Nat}{gs:AJ}(hK:X.K=K)(hc:X.calm=true)(h:wb X es (ER K gs W))(hl:∀xs e e',gs xs e=some e'→xs.length=n)(hn:(assignEach es X.env).length=n)(hst:(assignEach es X.env).findIdx? (·.1)=none):PG X (.Tuple es k pos) (fG K (aN gs) W):=(zP hK hc h hn hst).mono fun v σ H Q h=>by
  obtain⟨F,e,x,e',R,hx,hg,q⟩:=h
  unfold aN at hg
  match x,hg,hx with
  | .tuple xs,hg,hx=>
    obtain⟨p,vs,e1,e2,e3⟩:=dJ.mp hx
    exact⟨p,vs,e1,R.sm.tup e2,by rw [←e3.len];exact hl xs e e' hg,F,e,xs,e',R,e3,hg,q⟩
theorem bK(xs:List PyData)(e e':En)(h:aK xs e=some e'):xs.length=0:=by
  unfold aK at h
  split at h
  · rfl
  · cases h
theorem aq{g:FG}{gs:AJ}{n:Nat}(hl:∀xs e e',gs xs e=some e'→xs.length=n)(xs:List PyData)(e e':En)(h:ai g gs xs e=some e'):xs.length=n+1:=by
  unfold ai at h
  match xs,h with
  | x::r,h=>
    obtain⟨e1,h3,h4⟩:=Option.bind_eq_some_iff.mp h
    simp [hl r e1 e' h4]
def fm(fa:FE)(g:FG):FS:=fun e=>(fa e).bind fun p=>match p.1 with
  | .d x=>(g x p.2).map .nx
  | _=>none
theorem dQ{tg:Expr}{g:FG}(he:PE X a (fE K fa))(hg:PG X tg (fG K g W))(hs:swapsWithSole [tg] a pos.line X.env=pure false)(hw:swappedStores [tg] a X.env=pure none)
    (h1:(assignEach [tg] X.env).map (·.2)=[assign tg X.env]):PS X (.Assign [tg] a pos) (fS K (fm fa g) W):=(s_ he hg hs hw h1).mono fun D σ H h=>by
  obtain⟨F,e,fl,R,hf,q⟩:=h
  unfold fm at hf
  obtain⟨⟨r,e1⟩,h1,hf⟩:=Option.bind_eq_some_iff.mp hf
  match r,h1,hf with
  | .d x,h1,hf=>
    obtain⟨e2,h2,hf⟩:=Option.map_eq_some_iff.mp hf
    cases hf
    exact⟨F,e,_,e1,R,h1,fun F1 H1 v X1 R1 A1=>⟨F1,e1,x,e2,R1,A1,h2,fun σ' x2 R2=>q F1 H1 σ' (X1.s.trans x2) R2⟩⟩
def mJ(i j:Nat)(fs:FA):FS:=fun e=>(fs e).bind fun p=>match p.1 with
  | [.d x,.d y]=>some (.nx ((p.2.set i (some (.d x))).set j (some (.d y))))
  | _=>none
theorem x8{i j:Nat}{x y:Str}{fs:FA}{px py pt:Pos}{kt k2 pt2}(hc:X.calm=true)(hN:X.N.Nodup)(hi:X.N[i]?=some x)(hj:X.N[j]?=some y)(hij:i≠j)
    (hx:X.env.scope.names.lookup x=some .local)(hy:X.env.scope.names.lookup y=some .local)(ha:PA X [a,b] (fA K fs))
    (hw:swappedStores [.Tuple [.Name x px,.Name y py] kt pt] (.Tuple [a,b] k2 pt2) X.env=pure (some [x,y]))
    (hs:swapsWithSole [.Tuple [.Name x px,.Name y py] kt pt] (.Tuple [a,b] k2 pt2) pos.line X.env=pure false):
    PS X (.Assign [.Tuple [.Name x px,.Name y py] kt pt] (.Tuple [a,b] k2 pt2) pos) (fS K (mJ i j fs) [i,j]):=(Cs hc hN hi hj hij hx hy ha hw hs).mono fun D σ H h=>by
  obtain⟨F,e,fl,R,hf,q⟩:=h
  unfold mJ at hf
  obtain⟨⟨rs,e1⟩,h1,hf⟩:=Option.bind_eq_some_iff.mp hf
  refine⟨F,e,rs,e1,R,h1,fun F1 H1 vs X1 R1 A1=>?_⟩
  match rs,hf,A1 with
  | [.d x,.d y],hf,A1=>
    cases hf
    obtain⟨v,u,rfl,a1,a2⟩:=mU A1
    obtain⟨R2,o2⟩:=R1.setD i a1
    obtain⟨R3,o3⟩:=R2.setD j a2
    refine⟨v,u,rfl,q F1 H1 _ ⟨X1.sf,X1.dom,X1.fr,X1.lst,X1.tmp,fun a h=>X1.ow a (o2 a (o3 a h)),fun m n=>?_⟩ R3⟩
    rw [List.getElem?_set_ne (fun z=>n (by simp [z])),List.getElem?_set_ne (fun z=>n (by simp [z]))]
def ki:Rv→Option PyData
  | .d x=>some x
  | .l xs=>some (.list xs)
  | .s _=>none
theorem jO{r:Rv}{d:PyData}(h:ki r=some d):gg [r]=some [d]:=by
  cases r with
  | d x=>cases h;rfl
  | l xs=>cases h;rfl
  | s i=>cases h
def oi(e:En):Rv→Option (Nat × List PyData)
  | .s n=>match e[n]? with
    | some (some (.l xs))=>some (n,xs)
    | _=>none
  | _=>none
theorem vO{e:En}{r:Rv}{n:Nat}{xs:List PyData}(h:oi e r=some (n,xs)):r=.s n∧e[n]?=some (some (.l xs)):=by
  unfold oi at h
  split at h
  · split at h
    · rename_i heq
      cases h;exact⟨rfl,heq⟩
    · cases h
  · cases h
def vK(fa fo fi:FE):FS:=fun e=>(fa e).bind fun p=>(ki p.1).bind fun d=>(fo p.2).bind fun o=>(fi o.2).bind fun i=>(bC i.1).bind fun k=>(oi i.2 o.1).bind fun s=>(qO s.2.length k).map fun j=>.nx (i.2.set s.1 (some (.l (s.2.set j d))))
theorem x9{o i:Expr}{fo fi:FE}{ps:Pos}(he:PE X a (fE K fa))(ho:PE X o (fE K fo))(hi:PE X i (fE K fi))
    (ha:∀v,assign (.Subscript o i ps) X.env v=(do
      let ov ←holding [v] (eval o X.env)
      let iv ←holding [v,ov] (eval i X.env)
      standAt ps
      holding [v,ov,iv] (setItem ov iv v)
      release [v,ov,iv] []))
    (hs:swapsWithSole [.Subscript o i ps] a pos.line X.env=pure false)(hw:swappedStores [.Subscript o i ps] a X.env=pure none)
    (h1:(assignEach [.Subscript o i ps] X.env).map (·.2)=[assign (.Subscript o i ps) X.env]):PS X (.Assign [.Subscript o i ps] a pos) (fS K (vK fa fo fi) []):=(s_ he (xM ho hi rX ha) hs hw h1).mono fun D σ H h=>by
  obtain⟨F,e,fl,R,hf,q⟩:=h
  unfold vK at hf
  obtain⟨⟨r,e1⟩,g1,hf⟩:=Option.bind_eq_some_iff.mp hf
  obtain⟨d,g2,hf⟩:=Option.bind_eq_some_iff.mp hf
  obtain⟨⟨ro,e2⟩,g3,hf⟩:=Option.bind_eq_some_iff.mp hf
  obtain⟨⟨ri,e3⟩,g4,hf⟩:=Option.bind_eq_some_iff.mp hf
  obtain⟨k,g5,hf⟩:=Option.bind_eq_some_iff.mp hf
  obtain⟨⟨n,xs⟩,g6,hf⟩:=Option.bind_eq_some_iff.mp hf
  obtain⟨j,g7,hf⟩:=Option.map_eq_some_iff.mp hf
  cases hf
  obtain⟨z6,g6'⟩:=vO g6
  dsimp only at z6 g6'
  subst z6
  refine⟨F,e,r,e1,R,g1,fun F1 H1 v X1 R1 A1=>?_⟩
  refine⟨F1,e1,_,e2,R1,g3,fun F2 H2 u X2 R2 A2=>⟨F2,e2,ri,e3,R2,g4,fun F3 H3 w X3 R3 A3=>?_⟩⟩
  have X12:=X1.trans X2
  have X13:=X12.trans X3
  have A1':=(A1.ext X2).ext X3
  obtain⟨F4,R4,s4,d4,f4⟩:=cH.frozen R3 (rs:=[r]) (vs:=[v]) ⟨v,[],rfl,A1',rfl⟩ (jO g2)
  obtain⟨h1,_⟩:=A2
  obtain⟨l,vs,k1,k2,k3,k4⟩:=R4.own n xs g6'
  rw [h1] at k1;cases k1
  simp only [aL] at d4
  obtain⟨v',r',e',hv,_⟩:=d4
  cases e'
  refine⟨l,vs,k,j,rfl,bL A3 g5,k3,by rw [←k4.len];exact g7,?_⟩
  obtain⟨R5,X5⟩:=R4.putL g6' h1 (k4.set hv j)
  exact q _ _ σ ((X13.frz s4 f4).trans X5).s R5
def i0(ft:FT)(f:FS):Nat→FS
  | 0,_=>none
  | n+1,e=>(ft e).bind fun p=>if p.1=true then(f p.2).bind fun fl=>match fl with
      | .nx e1=>i0 ft f n e1
      | .ct e1=>i0 ft f n e1
      | .bk e1=>some (.nx e1)
      | .rt r e1=>some (.rt r e1)
    else some (.nx p.2)
def iV(n:Nat)(ft:FT)(f:FS):FS:=i0 ft f n
theorem lh{n:Nat}{c:Expr}{body:List Stmt}(hp:PassesOwn (model X.prog X.w) X.A X.env X.xe)(hc:PT X c (fT K ft))(hb:mD X body (fS K f W)):PS X (.While c body [] pos) (fS K (iV n ft f) W):=(xX hp hc hb).mono fun D σ H h=>by
  refine⟨fun m σ H=>∃F e fl,a_ K F H σ e∧i0 ft f m e=some fl∧ni K W σ F H e D fl,⟨n,h⟩,?_⟩
  rintro m σ H ⟨F,e,fl,R,hf,q⟩
  cases m with
  | zero=>cases hf
  | succ m=>
    unfold i0 at hf
    obtain⟨⟨x,e1⟩,h1,hf⟩:=Option.bind_eq_some_iff.mp hf
    refine⟨F,e,x,e1,R,h1,fun F1 H1 X1 R1=>?_⟩
    have sub:∀j,j∈([]:List Nat)→j∈W:=fun j h=>by cases h
    cases x with
    | false=>
      rw [if_neg (by simp)] at hf
      cases hf
      exact zg (q F1 H1 σ X1.s R1)
    | true=>
      rw [if_pos rfl] at hf
      refine zh ?_
      obtain⟨fl1,h2,hf⟩:=Option.bind_eq_some_iff.mp hf
      have q1:ni K W σ F1 H1 e1 D fl:=q.later (W1:=[]) X1.s sub fun j h=>h
      refine⟨fun σ' H'=>∃F' e',a_ K F' H' σ' e'∧i0 ft f m e'=some fl∧ni K W σ' F' H' e' D fl,fun σ' H' ⟨F',e',r1,r2,r3⟩=>⟨m,Nat.lt_succ_self m,F',e',fl,r1,r2,r3⟩,F1,e1,fl1,R1,h2,?_⟩
      cases fl1 with
      | nx e2=>exact fun F2 H2 σ2 x R2=>⟨F2,e2,R2,hf,q1.later x (fun j h=>h) fun j h=>h⟩
      | ct e2=>exact fun F2 H2 σ2 x R2=>⟨F2,e2,R2,hf,q1.later x (fun j h=>h) fun j h=>h⟩
      | bk e2=>cases hf;exact fun F2 H2 σ2 x R2=>q1 F2 H2 σ2 x R2
      | rt r e2=>cases hf;exact fun F2 H2 σ2 v x R2 A=>q1 F2 H2 σ2 v x R2 A
end
end L2
namespace L2
open PySem PySem.Spec PyProof.Rows
theorem PI.mono{X:Cx}{tg iter:Expr}{t t':TI}(h:PI X tg iter t)(m:∀σ H R,t' σ H R→t σ H R):PI X tg iter t':=fun pins s σ H R I q=>h pins s σ H R I (m σ H R q)
theorem PI.or{X:Cx}{tg iter:Expr}{t t':TI}(h:PI X tg iter t)(h':PI X tg iter t'):PI X tg iter (fun σ H R=>t σ H R∨t' σ H R):=fun pins s σ H R I q=>by
  rcases q with q | q
  · exact h pins s σ H R I q
  · exact h' pins s σ H R I q
abbrev hZ:=List (Nat × List PyData)
def uU(K:PySem.W.Frag)(σ:L2.St)(F H:Hp)(own:hZ):Prop:=∀p∈own,∃l vs,σ[p.1]?=some (some (.ref l))∧H l=some (.lst vs)∧aL K F p.2 vs
def qQ(K:PySem.W.Frag)(σ:L2.St)(J:It)(items:List PyData)(own:hZ)(F0:Hp):Prop:=∀F H,av F0 F→av F H→uU K σ F H own→
  (∀i,i < items.length→J.go i H)∧(∀i,items.length≤i→J.stop i H)∧∀i d x H',items[i]?=some d→J.yld i H x H'→∃F',av H H'∧av F F'∧av F' H'∧(∀a,F a=none→H a≠none→F' a=none)∧DA K F' d x
abbrev FI:=En→Option (List PyData × hZ × En)
def keeps(own:hZ)(e:En):Prop:=∀p∈own,e[p.1]?=some (some (.l p.2))
def fI(K:PySem.W.Frag)(f:FI):TI:=fun σ H R=>∃F e items own e',a_ K F H σ e∧f e=some (items,own,e')∧∀J F' H',d9 σ F H e F' H' e'→a_ K F' H' σ e'→keeps own e'→qQ K σ J items own F'→R J H'
section
variable{K:PySem.W.Frag}{σ:L2.St}{H0 F H F' H':Hp}{e e':En}
theorem a_.held(R:a_ K F H σ e){own:hZ}(h:keeps own e):uU K σ F H own:=fun p hp=>by
  obtain⟨l,vs,h1,h2,h3,h4⟩:=R.own p.1 p.2 (h p hp)
  exact⟨l,vs,h1,h3,h4⟩
theorem a_.step(R:a_ K F H σ e)(s:av H H')(sF:av F F')(sm:av F' H')(fz:∀a,F a=none→H a≠none→F' a=none):a_ K F' H' σ e∧d9 σ F H e F' H' e:=by
  obtain⟨R',o'⟩:=R.keep sF sm (fun a ⟨i,h⟩=>by
    obtain⟨h1,vs,h2⟩:=R.fpAt h
    exact fz a h1 (by rw [h2];simp)) fun a o _ h=>s a o h
  exact⟨R',⟨sF,fun a h=>s.free h,fun a vs h1 h2 _=>fz a h1 (by rw [h2];simp),fun a vs h=>⟨vs,s _ _ h⟩,fun a o h _=>s a o h,fun _=>Iff.rfl,fun a h=>.inl ((o' a).mp h)⟩⟩
inductive pT (K:PySem.W.Frag) (σ:L2.St) (F:Hp) (p:Addr):Bool→List PyData→hZ→Prop
  | tup {xs vs}:cg K F p vs→aL K F xs vs→pT K σ F p false xs []
  | lst {xs vs}:cX K F p vs→aL K F xs vs→pT K σ F p true xs []
  | own {i xs}:σ[i]?=some (some (.ref p))→pT K σ F p true xs [(i,xs)]
theorem pT.at{p:Addr}{b:Bool}{xs:List PyData}{own:hZ}{F0:Hp}(h:pT K σ F0 p b xs own)(s0:av F0 F)(s1:av F H){own':hZ}(hh:uU K σ F H own')(hs:∀q∈own,q∈own'):∃vs,aL K F xs vs∧(if b=true then cX K H p vs else cg K H p vs):=by
  cases h with
  | tup h1 h2=>exact⟨_,h2.mono s0,(s0.trans s1).tup h1⟩
  | lst h1 h2=>exact⟨_,h2.mono s0,(s0.trans s1).seq h1⟩
  | @own i xs h1=>
    obtain⟨l,vs,g1,g2,g3⟩:=hh (i,xs) (hs (i,xs) (by simp))
    dsimp only at g1 g3
    rw [h1] at g1;cases g1
    exact⟨vs,g3,.inl (.inl g2)⟩
def rY(e:En):Rv→Option (Bool × List PyData × hZ)
  | .d (.tuple xs)=>some (false,xs,[])
  | .d (.list xs)=>some (true,xs,[])
  | .l xs=>some (true,xs,[])
  | .s i=>match e[i]? with
    | some (some (.l xs))=>some (true,xs,[(i,xs)])
    | _=>none
  | _=>none
theorem j0{r:Rv}{v:V}{b:Bool}{xs:List PyData}{own:hZ}(R:a_ K F H σ e)(A:cn K σ H0 F H e r v)(h:rY e r=some (b,xs,own)):
    ∃F' p,a_ K F' H σ e∧av F F'∧(∀a,F a=none→H0 a≠none→F' a=none)∧v=.ref p∧pT K σ F' p b xs own∧keeps own e:=by
  cases r with
  | d x=>
    cases x with
    | tuple ds=>
      cases h
      obtain⟨a,ys,e1,e2,e3⟩:=dJ.mp A
      exact⟨F,a,R,av.refl _,fun _ h _=>h,e1,.tup e2 e3,fun p hp=>by cases hp⟩
    | list ds=>
      cases h
      obtain⟨a,ys,e1,e2,e3⟩:=cK.mp A
      exact⟨F,a,R,av.refl _,fun _ h _=>h,e1,.lst e2 e3,fun p hp=>by cases hp⟩
    | _=>cases h
  | l ys=>
    cases h
    obtain⟨F',R',s',d',f'⟩:=A.frozen R
    obtain⟨a,ys,e1,e2,e3⟩:=cK.mp d'
    exact⟨F',a,R',s',f',e1,.lst e2 e3,fun p hp=>by cases hp⟩
  | s i=>
    obtain⟨h1,ys,h2⟩:=A
    simp only [rY,h2] at h
    cases h
    obtain⟨l,vs,e1,e2,e3,e4⟩:=R.own i _ h2
    rw [h1] at e1;cases e1
    exact⟨F,l,R,av.refl _,fun _ h _=>h,rfl,.own h1,fun p hp=>by simp only [List.mem_singleton] at hp;subst hp;exact h2⟩
theorem pj{p:Addr}{xs:List PyData}{own:hZ}{F0:Hp}(h:pT K σ F0 p true xs own):qQ K σ (EX K p) xs own F0:=by
  intro F H s0 s1 hh
  obtain⟨vs,d,q⟩:=h.at s0 s1 hh fun _ h=>h
  have q:cX K H p vs:=q
  refine⟨fun i hi=>⟨vs,vs[i]'(by rw [←d.len];exact hi),q,List.getElem?_eq_getElem _⟩,fun i hi=>⟨vs,q,by rw [←d.len];exact hi⟩,fun i x v H' hx hy=>?_⟩
  obtain⟨rfl,hy⟩:=hy
  obtain⟨w,g1,g2⟩:=d.get hx
  have e:=hy vs q
  rw [g1] at e;cases e
  exact⟨F,av.refl _,av.refl _,s1,fun _ h _=>h,g2⟩
theorem xa{p:Addr}{xs:List PyData}{own:hZ}{F0:Hp}(h:pT K σ F0 p false xs own):qQ K σ (EY K p) xs own F0:=by
  intro F H s0 s1 hh
  obtain⟨vs,d,q⟩:=h.at s0 s1 hh fun _ h=>h
  have q:cg K H p vs:=q
  refine⟨fun i hi=>⟨vs,vs[i]'(by rw [←d.len];exact hi),q,List.getElem?_eq_getElem _⟩,fun i hi=>⟨vs,q,by rw [←d.len];exact hi⟩,fun i x v H' hx hy=>?_⟩
  obtain⟨rfl,hy⟩:=hy
  obtain⟨w,g1,g2⟩:=d.get hx
  have e:=hy vs q
  rw [g1] at e;cases e
  exact⟨F,av.refl _,av.refl _,s1,fun _ h _=>h,g2⟩
theorem nG{p:Addr}{x y:V}{a b:PyData}(s1:av F H)(hp:H p=none)(hx:DA K F a x)(hy:DA K F b y):∃F',av H (bj H p (.tup [x,y]))∧av F F'∧av F' (bj H p (.tup [x,y]))∧(∀c,F c=none→H c≠none→F' c=none)∧DA K F' (.tuple [a,b]) (.ref p):=by
  have hF:F p=none:=s1.free hp
  have sF:av F (bj F p (.tup [x,y])):=av.new hF
  refine⟨bj F p (.tup [x,y]),av.new hp,sF,fun b o q=>?_,fun c h n=>?_,dJ.mpr ⟨p,_,rfl,.inl (.inl ax),.cons (DA.mono sF hx) (.one (DA.mono sF hy))⟩⟩
  · by_cases z:b=p
    · subst z;rw [ax] at q ⊢;exact q
    · rw [aA z] at q ⊢;exact s1 _ _ q
  · have z:c≠p:=fun z=>n (by rw [z];exact hp)
    rw [aA z];exact h
def ij:Nat→List PyData→List PyData
  | _,[]=>[]
  | n,x::r=>.tuple [.int n,x]::ij (n+1) r
theorem jQ:∀{xs:List PyData} {n i:Nat},(ij n xs)[i]?=(xs[i]?).map fun x=>.tuple [.int ((n+i:Nat):Int),x]
  | [],n,i=>by simp [ij]
  | x::r,n,0=>by simp [ij]
  | x::r,n,i+1=>by
    simp only [ij,List.getElem?_cons_succ]
    rw [jQ (xs:=r) (n:=n+1) (i:=i)]
    congr 1
    funext y
    rw [show n+1+i=n+(i+1) by lia]
theorem jR:∀(xs:List PyData) (n:Nat),(ij n xs).length=xs.length
  | [],_=>rfl
  | x::r,n=>by simp [ij,jR r (n+1)]
theorem sM{p:Addr}{xs:List PyData}{own:hZ}{F0:Hp}(h:pT K σ F0 p true xs own):qQ K σ (Bp K p) (ij 0 xs) own F0:=by
  intro F H s0 s1 hh
  obtain⟨vs,d,q⟩:=h.at s0 s1 hh fun _ h=>h
  have q:cX K H p vs:=q
  rw [jR]
  refine⟨fun i hi=>⟨vs,vs[i]'(by rw [←d.len];exact hi),q,List.getElem?_eq_getElem _⟩,fun i hi=>⟨vs,q,by rw [←d.len];exact hi⟩,fun i x v H' hx hy=>?_⟩
  obtain⟨t,y,rfl,ht,rfl,hy⟩:=hy
  rw [jQ] at hx
  obtain⟨x',hx2,rfl⟩:=Option.map_eq_some_iff.mp hx
  obtain⟨w,g1,g2⟩:=d.get hx2
  have e:=hy vs q
  rw [g1] at e;cases e
  exact nG s1 ht (bT.mpr (by simp)) g2
theorem sN{p:Addr}{xs:List PyData}{own:hZ}{F0:Hp}(h:pT K σ F0 p false xs own):qQ K σ (Bq K p) (ij 0 xs) own F0:=by
  intro F H s0 s1 hh
  obtain⟨vs,d,q⟩:=h.at s0 s1 hh fun _ h=>h
  have q:cg K H p vs:=q
  rw [jR]
  refine⟨fun i hi=>⟨vs,vs[i]'(by rw [←d.len];exact hi),q,List.getElem?_eq_getElem _⟩,fun i hi=>⟨vs,q,by rw [←d.len];exact hi⟩,fun i x v H' hx hy=>?_⟩
  obtain⟨t,y,rfl,ht,rfl,hy⟩:=hy
  rw [jQ] at hx
  obtain⟨x',hx2,rfl⟩:=Option.map_eq_some_iff.mp hx
  obtain⟨w,g1,g2⟩:=d.get hx2
  have e:=hy vs q
  rw [g1] at e;cases e
  exact nG s1 ht (bT.mpr (by simp)) g2
def bV:List PyData→List PyData→List PyData
  | x::r,y::s=>.tuple [x,y]::bV r s
  | _,_=>[]
theorem ox:∀{xs ys:List PyData} {i:Nat} {d:PyData},(bV xs ys)[i]?=some d→∃x y,xs[i]?=some x∧ys[i]?=some y∧d=.tuple [x,y]
  | [],ys,i,d,h=>by simp [bV] at h
  | x::r,[],i,d,h=>by simp [bV] at h
  | x::r,y::s,0,d,h=>by
    simp only [bV,List.getElem?_cons_zero] at h
    cases h;exact⟨x,y,rfl,rfl,rfl⟩
  | x::r,y::s,i+1,d,h=>by
    simp only [bV,List.getElem?_cons_succ] at h
    obtain⟨a,b,h1,h2,h3⟩:=ox h
    exact⟨a,b,by simpa using h1,by simpa using h2,h3⟩
theorem iA:∀(xs ys:List PyData),(bV xs ys).length=min xs.length ys.length
  | [],ys=>by simp [bV]
  | x::r,[]=>by simp [bV]
  | x::r,y::s=>by simp [bV,iA r s]
theorem kW{P Q:Hp→Addr→List V→Prop}{J:It}{l1 l2:Addr}{b1 b2:Bool}{xs ys:List PyData}{own1 own2:hZ}{F0:Hp}(h1:pT K σ F0 l1 b1 xs own1)(h2:pT K σ F0 l2 b2 ys own2)
    (hP:∀H vs,(if b1=true then cX K H l1 vs else cg K H l1 vs)→P H l1 vs)(hQ:∀H vs,(if b2=true then cX K H l2 vs else cg K H l2 vs)→Q H l2 vs)
    (go:∀i H vs us x y,P H l1 vs→Q H l2 us→vs[i]?=some x→us[i]?=some y→J.go i H)(stop:∀i H vs us,P H l1 vs→Q H l2 us→(vs.length≤i∨us.length≤i)→J.stop i H)
    (yld:∀i H v H',J.yld i H v H'→∃p x y,v=.ref p∧H p=none∧H'=bj H p (.tup [x,y])∧∀xs ys,P H l1 xs→Q H l2 ys→xs[i]?=some x∧ys[i]?=some y):
    qQ K σ J (bV xs ys) (own1++own2) F0:=by
  intro F H s0 s1 hh
  obtain⟨vs,d1,q1⟩:=h1.at s0 s1 hh fun _ h=>List.mem_append.mpr (.inl h)
  obtain⟨us,d2,q2⟩:=h2.at s0 s1 hh fun _ h=>List.mem_append.mpr (.inr h)
  have q1:=hP H vs q1
  have q2:=hQ H us q2
  have l1':=d1.len
  have l2':=d2.len
  rw [iA]
  refine⟨fun i hi=>go i H vs us (vs[i]'(by lia)) (us[i]'(by lia)) q1 q2 (List.getElem?_eq_getElem _) (List.getElem?_eq_getElem _),fun i hi=>stop i H vs us q1 q2 (by lia),fun i x v H' hx hy=>?_⟩
  obtain⟨t,a,b,rfl,ht,rfl,hy3⟩:=yld i H v H' hy
  obtain⟨x',y',hx2,hy',rfl⟩:=ox hx
  obtain⟨w,g1,g2⟩:=d1.get hx2
  obtain⟨w',g3,g4⟩:=d2.get hy'
  obtain⟨e1,e2⟩:=hy3 vs us q1 q2
  rw [g1] at e1;cases e1
  rw [g3] at e2;cases e2
  exact nG s1 ht g2 g4
def be(lo:Int)(n:Nat):List PyData:=(List.range n).map fun(i:Nat)=>.int (lo+(i:Int))
theorem sO{lo:Int}{n:Nat}{F0:Hp}:qQ K σ (EI lo n) (be lo n) [] F0:=by
  intro F H s0 s1 hh
  unfold be
  rw [List.length_map,List.length_range]
  refine⟨fun i hi=>hi,fun i hi=>hi,fun i x v H' hx hy=>?_⟩
  obtain⟨rfl,rfl⟩:=hy
  rw [List.getElem?_map] at hx
  obtain⟨k,h1,rfl⟩:=Option.map_eq_some_iff.mp hx
  have h2:=(List.getElem?_eq_some_iff.mp h1).2
  simp at h2
  subst h2
  exact⟨F,av.refl _,av.refl _,s1,fun _ h _=>h,bT.mpr rfl⟩
end
inductive EV (K:PySem.W.Frag) (own:hZ) (σ0:L2.St) (F1:Hp) (P:En→Prop) (G:L2.St→Hp→Hp→En→Prop) (σ:L2.St) (H:Hp):Prop
  | mk {F:Hp} {e:En} (R:a_ K F H σ e) (kp:keeps own e) (hσ:∀p∈own,σ[p.1]?=σ0[p.1]?) (sF:av F1 F) (hf:P e) (q:G σ F H e):EV K own σ0 F1 P G σ H
section
variable{X:Cx}{K:PySem.W.Frag}{tg a b:Expr}{es:List Expr}{fa:FE}{fs:FA}{pos p tp:Pos}{k0:Nat}
def kS(fa:FE):FI:=fun e=>(fa e).bind fun p=>(rY p.2 p.1).map fun s=>(s.2.1,s.2.2,p.2)
theorem jz(hK:X.K=K)(h:PE X a (fE K fa)):PI X tg a (fI K (kS fa)):=((rH (tg:=tg) hK h).or (zS (tg:=tg) hK h)).mono fun σ H R hh=>by
  obtain⟨F,e,items,own,e',R0,hf,q⟩:=hh
  unfold kS at hf
  obtain⟨⟨r,e1⟩,h1,hf⟩:=Option.bind_eq_some_iff.mp hf
  obtain⟨⟨b,xs,ow⟩,h2,hf⟩:=Option.map_eq_some_iff.mp hf
  cases hf
  cases b with
  | true=>
    refine .inl ⟨F,e,r,e1,R0,h1,fun F1 H1 v X1 R1 A1=>?_⟩
    obtain⟨F2,p,R2,s2,f2,rfl,sc,kp⟩:=j0 R1 A1 h2
    obtain⟨vs,_,c⟩:=sc.at (av.refl _) R2.sm (R2.held kp) fun _ h=>h
    exact⟨p,rfl,⟨vs,c⟩,q _ F2 H1 (X1.frz s2 f2) R2 kp (pj sc)⟩
  | false=>
    refine .inr ⟨F,e,r,e1,R0,h1,fun F1 H1 v X1 R1 A1=>?_⟩
    obtain⟨F2,p,R2,s2,f2,rfl,sc,kp⟩:=j0 R1 A1 h2
    obtain⟨vs,_,c⟩:=sc.at (av.refl _) R2.sm (R2.held kp) fun _ h=>h
    exact⟨p,rfl,⟨vs,c⟩,q _ F2 H1 (X1.frz s2 f2) R2 kp (xa sc)⟩
def wY(fs:FA):FI:=fun e=>(fs e).bind fun p=>match p.1 with
  | [r]=>(rY p.2 r).map fun s=>(ij 0 s.2.1,s.2.2,p.2)
  | _=>none
theorem Af(hK:X.K=K)(hg:Gl X "enumerate")(hm:X.mg "enumerate"=none)(ha:PA X [a] (fA K fs))(hs:starEach [a] X.env=[(false,eval a X.env)]):PI X (.Tuple es k0 tp) (.Call (.Name "enumerate" p) [a] [] pos) (fI K (wY fs)):=((xO (es:=es) (k0:=k0) (tp:=tp) hK hg hm ha hs).or (xP (es:=es) (k0:=k0) (tp:=tp) hK hg hm ha hs)).mono fun σ H R hh=>by
  obtain⟨F,e,items,own,e',R0,hf,q⟩:=hh
  unfold wY at hf
  obtain⟨⟨rs,e1⟩,h1,hf⟩:=Option.bind_eq_some_iff.mp hf
  match rs,h1,hf with
  | [r],h1,hf=>
  obtain⟨⟨b,xs,ow⟩,h2,hf⟩:=Option.map_eq_some_iff.mp hf
  cases hf
  cases b with
  | true=>
    refine .inl ⟨F,e,_,e1,R0,h1,fun F1 H1 vs X1 R1 A1=>?_⟩
    obtain⟨v,rfl,A2⟩:=lj A1
    obtain⟨F2,p,R2,s2,f2,rfl,sc,kp⟩:=j0 R1 A2 h2
    obtain⟨vs,_,c⟩:=sc.at (av.refl _) R2.sm (R2.held kp) fun _ h=>h
    exact⟨p,rfl,⟨vs,c⟩,q _ F2 H1 (X1.frz s2 f2) R2 kp (sM sc)⟩
  | false=>
    refine .inr ⟨F,e,_,e1,R0,h1,fun F1 H1 vs X1 R1 A1=>?_⟩
    obtain⟨v,rfl,A2⟩:=lj A1
    obtain⟨F2,p,R2,s2,f2,rfl,sc,kp⟩:=j0 R1 A2 h2
    obtain⟨vs,_,c⟩:=sc.at (av.refl _) R2.sm (R2.held kp) fun _ h=>h
    exact⟨p,rfl,⟨vs,c⟩,q _ F2 H1 (X1.frz s2 f2) R2 kp (sN sc)⟩
def mx(fs:FA):FI:=fun e=>(fs e).bind fun p=>match p.1 with
  | [r,t]=>(rY p.2 r).bind fun s=>(rY p.2 t).map fun u=>(bV s.2.1 u.2.1,s.2.2++u.2.2,p.2)
  | _=>none
theorem pT.mono{σ:L2.St}{F F':Hp}{p:Addr}{b:Bool}{xs:List PyData}{own:hZ}(h:pT K σ F p b xs own)(s:av F F'):pT K σ F' p b xs own:=by
  cases h with
  | tup h1 h2=>exact .tup (s.tup h1) (h2.mono s)
  | lst h1 h2=>exact .lst (s.seq h1) (h2.mono s)
  | own h1=>exact .own h1
theorem qA(hK:X.K=K)(hg:Gl X "zip")(hm:X.mg "zip"=none)(ha:PA X [a,b] (fA K fs))(hs:starEach [a,b] X.env=[(false,eval a X.env),(false,eval b X.env)])(hs2:starEach [b] X.env=[(false,eval b X.env)]):PI X (.Tuple es k0 tp) (.Call (.Name "zip" p) [a,b] [] pos) (fI K (mx fs)):=
    (((Cp (es:=es) (k0:=k0) (tp:=tp) hK hg hm ha hs hs2).or (xR (es:=es) (k0:=k0) (tp:=tp) hK hg hm ha hs hs2)).or ((xS (es:=es) (k0:=k0) (tp:=tp) hK hg hm ha hs hs2).or (xQ (es:=es) (k0:=k0) (tp:=tp) hK hg hm ha hs hs2))).mono fun σ H R hh=>by
  obtain⟨F,e,items,own,e',R0,hf,q⟩:=hh
  unfold mx at hf
  obtain⟨⟨rs,e1⟩,h1,hf⟩:=Option.bind_eq_some_iff.mp hf
  match rs,h1,hf with
  | [r,t],h1,hf=>
  obtain⟨⟨b,xs,ow⟩,h2,hf⟩:=Option.bind_eq_some_iff.mp hf
  obtain⟨⟨b',ys,ow'⟩,h3,hf⟩:=Option.map_eq_some_iff.mp hf
  cases hf
  have key:∀F1 H1 vs,d9 σ F H e F1 H1 e1→a_ K F1 H1 σ e1→cH K σ H F1 H1 e1 [r,t] vs→∃p p' F2,vs=[.ref p,.ref p']∧d9 σ F H e F2 H1 e1∧a_ K F2 H1 σ e1∧pT K σ F2 p b xs ow∧pT K σ F2 p' b' ys ow'∧keeps (ow++ow') e1:=by
    intro F1 H1 vs X1 R1 A1
    obtain⟨v,u,rfl,a1,a2⟩:=mU A1
    obtain⟨F2,p,R2,s2,f2,rfl,sc,kp⟩:=j0 R1 a1 h2
    have X2:=X1.frz s2 f2
    have a2':cn K σ H F2 H1 e1 t u∨∃zs,t=.l zs∧DA K F2 (.list zs) u:=by
      cases t with
      | d x=>exact .inl (DA.mono s2 a2)
      | s i=>exact .inl a2
      | l zs=>
        obtain⟨l,ws,rfl,g1,g2,g3,g4,g5⟩:=a2
        cases hl:F2 l with
        | none=>exact .inl ⟨l,ws,rfl,g1,hl,g3,aL.mono s2 g4,g5⟩
        | some o=>
          have:=R2.sm _ _ hl
          rw [g3] at this;cases this
          exact .inr ⟨zs,rfl,cK.mpr ⟨l,ws,rfl,.inl (.inl hl),aL.mono s2 g4⟩⟩
    rcases a2' with a2' | ⟨zs,rfl,d2⟩
    · obtain⟨F3,p',R3,s3,f3,rfl,sc',kp'⟩:=j0 R2 a2' h3
      exact⟨p,p',F3,rfl,X2.frz s3 f3,R3,sc.mono s3,sc',fun z hz=>(List.mem_append.mp hz).elim (kp z) (kp' z)⟩
    · cases h3
      obtain⟨p',ws,rfl,g1,g2⟩:=cK.mp d2
      exact⟨p,p',F2,rfl,X2,R2,sc,.lst g1 g2,fun z hz=>(List.mem_append.mp hz).elim (kp z) fun h=>by cases h⟩
  have fin:∀{F2 H1:Hp} {p p':Addr},a_ K F2 H1 σ e1→pT K σ F2 p b xs ow→pT K σ F2 p' b' ys ow'→keeps (ow++ow') e1→(∃vs,if b=true then cX K H1 p vs else cg K H1 p vs)∧(∃vs,if b'=true then cX K H1 p' vs else cg K H1 p' vs):=by
    intro F2 H1 p p' R2 s1 s2 kp
    obtain⟨vs,_,c⟩:=s1.at (av.refl _) R2.sm (R2.held kp) fun _ h=>List.mem_append.mpr (.inl h)
    obtain⟨us,_,c'⟩:=s2.at (av.refl _) R2.sm (R2.held kp) fun _ h=>List.mem_append.mpr (.inr h)
    exact⟨⟨vs,c⟩,⟨us,c'⟩⟩
  cases b with
  | false=>cases b' with
    | false=>
      refine .inl (.inl ⟨F,e,_,e1,R0,h1,fun F1 H1 vs X1 R1 A1=>?_⟩)
      obtain⟨p,p',F2,rfl,X2,R2,s1,s2,kp⟩:=key F1 H1 vs X1 R1 A1
      obtain⟨c1,c2⟩:=fin R2 s1 s2 kp
      exact⟨p,p',rfl,c1,c2,q _ F2 H1 X2 R2 kp (kW (P:=cg K) (Q:=cg K) s1 s2 (fun _ _ h=>h) (fun _ _ h=>h) (fun i H vs us x y h1 h2 h3 h4=>⟨vs,us,x,y,h1,h2,h3,h4⟩) (fun i H vs us h1 h2 h3=>⟨vs,us,h1,h2,h3⟩) fun i H v H' h=>h)⟩
    | true=>
      refine .inr (.inl ⟨F,e,_,e1,R0,h1,fun F1 H1 vs X1 R1 A1=>?_⟩)
      obtain⟨p,p',F2,rfl,X2,R2,s1,s2,kp⟩:=key F1 H1 vs X1 R1 A1
      obtain⟨c1,c2⟩:=fin R2 s1 s2 kp
      exact⟨p,p',rfl,c1,c2,q _ F2 H1 X2 R2 kp (kW (P:=cg K) (Q:=cX K) s1 s2 (fun _ _ h=>h) (fun _ _ h=>h) (fun i H vs us x y h1 h2 h3 h4=>⟨vs,us,x,y,h1,h2,h3,h4⟩) (fun i H vs us h1 h2 h3=>⟨vs,us,h1,h2,h3⟩) fun i H v H' h=>h)⟩
  | true=>cases b' with
    | false=>
      refine .inl (.inr ⟨F,e,_,e1,R0,h1,fun F1 H1 vs X1 R1 A1=>?_⟩)
      obtain⟨p,p',F2,rfl,X2,R2,s1,s2,kp⟩:=key F1 H1 vs X1 R1 A1
      obtain⟨c1,c2⟩:=fin R2 s1 s2 kp
      exact⟨p,p',rfl,c1,c2,q _ F2 H1 X2 R2 kp (kW (P:=cX K) (Q:=cg K) s1 s2 (fun _ _ h=>h) (fun _ _ h=>h) (fun i H vs us x y h1 h2 h3 h4=>⟨vs,us,x,y,h1,h2,h3,h4⟩) (fun i H vs us h1 h2 h3=>⟨vs,us,h1,h2,h3⟩) fun i H v H' h=>h)⟩
    | true=>
      refine .inr (.inr ⟨F,e,_,e1,R0,h1,fun F1 H1 vs X1 R1 A1=>?_⟩)
      obtain⟨p,p',F2,rfl,X2,R2,s1,s2,kp⟩:=key F1 H1 vs X1 R1 A1
      obtain⟨c1,c2⟩:=fin R2 s1 s2 kp
      exact⟨p,p',rfl,c1,c2,q _ F2 H1 X2 R2 kp (kW (P:=cX K) (Q:=cX K) s1 s2 (fun _ _ h=>h) (fun _ _ h=>h) (fun i H vs us x y h1 h2 h3 h4=>⟨vs,us,x,y,h1,h2,h3,h4⟩) (fun i H vs us h1 h2 h3=>⟨vs,us,h1,h2,h3⟩) fun i H v H' h=>h)⟩
def yf(j:Int):Bool:=decide (-1000000≤j)&&decide (j≤1000000)
theorem yg{j:Int}(h:yf j=true): -1000000≤j∧j≤1000000:=by
  unfold yf at h
  rw [Bool.and_eq_true,decide_eq_true_iff,decide_eq_true_iff] at h
  exact h
def cS(fs:FA):FI:=fun e=>(fs e).bind fun p=>match p.1 with
  | [r]=>(bC r).bind fun j=>if yf j=true then some (be 0 j.toNat,[],p.2) else none
  | _=>none
theorem cU(hg:Gl X "range")(hm:X.mg "range"=none)(ha:PA X [a] (fA K fs))(hs:starEach [a] X.env=[(false,eval a X.env)]):PI X tg (.Call (.Name "range" p) [a] [] pos) (fI K (cS fs)):=(vD hg hm ha hs).mono fun σ H R hh=>by
  obtain⟨F,e,items,own,e',R0,hf,q⟩:=hh
  unfold cS at hf
  obtain⟨⟨rs,e1⟩,h1,hf⟩:=Option.bind_eq_some_iff.mp hf
  match rs,h1,hf with
  | [r],h1,hf=>
  obtain⟨j,h2,hf⟩:=Option.bind_eq_some_iff.mp hf
  split at hf
  case isFalse=>cases hf
  case isTrue hj=>
  cases hf
  refine⟨F,e,_,e1,R0,h1,fun F1 H1 vs X1 R1 A1=>?_⟩
  obtain⟨v,rfl,A2⟩:=lj A1
  have:=yg hj
  exact⟨j,by rw [bL A2 h2],by lia,by lia,q _ F1 H1 X1 R1 (fun _ h=>by cases h) sO⟩
open Classical in
noncomputable def gD(own:hZ)(g:FG)(f:FS):List PyData→FS
  | [],e=>some (.nx e)
  | x::r,e=>(g x e).bind fun e1=>(f e1).bind fun fl=>match fl with
    | .nx e2=>if keeps own e2 then gD own g f r e2 else none
    | .ct e2=>if keeps own e2 then gD own g f r e2 else none
    | .bk e2=>some (.nx e2)
    | .rt v e2=>some (.rt v e2)
noncomputable def de(W:List Nat)(fi:FI)(g:FG)(f:FS):FS:=fun e=>(fi e).bind fun p=>if (p.2.1.all fun q=> !W.contains q.1)=true then gD p.2.1 g f p.1 p.2.2 else none
theorem dR{W1 W2:List Nat}{iter:Expr}{body:List Stmt}{fi:FI}{g:FG}{f:FS}(hp:PassesOwn (model X.prog X.w) X.A X.env X.xe)(hc:X.calm=true)(hi:PI X tg iter (fI K fi))(hg:PG X tg (fG K g W1))(hb:mD X body (fS K f W2))(hs:∀x,foldedSetIterable iter X.env x=pure x):
    PS X (.For tg iter body [] pos) (fS K (de (W1++W2) fi g f) (W1++W2)):=(Cr hp hc hi hg hb hs).mono fun D σ0 H0 hh=>by
  obtain⟨F0,e0,fl,R0,hf,q0⟩:=hh
  unfold de at hf
  obtain⟨⟨items,own,e1⟩,h1,hf⟩:=Option.bind_eq_some_iff.mp hf
  dsimp only at hf
  split at hf
  case isFalse=>cases hf
  case isTrue hW=>
  have hW':∀p∈own,p.1∉W1++W2:=fun p hp=>by
    have:=List.all_eq_true.mp hW p hp
    simpa using this
  refine⟨F0,e0,items,own,e1,R0,h1,fun J F1 H1 X1 R1 kp ok=>?_⟩
  have s1:∀j,j∈W1→j∈W1++W2:=fun j h=>List.mem_append.mpr (.inl h)
  have s2:∀j,j∈W2→j∈W1++W2:=fun j h=>List.mem_append.mpr (.inr h)
  have q1:ni K (W1++W2) σ0 F1 H1 e1 D fl:=q0.later (W1:=[]) X1.s (fun j h=>by cases h) fun j h=>h
  refine⟨fun i m σ H=>m=items.length - i∧i≤items.length∧EV K own σ0 F1 (fun e=>gD own g f (items.drop i) e=some fl) (fun σ F H e=>ni K (W1++W2) σ F H e D fl) σ H,
    ⟨items.length,by simp,Nat.zero_le _,.mk R1 kp (fun _ _=>rfl) (av.refl _) hf q1⟩,?_⟩
  rintro i m σ H ⟨rfl,hi,⟨R,kp,hσ,sF,hf,q⟩⟩
  rename_i F e
  have held:uU K σ0 F H own:=fun p hp=>by
    obtain⟨l,vs,g1,g2⟩:=R.held kp p hp
    exact⟨l,vs,by rw [←hσ p hp];exact g1,g2⟩
  obtain⟨go,stop,yld⟩:=ok F H sF R.sm held
  by_cases hlt:i < items.length
  · have hd:items.drop i=items[i]::items.drop (i+1):=List.drop_eq_getElem_cons hlt
    rw [hd] at hf
    unfold gD at hf
    obtain⟨e2,h2,hf⟩:=Option.bind_eq_some_iff.mp hf
    obtain⟨fl2,h3,hf⟩:=Option.bind_eq_some_iff.mp hf
    refine .inr ⟨go i hlt,EV K own σ0 F1 (fun e=>gD own g f (items.drop (i+1)) e=some fl) (fun σ F H e=>ni K (W1++W2) σ F H e D fl),
      fun σ' H' r=>⟨items.length - (i+1),by lia,rfl,hlt,r⟩,fun x H' hy=>?_⟩
    obtain⟨F',sH,sF',sm',fz,hx⟩:=yld i items[i] x H' (List.getElem?_eq_getElem hlt) hy
    obtain⟨R',X'⟩:=R.step sH sF' sm' fz
    refine⟨F',e,items[i],e2,R',hx,h2,fun σ2 x2 R2=>⟨F',e2,fl2,R2,h3,?_⟩⟩
    have q2:ni K (W1++W2) σ2 F' H' e2 D fl:=(q.later (W1:=[]) (W2:=W1++W2) X'.s (fun j h=>by cases h) fun j h=>h).later x2 s1 fun j h=>h
    have w2:∀p∈own,σ2[p.1]?=σ0[p.1]?:=fun p hp=>(x2.wr p.1 fun z=>hW' p hp (s1 _ z)).trans (hσ p hp)
    cases fl2 with
    | nx e3=>
      intro F3 H3 σ3 x3 R3
      dsimp only at hf
      split at hf
      case isFalse=>cases hf
      case isTrue kp3=>
      exact .mk R3 kp3 (fun p hp=>(x3.wr p.1 fun z=>hW' p hp (s2 _ z)).trans (w2 p hp)) (sF.trans (sF'.trans x3.sf)) hf (q2.later x3 s2 fun j h=>h)
    | ct e3=>
      intro F3 H3 σ3 x3 R3
      dsimp only at hf
      split at hf
      case isFalse=>cases hf
      case isTrue kp3=>
      exact .mk R3 kp3 (fun p hp=>(x3.wr p.1 fun z=>hW' p hp (s2 _ z)).trans (w2 p hp)) (sF.trans (sF'.trans x3.sf)) hf (q2.later x3 s2 fun j h=>h)
    | bk e3=>
      cases hf
      exact fun F3 H3 σ3 x3 R3=>q2 F3 H3 σ3 (x3.mono s2) R3
    | rt r e3=>
      cases hf
      exact fun F3 H3 σ3 v x3 R3 A3=>q2 F3 H3 σ3 v (x3.mono s2) R3 A3
  · have hd:items.drop i=[]:=List.drop_eq_nil_of_le (by lia)
    rw [hd] at hf
    cases hf
    exact .inl ⟨stop i (by lia),q F H σ di.refl R⟩
end
end L2
namespace L2
open PySem PySem.Spec PyProof.Rows
def w_:Option (Option Sv)→Bool
  | some (some (.l _))=>true
  | _=>false
theorem uo{s:Option (Option Sv)}:w_ s=true↔ ∃xs,s=some (some (.l xs)):=by
  unfold w_
  split
  · simp
  · rename_i h
    constructor
    · intro z;cases z
    · rintro⟨xs,rfl⟩;exact absurd rfl (h xs)
def lF(pos:Nat→Option Nat)(ei e:En):En:=e.mapIdx fun i s=>match s with
  | some (.l xs)=>match pos i with
    | some k=>(ei[k]?).join
    | none=>some (.l xs)
  | s=>s
theorem cA{pos:Nat→Option Nat}{ei e:En}{i:Nat}:(lF pos ei e)[i]?=(e[i]?).map fun s=>match s with
  | some (.l xs)=>match pos i with
    | some k=>(ei[k]?).join
    | none=>some (.l xs)
  | s=>s:=by unfold lF;rw [List.getElem?_mapIdx]
structure qR (σ:L2.St) (e:En) (σi:L2.St) (ei:En) (pos:Nat→Option Nat):Prop where
  a:∀(i k:Nat) (xs:List PyData),e[i]?=some (some (.l xs))→pos i=some k→σi[k]?=σ[i]?
  b:∀(k:Nat) (ys:List PyData),ei[k]?=some (some (.l ys))→∃(i:Nat) (xs:List PyData),e[i]?=some (some (.l xs))∧pos i=some k∧σi[k]?=σ[i]?
section
variable{K:PySem.W.Frag}{σ σi σi':L2.St}{F H F' H':Hp}{e ei ei':En}{pos:Nat→Option Nat}
def Dm(e:En):Prop:=∀(i:Nat) (xss:List (List PyData)),e[i]?≠some (some (.n xss))
theorem qR.own(s:qR σ e σi ei pos)(hn:Dm ei){a:Addr}{H H':Hp}(h:cQ σi ei H a):∃(i k:Nat) (xs:List PyData),e[i]?=some (some (.l xs))∧pos i=some k∧σ[i]?=some (some (.ref a)):=by
  obtain⟨k,⟨ys,h1,h2⟩ | ⟨xss,_,_,h1,_⟩⟩:=h
  · obtain⟨i,xs,g1,g2,g3⟩:=s.b k ys h1
    exact⟨i,k,xs,g1,g2,by rw [←g3];exact h2⟩
  · exact absurd h1 (hn k xss)
theorem oj(R:a_ K F H σ e)(s:qR σ e σi ei pos)(hnn:Dm ei)(sf:av F F')(dom:∀a,H' a=none→H a=none)(fr:∀a vs,F a=none→H a=some (.lst vs)→¬cQ σi ei H a→F' a=none)(lst:∀a vs,H a=some (.lst vs)→∃vs',H' a=some (.lst vs'))
    (tmp:∀a o,H a=some o→¬cQ σi ei H a→H' a=some o)(R':a_ K F' H' σi' ei')(hσ:∀(i k:Nat) (xs:List PyData),e[i]?=some (some (.l xs))→pos i=some k→σi'[k]?=σi[k]?)(hsh:∀(i k:Nat) (xs:List PyData),e[i]?=some (some (.l xs))→pos i=some k→∃ys,ei'[k]?=some (some (.l ys))):
    a_ K F' H' σ (lF pos ei' e)∧d9 σ F H e F' H' (lF pos ei' e)∧∀a,cQ σ (lF pos ei' e) H' a→cQ σ e H a:=by
  have shp:∀i:Nat,(∃xs,(lF pos ei' e)[i]?=some (some (.l xs)))↔ (∃xs,e[i]?=some (some (.l xs))):=by
    intro i
    rw [cA]
    match h:e[i]? with
    | none=>simp
    | some none=>simp
    | some (some (.d x))=>simp
    | some (some (.n x))=>simp
    | some (some (.l xs))=>
      simp only [Option.map_some]
      constructor
      · intro _;exact⟨xs,rfl⟩
      · intro _
        match hp:pos i with
        | none=>exact⟨xs,rfl⟩
        | some k=>
          obtain⟨ys,g⟩:=hsh i k xs h hp
          exact⟨ys,by show some ((ei'[k]?).join)=_;rw [g];rfl⟩
  have oth:∀(i:Nat) (s:Sv),(∀xs,s≠.l xs)→((lF pos ei' e)[i]?=some (some s)↔ e[i]?=some (some s)):=by
    intro i s hs
    constructor
    · intro h
      rw [cA] at h
      match h1:e[i]?,h with
      | some (some (.d y)),h=>exact h
      | some (some (.n y)),h=>exact h
      | some (some (.l ys)),h=>
        simp only [Option.map_some,Option.some.injEq] at h
        match hp:pos i,h with
        | none,h=>cases h;exact absurd rfl (hs _)
        | some k,h=>
          obtain⟨zs,g⟩:=hsh i k ys h1 hp
          change (ei'[k]?).join=_ at h
          rw [g] at h;cases h;exact absurd rfl (hs _)
      | some none,h=>simp at h
      | none,h=>simp at h
    · intro h
      rw [cA,h]
      cases s with
      | d y=>rfl
      | n y=>rfl
      | l y=>exact absurd rfl (hs y)
  have out:∀i a,Fp σ e H i a→(∀k xs,e[i]?=some (some (.l xs))→pos i≠some k)→¬cQ σi ei H a:=by
    intro i a hi hp z
    obtain⟨j,k,ws,d1,d2,d3⟩:=s.own hnn (H':=H') z
    have:i=j:=R.fp i j a hi (.inl ⟨ws,d1,d3⟩)
    subst this
    exact hp k ws d1 d2
  have keep:∀i a o,Fp σ e H i a→(∀k xs,e[i]?=some (some (.l xs))→pos i≠some k)→H a=some o→H' a=some o:=fun i a o hi hp ha=>tmp a o ha (out i a hi hp)
  have sown:∀a,cQ σi ei H a→cQ σ e H a:=fun a z=>by
    obtain⟨j,k,ws,d1,d2,d3⟩:=s.own hnn (H':=H') z
    exact⟨j,.inl ⟨ws,d1,d3⟩⟩
  have fs:∀i a,Fp σ (lF pos ei' e) H' i a↔ Fp σ e H i a:=by
    intro i a
    have key:∀xss l,e[i]?=some (some (.n xss))→σ[i]?=some (some (.ref l))→H' l=H l:=fun xss l h1 h2=>by
      obtain⟨l',bs,g1,g2,g3,_⟩:=R.nst i xss h1
      rw [h2] at g1;cases g1
      rw [g3]
      exact keep i l _ (.inr ⟨xss,l,bs,h1,h2,g3,.inl rfl⟩) (fun k xs z=>by rw [h1] at z;cases z) g3
    constructor
    · rintro(⟨xs,h1,h2⟩ | ⟨xss,l,bs,h1,h2,h3,h4⟩)
      · obtain⟨ys,h⟩:=(shp i).mp ⟨xs,h1⟩
        exact .inl ⟨ys,h,h2⟩
      · have h1':=(oth i (.n xss) (fun _ z=>nomatch z)).mp h1
        exact .inr ⟨xss,l,bs,h1',h2,by rw [←key xss l h1' h2];exact h3,h4⟩
    · rintro(⟨xs,h1,h2⟩ | ⟨xss,l,bs,h1,h2,h3,h4⟩)
      · obtain⟨ys,h⟩:=(shp i).mpr ⟨xs,h1⟩
        exact .inl ⟨ys,h,h2⟩
      · exact .inr ⟨xss,l,bs,(oth i (.n xss) (fun _ z=>nomatch z)).mpr h1,h2,by rw [key xss l h1 h2];exact h3,h4⟩
  refine⟨⟨R'.sm,?_,fun i x h=>?_,fun i xs h=>?_,fun i xss h=>?_,fun i j a h1 h2=>R.fp i j a ((fs i a).mp h1) ((fs j a).mp h2)⟩,⟨sf,dom,fun a vs h1 h2 n=>fr a vs h1 h2 fun z=>n (sown a z),lst,fun a o h n=>tmp a o h fun z=>n (sown a z),shp,fun a ⟨i,h⟩=>.inl ⟨i,(fs i a).mp h⟩⟩,fun a ⟨i,h⟩=>⟨i,(fs i a).mp h⟩⟩
  · unfold lF;rw [List.length_mapIdx];exact R.len
  · obtain⟨v,g1,g2⟩:=R.dat i x ((oth i (.d x) (fun _ z=>nomatch z)).mp h)
    exact⟨v,g1,DA.mono sf g2⟩
  · obtain⟨ys,h1⟩:=(shp i).mp ⟨xs,h⟩
    obtain⟨l,vs,g1,g2,g3,g4⟩:=R.own i ys h1
    rw [cA,h1] at h
    simp only [Option.map_some,Option.some.injEq] at h
    match hp:pos i,h with
    | none,h=>
      cases h
      have np:∀k xs,e[i]?=some (some (Sv.l xs))→pos i≠some k:=fun k xs _ z=>by rw [hp] at z;cases z
      have fi:Fp σ e H i l:=.inl ⟨_,h1,g1⟩
      exact⟨l,vs,g1,fr l vs g2 g3 (out i l fi np),keep i l _ fi np g3,g4.mono sf⟩
    | some k,h=>
      obtain⟨zs,c1⟩:=hsh i k ys h1 hp
      change (ei'[k]?).join=_ at h
      rw [c1] at h;cases h
      obtain⟨l',vs',d1,d2,d3,d4⟩:=R'.own k _ c1
      rw [hσ i k ys h1 hp,s.a i k ys h1 hp] at d1
      exact⟨l',vs',d1,d2,d3,d4⟩
  · have h1:=(oth i (.n xss) (fun _ z=>nomatch z)).mp h
    obtain⟨l,bs,g1,g2,g3,g4,g5,g6,g7⟩:=R.nst i xss h1
    have np:∀k xs,e[i]?=some (some (Sv.l xs))→pos i≠some k:=fun k xs z=>by rw [h1] at z;cases z
    have fi:Fp σ e H i l:=.inr ⟨xss,l,bs,h1,g1,g3,.inl rfl⟩
    refine⟨l,bs,g1,fr l _ g2 g3 (out i l fi np),keep i l _ fi np g3,g4,g5,g6,fun k b ys q1 q2=>?_⟩
    obtain⟨c1,us,c2,c3⟩:=g7 k b ys q1 q2
    have fb:Fp σ e H i b:=.inr ⟨xss,l,bs,h1,g1,g3,.inr (List.mem_of_getElem? q1)⟩
    exact⟨fr b _ c1 c2 (out i b fb np),us,keep i b _ fb np c2,c3.mono sf⟩
end
def bX(e:En):List Rv→Option (List Sv)
  | []=>some []
  | .d x::r=>(bX e r).map (.d x::·)
  | .l xs::r=>(bX e r).map (.d (.list xs)::·)
  | .s i::r=>match e[i]? with
    | some (some (.l xs))=>(bX e r).map (.l xs::·)
    | _=>none
def aI:List Rv→List Nat
  | []=>[]
  | .s i::r=>i::aI r
  | .d _::r=>aI r
  | .l _::r=>aI r
def kx(rs:List Rv)(i:Nat):Option Nat:=rs.findIdx? fun r=>match r with
  | .s j=>j==i
  | _=>false
def noS:Rv→Prop
  | .s _=>False
  | _=>True
abbrev FM:=List Sv→Option (Rv × List Sv)
def bA(K:PySem.W.Frag)(n:Nat)(m:FM):Sp:=fun vs H Q _=>vs.length=n∧∃F as r as',a_ K F H (vs.map some) (as.map some)∧Dm (as.map some)∧m as=some (r,as')∧noS r∧
  ∀F' H' v,d9 (vs.map some) F H (as.map some) F' H' (as'.map some)→a_ K F' H' (vs.map some) (as'.map some)→cn K (vs.map some) H F' H' (as'.map some) r v→Q v H'
def bc:List Rv→List Sv→Bool
  | [],[]=>true
  | .s _::r,.l _::s=>bc r s
  | .d _::r,_::s=>bc r s
  | .l _::r,_::s=>bc r s
  | _,_=>false
def qo:Rv→Bool
  | .s _=>false
  | _=>true
def dn:List Rv→List Sv→En→En
  | .s i::r,.l ys::s,e=>dn r s (e.set i (some (.l ys)))
  | .d _::r,_::s,e=>dn r s e
  | .l _::r,_::s,e=>dn r s e
  | _,_,e=>e
def bH(n:Nat)(m:FM)(fs:FA):FE:=fun e=>(fs e).bind fun p=>(bX p.2 p.1).bind fun as=>(m as).bind fun z=>if p.1.length=n∧(aI p.1).Nodup∧bc p.1 z.2=true∧qo z.1=true then some (z.1,dn p.1 z.2 p.2) else none
theorem iP:∀{rs:List Rv} {as:List Sv},bc rs as=true→∀(k i:Nat),rs[k]?=some (.s i)→∃ys,as[k]?=some (.l ys)
  | [],[],_,k,i,h=>by simp at h
  | .s j::r,.l ys::s,h,k,i,hk=>by
    cases k with
    | zero=>exact⟨ys,rfl⟩
    | succ k=>simpa using iP (rs:=r) (as:=s) (by simpa [bc] using h) k i (by simpa using hk)
  | .d x::r,y::s,h,k,i,hk=>by
    cases k with
    | zero=>simp at hk
    | succ k=>simpa using iP (rs:=r) (as:=s) (by simpa [bc] using h) k i (by simpa using hk)
  | .l x::r,y::s,h,k,i,hk=>by
    cases k with
    | zero=>simp at hk
    | succ k=>simpa using iP (rs:=r) (as:=s) (by simpa [bc] using h) k i (by simpa using hk)
  | .s _::_,.d _::_,h,_,_,_=>by simp [bc] at h
  | .s _::_,[],h,_,_,_=>by simp [bc] at h
  | .d _::_,[],h,_,_,_=>by simp [bc] at h
  | .l _::_,[],h,_,_,_=>by simp [bc] at h
theorem lS{r0:Rv}{rs:List Rv}{i:Nat}:kx (r0::rs) i=if (match r0 with | .s j=>j==i | _=>false)=true then some 0 else(kx rs i).map (· +1):=by
  unfold kx;rw [List.findIdx?_cons]
theorem lU{rs:List Rv}{i k:Nat}(h:kx rs i=some k):rs[k]?=some (.s i):=by
  unfold kx at h
  rw [List.findIdx?_eq_some_iff_getElem] at h
  obtain⟨hk,h1,_⟩:=h
  rw [List.getElem?_eq_getElem hk]
  split at h1
  · rename_i heq
    rw [heq]
    have:=eq_of_beq h1
    rw [this]
  · cases h1
theorem fZ:∀{rs:List Rv} {i:Nat},i∈aI rs↔ Rv.s i∈rs
  | [],i=>by simp [aI]
  | .s j::r,i=>by simp [aI,fZ (rs:=r)]
  | .d x::r,i=>by simp [aI,fZ (rs:=r)]
  | .l x::r,i=>by simp [aI,fZ (rs:=r)]
theorem gy:∀{rs:List Rv} {i k j:Nat},(aI rs).Nodup→rs[k]?=some (.s i)→rs[j]?=some (.s i)→k=j
  | [],i,k,j,_,h,_=>by simp at h
  | .s m::r,i,k,j,hn,h1,h2=>by
    simp only [aI,List.nodup_cons] at hn
    cases k with
    | zero=>
      simp at h1;subst h1
      cases j with
      | zero=>rfl
      | succ j=>exact absurd (fZ.mpr (List.mem_of_getElem? (by simpa using h2))) hn.1
    | succ k=>
      cases j with
      | zero=>
        simp at h2;subst h2
        exact absurd (fZ.mpr (List.mem_of_getElem? (by simpa using h1))) hn.1
      | succ j=>
        have:=gy (rs:=r) (i:=i) (k:=k) (j:=j) hn.2 (by simpa using h1) (by simpa using h2)
        lia
  | .d x::r,i,k,j,hn,h1,h2=>by
    cases k with
    | zero=>simp at h1
    | succ k=>
      cases j with
      | zero=>simp at h2
      | succ j=>
        have:=gy (rs:=r) (i:=i) (k:=k) (j:=j) (by simpa [aI] using hn) (by simpa using h1) (by simpa using h2)
        lia
  | .l x::r,i,k,j,hn,h1,h2=>by
    cases k with
    | zero=>simp at h1
    | succ k=>
      cases j with
      | zero=>simp at h2
      | succ j=>
        have:=gy (rs:=r) (i:=i) (k:=k) (j:=j) (by simpa [aI] using hn) (by simpa using h1) (by simpa using h2)
        lia
theorem xU{rs:List Rv}{i:Nat}(h:i∉aI rs):kx rs i=none:=by
  unfold kx
  rw [List.findIdx?_eq_none_iff]
  intro r hr
  cases r with
  | d x=>rfl
  | l x=>rfl
  | s j=>
    have:j≠i:=fun z=>h (by rw [←z];exact fZ.mpr hr)
    simpa using this
theorem mO:∀{rs:List Rv} {as:List Sv} {e:En},(aI rs).Nodup→bc rs as=true→(∀j∈aI rs,∃xs,e[j]?=some (some (.l xs)))→dn rs as e=lF (kx rs) (as.map some) e
  | [],[],e,_,_,_=>by
    refine List.ext_getElem? fun i=>?_
    rw [cA]
    have:kx [] i=none:=rfl
    rw [this]
    simp only [dn]
    match e[i]? with
    | none=>rfl
    | some none=>rfl
    | some (some (.d x))=>rfl
    | some (some (.l x))=>rfl
    | some (some (.n x))=>rfl
  | .d x::r,y::s,e,hn,hl,hs=>by
    rw [show dn (.d x::r) (y::s) e=dn r s e from rfl,mO (by simpa [aI] using hn) (by simpa [bc] using hl) (fun j hj=>hs j (by simpa [aI] using hj))]
    refine List.ext_getElem? fun i=>?_
    rw [cA,cA,lS]
    cases kx r i<;>simp
  | .l x::r,y::s,e,hn,hl,hs=>by
    rw [show dn (.l x::r) (y::s) e=dn r s e from rfl,mO (by simpa [aI] using hn) (by simpa [bc] using hl) (fun j hj=>hs j (by simpa [aI] using hj))]
    refine List.ext_getElem? fun i=>?_
    rw [cA,cA,lS]
    cases kx r i<;>simp
  | .s k::r,.l ys::s,e,hn,hl,hs=>by
    simp only [aI,List.nodup_cons] at hn
    obtain⟨xs,hk⟩:=hs k (by simp [aI])
    have hlt:k < e.length:=(List.getElem?_eq_some_iff.mp hk).1
    rw [show dn (.s k::r) (.l ys::s) e=dn r s (e.set k (some (.l ys))) from rfl,mO hn.2 (by simpa [bc] using hl) (fun j hj=>by
      have z:k≠j:=fun z=>hn.1 (by rw [z];exact hj)
      rw [List.getElem?_set_ne z]
      exact hs j (by simp [aI,hj]))]
    refine List.ext_getElem? fun i=>?_
    rw [cA,cA,lS]
    by_cases z:k=i
    · subst z
      rw [List.getElem?_set_self hlt,hk,xU hn.1]
      simp
    · rw [List.getElem?_set_ne z]
      have:((match (Rv.s k) with | .s j=>j==i | _=>false)=true)=False:=by simp [z]
      simp only [this,if_false]
      cases kx r i<;>simp
  | .s _::_,.d _::_,_,_,h,_=>by simp [bc] at h
  | .s _::_,.n _::_,_,_,h,_=>by simp [bc] at h
  | .s _::_,[],_,_,h,_=>by simp [bc] at h
  | .d _::_,[],_,_,h,_=>by simp [bc] at h
  | .l _::_,[],_,_,h,_=>by simp [bc] at h
  | [],_::_,_,_,h,_=>by simp [bc] at h
theorem fK{e:En}:∀{rs:List Rv} {as:List Sv},bX e rs=some as→∀j∈aI rs,∃xs,e[j]?=some (some (.l xs))
  | [],_,_,j,h=>by simp [aI] at h
  | .d x::rs,as,q,j,h=>by
    obtain⟨as',q1,rfl⟩:=Option.map_eq_some_iff.mp q
    exact fK q1 j (by simpa [aI] using h)
  | .l x::rs,as,q,j,h=>by
    obtain⟨as',q1,rfl⟩:=Option.map_eq_some_iff.mp q
    exact fK q1 j (by simpa [aI] using h)
  | .s k::rs,as,q,j,h=>by
    unfold bX at q
    match he:e[k]?,q with
    | some (some (.l xs)),q=>
      obtain⟨as',q1,rfl⟩:=Option.map_eq_some_iff.mp q
      simp only [aI,List.mem_cons] at h
      rcases h with rfl | h
      · exact⟨xs,he⟩
      · exact fK q1 j h
theorem kD{e:En}:∀{rs:List Rv} {as:List Sv} {k i:Nat},bX e rs=some as→rs[k]?=some (.s i)→∃xs,as[k]?=some (.l xs)
  | [],_,k,i,_,h=>by simp at h
  | .d x::rs,as,k,i,q,h=>by
    obtain⟨as',q1,rfl⟩:=Option.map_eq_some_iff.mp q
    cases k with
    | zero=>simp at h
    | succ k=>simpa using kD (k:=k) (i:=i) q1 (by simpa using h)
  | .l x::rs,as,k,i,q,h=>by
    obtain⟨as',q1,rfl⟩:=Option.map_eq_some_iff.mp q
    cases k with
    | zero=>simp at h
    | succ k=>simpa using kD (k:=k) (i:=i) q1 (by simpa using h)
  | .s j::rs,as,k,i,q,h=>by
    unfold bX at q
    match he:e[j]?,q with
    | some (some (.l xs)),q=>
      obtain⟨as',q1,rfl⟩:=Option.map_eq_some_iff.mp q
      cases k with
      | zero=>exact⟨xs,rfl⟩
      | succ k=>simpa using kD (k:=k) (i:=i) q1 (by simpa using h)
section
variable{X:Cx}{K:PySem.W.Frag}{σ:L2.St}{H0 H:Hp}{e:En}
theorem mL:∀{rs:List Rv} {vs:List V} {as:List Sv} {F:Hp},a_ K F H σ e→cH K σ H0 F H e rs vs→bX e rs=some as→
    ∃F',a_ K F' H σ e∧av F F'∧(∀a,F a=none→H0 a≠none→F' a=none)∧vs.length=as.length∧rs.length=as.length∧
      (∀(k:Nat) (x:PyData),as[k]?=some (.d x)→∃v,vs[k]?=some v∧DA K F' x v)∧∀(k:Nat) (xs:List PyData),as[k]?=some (.l xs)→∃i,rs[k]?=some (.s i)∧e[i]?=some (some (.l xs))∧∃v,vs[k]?=some v∧σ[i]?=some (some v)
  | [],vs,as,F,R,h,q=>by
    cases q
    have h':vs=[]:=h
    subst h'
    exact⟨F,R,av.refl _,fun _ h _=>h,rfl,rfl,fun k x h=>by simp at h,fun k x h=>by simp at h⟩
  | .d x::rs,_,as,F,R,h,q=>by
    obtain⟨v,ws,rfl,h1,h2⟩:=h
    obtain⟨as',q1,rfl⟩:=Option.map_eq_some_iff.mp q
    obtain⟨F',R',s',f',l1,l2,d',o'⟩:=mL R h2 q1
    refine⟨F',R',s',f',by simp [l1],by simp [l2],fun k y hk=>?_,fun k ys hk=>?_⟩
    · cases k with
      | zero=>simp at hk;subst hk;exact⟨v,rfl,DA.mono s' h1⟩
      | succ k=>simpa using d' k y (by simpa using hk)
    · cases k with
      | zero=>simp at hk
      | succ k=>simpa using o' k ys (by simpa using hk)
  | .l xs::rs,_,as,F,R,h,q=>by
    obtain⟨v,ws,rfl,h1,h2⟩:=h
    obtain⟨as',q1,rfl⟩:=Option.map_eq_some_iff.mp q
    obtain⟨F',R',s',f',l1,l2,d',o'⟩:=mL R h2 q1
    have key:∃F2,a_ K F2 H σ e∧av F' F2∧(∀a,F' a=none→H0 a≠none→F2 a=none)∧DA K F2 (.list xs) v:=by
      obtain⟨l,us,rfl,g1,g2,g3,g4,g5⟩:=h1
      cases hl:F' l with
      | none=>
        have h1':cn K σ H0 F' H e (.l xs) (.ref l):=⟨l,us,rfl,g1,hl,g3,aL.mono s' g4,g5⟩
        obtain⟨F2,R2,s2,d2,f2⟩:=h1'.frozen R'
        exact⟨F2,R2,s2,f2,d2⟩
      | some o=>
        have:=R'.sm _ _ hl
        rw [g3] at this;cases this
        exact⟨F',R',av.refl _,fun _ h _=>h,cK.mpr ⟨l,us,rfl,.inl (.inl hl),aL.mono s' g4⟩⟩
    obtain⟨F2,R2,s2,f2,d2⟩:=key
    refine⟨F2,R2,s'.trans s2,fun a ha hn=>f2 a (f' a ha hn) hn,by simp [l1],by simp [l2],fun k y hk=>?_,fun k ys hk=>?_⟩
    · cases k with
      | zero=>simp at hk;subst hk;exact⟨v,rfl,d2⟩
      | succ k=>
        obtain⟨u,c1,c2⟩:=d' k y (by simpa using hk)
        exact⟨u,by simpa using c1,DA.mono s2 c2⟩
    · cases k with
      | zero=>simp at hk
      | succ k=>simpa using o' k ys (by simpa using hk)
  | .s i::rs,_,as,F,R,h,q=>by
    obtain⟨v,ws,rfl,h1,h2⟩:=h
    unfold bX at q
    match he:e[i]?,q with
    | some (some (.l xs)),q=>
      obtain⟨as',q1,rfl⟩:=Option.map_eq_some_iff.mp q
      obtain⟨F',R',s',f',l1,l2,d',o'⟩:=mL R h2 q1
      refine⟨F',R',s',f',by simp [l1],by simp [l2],fun k y hk=>?_,fun k ys hk=>?_⟩
      · cases k with
        | zero=>simp at hk
        | succ k=>simpa using d' k y (by simpa using hk)
      · cases k with
        | zero=>simp at hk;subst hk;exact⟨i,rfl,he,v,rfl,h1.1⟩
        | succ k=>simpa using o' k ys (by simpa using hk)
theorem fM{α:Type}{l:List α}{k:Nat}{x:α}:(l.map some)[k]?=some (some x)↔ l[k]?=some x:=by
  rw [List.getElem?_map]
  cases l[k]?<;>simp
theorem cn.noS{σ':L2.St}{e':En}{F H:Hp}{r:Rv}{v:V}(h:cn K σ' H0 F H e' r v)(n:L2.noS r)(ho:∀a,cQ σ e H a→H0 a≠none):cn K σ H0 F H e r v:=by
  cases r with
  | d x=>exact h
  | l xs=>
    obtain⟨l,vs,e1,h1,h2,h3,h4,_⟩:=h
    exact⟨l,vs,e1,h1,h2,h3,h4,fun z=>ho l z h1⟩
  | s i=>exact absurd n (by simp [L2.noS])
theorem iB:∀{rs:List Rv} {as:List Sv},bX e rs=some as→Dm (as.map some)
  | [],_,q=>by cases q;intro i xss h;simp at h
  | .d x::rs,as,q=>by
    obtain⟨as',q1,rfl⟩:=Option.map_eq_some_iff.mp q
    have ih:=iB q1
    intro i xss h
    cases i with
    | zero=>simp at h
    | succ i=>exact ih i xss (by simpa using h)
  | .l x::rs,as,q=>by
    obtain⟨as',q1,rfl⟩:=Option.map_eq_some_iff.mp q
    have ih:=iB q1
    intro i xss h
    cases i with
    | zero=>simp at h
    | succ i=>exact ih i xss (by simpa using h)
  | .s j::rs,as,q=>by
    unfold bX at q
    match he:e[j]?,q with
    | some (some (.l xs)),q=>
      obtain⟨as',q1,rfl⟩:=Option.map_eq_some_iff.mp q
      have ih:=iB q1
      intro i xss h
      cases i with
      | zero=>simp at h
      | succ i=>exact ih i xss (by simpa using h)
theorem De{n:Nat}{m:FM}{fs:FA}{Q:VK}{E:XK}(h:fE K (bH n m fs) σ H Q):yo (bA K n m) [] E (fA K fs) σ H Q:=by
  obtain⟨F,e,z,e',R,hf,q⟩:=h
  unfold bH at hf
  obtain⟨⟨rs,e1⟩,h1,hf⟩:=Option.bind_eq_some_iff.mp hf
  obtain⟨as,h2,hf⟩:=Option.bind_eq_some_iff.mp hf
  obtain⟨⟨r,as'⟩,h3,hf⟩:=Option.bind_eq_some_iff.mp hf
  split at hf
  case isFalse=>cases hf
  case isTrue hc=>
  obtain⟨c1,c2,c3,c4⟩:=hc
  cases hf
  refine⟨F,e,rs,e1,R,h1,fun F1 H1 vs X1 R1 A1=>?_⟩
  obtain⟨F2,R2,s2,f2,l1,l2,d2,o2⟩:=mL R1 A1 h2
  have X2:=X1.frz s2 f2
  rw [List.append_nil]
  have hn:L2.noS r:=by
    cases r with
    | d x=>trivial
    | l x=>trivial
    | s i=>cases c4
  have nN:=iB h2
  have RA:a_ K F2 H1 (vs.map some) (as.map some):=by
    refine⟨R2.sm,by simp [l1],fun k x hk=>?_,fun k xs hk=>?_,fun k xss hk=>absurd hk (nN k xss),fun k j l f1 f2=>?_⟩
    · obtain⟨v,g1,g2⟩:=d2 k x (fM.mp hk)
      exact⟨v,fM.mpr g1,g2⟩
    · obtain⟨i,g1,g2,v,g3,g4⟩:=o2 k xs (fM.mp hk)
      obtain⟨l,us,k1,k2,k3,k4⟩:=R2.own i xs g2
      rw [g4] at k1;cases k1
      exact⟨l,us,fM.mpr g3,k2,k3,k4⟩
    · obtain⟨xs,g1,g3⟩:=f1.resolve_right fun⟨xss,_,_,z,_⟩=>nN k xss z
      obtain⟨ys,g2,g4⟩:=f2.resolve_right fun⟨xss,_,_,z,_⟩=>nN j xss z
      obtain⟨i1,a1,a2,v1,a3,a4⟩:=o2 k xs (fM.mp g1)
      obtain⟨i2,b1,b2,v2,b3,b4⟩:=o2 j ys (fM.mp g2)
      have e1:=fM.mp g3
      have e2:=fM.mp g4
      rw [a3] at e1;cases e1
      rw [b3] at e2;cases e2
      have:i1=i2:=R2.inj i1 i2 xs ys l a2 b2 a4 b4
      subst this
      exact gy c2 a1 b1
  have sub:qR σ e1 (vs.map some) (as.map some) (kx rs):=by
    refine⟨fun i k xs g1 g2=>?_,fun k ys g1=>?_⟩
    · have g3:=lU g2
      obtain⟨zs,hs⟩:=kD h2 g3
      obtain⟨i',a1,a2,v,a3,a4⟩:=o2 k zs hs
      rw [g3] at a1;cases a1
      rw [fM.mpr a3,a4]
    · obtain⟨i,a1,a2,v,a3,a4⟩:=o2 k ys (fM.mp g1)
      refine⟨i,ys,a2,?_,by rw [fM.mpr a3,a4]⟩
      cases hp:kx rs i with
      | none=>
        unfold kx at hp
        rw [List.findIdx?_eq_none_iff] at hp
        have:=hp _ (List.mem_of_getElem? a1)
        simp at this
      | some j=>rw [gy c2 (lU hp) a1]
  refine⟨by rw [l1,←l2];exact c1,F2,as,r,as',RA,nN,h3,hn,fun F' H' v X3 R3 A3=>?_⟩
  obtain⟨R4,X4,o4⟩:=oj R2 sub nN X3.sf X3.dom X3.fr X3.lst X3.tmp R3 (fun _ _ _ _ _=>rfl) fun i k xs g1 g2=>by
    obtain⟨ys,g3⟩:=iP c3 k i (lU g2)
    exact⟨ys,fM.mpr g3⟩
  have hb:=mO (e:=e1) c2 c3 (fK h2)
  rw [←hb] at R4 X4 o4
  exact q F' H' v (X2.trans X4) R4 ((A3.noS hn fun a z=>R2.ownH a (o4 a z)).weak X2.dom)
theorem aP{x:Str}{st:Stmt}{f:Addr}{fd:FuncData}{ps:List Str}{k n:Nat}{m:FM}{a:Expr}{es:List Expr}{fs:FA}{p pos:Pos}(h:aV X.K X.mg x st f fd ps)(G:aC X.prog X.w X.K X.mg X.base bv k f fd ps (bA K n m))(hr:dZ k X.A)(ha:PA X (a::es) (fA K fs))
    (hg:Gl X x)(hdb:(x==("__debug__":Str))=false)(he:starEach (a::es) X.env=(false,eval a X.env)::starEach es X.env)(hpl:(backTo pos (starEach es X.env)).any (·.1)=false):
    PE X (.Call (.Name x p) (a::es) [] pos) (fE K (bH n m fs)):=(Fu h G hr ha hg hdb he hpl).mono fun _ _ _ h=>De h
def qJ:List Sv→En→Option (List Sv)
  | [],_=>some []
  | .d x::r,e=>(qJ r e.tail).map (.d x::·)
  | .l _::r,e=>match e.head? with
    | some (some (.l ys))=>(qJ r e.tail).map (.l ys::·)
    | _=>none
  | .n _::_,_=>none
def oE(n:Nat)(e:En):Rv→Option Rv
  | .s i=>if n≤i then match e[i]? with
      | some (some (.l xs))=>some (.l xs)
      | _=>none
    else none
  | r=>some r
def jx(W:List Nat)(as:List Sv):Bool:=W.all fun j=>match as[j]? with
  | some (.l _)=>false
  | _=>true
def fC(n k:Nat)(W:List Nat)(f:FS):FM:=fun as=>if as.length=n∧jx W as=true then(f (as.map some++List.replicate k none)).bind fun fl=>match fl with
    | .rt r e=>(oE n e r).bind fun r'=>(qJ as e).map fun as'=>(r',as')
    | .nx e=>(qJ as e).map fun as'=>(.d .none,as')
    | _=>none
  else none
theorem mW:∀{as as':List Sv} {e:En},qJ as e=some as'→as'.length=as.length∧(∀(j:Nat) (x:PyData),as'[j]?=some (.d x)↔ as[j]?=some (.d x))∧(∀(j:Nat) (ys:List PyData),as'[j]?=some (.l ys)→(∃xs,as[j]?=some (.l xs))∧e[j]?=some (some (.l ys)))∧∀(j:Nat) (xs:List PyData),as[j]?=some (.l xs)→∃ys,as'[j]?=some (.l ys)
  | [],_,e,h=>by cases h;simp
  | .d x::r,_,e,h=>by
    obtain⟨s,h1,rfl⟩:=Option.map_eq_some_iff.mp h
    obtain⟨g1,g2,g3,g4⟩:=mW h1
    refine⟨by simp [g1],fun j y=>?_,fun j ys hj=>?_,fun j xs hj=>?_⟩
    · cases j with
      | zero=>simp
      | succ j=>simpa using g2 j y
    · cases j with
      | zero=>simp at hj
      | succ j=>
        obtain⟨c1,c2⟩:=g3 j ys (by simpa using hj)
        refine⟨by simpa using c1,?_⟩
        rw [List.getElem?_tail] at c2
        exact c2
    · cases j with
      | zero=>simp at hj
      | succ j=>simpa using g4 j xs (by simpa using hj)
  | .l xs::r,_,e,h=>by
    unfold qJ at h
    match he:e.head?,h with
    | some (some (.l ys)),h=>
      obtain⟨s,h1,rfl⟩:=Option.map_eq_some_iff.mp h
      obtain⟨g1,g2,g3,g4⟩:=mW h1
      refine⟨by simp [g1],fun j y=>?_,fun j zs hj=>?_,fun j zs hj=>?_⟩
      · cases j with
        | zero=>simp
        | succ j=>simpa using g2 j y
      · cases j with
        | zero=>
          simp at hj;subst hj
          exact⟨⟨xs,rfl⟩,by rw [List.head?_eq_getElem?] at he;exact he⟩
        | succ j=>
          obtain⟨c1,c2⟩:=g3 j zs (by simpa using hj)
          refine⟨by simpa using c1,?_⟩
          rw [List.getElem?_tail] at c2
          exact c2
      · cases j with
        | zero=>exact⟨ys,rfl⟩
        | succ j=>simpa using g4 j zs (by simpa using hj)
  | .n x::r,_,e,h=>by simp [qJ] at h
end
end L2
namespace L2
open PySem PySem.Spec PyProof.Rows
theorem er{α:Type}{l:List (Option α)}{k i:Nat}{x:α}(h:(l++List.replicate k none)[i]?=some (some x)):l[i]?=some (some x):=by
  rw [List.getElem?_append] at h
  split at h
  · exact h
  · rw [List.getElem?_replicate] at h
    split at h<;>simp at h
theorem eN{α:Type}{l:List (Option α)}{k i:Nat}{x:α}(h:l[i]?=some (some x)):(l++List.replicate k none)[i]?=some (some x):=by
  have hi:i < l.length:=(List.getElem?_eq_some_iff.mp h).1
  rw [List.getElem?_append_left hi];exact h
section
variable{K:PySem.W.Frag}{F H:Hp}{σ:L2.St}{e:En}{k:Nat}
theorem p9{i:Nat}{a:Addr}:Fp (σ++List.replicate k none) (e++List.replicate k none) H i a↔ Fp σ e H i a:=by
  constructor
  · rintro(⟨xs,h1,h2⟩ | ⟨xss,l,bs,h1,h2,h3⟩)
    · exact .inl ⟨xs,er h1,er h2⟩
    · exact .inr ⟨xss,l,bs,er h1,er h2,h3⟩
  · rintro(⟨xs,h1,h2⟩ | ⟨xss,l,bs,h1,h2,h3⟩)
    · exact .inl ⟨xs,eN h1,eN h2⟩
    · exact .inr ⟨xss,l,bs,eN h1,eN h2,h3⟩
theorem qs{a:Addr}:cQ (σ++List.replicate k none) (e++List.replicate k none) H a↔ cQ σ e H a:=⟨fun⟨i,h⟩=>⟨i,p9.mp h⟩,fun⟨i,h⟩=>⟨i,p9.mpr h⟩⟩
theorem a_.pad(R:a_ K F H σ e):a_ K F H (σ++List.replicate k none) (e++List.replicate k none):=by
  refine⟨R.sm,by simp [R.len],fun i x h=>?_,fun i xs h=>?_,fun i xss h=>?_,fun i j a h1 h2=>R.fp i j a (p9.mp h1) (p9.mp h2)⟩
  · obtain⟨v,g1,g2⟩:=R.dat i x (er h)
    exact⟨v,eN g1,g2⟩
  · obtain⟨l,vs,g1,g2⟩:=R.own i xs (er h)
    exact⟨l,vs,eN g1,g2⟩
  · obtain⟨l,bs,g1,g2⟩:=R.nst i xss (er h)
    exact⟨l,bs,eN g1,g2⟩
end
theorem qK:∀{as as':List Sv} {e:En},qJ as e=some as'→Dm (as'.map some)
  | [],_,e,h=>by cases h;intro i xss z;simp at z
  | .d x::r,_,e,h=>by
    obtain⟨s,h1,rfl⟩:=Option.map_eq_some_iff.mp h
    have ih:=qK h1
    intro i xss z
    cases i with
    | zero=>simp at z
    | succ i=>exact ih i xss (by simpa using z)
  | .l xs::r,_,e,h=>by
    unfold qJ at h
    match he:e.head?,h with
    | some (some (.l ys)),h=>
      obtain⟨s,h1,rfl⟩:=Option.map_eq_some_iff.mp h
      have ih:=qK h1
      intro i xss z
      cases i with
      | zero=>simp at z
      | succ i=>exact ih i xss (by simpa using z)
  | .n x::r,_,e,h=>by simp [qJ] at h
theorem rC{W:List Nat}{as:List Sv}(h:jx W as=true){j:Nat}{xs:List PyData}(hj:as[j]?=some (.l xs)):j∉W:=fun z=>by
  unfold jx at h
  have:=List.all_eq_true.mp h j z
  rw [hj] at this
  cases this
section
variable{P:Program}{w:World}{K:PySem.W.Frag}{mg:Str→Option Value}{base:Heap}
theorem aV.fn{x:Str}{st:Stmt}{f:Addr}{fd:FuncData}{N ps:List Str}{k n k0:Nat}{W:List Nat}{fb:FS}(h:aV K mg x st f fd ps)(S:aB N ps (am st))(hn:ps.length=n)(hN:N.length=n+k0)
    (hb:∀(cdv:Value) (A:Around) (outer:List Env) (s:Shared) (H:Hp) (E:XK),dZ k (A.deeper (envOfC x (am st) s.heap.objs.size f cdv))→mD (sD bv P w K mg base N x (am st) f cdv A outer s H E).nox (cR st) (fS K fb W)):
    aC P w K mg base bv (k+1) f fd ps (bA K n (fC n k0 W fb)):=by
  refine h.F.ok S (fun vs H Q E q=>?_) fun cdv A outer s H vs Q E hr hsp=>⟨_,hb cdv A outer s H E hr,?_⟩
  · rw [hn];exact q.1
  · obtain⟨hl,F,as,r,as',R,nN,hm,nr,q⟩:=hsp
    unfold fC at hm
    split at hm
    case isFalse=>cases hm
    case isTrue hc=>
    obtain⟨la,nl⟩:=hc
    obtain⟨fl,h1,hm⟩:=Option.bind_eq_some_iff.mp hm
    have hst:fF N vs=vs.map some++List.replicate k0 none:=by unfold fF;rw [hN,hl];congr 2;lia
    rw [hst]
    have key:∀{as':List Sv} {e':En},qJ as e'=some as'→∀F' H' σ',di W (vs.map some++List.replicate k0 none) F H (as.map some++List.replicate k0 none) σ' F' H' e'→a_ K F' H' σ' e'→
        d9 (vs.map some) F H (as.map some) F' H' (as'.map some)∧a_ K F' H' (vs.map some) (as'.map some)∧∀a,cQ (vs.map some) (as'.map some) H' a→cQ (vs.map some) (as.map some) H a:=by
      intro as' e' hu F' H' σ' X' R'
      obtain⟨u1,u2,u3,u4⟩:=mW hu
      have uN:=qK hu
      have ow:∀a,cQ (vs.map some) (as'.map some) H' a→cQ (vs.map some) (as.map some) H a:=by
        rintro a ⟨j,⟨ys,c1,c2⟩ | ⟨xss,_,_,z,_⟩⟩
        · obtain⟨⟨xs,c3⟩,_⟩:=u3 j ys (fM.mp c1)
          exact⟨j,.inl ⟨xs,fM.mpr c3,c2⟩⟩
        · exact absurd z (uN j xss)
      have sg:∀(j:Nat) (xs:List PyData),as[j]?=some (.l xs)→σ'[j]?=(vs.map some)[j]?:=fun j xs hj=>by
        rw [X'.wr j (rC nl hj)]
        have hj2:j < (vs.map some).length:=by rw [List.length_map,hl,←la];exact(List.getElem?_eq_some_iff.mp hj).1
        rw [List.getElem?_append_left hj2]
      refine⟨⟨X'.sf,X'.dom,fun a vs h1 h2 hn=>X'.fr a vs h1 h2 fun z=>hn (qs.mp z),X'.lst,fun a o ha hn=>X'.tmp a o ha fun z=>hn (qs.mp z),fun j=>?_,fun a z=>.inl (ow a z)⟩,⟨R'.sm,?_,fun j y hj=>?_,fun j ys hj=>?_,fun j xss hj=>absurd hj (uN j xss),fun j i l f1 f2=>?_⟩,ow⟩
      · constructor
        · rintro⟨ys,hj⟩
          obtain⟨⟨xs,c⟩,_⟩:=u3 j ys (fM.mp hj)
          exact⟨xs,fM.mpr c⟩
        · rintro⟨xs,hj⟩
          obtain⟨ys,c⟩:=u4 j xs (fM.mp hj)
          exact⟨ys,fM.mpr c⟩
      · simp [u1,hl,la]
      · obtain⟨v,c1,c2⟩:=R.dat j y (fM.mpr ((u2 j y).mp (fM.mp hj)))
        exact⟨v,c1,DA.mono X'.sf c2⟩
      · obtain⟨⟨xs,c1⟩,c2⟩:=u3 j ys (fM.mp hj)
        obtain⟨l,us,d1,d2⟩:=R'.own j ys c2
        exact⟨l,us,by rw [←sg j xs c1];exact d1,d2⟩
      · obtain⟨xs,g1,g3⟩:=f1.resolve_right fun⟨xss,_,_,z,_⟩=>uN j xss z
        obtain⟨ys,g2,g4⟩:=f2.resolve_right fun⟨xss,_,_,z,_⟩=>uN i xss z
        obtain⟨⟨zs,c1⟩,c2⟩:=u3 j xs (fM.mp g1)
        obtain⟨⟨ws,c3⟩,c4⟩:=u3 i ys (fM.mp g2)
        exact R'.inj j i xs ys l c2 c4 (by rw [sg j zs c1];exact g3) (by rw [sg i ws c3];exact g4)
    refine⟨F,as.map some++List.replicate k0 none,fl,R.pad,h1,?_⟩
    cases fl with
    | bk e'=>cases hm
    | ct e'=>cases hm
    | nx e'=>
      obtain⟨as2,h2,hm⟩:=Option.map_eq_some_iff.mp hm
      cases hm
      intro F' H' σ' X' R'
      obtain⟨X2,R2,_⟩:=key h2 F' H' σ' X' R'
      exact q F' H' .non X2 R2 ((jN (K:=K) (F:=F')).mpr rfl)
    | rt r0 e'=>
      obtain⟨r1,h2,hm⟩:=Option.bind_eq_some_iff.mp hm
      obtain⟨as2,h3,hm⟩:=Option.map_eq_some_iff.mp hm
      cases hm
      intro F' H' σ' v X' R' A'
      obtain⟨X2,R2,ow2⟩:=key h3 F' H' σ' X' R'
      have noo:∀l,H l=none→¬cQ (vs.map some) (as'.map some) H' l:=fun l hl z=>R.ownH l (ow2 l z) hl
      refine q F' H' v X2 R2 ?_
      cases r0 with
      | d y=>cases h2;exact A'
      | l ys=>
        cases h2
        obtain⟨l,us,d0,d1,d2,d3,d4,_⟩:=A'
        exact⟨l,us,d0,d1,d2,d3,d4,noo l d1⟩
      | s i=>
        simp only [oE] at h2
        split at h2
        case isFalse=>cases h2
        case isTrue hi=>
        obtain⟨a1,xs,a2⟩:=A'
        rw [a2] at h2
        cases h2
        obtain⟨l,us,d1,d2,d3,d4⟩:=R'.own i _ a2
        rw [a1] at d1;cases d1
        suffices hl0:H l=none from⟨l,us,rfl,hl0,d2,d3,d4,noo l hl0⟩
        rcases X'.own l ⟨i,.inl ⟨_,a2,a1⟩⟩ with z | z
        · obtain⟨j,zf⟩:=qs.mp z
          obtain⟨ys,z1,z2⟩:=zf.resolve_right fun⟨xss,_,_,z,_⟩=>nN j xss z
          have z1':=fM.mp z1
          obtain⟨u1,u2,u3,u4⟩:=mW h3
          obtain⟨ws,w1⟩:=u4 j ys z1'
          obtain⟨_,w2⟩:=u3 j ws w1
          have hj2:j < vs.length:=by rw [hl,←la];exact(List.getElem?_eq_some_iff.mp z1').1
          have e3:σ'[j]?=some (some (.ref l)):=by
            rw [X'.wr j (rC nl z1'),List.getElem?_append_left (by simpa using hj2)]
            exact z2
          have:=R'.inj i j _ ws l a2 w2 a1 e3
          lia
        · exact z
end
def DP:Option Sv→Option Sv
  | some (.n _)=>none
  | s=>s
def mF(cp:List (Nat × Str))(nT:Nat)(e:En):En:=cp.map (fun p=>DP (e[p.1]?).join)++List.replicate nT none
def k_(cp:List (Nat × Str))(i:Nat):Option Nat:=cp.findIdx? fun p=>p.1==i
def bY(g:FG)(ft:FT)(fe:FE):List PyData→En→List PyData→Option (List PyData × En)
  | [],e,acc=>some (acc,e)
  | x::r,e,acc=>(g x e).bind fun e1=>(ft e1).bind fun b=>if b.1=true then(fe b.2).bind fun v=>(ki v.1).bind fun d=>if acc.length < 1000000 then bY g ft fe r v.2 (acc++[d]) else none else bY g ft fe r b.2 acc
def kd(cp:List (Nat × Str))(ei e:En):Bool:=cp.all fun p=> !w_ e[p.1]? || w_ ei[(k_ cp p.1).getD 0]?
def ed(cp:List (Nat × Str))(nT:Nat)(fi:FI)(g:FG)(ft:FT)(fe:FE):FE:=fun e=>(fi e).bind fun p=>if (p.2.1.all fun q=> !(cp.any fun c=>c.1==q.1))=true then(bY g ft fe p.1 (mF cp nT p.2.2) []).bind fun z=>if kd cp z.2 p.2.2=true then some (.l z.1,lF (k_ cp) z.2 p.2.2) else none else none
section
variable{K:PySem.W.Frag}{F H:Hp}{σ:L2.St}{e:En}{cp:List (Nat × Str)}{nT:Nat}
theorem ej{i k:Nat}(h:k_ cp i=some k):∃s,cp[k]?=some (i,s):=by
  unfold k_ at h
  rw [List.findIdx?_eq_some_iff_getElem] at h
  obtain⟨hk,h1,_⟩:=h
  refine⟨cp[k].2,?_⟩
  rw [List.getElem?_eq_getElem hk]
  have:=eq_of_beq h1
  rw [←this]
theorem iM{k:Nat}{x:Sv}(h:(mF cp nT e)[k]?=some (some x)):∃i s,cp[k]?=some (i,s)∧e[i]?=some (some x):=by
  unfold mF at h
  have h:=er h
  rw [List.getElem?_map] at h
  obtain⟨p,h1,h2⟩:=Option.map_eq_some_iff.mp h
  refine⟨p.1,p.2,h1,?_⟩
  cases q:e[p.1]? with
  | none=>rw [q] at h2;cases h2
  | some y=>
    rw [q] at h2
    match y,h2 with
    | some (.d z),h2=>exact congrArg some h2
    | some (.l z),h2=>exact congrArg some h2
    | some (.n z),h2=>cases h2
    | none,h2=>cases h2
theorem iN:Dm (mF cp nT e):=by
  intro k xss h
  unfold mF at h
  have h:=er h
  rw [List.getElem?_map] at h
  obtain⟨p,h1,h2⟩:=Option.map_eq_some_iff.mp h
  match (e[p.1]?).join,h2 with
  | some (.d z),h2=>cases h2
  | some (.l z),h2=>cases h2
  | some (.n z),h2=>cases h2
  | none,h2=>cases h2
theorem mV{k i:Nat}{s:Str}{v:V}(h:cp[k]?=some (i,s))(hv:σ[i]?=some (some v)):(fw cp nT σ)[k]?=some (some v):=by
  unfold fw
  refine eN ?_
  rw [List.getElem?_map,h]
  simp [hv]
theorem lC{k i:Nat}{s:Str}{v:V}(h:cp[k]?=some (i,s))(hv:(fw cp nT σ)[k]?=some (some v)):σ[i]?=some (some v):=by
  unfold fw at hv
  have hv:=er hv
  rw [List.getElem?_map,h] at hv
  simp only [Option.map_some,Option.some.injEq] at hv
  cases q:σ[i]? with
  | none=>rw [q] at hv;cases hv
  | some y=>rw [q] at hv;exact congrArg some hv
theorem p7:∀{cp:List (Nat × Str)} {k j i:Nat} {s t:Str},(cp.map (·.1)).Nodup→cp[k]?=some (i,s)→cp[j]?=some (i,t)→k=j
  | [],k,j,i,s,t,_,h,_=>by simp at h
  | p::r,k,j,i,s,t,hn,h1,h2=>by
    simp only [List.map_cons,List.nodup_cons] at hn
    cases k with
    | zero=>
      simp at h1;subst h1
      cases j with
      | zero=>rfl
      | succ j=>
        have hm:(i,t)∈r:=List.mem_of_getElem? (i:=j) (by simpa using h2)
        exact absurd (List.mem_map.mpr ⟨(i,t),hm,rfl⟩) hn.1
    | succ k=>
      cases j with
      | zero=>
        simp at h2;subst h2
        have hm:(i,s)∈r:=List.mem_of_getElem? (i:=k) (by simpa using h1)
        exact absurd (List.mem_map.mpr ⟨(i,s),hm,rfl⟩) hn.1
      | succ j=>
        have:=p7 (cp:=r) (k:=k) (j:=j) hn.2 (by simpa using h1) (by simpa using h2)
        lia
theorem a_.inn(R:a_ K F H σ e)(hn:(cp.map (·.1)).Nodup):a_ K F H (fw cp nT σ) (mF cp nT e)∧qR σ e (fw cp nT σ) (mF cp nT e) (k_ cp):=by
  refine⟨⟨R.sm,by simp [fw,mF],fun k x h=>?_,fun k xs h=>?_,fun k xss h=>absurd h (iN k xss),fun k j l f1 f2=>?_⟩,⟨fun i k xs h1 h2=>?_,fun k ys h=>?_⟩⟩
  · obtain⟨i,s,h1,h2⟩:=iM h
    obtain⟨v,g1,g2⟩:=R.dat i x h2
    exact⟨v,mV h1 g1,g2⟩
  · obtain⟨i,s,h1,h2⟩:=iM h
    obtain⟨l,vs,g1,g2⟩:=R.own i xs h2
    exact⟨l,vs,mV h1 g1,g2⟩
  · obtain⟨xs,h1,h3⟩:=f1.resolve_right fun⟨xss,_,_,z,_⟩=>iN k xss z
    obtain⟨ys,h2,h4⟩:=f2.resolve_right fun⟨xss,_,_,z,_⟩=>iN j xss z
    obtain⟨i,s,a1,a2⟩:=iM h1
    obtain⟨i',s',b1,b2⟩:=iM h2
    have:i=i':=R.inj i i' xs ys l a2 b2 (lC a1 h3) (lC b1 h4)
    subst this
    exact p7 hn a1 b1
  · obtain⟨s,g⟩:=ej h2
    obtain⟨l,vs,g1,_⟩:=R.own i xs h1
    rw [g1];exact mV g g1
  · obtain⟨i,s,h1,h2⟩:=iM h
    obtain⟨l,vs,g1,_⟩:=R.own i ys h2
    refine⟨i,ys,h2,?_,by rw [g1];exact mV h1 g1⟩
    cases hp:k_ cp i with
    | none=>
      unfold k_ at hp
      rw [List.findIdx?_eq_none_iff] at hp
      have:=hp _ (List.mem_of_getElem? h1)
      simp at this
    | some j=>
      obtain⟨t,g⟩:=ej hp
      rw [p7 hn g h1]
theorem a_.putT(R:a_ K F H σ e){l:Addr}{ws:List V}(h1:F l=none)(h2:¬cQ σ e H l):a_ K F (bj H l (.lst ws)) σ e∧∀a,cQ σ e (bj H l (.lst ws)) a↔ cQ σ e H a:=
  R.keep (av.refl F) (fun b o q=>by
    have z:b≠l:=fun z=>by rw [z,h1] at q;cases q
    rw [aA z];exact R.sm b o q) (fun a ⟨i,h⟩=>(R.fpAt h).1) fun a o ha q=>by
      have z:a≠l:=fun z=>h2 (by rw [←z];exact ha)
      rw [aA z];exact q
theorem di.putT{W:List Nat}{σ':L2.St}{F' H':Hp}{e':En}(x:di W σ F H e σ' F' H' e'){l:Addr}{o:HO}(h:H l=none)(ho:∀a,cQ σ' e' (bj H' l o) a↔ cQ σ' e' H' a):di W σ F H e σ' F' (bj H' l o) e':=by
  refine⟨x.sf,fun a q=>?_,x.fr,fun a vs q=>?_,fun a u q n=>?_,fun a q=>x.own a ((ho a).mp q),x.wr⟩
  · by_cases z:a=l
    · rw [z];exact h
    · rw [aA z] at q;exact x.dom a q
  · have z:a≠l:=fun z=>by rw [z,h] at q;cases q
    rw [aA z];exact x.lst a vs q
  · have z:a≠l:=fun z=>by rw [z,h] at q;cases q
    rw [aA z];exact x.tmp a u q n
inductive CI (K:PySem.W.Frag) (W:List Nat) (σ0:L2.St) (F1 H1:Hp) (e0:En) (l:Addr) (P:Hp→En→List PyData→Prop) (σ':L2.St) (H':Hp):Prop
  | mk {F':Hp} {ei:En} {acc:List PyData} {vs:List V} (R:a_ K F' H' σ' ei) (X:di W σ0 F1 H1 e0 σ' F' H' ei) (fl:F' l=none) (no:¬cQ σ' ei H' l) (hl:H' l=some (.lst vs)) (da:aL K F' acc vs) (hc:P F' ei acc):CI K W σ0 F1 H1 e0 l P σ' H'
theorem yC{Q:VK}{fi:FI}{g:FG}{W:List Nat}{ft:FT}{fe:FE}(hn:(cp.map (·.1)).Nodup)(hW:∀j∈W,cp.length≤j)(h:fE K (ed cp nT fi g ft fe) σ H Q):Bk cp nT (fI K fi) (fG K g W) (fT K ft) (fE K fe) σ H Q:=by
  obtain⟨F0,e0,z,e',R0,hf,q⟩:=h
  unfold ed at hf
  obtain⟨⟨items,own,e1⟩,h1,hf⟩:=Option.bind_eq_some_iff.mp hf
  dsimp only at hf
  split at hf
  case isFalse=>cases hf
  case isTrue hO=>
  obtain⟨⟨out,eo⟩,h2,hf⟩:=Option.bind_eq_some_iff.mp hf
  dsimp only at hf
  split at hf
  case isFalse=>cases hf
  case isTrue hB=>
  cases hf
  refine⟨⟨F0,e0,items,own,e1,R0,h1,fun J F1 H1 X1 R1 kp ok=>?_⟩⟩
  intro l hl
  obtain⟨Ri,sub⟩:=R1.inn (nT:=nT) hn
  have hFl:F1 l=none:=R1.freeF hl
  let Iv:Nat→L2.St→Hp→Prop:=fun i=>CI K W (fw cp nT σ) F1 H1 (mF cp nT e1) l fun _ ei acc=>bY g ft fe (items.drop i) ei acc=some (out,eo)
  have notown:∀p∈own,∀a,σ[p.1]?=some (some (.ref a))→¬cQ (fw cp nT σ) (mF cp nT e1) H1 a:=by
    rintro p hp a ha ⟨k,zf⟩
    obtain⟨xs,c1,c2⟩:=zf.resolve_right fun⟨xss,_,_,z,_⟩=>iN k xss z
    obtain⟨i,s,d1,d2⟩:=iM c1
    have e2:=lC d1 c2
    have:p.1=i:=R1.inj p.1 i p.2 xs a (kp p hp) d2 ha e2
    have hh:=List.all_eq_true.mp hO p hp
    simp only [Bool.not_eq_true',List.any_eq_false,beq_iff_eq] at hh
    exact hh (i,s) (List.mem_of_getElem? d1) this.symm
  refine⟨fun i m σ' H'=>m=items.length - i∧i≤items.length∧Iv i σ' H',⟨items.length,by simp,Nat.zero_le _,.mk (Ri.putT hFl (fun z=>(Ri.ownH l z) hl)).1 (di.refl.putT hl (Ri.putT hFl (fun z=>(Ri.ownH l z) hl)).2) hFl (fun z=>(Ri.ownH l (((Ri.putT hFl (fun z=>(Ri.ownH l z) hl)).2 l).mp z)) hl) ax aL.nil h2⟩,?_⟩
  rintro i m σ' H' ⟨rfl,hi,⟨R',X',fl,no,hl',da,hc⟩⟩
  rename_i F' ei acc vs
  have held:uU K σ F' H' own:=fun p hp=>by
    obtain⟨a,us,c1,c2,c3,c4⟩:=R1.own p.1 p.2 (kp p hp)
    exact⟨a,us,c1,X'.tmp a _ c3 (notown p hp a c1),c4.mono X'.sf⟩
  obtain⟨go,stop,yld⟩:=ok F' H' X'.sf R'.sm held
  by_cases hlt:i < items.length
  · have hd:items.drop i=items[i]::items.drop (i+1):=List.drop_eq_getElem_cons hlt
    rw [hd] at hc
    unfold bY at hc
    obtain⟨e2,c2,hc⟩:=Option.bind_eq_some_iff.mp hc
    obtain⟨⟨b,e3⟩,c3,hc⟩:=Option.bind_eq_some_iff.mp hc
    refine .inr ⟨go i hlt,Iv (i+1),fun σ2 H2 r=>⟨items.length - (i+1),by lia,rfl,hlt,r⟩,fun x H2 hy=>?_⟩
    obtain⟨F2,sH,sF2,sm2,fz,hx⟩:=yld i items[i] x H2 (List.getElem?_eq_getElem hlt) hy
    obtain⟨R2,X2⟩:=R'.step sH sF2 sm2 fz
    refine⟨F2,ei,items[i],e2,R2,hx,c2,fun σ3 X3 R3=>⟨F2,e2,b,e3,R3,c3,fun F4 H4 X4 R4=>?_⟩⟩
    have hlH2:H2 l=some (.lst vs):=sH _ _ hl'
    have no2:¬cQ σ' ei H2 l:=fun z=>by
      rcases X2.ow l z with z | z
      · exact no z
      · rw [hl'] at z;cases z
    have no3:¬cQ σ3 e2 H2 l:=fun z=>by
      rcases X3.own l z with z | z
      · exact no2 z
      · rw [hlH2] at z;cases z
    have fl2:F2 l=none:=fz l fl (by rw [hl'];simp)
    have hlH4:H4 l=some (.lst vs):=X4.tmp l _ hlH2 no3
    have fl4:F4 l=none:=X4.fr l vs fl2 hlH2 no3
    have no4:¬cQ σ3 e3 H4 l:=fun z=>by
      rcases X4.ow l z with z | z
      · exact no3 z
      · rw [hlH2] at z;cases z
    have E4:di W (fw cp nT σ) F1 H1 (mF cp nT e1) σ3 F4 H4 e3:=((X'.trans X2.s).trans X3).trans X4.s
    cases b with
    | false=>
      rw [if_neg (by simp)] at hc
      exact zg (.mk R4 E4 fl4 no4 hlH4 (da.mono (sF2.trans X4.sf)) hc)
    | true=>
      rw [if_pos rfl] at hc
      obtain⟨⟨r,e5⟩,c5,hc⟩:=Option.bind_eq_some_iff.mp hc
      obtain⟨d,c6,hc⟩:=Option.bind_eq_some_iff.mp hc
      split at hc
      case isFalse=>cases hc
      case isTrue hlen=>
      refine zh ⟨F4,e3,r,e5,R4,c5,fun F5 H5 v X5 R5 A5=>?_⟩
      have hlH5:H5 l=some (.lst vs):=X5.tmp l _ hlH4 no4
      have fl5:F5 l=none:=X5.fr l vs fl4 hlH4 no4
      have no5:¬cQ σ3 e5 H5 l:=fun z=>by
        rcases X5.ow l z with z | z
        · exact no4 z
        · rw [hlH4] at z;cases z
      obtain⟨F6,R6,s6,d6,f6⟩:=cH.frozen R5 (rs:=[r]) (vs:=[v]) ⟨v,[],rfl,A5,rfl⟩ (jO c6)
      have fl6:F6 l=none:=f6 l fl5 (by rw [hlH4];simp)
      have X6:=X5.frz s6 f6
      have ll:=da.len
      have sl:sizeLine=16777216:=sizeLine_eq
      have dv:DA K F6 d v:=by
        simp only [aL] at d6
        obtain⟨v',r',e',hv,_⟩:=d6
        cases e';exact hv
      obtain⟨R7,o7⟩:=R6.putT (ws:=vs++[v]) fl6 no5
      exact⟨vs,hlH5,by lia,.mk R7 ((E4.trans X6.s).putT hl o7) fl6 (fun z=>no5 ((o7 l).mp z)) ax ((da.mono (sF2.trans (X4.sf.trans (X5.sf.trans s6)))).append (aL.one dv)) hc⟩
  · have hd:items.drop i=[]:=List.drop_eq_nil_of_le (by lia)
    rw [hd] at hc
    cases hc
    refine .inl ⟨stop i (by lia),?_⟩
    obtain⟨R9,X9,o9⟩:=oj R1 sub iN X'.sf X'.dom X'.fr X'.lst X'.tmp R' (fun i k xs g1 g2=>X'.wr k fun z=>by
      obtain⟨s,g⟩:=ej g2
      have:=(List.getElem?_eq_some_iff.mp g).1
      have:=hW k z
      lia) fun i k xs g1 g2=>by
        obtain⟨s,g⟩:=ej g2
        unfold kd at hB
        have hb:=List.all_eq_true.mp hB _ (List.mem_of_getElem? g)
        simp only [g1,g2,Option.getD_some,w_,Bool.not_true,Bool.false_or] at hb
        exact uo.mp hb
    exact q F' H' (.ref l) (X1.trans X9) R9 ⟨l,vs,rfl,X1.dom l hl,fl,hl',da,fun z=>R1.ownH l (o9 l z) hl⟩
end
end L2
namespace L2
open PySem PySem.Spec PyProof.Rows
section
variable{X:Cx}{K:PySem.W.Frag}{a b:Expr}{es:List Expr}{fa fb:FE}{fs:FA}{pos p p2 p3:Pos}{lo hi:Option Expr}
def j5:En→Rv→Option Rv:=fun _ x=>(bC x).map fun i=>.d (.int (-i))
theorem DU:Dq K (rU fun i=>.int (-i)) j5:=by
  intro σ H0 F H e x z v Q R A hg q
  obtain⟨i,h5,h4⟩:=Option.map_eq_some_iff.mp hg
  cases h4
  exact⟨i,bL A h5,q F H _ (d9.refl _ _ _ _) R lV⟩
theorem lg(ha:PE X a (fE K fa)):PE X (.UnaryOp .USub a pos) (fE K (lG j5 fa)):=Ea Dd DU ha
theorem cm(hK:X.K=K)(ha:PE X a (fE K fa))(hb:PE X b (fE K fb)):PE X (.BinOp a .Add b pos) (fE K (ar cy fa fb)):=pA (hK ▸ zA) Ds ha hb
theorem pz(ha:PE X a (fE K fa))(hb:PE X b (fE K fb)):PE X (.BinOp a .Sub b pos) (fE K (ar gZ fa fb)):=pA Cf El ha hb
theorem d_(hK:X.K=K)(ha:PE X a (fE K fa))(hb:PE X b (fE K fb)):PE X (.BinOp a .Mult b pos) (fE K (ar cD fa fb)):=pA (hK ▸ zF) DT ha hb
theorem gu(ha:PE X a (fE K fa))(hb:PE X b (fE K fb)):PE X (.BinOp a .FloorDiv b pos) (fE K (ar dt fa fb)):=pA xD BD ha hb
theorem aZ(ha:PE X a (fE K fa))(hb:PE X b (fE K fb)):PE X (.BinOp a .Mod b pos) (fE K (ar a9 fa fb)):=pA zE DS ha hb
theorem Be(ha:PE X a (fE K fa))(hb:PE X b (fE K fb)):PE X (.BinOp a .Pow b pos) (fE K (ar sI fa fb)):=pA Cd D6 ha hb
theorem aS(hK:X.K=K)(ha:PE X a (fE K fa))(hb:PE X b (fE K fb))(hs:mK b):PE X (.Subscript a b pos) (fE K (ar bE fa fb)):=D9 (hK ▸ Fo) Fq ha hb hs
theorem iQ{fl fh:FO}(hK:X.K=K)(he:PE X a (fE K fa))(hl:PO X lo (fO K fl))(hh:PO X hi (fO K fh)):PE X (.Subscript a (.Slice lo hi none p2) pos) (fE K (qP fa fl fh)):=by subst hK;exact x6 he hl hh
structure pR (X:Cx) (K:PySem.W.Frag) (op:CmpOp) (g:En→Rv→Rv→Option Rv):Prop where
  ex:∃r,i6 X (compareOp op) r∧i5 K r g
theorem uY:pR X K .Lt wd:=⟨_,D0,Ft⟩
theorem Dv:pR X K .Gt Dz:=⟨_,DZ,Fe⟩
theorem wz:pR X K .GtE y_:=⟨_,DY,Fd⟩
theorem mE{k:Nat}(hK:X.K=K)(hr:dZ k X.A):pR X K .Eq (bR false):=⟨_,hK ▸ B7 hr,AW⟩
theorem m_{k:Nat}(hK:X.K=K)(hr:dZ k X.A):pR X K .NotEq (bR true):=⟨_,hK ▸ Cc hr,AW⟩
theorem Bz{k:Nat}(hK:X.K=K)(hr:dZ k X.A):pR X K .In (za false):=⟨_,hK ▸ B8 hr,Fm⟩
theorem Dw:pR X K .Is DC:=⟨_,B9,Fn⟩
theorem lc{op:CmpOp}{g:En→Rv→Rv→Option Rv}(h:pR X K op g)(ha:PE X a (fE K fa))(hb:PE X b (fE K fb))(hm:behindInMarks op b=false):PE X (.Compare a [op] [b] pos) (fE K (ar g fa fb)):=by
  obtain⟨r,h1,h2⟩:=h.ex;exact CB h1 h2 ha hb hm
theorem aX{op:CmpOp}{g:En→Rv→Rv→Option Rv}(h:pR X K op g)(ha:PE X a (fE K fa))(hb:PE X b (fE K fb))(hm:behindInMarks op b=false):PT X (.Compare a [op] [b] pos) (fT K (aH (ar g fa fb))):=by
  obtain⟨r,h1,h2⟩:=h.ex;exact CJ h1 h2 ha hb hm
structure pQ (X:Cx) (K:PySem.W.Frag) (x:Str) (g:En→List Rv→Option Rv):Prop where
  ex:(∃id r,ey X (.builtin id) r∧fx K r g∧bootBuiltins x=some (.builtin id))∨∃T r,ey X (.type T) r∧fx K r g∧bootBuiltins x=some (.type T)
theorem bf{x:Str}{g:En→List Rv→Option Rv}(h:pQ X K x g)(hg:Gl X x)(hm:X.mg x=none)(ha:PA X (a::es) (fA K fs))(hn:x≠"__name__")(hdb:(x==("__debug__":Str))=false)
    (he:starEach (a::es) X.env=(false,eval a X.env)::starEach es X.env)(hpl:(backTo pos (starEach es X.env)).any (·.1)=false):PE X (.Call (.Name x p) (a::es) [] pos) (fE K (aQ g fs)):=by
  rcases h.ex with ⟨id,r,h1,h2,h3⟩ | ⟨T,r,h1,h2,h3⟩
  · exact x4 h1 h2 hg hm h3 ha hn hdb he hpl
  · exact vG h1 h2 hg hm h3 ha hn hdb he hpl
theorem b_len(hK:X.K=K):pQ X K "len" (g1 eX):=⟨.inl ⟨_,_,hK ▸ kM,DO,PySem.boot_len⟩⟩
theorem b_abs:pQ X K "abs" (g1 sG):=⟨.inl ⟨_,_,wA,Dr,PyProof.Rows.boot_abs⟩⟩
theorem b_min(hc:X.calm=true):pQ X K "min" (g2 wR):=⟨.inl ⟨_,_,vb hc,DR,PyProof.Rows.boot_min⟩⟩
theorem b_max(hc:X.calm=true):pQ X K "max" (g2 vh):=⟨.inl ⟨_,_,va hc,DQ,PyProof.Rows.boot_max⟩⟩
theorem b_int:pQ X K "int" (g1 vg):=⟨.inr ⟨_,_,uZ,DH,PyProof.Rows.boot_int⟩⟩
theorem b_tuple(hK:X.K=K):pQ X K "tuple" (g1 c9):=⟨.inr ⟨_,_,hK ▸ oC,Aw,PyProof.Rows.boot_tuple⟩⟩
theorem b_all{k:Nat}(hK:X.K=K)(hr:dZ k X.A):pQ X K "all" (g1 (j8 ml)):=⟨.inl ⟨_,_,wB hr hK,Dt,wx⟩⟩
theorem b_sorted(hK:X.K=K):pQ X K "sorted" (g1 iL):=⟨.inl ⟨_,_,hK ▸ sC,Ap,PyProof.Rows.boot_sorted⟩⟩
abbrev cz:FT:=fun e=>some (true,e)
theorem tT.mono{ifs:List Expr}{t t':TT}(h:tT X ifs t)(m:∀σ H Q,t' σ H Q→t σ H Q):tT X ifs t':=fun pins s σ H Q I q=>h pins s σ H Q I (m σ H Q q)
theorem iT:tT X [] (fT K cz):=z_.mono fun σ H Q h=>by
  obtain⟨F,e,b,e',R,hf,q⟩:=h
  cases hf
  exact q F H (d9.refl _ _ _ _) R
theorem qC{c:Expr}{ft:FT}(h:PT X c (fT K ft)):tT X [c] (fT K ft):=Ab h
theorem jy{elt iter tg:Expr}{ifs:List Expr}{scope:Scope}{fi:FI}{g:FG}{ft:FT}{fe:FE}{W:List Nat}(sc0:Scope)(N0:List Str)(cp:List (Nat × Str))(tgN:List Str)
    (hc:X.calm=true)(hsc:X.env.scope=sc0)(hN0:X.N=N0)(hi:PI X tg iter (fI K fi))
    (hg:∀C s0 H0 fp,PG (aJ X scope cp tgN C s0 H0 fp) tg (fG K g W))
    (ht:∀C s0 H0 fp,tT (aJ X scope cp tgN C s0 H0 fp) ifs (fT K ft))
    (he:∀C s0 H0 fp,PE (aJ X scope cp tgN C s0 H0 fp) elt (fE K fe))
    (hk:scope.kind=.function)(hcell:∀y∈scope.names,y.2≠.cell)(hnames:∀y∈scope.names,y.2=.local→scope.names.lookup y.1=some .local)
    (hfr:∀y∈scope.names,y.2=.free→scope.names.lookup y.1=some .free∧sc0.names.lookup y.1=some .cell)
    (hcp:∀p∈cp,N0[p.1]?=some p.2)(hcq:∀p∈cp,sc0.names.lookup p.2=some .cell∧scope.names.lookup p.2=some .free)(hnd:(cp.map (·.1)).Nodup)(hW:∀j∈W,cp.length≤j)
    (hs:∀x,foldedSetIterable iter X.env x=pure x):
    PE X (.ListComp elt [⟨tg,iter,ifs,0⟩] scope pos) (fE K (ed cp tgN.length fi g ft fe)):=(zL sc0 N0 cp tgN hc hsc hN0 hi hg ht he hk hcell hnames hfr hcp hcq hs).mono fun _ _ _ h=>yC hnd hW h
variable{o:Expr}{fo:FE}{apos cpos:Pos}
theorem eS(hK:X.K=K)(ho:PE X o (fE K fo))(ha:PA X (a::es) (fA K fs))(hbase:attributeBase o "append" X.env (eval o X.env)=eval o X.env)
    (hfew:((backTo cpos (starEach (a::es) X.env)).all (fun x=> !x.1)&&(backToKw cpos (keywordEach [] X.env)).all (fun x=>x.1.isSome)
      &&decide ((a::es).length+([]:List Keyword).length+(if ([]:List Keyword).isEmpty then 0 else 1) < 30))=true)
    (hline:(apos.endLine==cpos.line)=true)(hs:starEach (a::es) X.env=(false,eval a X.env)::starEach es X.env)(hplain:(backTo cpos (starEach es X.env)).any (·.1)=false):
    PE X (.Call (.Attribute o "append" apos) (a::es) [] cpos) (fE K (cF bD fo fs)):=by
  subst hK;exact Bf PySem.F.slot_list_append PySem.F.type_list_append jX wj ho ha hbase hfew hline hs hplain
theorem uD(hK:X.K=K)(ho:PE X o (fE K fo))(ha:PA X (a::es) (fA K fs))(hbase:attributeBase o "pop" X.env (eval o X.env)=eval o X.env)
    (hfew:((backTo cpos (starEach (a::es) X.env)).all (fun x=> !x.1)&&(backToKw cpos (keywordEach [] X.env)).all (fun x=>x.1.isSome)
      &&decide ((a::es).length+([]:List Keyword).length+(if ([]:List Keyword).isEmpty then 0 else 1) < 30))=true)
    (hline:(apos.endLine==cpos.line)=true)(hs:starEach (a::es) X.env=(false,eval a X.env)::starEach es X.env)(hplain:(backTo cpos (starEach es X.env)).any (·.1)=false):
    PE X (.Call (.Attribute o "pop" apos) (a::es) [] cpos) (fE K (cF eg fo fs)):=by
  subst hK;exact Bf PySem.F.slot_list_pop PySem.F.type_list_pop xm zV ho ha hbase hfew hline hs hplain
end
end L2
namespace L2
open PySem PySem.Spec PyProof.Rows
theorem tG{K:PySem.W.Frag}{H:Hp}{a:Addr}{ns:List Int}{m:FM}{as':List Sv}{Q:VK}{E:XK}(hS:cX K H a (ns.map V.int))(hm:m [.d (.list (ns.map .int))]=some (.d (.bool true),as'))(q:∀H',Q (.bl true) H'):bA K 1 m [.ref a] H Q E:=by
  refine⟨rfl,H,[.d (.list (ns.map .int))],_,as',?_,?_,hm,trivial,fun F' H' v X' R' A'=>?_⟩
  · refine⟨av.refl _,rfl,fun i x h=>?_,fun i xs h=>?_,fun i xss h=>?_,fun i j l f1 _=>?_⟩
    · match i,h with
      | 0,h=>
        simp at h;subst h
        exact⟨.ref a,rfl,cK.mpr ⟨a,_,rfl,hS,aL.ints.mpr rfl⟩⟩
      | i+1,h=>simp at h
    · match i,h with
      | 0,h=>simp at h
      | i+1,h=>simp at h
    · match i,h with
      | 0,h=>simp at h
      | i+1,h=>simp at h
    · rcases f1 with ⟨_,h,_⟩ | ⟨_,_,_,h,_⟩
      · match i,h with
        | 0,h=>simp at h
        | i+1,h=>simp at h
      · match i,h with
        | 0,h=>simp at h
        | i+1,h=>simp at h
  · intro i xss h
    match i,h with
    | 0,h=>simp at h
    | i+1,h=>simp at h
  · rw [dI.mp (show DA K F' (.bool true) v from A')];exact q H'
end L2
namespace L2
open PySem PySem.Spec PyProof.Rows
section
variable{K:PySem.W.Frag}{σ:L2.St}{H0 F H F' H':Hp}{e e':En}
theorem a_.putN(R:a_ K F H σ e){i:Nat}{xss yss:List (List PyData)}{l:Addr}{bs:List Addr}{H':Hp}(hi:e[i]?=some (some (.n xss)))(hs:σ[i]?=some (some (.ref l)))
    (hF:F l=none)(hl:H' l=some (.lst (bs.map V.ref)))(hlen:bs.length=yss.length)(hnd:bs.Nodup)(hnl:l∉bs)(hin:∀(k:Nat) (b:Addr) (ys:List PyData),bs[k]?=some b→yss[k]?=some ys→F b=none∧∃us,H' b=some (.lst us)∧aL K F ys us)
    (hbs:∀b∈bs,Fp σ e H i b∨¬cQ σ e H b)(hdom:∀a,H' a=none→H a=none)(hst:∀a o,H a=some o→a≠l→a∉bs→H' a=some o)(hlst:∀a vs,H a=some (.lst vs)→∃vs',H' a=some (.lst vs')):
    a_ K F H' σ (e.set i (some (.n yss)))∧(∀a,cQ σ (e.set i (some (.n yss))) H' a→cQ σ e H a∨a∈bs)∧∀j:Nat,(∃xs,(e.set i (some (Sv.n yss)))[j]?=some (some (.l xs)))↔ (∃xs,e[j]?=some (some (.l xs))):=by
  have hlt:i < e.length:=(List.getElem?_eq_some_iff.mp hi).1
  have gi:(e.set i (some (Sv.n yss)))[i]?=some (some (.n yss)):=List.getElem?_set_self hlt
  obtain⟨l0,bs0,a1,a2,a3,_⟩:=R.nst i xss hi
  rw [hs] at a1;cases a1
  have fl:Fp σ e H i l:=.inr ⟨xss,l,bs0,hi,hs,a3,.inl rfl⟩
  have own:∀j a,j≠i→Fp σ e H j a→a≠l∧a∉bs:=fun j a hj hq=>by
    refine⟨fun z=>hj (R.fp j i a hq (by rw [z];exact fl)),fun z=>?_⟩
    rcases hbs a z with h | h
    · exact hj (R.fp j i a hq h)
    · exact h ⟨j,hq⟩
  have fpi:∀a,Fp σ (e.set i (some (.n yss))) H' i a→a=l∨a∈bs:=fun a q=>by
    rcases q with ⟨zs,q,_⟩ | ⟨zss,l',bs',q,q2,q3,q4⟩
    · rw [gi] at q;cases q
    · rw [hs] at q2;cases q2
      rw [hl] at q3
      have e1:bs=bs':=List.map_inj_right (fun _ _ z=>V.ref.inj z) |>.mp (HO.lst.inj (Option.some.inj q3))
      subst e1;exact q4
  obtain⟨R',fs⟩:=R.upd1 (F':=F) (H':=H') (e':=e.set i (some (.n yss))) i (by rw [List.length_set];exact R.len) (fun _ _=>rfl) (fun j hj=>List.getElem?_set_ne (Ne.symm hj)) (av.refl F)
    (fun b o q=>by
      have z1:b≠l:=fun z=>by rw [z,hF] at q;cases q
      have z2:b∉bs:=fun z=>by
        obtain⟨k,hk⟩:=List.getElem?_of_mem z
        have hk2:k < yss.length:=by rw [←hlen];exact(List.getElem?_eq_some_iff.mp hk).1
        rw [(hin k b yss[k] hk (List.getElem?_eq_getElem hk2)).1] at q;cases q
      exact hst b o (R.sm b o q) z1 z2)
    (fun j a _ q=>(R.fpAt q).1) (fun j a o hj q ha=>let ⟨z1,z2⟩:=own j a hj q;hst a o ha z1 z2)
    (fun x q=>by rw [gi] at q;cases q) (fun zs q=>by rw [gi] at q;cases q) (fun zss q=>by rw [gi] at q;cases q;exact⟨l,bs,hs,hF,hl,hlen,hnd,hnl,hin⟩)
    (fun a j hj q q2=>by
      obtain⟨z1,z2⟩:=own j a hj q2
      exact(fpi a q).elim z1 z2)
  refine⟨R',fun a ⟨j,q⟩=>?_,fun j=>?_⟩
  · by_cases z:j=i
    · subst z
      rcases fpi a q with z | z
      · exact .inl ⟨j,by rw [z];exact fl⟩
      · exact .inr z
    · exact .inl ⟨j,(fs j a z).mp q⟩
  · by_cases z:j=i
    · subst z;rw [gi,hi];simp
    · rw [List.getElem?_set_ne (Ne.symm z)]
theorem a_.frzN(R:a_ K F H σ e){i:Nat}{xss:List (List PyData)}(hi:e[i]?=some (some (.n xss))):∃F' v,σ[i]?=some (some v)∧DA K F' (.list (xss.map .list)) v∧a_ K F' H σ (e.set i (some (.d (.list (xss.map .list)))))∧d9 σ F H e F' H (e.set i (some (.d (.list (xss.map .list))))):=by
  obtain⟨l,bs,a1,a2,a3,a4,a5,a6,a7⟩:=R.nst i xss hi
  have hlt:i < e.length:=(List.getElem?_eq_some_iff.mp hi).1
  have inF:∀a,a=l∨a∈bs→Fp σ e H i a:=fun a h=>.inr ⟨xss,l,bs,hi,a1,a3,h⟩
  let F':Hp:=fun a=>if a=l∨a∈bs then H a else F a
  have pos:∀a,(a=l∨a∈bs)→F' a=H a:=fun a h=>if_pos h
  have neg:∀a,¬(a=l∨a∈bs)→F' a=F a:=fun a h=>if_neg h
  have sF:av F F':=fun b o q=>by
    have z:¬(b=l∨b∈bs):=fun z=>by rw [(R.fpAt (inF b z)).1] at q;cases q
    rw [neg b z];exact q
  have sm:av F' H:=fun b o q=>by
    by_cases z:b=l∨b∈bs
    · rw [pos b z] at q;exact q
    · rw [neg b z] at q;exact R.sm b o q
  have dd:∀(cs:List Addr) (yss:List (List PyData)),cs.length=yss.length→(∀(k:Nat) (b:Addr) (ys:List PyData),cs[k]?=some b→yss[k]?=some ys→b∈bs∧∃us,H b=some (.lst us)∧aL K F ys us)→aL K F' (yss.map .list) (cs.map V.ref):=by
    intro cs
    induction cs with
    | nil=>
      intro yss h _
      cases yss with
      | nil=>exact aL.nil
      | cons _ _=>simp at h
    | cons c cs ih=>
      intro yss h hh
      cases yss with
      | nil=>simp at h
      | cons ys yss=>
        obtain⟨c1,us,c2,c3⟩:=hh 0 c ys rfl rfl
        refine aL.cons (cK.mpr ⟨c,us,rfl,.inl (.inl ?_),c3.mono sF⟩) (ih yss (by simpa using h) fun k b zs q1 q2=>hh (k+1) b zs (by simpa using q1) (by simpa using q2))
        rw [pos c (.inr c1)];exact c2
  have da:DA K F' (.list (xss.map .list)) (.ref l):=cK.mpr ⟨l,_,rfl,.inl (.inl (by rw [pos l (.inl rfl)];exact a3)),dd bs xss a4 fun k b ys q1 q2=>by
    obtain⟨_,us,c2,c3⟩:=a7 k b ys q1 q2
    exact⟨List.mem_of_getElem? q1,us,c2,c3⟩⟩
  have gi:(e.set i (some (Sv.d (.list (xss.map .list)))))[i]?=some (some (.d (.list (xss.map .list)))):=List.getElem?_set_self hlt
  have nofp:∀a,¬Fp σ (e.set i (some (.d (.list (xss.map .list))))) H i a:=fun a q=>by
    rcases q with ⟨zs,q,_⟩ | ⟨xss,_,_,q,_⟩
    · rw [gi] at q;cases q
    · rw [gi] at q;cases q
  obtain⟨R',fs⟩:=R.upd1 (F':=F') (H':=H) (e':=e.set i (some (.d (.list (xss.map .list))))) i (by rw [List.length_set];exact R.len) (fun _ _=>rfl) (fun j hj=>List.getElem?_set_ne (Ne.symm hj)) sF sm
    (fun j a hj q=>by
      rw [neg a fun z=>hj (R.fp j i a q (inF a z))]
      exact(R.fpAt q).1)
    (fun j a o _ _ ha=>ha) (fun x q=>by rw [gi] at q;cases q;exact⟨_,a1,da⟩) (fun zs q=>by rw [gi] at q;cases q) (fun zss q=>by rw [gi] at q;cases q) (fun a j hj q=>absurd q (nofp a))
  refine⟨F',.ref l,a1,da,R',⟨sF,fun _ h=>h,fun a vs h1 h2 h3=>?_,fun a vs h=>⟨vs,h⟩,fun _ _ h _=>h,fun j=>?_,fun a ⟨j,q⟩=>?_⟩⟩
  · rw [neg a fun z=>h3 ⟨i,inF a z⟩];exact h1
  · by_cases z:j=i
    · subst z;rw [gi,hi];simp
    · rw [List.getElem?_set_ne (Ne.symm z)]
  · by_cases z:j=i
    · subst z;exact absurd q (nofp a)
    · exact .inl ⟨j,(fs j a z).mp q⟩
theorem a_.setN(R:a_ K F H σ e)(i:Nat){l:Addr}(h1:F l=none)(h2:H l=some (.lst []))(h4:¬cQ σ e H l):a_ K F H (σ.set i (some (.ref l))) (e.set i (some (.n [])))∧∀a,cQ (σ.set i (some (.ref l))) (e.set i (some (.n []))) H a→cQ σ e H a∨a=l:=by
  have gi:∀s,(e.set i (some (Sv.n [])))[i]?=some (some s)→s=.n []∧i < e.length:=fun s q=>by
    have hlt:i < e.length:=by have:=(List.getElem?_eq_some_iff.mp q).1;simpa using this
    rw [List.getElem?_set_self hlt] at q
    exact⟨(Option.some.inj (Option.some.inj q)).symm,hlt⟩
  have onefp:∀a,Fp (σ.set i (some (.ref l))) (e.set i (some (.n []))) H i a→a=l:=fun a q=>by
    rcases q with ⟨zs,q,q2⟩ | ⟨xss,l',bs,q,q2,q3,q4⟩
    · cases (gi _ q).1
    · obtain⟨_,hlt⟩:=gi _ q
      rw [List.getElem?_set_self (by rw [R.len];exact hlt)] at q2
      cases q2
      rw [h2] at q3
      have:bs=[]:=by
        cases bs with
        | nil=>rfl
        | cons _ _=>have z:=HO.lst.inj (Option.some.inj q3);simp at z
      subst this
      exact q4.elim id fun z=>by cases z
  obtain⟨R',fs⟩:=R.upd1 (F':=F) (H':=H) (σ':=σ.set i (some (.ref l))) (e':=e.set i (some (.n []))) i (by rw [List.length_set,List.length_set];exact R.len) (fun j hj=>List.getElem?_set_ne (Ne.symm hj)) (fun j hj=>List.getElem?_set_ne (Ne.symm hj)) (av.refl F) R.sm
    (fun j a _ q=>(R.fpAt q).1) (fun j a o _ _ ha=>ha) (fun y q=>by cases (gi _ q).1) (fun zs q=>by cases (gi _ q).1)
    (fun zss q=>by
      obtain⟨z,hlt⟩:=gi _ q
      cases z
      exact⟨l,[],List.getElem?_set_self (by rw [R.len];exact hlt),h1,h2,rfl,List.nodup_nil,by simp,fun k b ys q=>by simp at q⟩)
    (fun a j hj q q2=>h4 ⟨j,by rw [onefp a q] at q2;exact q2⟩)
  refine⟨R',fun a ⟨j,q⟩=>?_⟩
  by_cases z:j=i
  · subst z;exact .inr (onefp a q)
  · exact .inl ⟨j,(fs j a z).mp q⟩
end
def cv(e:En)(i:Nat):Option (List (List PyData)):=match e[i]? with
  | some (some (.n xss))=>some xss
  | _=>none
theorem f9{e:En}{i:Nat}{xss:List (List PyData)}(h:cv e i=some xss):e[i]?=some (some (.n xss)):=by
  unfold cv at h
  split at h
  · rename_i heq;cases h;exact heq
  · cases h
section
variable{X:Cx}{K:PySem.W.Frag}{a b:Expr}{es:List Expr}{fa fb:FE}{fs:FA}{pos p p2 p3 pos':Pos}{x:Str}{i:Nat}
def yh(i:Nat):FS:=fun e=>some (.nx (e.set i (some (.n []))))
theorem Ah(hN:X.N.Nodup)(hi:X.N[i]?=some x)(hx:Br X.env.scope x)(hs:swapsWith (.List [] p) (some (.Name x pos')) pos.line X.env=pure false)(hf:X.fn x=true∨X.env.scope.names.lookup x=some .local):
    PS X (.Assign [.Name x pos'] (.List [] p) pos) (fS K (yh i) [i]):=(xW hN hi hx (xI nO) hs hf).mono fun D σ H h=>by
  obtain⟨F,e,fl,R,hf,q⟩:=h
  cases hf
  refine⟨Nat.zero_le _,fun l hl=>?_⟩
  obtain⟨R1,X1,f1,n1⟩:=R.newL (vs:=[]) hl
  obtain⟨R2,o2⟩:=R1.setN i f1 ax n1
  refine q F _ _ ⟨X1.sf,X1.dom,X1.fr,X1.lst,X1.tmp,fun a h=>?_,fun j n=>List.getElem?_set_ne (fun z=>n (by simp [z]))⟩ R2
  rcases o2 a h with z | z
  · exact X1.ow a z
  · exact .inr (by rw [z];exact hl)
def fH(i:Nat):FE:=fun e=>(cv e i).map fun xss=>(.d (.int xss.length),e)
theorem qu(hK:X.K=K)(hN:X.N[i]?=some x)(hv:yL X.env.scope x)(hd:(x==("__debug__":Str))=false)(hcd:(x==("__classdict__":Str))=false)(hg:Gl X "len")(hm:X.mg "len"=none)(hst:PySem.W.isStarred (.Name x p2)=false)
    (he:starEach [.Name x p2] X.env=(false,eval (.Name x p2) X.env)::starEach [] X.env)(hpl:(backTo pos (starEach [] X.env)).any (·.1)=false):PE X (.Call (.Name "len" p) [.Name x p2] [] pos) (fE K (fH i)):=
  (nP (u_ hK) hg hm PySem.boot_len (Cg (lR hN hv hd hcd) nO hst) (by decide) (by decide) he hpl).mono fun σ H Q h=>by
  obtain⟨F,e,z,e',R,hf,q⟩:=h
  unfold fH at hf
  obtain⟨xss,h1,hf⟩:=Option.map_eq_some_iff.mp hf
  cases hf
  obtain⟨l,bs,a1,a2,a3,a4,_⟩:=R.nst i xss (f9 h1)
  refine⟨_,a1,l,_,rfl,.inl (.inl (.inl a3)),?_⟩
  rw [List.length_map,a4]
  exact q F H _ (d9.refl _ _ _ _) R lV
def r_(i:Nat)(fa:FE):FE:=fun e=>(cv e i).bind fun _=>(fa e).bind fun p=>match p.1 with
  | .l ys=>(cv p.2 i).bind fun xss=>if xss.length < 1000000 then some (.d .none,p.2.set i (some (.n (xss++[ys])))) else none
  | _=>none
theorem CA{apos cpos:Pos}(hK:X.K=K)(hN:X.N[i]?=some x)(hv:yL X.env.scope x)(hd:(x==("__debug__":Str))=false)(hcd:(x==("__classdict__":Str))=false)(ha:PE X a (fE K fa))(hst:PySem.W.isStarred a=false)
    (hbase:attributeBase (.Name x p) "append" X.env (eval (.Name x p) X.env)=eval (.Name x p) X.env)
    (hfew:((backTo cpos (starEach [a] X.env)).all (fun x=> !x.1)&&(backToKw cpos (keywordEach [] X.env)).all (fun x=>x.1.isSome)
      &&decide ([a].length+([]:List Keyword).length+(if ([]:List Keyword).isEmpty then 0 else 1) < 30))=true)
    (hline:(apos.endLine==cpos.line)=true)(hs:starEach [a] X.env=(false,eval a X.env)::starEach [] X.env)(hplain:(backTo cpos (starEach [] X.env)).any (·.1)=false):
    PE X (.Call (.Attribute (.Name x p) "append" apos) [a] [] cpos) (fE K (r_ i fa)):=by
  subst hK
  refine(Bb PySem.F.plainAttrs_list PySem.F.slot_list_append PySem.F.type_list_append jX (lR hN hv hd hcd) (Cg ha nO hst) hbase hfew hline hs hplain).mono fun σ H Q h=>?_
  obtain⟨F,e,z,e',R,hf,q⟩:=h
  unfold r_ at hf
  obtain⟨xss0,h0,hf⟩:=Option.bind_eq_some_iff.mp hf
  obtain⟨⟨r,e1⟩,h1,hf⟩:=Option.bind_eq_some_iff.mp hf
  match r,h1,hf with
  | .l ys,h1,hf=>
  obtain⟨xss,h2,hf⟩:=Option.bind_eq_some_iff.mp hf
  split at hf
  case isFalse=>cases hf
  case isTrue hlen=>
  cases hf
  obtain⟨l,bs0,a1,_,a3,_⟩:=R.nst i xss0 (f9 h0)
  refine⟨_,a1,.inl ⟨rfl,_,.inl (.inl a3)⟩,F,e,_,e1,R,h1,fun F1 H1 v X1 R1 A1=>?_⟩
  obtain⟨t,us,rfl,t1,t2,t3,t4,t5⟩:=A1
  have h2':=f9 h2
  obtain⟨l',bs,c1,c2,c3,c4,c5,c6,c7⟩:=R1.nst i xss h2'
  rw [a1] at c1;cases c1
  have fi:∀z,z=l∨z∈bs→Fp σ e1 H1 i z:=fun z h=>.inr ⟨xss,l,bs,h2',a1,c3,h⟩
  have tl:t≠l:=fun z=>t5 ⟨i,fi t (.inl z)⟩
  have tb:t∉bs:=fun z=>t5 ⟨i,fi t (.inr z)⟩
  have sl:sizeLine=16777216:=sizeLine_eq
  refine⟨l,_,_,rfl,rfl,c3,by rw [List.length_map,c4];lia,?_⟩
  have em:bs.map V.ref++[V.ref t]=(bs++[t]).map V.ref:=by simp
  rw [em]
  obtain⟨R2,o2,s2⟩:=R1.putN (yss:=xss++[ys]) (bs:=bs++[t]) (H':=bj H1 l (.lst ((bs++[t]).map V.ref))) h2' a1 c2 ax (by simp [c4]) (by
      rw [List.nodup_append]
      exact⟨c5,by simp,fun x hx y hy=>by simp at hy;subst hy;exact fun z=>tb (z ▸ hx)⟩) (by simp [c6,Ne.symm tl]) (fun k b zs q1 q2=>by
      rw [List.getElem?_append] at q1 q2
      rw [c4] at q1
      by_cases hk:k < xss.length
      · rw [if_pos hk] at q1 q2
        obtain⟨d1,us',d2,d3⟩:=c7 k b zs q1 q2
        have zb:b≠l:=fun z=>c6 (z ▸ List.mem_of_getElem? q1)
        exact⟨d1,us',by rw [aA zb];exact d2,d3⟩
      · rw [if_neg hk] at q1 q2
        have hk0:k - xss.length=0:=by
          have:=(List.getElem?_eq_some_iff.mp q1).1
          simp at this;lia
        rw [hk0] at q1 q2
        simp at q1 q2
        subst q1 q2
        exact⟨t2,us,by rw [aA tl];exact t3,t4⟩)
    (fun b hb=>by
      rcases List.mem_append.mp hb with hb | hb
      · exact .inl (fi b (.inr hb))
      · simp at hb;subst hb;exact .inr t5)
    (fun z q=>by
      by_cases e0:z=l
      · rw [e0,ax] at q;cases q
      · rw [aA e0] at q;exact q)
    (fun z o q n1 _=>by rw [aA n1];exact q) (fun z vs q=>by
      by_cases e0:z=l
      · rw [e0];exact⟨_,ax⟩
      · rw [aA e0];exact⟨vs,q⟩)
  refine q F1 _ .non ⟨X1.sf,fun z q=>X1.dom z ?_,X1.fr,fun z vs h=>?_,fun z o h n=>?_,fun j=>(s2 j).trans (X1.shp j),fun z h=>?_⟩ R2 ((jN (K:=X.K) (F:=F1)).mpr rfl)
  · by_cases e0:z=l
    · rw [e0,ax] at q;cases q
    · rw [aA e0] at q;exact q
  · obtain⟨vs',h'⟩:=X1.lst z vs h
    by_cases e0:z=l
    · rw [e0];exact⟨_,ax⟩
    · rw [aA e0];exact⟨vs',h'⟩
  · have e0:z≠l:=fun e0=>by
      rcases X1.ow z ⟨i,fi z (.inl e0)⟩ with w | w
      · exact n w
      · rw [h] at w;cases w
    rw [aA e0];exact X1.tmp z o h n
  · rcases o2 z h with w | w
    · exact X1.ow z w
    · rcases List.mem_append.mp w with w | w
      · exact X1.ow z ⟨i,fi z (.inr w)⟩
      · simp at w;subst w;exact .inr t1
def Qt(X:Cx)(K:PySem.W.Frag)(a:Expr)(f:En→Option Int):Prop:=∃t:TE,PE X a t∧∀σ F H e i (Q:VK),a_ K F H σ e→f e=some i→Q (.int i) H→t σ H Q
def vp(i:Nat):En→Option Int:=fun e=>match e[i]? with
  | some (some (.d (.int k)))=>some k
  | _=>none
theorem CH(i:Nat)(hN:X.N[i]?=some x)(hv:yL X.env.scope x)(hd:(x==("__debug__":Str))=false)(hcd:(x==("__classdict__":Str))=false):Qt X K (.Name x pos) (vp i):=⟨_,lR hN hv hd hcd,fun σ F H e k Q R hf q=>by
  unfold vp at hf
  split at hf
  · rename_i heq
    cases hf
    obtain⟨v,h1,h2⟩:=R.dat i _ heq
    exact⟨v,h1,by rw [bT.mp h2];exact q⟩
  · cases hf⟩
def nC(k:Int):En→Option Int:=fun _=>some k
theorem CG{k:Int}{j}:Qt X K (.Constant (.int k) j pos) (nC k):=⟨_,xH,fun σ F H e i Q R hf q=>by cases hf;exact q⟩
def vo(f g:En→Option Int):En→Option Int:=fun e=>(f e).bind fun i=>(g e).map fun j=>i+j
theorem CD{f g:En→Option Int}(ha:Qt X K a f)(hb:Qt X K b g):Qt X K (.BinOp a .Add b pos) (vo f g):=by
  obtain⟨ta,h1,h2⟩:=ha
  obtain⟨tb,h3,h4⟩:=hb
  refine⟨_,Bd xC h1 h3,fun σ F H e k Q R hf q=>?_⟩
  unfold vo at hf
  obtain⟨i,g1,hf⟩:=Option.bind_eq_some_iff.mp hf
  obtain⟨j,g2,hf⟩:=Option.map_eq_some_iff.mp hf
  cases hf
  exact h2 σ F H e i _ R g1 (h4 σ F H e j _ R g2 ⟨i,j,rfl,rfl,q⟩)
def pC(i:Nat)(fv fp:FE)(fq:En→Option Int):FS:=fun e=>(fv e).bind fun r=>(ki r.1).bind fun d=>(cv r.2 i).bind fun _=>(fp r.2).bind fun p=>(bC p.1).bind fun k=>(cv p.2 i).bind fun xss=>(qO xss.length k).bind fun kn=>(xss[kn]?).bind fun ys=>(fq p.2).bind fun j=>(qO ys.length j).map fun jn=>.nx (p.2.set i (some (.n (xss.set kn (ys.set jn d)))))
theorem Ai{c pq:Expr}{fv fp:FE}{fq:En→Option Int}{ps ps2:Pos}(hK:X.K=K)(he:PE X c (fE K fv))(hN:X.N[i]?=some x)(hv:yL X.env.scope x)(hd:(x==("__debug__":Str))=false)(hcd:(x==("__classdict__":Str))=false)(hp:PE X a (fE K fp))(hpl:mK a)(hq:Qt X K pq fq)
    (ha:∀v,assign (.Subscript (.Subscript (.Name x p) a ps2) pq ps) X.env v=(do
      let ov ←holding [v] (eval (.Subscript (.Name x p) a ps2) X.env)
      let iv ←holding [v,ov] (eval pq X.env)
      standAt ps
      holding [v,ov,iv] (setItem ov iv v)
      release [v,ov,iv] []))
    (hs:swapsWithSole [.Subscript (.Subscript (.Name x p) a ps2) pq ps] c pos.line X.env=pure false)(hw:swappedStores [.Subscript (.Subscript (.Name x p) a ps2) pq ps] c X.env=pure none)
    (h1:(assignEach [.Subscript (.Subscript (.Name x p) a ps2) pq ps] X.env).map (·.2)=[assign (.Subscript (.Subscript (.Name x p) a ps2) pq ps) X.env]):
    PS X (.Assign [.Subscript (.Subscript (.Name x p) a ps2) pq ps] c pos) (fS K (pC i fv fp fq) []):=by
  obtain⟨tq,q1,q2⟩:=hq
  refine(s_ he (xM (Bc (xb hK) (lR hN hv hd hcd) hp hpl) q1 rX ha) hs hw h1).mono fun D σ H h=>?_
  obtain⟨F,e,fl,R,hf,q⟩:=h
  unfold pC at hf
  obtain⟨⟨r,e1⟩,g1,hf⟩:=Option.bind_eq_some_iff.mp hf
  obtain⟨d,g2,hf⟩:=Option.bind_eq_some_iff.mp hf
  obtain⟨xs0,g3,hf⟩:=Option.bind_eq_some_iff.mp hf
  obtain⟨⟨rp,e2⟩,g4,hf⟩:=Option.bind_eq_some_iff.mp hf
  obtain⟨k,g5,hf⟩:=Option.bind_eq_some_iff.mp hf
  obtain⟨xss,g6,hf⟩:=Option.bind_eq_some_iff.mp hf
  obtain⟨kn,g7,hf⟩:=Option.bind_eq_some_iff.mp hf
  obtain⟨ys,g8,hf⟩:=Option.bind_eq_some_iff.mp hf
  obtain⟨j,g9,hf⟩:=Option.bind_eq_some_iff.mp hf
  obtain⟨jn,g10,hf⟩:=Option.map_eq_some_iff.mp hf
  cases hf
  refine⟨F,e,r,e1,R,g1,fun F1 H1 v X1 R1 A1=>?_⟩
  obtain⟨l,bs0,a1,_⟩:=R1.nst i xs0 (f9 g3)
  refine⟨_,a1,F1,e1,rp,e2,R1,g4,fun F2 H2 w X2 R2 A2=>?_⟩
  have X12:=X1.trans X2
  obtain⟨F3,R3,s3,d3,f3⟩:=cH.frozen R2 (rs:=[r]) (vs:=[v]) ⟨v,[],rfl,A1.ext X2,rfl⟩ (jO g2)
  have X13:=X12.frz s3 f3
  have g6':=f9 g6
  obtain⟨l',bs,c1,c2,c3,c4,c5,c6,c7⟩:=R3.nst i xss g6'
  rw [a1] at c1;cases c1
  obtain⟨b,hb⟩:∃b,bs[kn]?=some b:=⟨bs[kn]'(by rw [c4];exact(List.getElem?_eq_some_iff.mp g8).1),List.getElem?_eq_getElem _⟩
  obtain⟨b1,us,b2,b3⟩:=c7 kn b ys hb g8
  have fi:∀z,z=l∨z∈bs→Fp σ e2 H2 i z:=fun z h=>.inr ⟨xss,l,bs,g6',a1,c3,h⟩
  have bm:b∈bs:=List.mem_of_getElem? hb
  have bl:b≠l:=fun z=>c6 (z ▸ bm)
  refine⟨l,_,k,.ref b,rfl,bL A2 g5,.inl (.inl c3),?_,q2 σ F3 H2 e2 j _ R3 g9 ?_⟩
  · unfold atI
    rw [List.length_map,c4,g7]
    show(bs.map V.ref)[kn]?=_
    rw [List.getElem?_map,hb];rfl
  refine⟨b,us,j,jn,rfl,rfl,b2,by rw [←b3.len];exact g10,?_⟩
  have dv:DA K F3 d v:=by
    simp only [aL] at d3
    obtain⟨v',r',e',hv,_⟩:=d3
    cases e';exact hv
  obtain⟨R4,o4,s4⟩:=R3.putN (yss:=xss.set kn (ys.set jn d)) (bs:=bs) (H':=bj H2 b (.lst (us.set jn v))) g6' a1 c2 (by rw [aA (Ne.symm bl)];exact c3) (by simp [c4]) c5 c6 (fun m z zs z1 z2=>by
      by_cases em:m=kn
      · subst em
        rw [hb] at z1;cases z1
        rw [List.getElem?_set_self (by exact(List.getElem?_eq_some_iff.mp g8).1)] at z2
        cases z2
        exact⟨b1,_,ax,b3.set dv jn⟩
      · rw [List.getElem?_set_ne (Ne.symm em)] at z2
        obtain⟨d1,us',d2,d3⟩:=c7 m z zs z1 z2
        have zb:z≠b:=fun ez=>by
          subst ez
          exact em ((List.getElem?_inj (List.getElem?_eq_some_iff.mp z1).1 c5).mp (z1.trans hb.symm))
        exact⟨d1,us',by rw [aA zb];exact d2,d3⟩)
    (fun z hz=>.inl (fi z (.inr hz)))
    (fun z q=>by
      by_cases e0:z=b
      · rw [e0,ax] at q;cases q
      · rw [aA e0] at q;exact q)
    (fun z o q _ n2=>by
      have e0:z≠b:=fun e0=>n2 (by rw [e0];exact bm)
      rw [aA e0];exact q) (fun z vs q=>by
      by_cases e0:z=b
      · rw [e0];exact⟨_,ax⟩
      · rw [aA e0];exact⟨vs,q⟩)
  refine q F3 _ σ ⟨X13.sf,fun z q=>X13.dom z ?_,X13.fr,fun z vs h=>?_,fun z o h n=>?_,fun z h=>?_,fun _ _=>rfl⟩ R4
  · by_cases e0:z=b
    · rw [e0,ax] at q;cases q
    · rw [aA e0] at q;exact q
  · obtain⟨vs',h'⟩:=X13.lst z vs h
    by_cases e0:z=b
    · rw [e0];exact⟨_,ax⟩
    · rw [aA e0];exact⟨vs',h'⟩
  · have e0:z≠b:=fun e0=>by
      rcases X13.ow z ⟨i,fi z (.inr (by rw [e0];exact bm))⟩ with w | w
      · exact n w
      · rw [h] at w;cases w
    rw [aA e0];exact X13.tmp z o h n
  · rcases o4 z h with w | w
    · exact X13.ow z w
    · exact X13.ow z ⟨i,fi z (.inr w)⟩
def wZ(i:Nat):FI:=fun e=>(cv e i).map fun xss=>(xss.map .list,[],e.set i (some (.d (.list (xss.map .list)))))
theorem Ag{tg:Expr}(hK:X.K=K)(hN:X.N[i]?=some x)(hv:yL X.env.scope x)(hd:(x==("__debug__":Str))=false)(hcd:(x==("__classdict__":Str))=false):PI X tg (.Name x pos) (fI K (wZ i)):=(rH (tg:=tg) hK (lR hN hv hd hcd)).mono fun σ H R hh=>by
  obtain⟨F,e,items,own,e',R0,hf,q⟩:=hh
  unfold wZ at hf
  obtain⟨xss,h1,hf⟩:=Option.map_eq_some_iff.mp hf
  cases hf
  obtain⟨F',v,c1,c2,R1,X1⟩:=R0.frzN (f9 h1)
  obtain⟨l,vs,rfl,d1,d2⟩:=cK.mp c2
  exact⟨_,c1,l,rfl,⟨vs,R1.sm.seq d1⟩,q _ F' H X1 R1 (fun _ h=>by cases h) (pj (.lst d1 d2))⟩
end
end L2
namespace L2
open PySem PySem.Spec PyProof.Rows
theorem lO{C:Int→Int→Bool}{f:Int→Int→PyData}{e:En}{i j:Int}(h:C i j=true):gI C f e (.d (.int i)) (.d (.int j))=some (.d (f i j)):=by simp [gI,bC,h]
theorem eG{e:En}{i j:Int}:cy e (.d (.int i)) (.d (.int j))=some (.d (.int (i+j))):=rfl
theorem cN{e:En}{i j:Int}:gZ e (.d (.int i)) (.d (.int j))=some (.d (.int (i - j))):=rfl
theorem bZ{e:En}{i j:Int}(h:ko i j=true):cD e (.d (.int i)) (.d (.int j))=some (.d (.int (i*j))):=by
  unfold cD wV rc;rw [lO h];rfl
theorem xn{i j:Int}(h1: -(2 ^ 64) < i)(h2:i < 2 ^ 64):ko i j=true:=by
  have:iW i=true:=by unfold iW;rw [decide_eq_true h1,decide_eq_true h2];rfl
  unfold ko;rw [this];simp
theorem qm{i j:Int}(h1: -(2 ^ 64) < j)(h2:j < 2 ^ 64):ko i j=true:=by
  have:iW j=true:=by unfold iW;rw [decide_eq_true h1,decide_eq_true h2];rfl
  unfold ko;rw [this];simp
theorem g_{i j:Int}(h1:Bt 4000 i)(h2:Bt 4000 j):ko i j=true:=by unfold ko;rw [iH.mpr h1,iH.mpr h2];simp
theorem aT{e:En}{i j:Int}(h:0 < j):a9 e (.d (.int i)) (.d (.int j))=some (.d (.int (i % j))):=by
  unfold a9;rw [lO (by simp;lia)]
  rw [Int.fmod_eq_emod_of_nonneg i (by lia)]
theorem ee{e:En}{i j:Int}(h:0 < j)(h2:Bt 8000 j):dt e (.d (.int i)) (.d (.int j))=some (.d (.int (i / j))):=by
  unfold dt;rw [lO (by simp [iH.mpr h2];lia)]
  rw [Int.fdiv_eq_ediv_of_nonneg i (by lia)]
theorem fL{e:En}{i j:Int}{neg:Bool}:bR neg e (.d (.int i)) (.d (.int j))=some (.d (.bool (if neg then !(i==j) else i==j))):=by
  unfold bR;simp [i7,SeqAt.shaped,PyData.canLay0,PyData.depth,PyData.eqv]
theorem gU{e:En}{i j:Int}:wd e (.d (.int i)) (.d (.int j))=some (.d (.bool (decide (i < j)))):=rfl
theorem gR{e:En}{i j:Int}:Gn e (.d (.int i)) (.d (.int j))=some (.d (.bool (decide (i≤j)))):=rfl
theorem gM{e:En}{i j:Int}:Dz e (.d (.int i)) (.d (.int j))=some (.d (.bool (decide (j < i)))):=rfl
theorem gL{e:En}{i j:Int}:y_ e (.d (.int i)) (.d (.int j))=some (.d (.bool (decide (j≤i)))):=rfl
theorem eI{e:En}{i j:Int}:g2 wR e [.d (.int i),.d (.int j)]=some (.d (.int (min i j))):=by
  show some (Rv.d (.int (if j < i then j else i)))=_
  congr 3
  split<;>lia
theorem eH{e:En}{i j:Int}:g2 vh e [.d (.int i),.d (.int j)]=some (.d (.int (max i j))):=by
  show some (Rv.d (.int (if j > i then j else i)))=_
  congr 3
  split<;>lia
theorem eJ{e:En}{i:Int}:j5 e (.d (.int i))=some (.d (.int (-i))):=rfl
theorem du{e:En}{b:Bool}:g1 vg e [.d (.bool b)]=some (.d (.int (if b then 1 else 0))):=rfl
theorem eF{e:En}{i:Int}:g1 sG e [.d (.int i)]=some (.d (.int i.natAbs)):=by
  show some (Rv.d (.int (if i < 0 then -i else i)))=_
  congr 3
  split<;>lia
theorem ke{j:Int}(h1:0 < j)(h2:j < 2 ^ 64):Bt 8000 j:=Bt.mono (m:=64) (by unfold Bt;lia) (by decide)
theorem gf{α:Type}{xs:List α}{i:Int}(h0:0≤i)(h:i < xs.length):atI xs i=xs[i.toNat]?:=by
  unfold atI qO
  rw [if_pos h0,if_pos h];rfl
theorem nu{e:En}{i:Nat}{xs:List PyData}{neg:Bool}(h:e[i]?=some (some (.l xs)))(hs:SeqAt.shaped (.list xs)=true):bR neg e (.s i) (.l [])=some (.d (.bool (if neg then !xs.isEmpty else xs.isEmpty))):=by
  unfold bR
  simp only [i7,h,Option.bind_some,hs]
  have h0:SeqAt.shaped (.list [])=true:=by simp [SeqAt.shaped,PyData.canLay0,PyData.canLayAll0,PyData.depth,PyData.depthAll]
  rw [h0]
  cases xs<;>simp [PyData.eqv,PyData.eqvAll]
theorem mz(ns:List Int):SeqAt.shaped (.list (ns.map .int))=true∧SeqAt.shaped (.tuple (ns.map .int))=true:=by
  have h1:PyData.canLayAll0 (ns.map PyData.int)=true:=by
    induction ns with
    | nil=>rfl
    | cons n r ih=>simp [PyData.canLayAll0,PyData.canLay0,ih]
  have h2:PyData.depthAll (ns.map PyData.int)=0:=by
    clear h1
    induction ns with
    | nil=>rfl
    | cons n r ih=>simp [PyData.depthAll,PyData.depth,ih]
  constructor<;>simp [SeqAt.shaped,PyData.canLay0,PyData.depth,h1,h2]
theorem c_{own:hZ}{g:FG}{f:FS}(P:Nat→En→Prop):∀(items:List PyData) (k:Nat) (e:En),(∀i x e,items[i]?=some x→P (k+i) e→∃e1 e2,g x e=some e1∧f e1=some (.nx e2)∧keeps own e2∧P (k+i+1) e2)→P k e→∃e',gD own g f items e=some (.nx e')∧P (k+items.length) e'
  | [],k,e,_,h=>⟨e,rfl,h⟩
  | x::r,k,e,hs,h=>by
    obtain⟨e1,e2,h1,h2,h3,h4⟩:=hs 0 x e rfl h
    obtain⟨e',h5,h6⟩:=c_ P r (k+1) e2 (fun i y e hy hp=>by
      have:=hs (i+1) y e (by simpa using hy) (by rw [show k+(i+1)=k+1+i by lia];exact hp)
      rw [show k+(i+1)+1=k+1+i+1 by lia] at this
      exact this) h4
    refine⟨e',?_,by rw [List.length_cons,show k+(r.length+1)=k+1+r.length by lia];exact h6⟩
    unfold gD
    simp only [h1,h2,Option.bind_some,if_pos h3]
    exact h5
theorem bu{e:En}:keeps [] e:=fun _ h=>by cases h
theorem cV{W:List Nat}{fi:FI}{g:FG}{f:FS}{e e1:En}{items:List PyData}(h:fi e=some (items,[],e1)):de W fi g f e=gD [] g f items e1:=by
  unfold de;rw [h];rfl
theorem dk{lo:Int}{n i:Nat}{x:PyData}(h:(be lo n)[i]?=some x):x=.int (lo+i)∧i < n:=by
  unfold be at h
  rw [List.getElem?_map] at h
  obtain⟨k,h1,rfl⟩:=Option.map_eq_some_iff.mp h
  obtain⟨h2,h3⟩:=List.getElem?_eq_some_iff.mp h1
  simp at h2 h3
  subst h3
  exact⟨rfl,h2⟩
theorem cw{lo:Int}{n:Nat}:(be lo n).length=n:=by simp [be]
theorem ef{fs:FA}{e e1:En}{n:Int}(h:fs e=some ([.d (.int n)],e1))(h1: -1000000≤n)(h2:n≤1000000):cS fs e=some (be 0 n.toNat,[],e1):=by
  unfold cS;rw [h]
  have:yf n=true:=by unfold yf;rw [decide_eq_true h1,decide_eq_true h2];rfl
  simp [bC,this]
theorem i3{ft:FT}{f:FS}(P:En→Prop)(μ:En→Nat)(hs:∀e,P e→(∃e1,ft e=some (false,e1)∧True)∨∃e1 e2,ft e=some (true,e1)∧f e1=some (.nx e2)∧P e2∧μ e2 < μ e):
    ∀(n:Nat) (e:En),P e→μ e < n→∃e0 e',i0 ft f n e=some (.nx e')∧P e0∧ft e0=some (false,e'):=by
  intro n
  induction n with
  | zero=>intro e _ h;lia
  | succ n ih=>
    intro e hp hm
    rcases hs e hp with ⟨e1,h1,_⟩ | ⟨e1,e2,h1,h2,h3,h4⟩
    · exact⟨e,e1,by unfold i0;rw [h1];rfl,hp,h1⟩
    · obtain⟨e0,e',g1,g2⟩:=ih e2 h3 (by lia)
      exact⟨e0,e',by unfold i0;rw [h1];simp only [Option.bind_some,if_true,h2];exact g1,g2⟩
theorem fU{cs:En}{ft:FT}{fe:FE}{b:PyData→Bool}{y:PyData→PyData}:∀(items:List PyData) (t:Option Sv) (acc:List PyData),(∀x∈items,ft (cs++[some (.d x)])=some (b x,cs++[some (.d x)]))→(∀x∈items,b x=true→fe (cs++[some (.d x)])=some (.d (y x),cs++[some (.d x)]))→
    acc.length+items.length≤1000000→∃t',bY (af cs.length) ft fe items (cs++[t]) acc=some (acc++(items.filter b).map y,cs++[t'])
  | [],t,acc,_,_,_=>⟨t,by simp [bY]⟩
  | x::r,t,acc,h1,h2,hl=>by
    have hg:af cs.length x (cs++[t])=some (cs++[some (.d x)]):=by simp [af]
    have h1x:=h1 x (by simp)
    unfold bY
    rw [hg]
    simp only [Option.bind_some,h1x]
    cases hb:b x with
    | true=>
      simp only [if_true,h2 x (by simp) hb,Option.bind_some,ki]
      rw [if_pos (by simp at hl;lia)]
      obtain⟨t',ih⟩:=fU (b:=b) (y:=y) r (some (.d x)) (acc++[y x]) (fun z hz=>h1 z (by simp [hz])) (fun z hz=>h2 z (by simp [hz])) (by simp at hl ⊢;lia)
      exact⟨t',by rw [ih];simp [hb]⟩
    | false=>
      simp only [Bool.false_eq_true,if_false]
      obtain⟨t',ih⟩:=fU (b:=b) (y:=y) r (some (.d x)) acc (fun z hz=>h1 z (by simp [hz])) (fun z hz=>h2 z (by simp [hz])) (by simp at hl;lia)
      exact⟨t',by rw [ih];simp [hb]⟩
theorem qd{fa:FE}{e e1:En}{xs:List PyData}(h:fa e=some (.d (.tuple xs),e1)):kS fa e=some (xs,[],e1):=by
  unfold kS;rw [h];rfl
theorem sJ{fa:FE}{e e1:En}{xs:List PyData}(h:fa e=some (.l xs,e1)):kS fa e=some (xs,[],e1):=by
  unfold kS;rw [h];rfl
theorem gB{cp:List (Nat × Str)}{nT:Nat}{fi:FI}{g:FG}{ft:FT}{fe:FE}{e e1 cs:En}{t t':En}{items out:List PyData}(h1:fi e=some (items,[],e1))(hc:mF cp nT e1=cs++t)(hl:cs.length=cp.length)(h3:bY g ft fe items (mF cp nT e1) []=some (out,cs++t')):ed cp nT fi g ft fe e=some (.l out,e1):=by
  have key:∀i x,e1[i]?=some (some (.l x))→∀k,k_ cp i=some k→(cs++t')[k]?=some (some (.l x)):=by
    intro i x hi k hk
    obtain⟨s,hs⟩:=ej hk
    have hk2:k < cp.length:=(List.getElem?_eq_some_iff.mp hs).1
    have:(mF cp nT e1)[k]?=some (some (.l x)):=by
      unfold mF
      rw [List.getElem?_append_left (by simpa using hk2),List.getElem?_map,hs]
      simp [hi,DP]
    rw [hc,List.getElem?_append_left (by lia)] at this
    rw [List.getElem?_append_left (by lia)]
    exact this
  unfold ed
  rw [h1]
  simp only [Option.bind_some,List.all_nil,if_true,h3]
  have hb:kd cp (cs++t') e1=true:=by
    unfold kd
    rw [List.all_eq_true]
    intro p hp
    match hi:e1[p.1]? with
    | none=>simp [w_]
    | some none=>simp [w_]
    | some (some (.d x))=>simp [w_]
    | some (some (.n x))=>simp [w_]
    | some (some (.l x))=>
      cases hq:k_ cp p.1 with
      | none=>
        unfold k_ at hq
        rw [List.findIdx?_eq_none_iff] at hq
        have:=hq p hp
        simp at this
      | some k=>simp [key p.1 x hi k hq,w_]
  rw [if_pos hb]
  congr 2
  refine List.ext_getElem? fun i=>?_
  rw [cA]
  match hi:e1[i]? with
  | none=>rfl
  | some none=>rfl
  | some (some (.d x))=>rfl
  | some (some (.n x))=>rfl
  | some (some (.l x))=>
    cases hp:k_ cp i with
    | none=>simp [hp]
    | some k=>simp [hp,key i x hi k hp]
theorem jh{α:Type}{xs:List α}{i:Int}(h0:0≤i)(h1:i < xs.length):∃x∈xs,atI xs i=some x:=by
  rw [gf h0 h1]
  exact⟨xs[i.toNat]'(by lia),List.getElem_mem _,List.getElem?_eq_getElem _⟩
theorem mn{e:En}{xs:List PyData}{i:Int}:bE e (.l xs) (.d (.int i))=(atI xs i).map .d:=rfl
theorem gQ{e:En}{xs:List PyData}{i:Int}:bE e (.d (.tuple xs)) (.d (.int i))=(atI xs i).map .d:=rfl
theorem jl{e:En}{xs:List PyData}{i:Int}:bE e (.d (.list xs)) (.d (.int i))=(atI xs i).map .d:=rfl
theorem mq{e:En}{j:Nat}{xs:List PyData}{i:Int}(h:e[j]?=some (some (.l xs))):bE e (.s j) (.d (.int i))=(atI xs i).map .d:=by
  simp [bE,el,h,bC]
theorem jp{e:En}{xs:List PyData}:g1 eX e [.d (.tuple xs)]=some (.d (.int xs.length)):=rfl
theorem gS{e:En}{xs:List PyData}:g1 eX e [.d (.list xs)]=some (.d (.int xs.length)):=rfl
theorem jm{e:En}{xs:List PyData}:g1 eX e [.l xs]=some (.d (.int xs.length)):=rfl
theorem jo{e:En}{j:Nat}{xs:List PyData}(h:e[j]?=some (some (.l xs))):g1 eX e [.s j]=some (.d (.int xs.length)):=by
  simp [g1,eX,el,h]
theorem eL{e:En}{j:Nat}{xs:List PyData}(h:e[j]?=some (some (.l xs))):g1 c9 e [.s j]=some (.d (.tuple xs)):=by
  simp [g1,c9,el,h]
theorem eK{e:En}{xs:List PyData}:g1 c9 e [.l xs]=some (.d (.tuple xs)):=rfl
theorem dw{e:En}{xs:List PyData}:g1 c9 e [.d (.list xs)]=some (.d (.tuple xs)):=rfl
theorem eM{e:En}{xs:List PyData}:g1 c9 e [.d (.tuple xs)]=some (.d (.tuple xs)):=rfl
theorem mr{e:En}{xs:List PyData}{lo hi:Option Int}:Dl e (.d (.tuple xs)) lo hi=some (.d (.tuple (kh xs lo hi))):=rfl
theorem nq{e:En}{xs ys:List PyData}(h:xs.length+ys.length≤1000000):cy e (.d (.tuple xs)) (.d (.tuple ys))=some (.d (.tuple (xs++ys))):=by
  simp [cy,wV,wO,gI,bC,q_,el,h]
theorem wU{e:En}{i j:Int}(h:j≠0):a9 e (.d (.int i)) (.d (.int j))=some (.d (.int (i.fmod j))):=by
  unfold a9;rw [lO (by simpa using h)]
theorem uj{e:En}{i j:Int}(h:j≠0)(h2:Bt 8000 j):dt e (.d (.int i)) (.d (.int j))=some (.d (.int (i.fdiv j))):=by
  unfold dt;rw [lO (by simp [iH.mpr h2,h])]
theorem kR{e:En}{i j:Int}(h:xV i j=true):sI e (.d (.int i)) (.d (.int j))=some (.d (.int (i ^ j.toNat))):=by
  unfold sI;rw [lO h]
theorem lb:xV 10 18=true:=by decide
theorem cx{f g:FS}{e e1:En}(h:f e=some (.nx e1)):aD f g e=g e1:=by unfold aD;rw [h];rfl
theorem Bj{ft:FT}{f g:FS}{e e1:En}(h:ft e=some (true,e1)):ir ft f g e=f e1:=by unfold ir;rw [h];rfl
theorem Bi{ft:FT}{f g:FS}{e e1:En}(h:ft e=some (false,e1)):ir ft f g e=g e1:=by unfold ir;rw [h];rfl
def pk(i:Nat)(e:En):Nat:=match e[i]? with
  | some (some (.l xs))=>xs.length
  | _=>0
def pw(i:Nat)(e:En):Nat:=match e[i]? with
  | some (some (.d (.int k)))=>k.natAbs
  | _=>0
theorem mQ{n m:Nat}(h:n < 2 ^ m)(hm:m≤4200):n < 2 ^ 4200:=Nat.lt_of_lt_of_le h (Nat.pow_le_pow_right (by decide) hm)
theorem je{α:Type}{a:α}{r:List α}:atI (a::r) 0=some a:=by
  rw [gf (by decide) (by simp)];rfl
theorem dB{α:Type}{a b:α}{r:List α}:atI (a::b::r) 1=some b:=by
  rw [gf (by decide) (by simp;lia)];rfl
theorem jf{α:Type}{a b c:α}{r:List α}:atI (a::b::c::r) 2=some c:=by
  rw [gf (by decide) (by simp;lia)];rfl
theorem jg{α:Type}{a b c d:α}{r:List α}:atI (a::b::c::d::r) 3=some d:=by
  rw [gf (by decide) (by simp;lia)];rfl
theorem dC{W:aM}{k:Int}(h:kB W k):atI (W.ties.map cZ) k=some (cZ (W.tie k)):=by
  rw [gf h.1 (by rw [List.length_map];exact h.2),List.getElem?_map,h.get];rfl
theorem wk{ns:List Int}{k:Int}(h0:0≤k)(h1:k < (ns.length:Int)):atI (ns.map PyData.int) k=some (.int (ns.getD k.toNat 0)):=by
  rw [gf h0 (by rw [List.length_map];exact h1),List.getElem?_map]
  have:k.toNat < ns.length:=by lia
  simp [this]
theorem l9{a b c d:PyData}:kh [a,b,c,d] none (some 2)=[a,b]:=rfl
theorem dr{a b c d:PyData}:kh [a,b,c,d] (some 2) none=[c,d]:=rfl
theorem dq{a b c:PyData}:kh [a,b,c] (some 1) none=[b,c]:=rfl
theorem qW(ns:List Int):PyData.canLayAll0 (ns.map PyData.int)=true:=by
  induction ns with
  | nil=>rfl
  | cons n r ih=>simp [PyData.canLayAll0,PyData.canLay0,ih]
theorem qS{x:Int}:∀(ns:List Int),((ns.map PyData.int).any fun y=>PyData.eqv y (.int x))=ns.contains x
  | []=>rfl
  | n::r=>by
    rw [List.map_cons,List.any_cons,qS r,List.contains_cons]
    show(n==x || _)=_
    rw [show(n==x)=(x==n) by rw [Bool.eq_iff_iff];simp;exact eq_comm]
theorem dN{e:En}{x:Int}{ns:List Int}{neg:Bool}:za neg e (.d (.int x)) (.d (.tuple (ns.map .int)))=some (.d (.bool (if neg then !ns.contains x else ns.contains x))):=by
  unfold za
  simp only [i7,el,Option.bind_some,qW,qS]
  simp [PyData.canLay0,PyData.depth]
theorem gN{e:En}{x a b:Int}{neg:Bool}:za neg e (.d (.int x)) (.d (.tuple [.int a,.int b]))=some (.d (.bool (if neg then !(a==x || b==x) else(a==x || b==x)))):=by
  have h:=dN (e:=e) (x:=x) (ns:=[a,b]) (neg:=neg)
  simp only [List.map_cons,List.map_nil] at h
  rw [h]
  have:[a,b].contains x=(a==x || b==x):=by
    simp only [List.contains_cons,List.contains_nil,Bool.or_false]
    rw [show(x==a)=(a==x) by rw [Bool.eq_iff_iff];simp;exact eq_comm,show(x==b)=(b==x) by rw [Bool.eq_iff_iff];simp;exact eq_comm]
  rw [this]
theorem nA{e:En}{ns:List Int}(h:ns.length < 64):g1 iL e [.d (.tuple (ns.map .int))]=some (.l ((jI ns).map .int)):=by
  simp [g1,iL,el,ph,h]
def wf(p:Int→Bool):PyData→Bool
  | .int k=>p k
  | _=>false
theorem vI{W:aM}{asked taken:List Int}:((be 0 W.ties.length).filter (wf fun k=>W.may asked taken k))=(W.can asked taken).map .int:=by
  unfold be aM.can aM.rng
  rw [List.filter_map,List.filter_map,List.map_map]
  have:(List.range W.ties.length).filter ((wf fun k=>W.may asked taken k) ∘ fun(i:Nat)=>PyData.int (0+(i:Int)))=(List.range W.ties.length).filter ((fun k=>W.may asked taken k) ∘ Int.ofNat):=by
    congr 1
    funext i
    simp [wf]
  rw [this]
  refine List.map_congr_left fun i _=>?_
  simp
theorem dH(W:aM):br W=.tuple [.int W.things,.tuple (W.ties.map cZ),.tuple (W.pat.map .int),.int W.asks]:=rfl
end L2
namespace L2
open PySem PySem.Spec PyProof.Rows
def Sh(n:Nat)(d:PyData):Prop:=d.canLay0=true∧d.depth≤n
theorem Sh.mono{n m:Nat}{d:PyData}(h:Sh n d)(l:n≤m):Sh m d:=⟨h.1,Nat.le_trans h.2 l⟩
theorem Sh.ok{n:Nat}{d:PyData}(h:Sh n d)(l:n≤64):SeqAt.shaped d=true:=by
  unfold SeqAt.shaped;rw [h.1,decide_eq_true (Nat.le_trans h.2 l)];rfl
theorem Sh.int{k:Int}:Sh 2 (.int k):=⟨by simp [PyData.canLay0],by simp [PyData.depth]⟩
theorem Sh.all{n:Nat}:∀{ds:List PyData},(∀d∈ds,Sh n d)→PyData.canLayAll0 ds=true∧PyData.depthAll ds≤n
  | [],_=>⟨rfl,by simp [PyData.depthAll]⟩
  | d::r,h=>by
    obtain⟨a1,a2⟩:=h d (by simp)
    obtain⟨b1,b2⟩:=Sh.all (ds:=r) fun x hx=>h x (by simp [hx])
    exact⟨by simp [PyData.canLayAll0,a1,b1],by simp only [PyData.depthAll];lia⟩
theorem Sh.tup{n:Nat}{ds:List PyData}(h:∀d∈ds,Sh n d):Sh (n+2) (.tuple ds):=by
  obtain⟨b1,b2⟩:=Sh.all h
  exact⟨by simp [PyData.canLay0,b1],by simp only [PyData.depth];lia⟩
theorem Sh.list{n:Nat}{ds:List PyData}(h:∀d∈ds,Sh n d):Sh (n+2) (.list ds):=by
  obtain⟨b1,b2⟩:=Sh.all h
  exact⟨by simp [PyData.canLay0,b1],by simp only [PyData.depth];lia⟩
theorem Sh.ints{ns:List Int}:Sh 4 (.tuple (ns.map .int)):=Sh.tup (n:=2) fun d hd=>by
  obtain⟨k,_,rfl⟩:=List.mem_map.mp hd
  exact Sh.int
theorem Sh.st{a b:List Int}:Sh 6 (lN a b):=Sh.tup (n:=4) fun d hd=>by
  simp only [List.mem_cons,List.not_mem_nil,or_false] at hd
  rcases hd with rfl | rfl<;>exact Sh.ints
theorem rE:∀(n:Nat) (l:List Int),l.Nodup→(∀k∈l,0≤k∧k < (n:Int))→l.length≤n
  | 0,l,_,h=>by
    cases l with
    | nil=>simp
    | cons a r=>have:=h a (by simp);lia
  | n+1,l,hd,h=>by
    have ih:=rE n (l.erase (n:Int)) (hd.erase _) fun k hk=>by
      obtain⟨h1,h2⟩:=hd.mem_erase_iff.mp hk
      have:=h k h2
      lia
    by_cases c:(n:Int)∈l
    · rw [List.length_erase_of_mem c] at ih;lia
    · rw [List.erase_of_not_mem c] at ih;lia
abbrev fJ:=List Int × List Int
structure lK (W:aM) (s:fJ):Prop where
  inw:∀k∈s.1,kB W k
  nd:s.1.Nodup
  tk:s.2.length≤2*s.1.length
  th:∀t∈s.2,0≤t∧t < W.things
def nxt(W:aM)(s:fJ)(k:Int)(b:Bool):fJ:=(aM.askd s.1 k,W.took s.2 k b)
theorem lK.len{W:aM}{s:fJ}(h:lK W s):s.1.length≤W.ties.length:=rE _ _ h.nd fun k hk=>h.inw k hk
theorem lK.first(W:aM):lK W ([],[]):=⟨fun k h=>(by cases h),List.nodup_nil,Nat.le_refl _,fun k h=>(by cases h)⟩
theorem m4{a:List Int}{k:Int}:(aM.askd a k).length=a.length+1:=by unfold aM.askd;rw [pK];simp
theorem lK.nxt{W:aM}{s:fJ}{k:Int}(b:Bool)(ok:W.Ok)(h:lK W s)(hk:kB W k)(hn:k∉s.1):lK W (nxt W s k b):=by
  refine⟨fun j hj=>?_,?_,?_,?_⟩
  · have:=lY.mp hj
    rcases List.mem_append.mp this with z | z
    · exact h.inw j z
    · simp at z;rw [z];exact hk
  · refine(iX _).nodup_iff.mpr ?_
    rw [List.nodup_append]
    refine⟨h.nd,by simp,fun a ha b hb=>?_⟩
    simp at hb
    rintro rfl
    exact hn (hb ▸ ha)
  · have:=h.tk
    show(W.took s.2 k b).length≤2*(aM.askd s.1 k).length
    rw [m4]
    unfold aM.took
    split
    · rw [pK];simp;lia
    · lia
  · intro t ht
    have o:=hk.ok ok
    have:=o.o0;have:=o.o1;have:=o.o2
    change t∈W.took s.2 k b at ht
    unfold aM.took at ht
    split at ht
    · rcases List.mem_append.mp (lY.mp ht) with z | z
      · exact h.th t z
      · simp at z
        rcases z with rfl | rfl<;>lia
    · exact h.th t ht
theorem qk{W:aM}{a t:List Int}{k:Int}(h:W.may a t k=true):k∉a:=by
  unfold aM.may at h
  intro c
  have:a.contains k=true:=by simpa using c
  simp [c] at h
structure Nd where
  tie:Int
  yes:Int
  no:Int
def a8(x:Nd):PyData:=.tuple [.int x.tie,.int x.yes,.int x.no]
def vn(x:Nd):List PyData:=[.int x.tie,.int x.yes,.int x.no]
def oB(W:aM)(n:Nat)(S:Nat→fJ)(i:Nat)(k:Int)(b:Bool)(l:Int):Prop:=l= -1∨(0≤l∧l < (n:Int)∧S l.toNat=nxt W (S i) k b)
structure yR (W:aM) (n:Nat) (S:Nat→fJ) (i:Nat) (x:Nd):Prop where
  tie:kB W x.tie
  st:lK W (S i)
  may:W.may (S i).1 (S i).2 x.tie=true
  yes:oB W n S i x.tie true x.yes
  no:oB W n S i x.tie false x.no
def jd(W:aM)(T:List Nd)(S:Nat→fJ):Prop:=∀(i:Nat) (x:Nd),T[i]?=some x→yR W T.length S i x
structure Wt where
  st:fJ
  par:Int
  side:Int
def y3(w:Wt):PyData:=.tuple [lN w.st.1 w.st.2,.int w.par,.int w.side]
theorem Sh.wt{w:Wt}:Sh 8 (y3 w):=Sh.tup (n:=6) fun d hd=>by
  simp only [List.mem_cons,List.not_mem_nil,or_false] at hd
  rcases hd with rfl | rfl | rfl
  · exact Sh.st
  · exact Sh.int.mono (by decide)
  · exact Sh.int.mono (by decide)
def Bl(S:Nat→fJ)(n:Nat)(s:fJ):Nat→fJ:=fun i=>if i=n then s else S i
structure pS (W:aM) (T:List Nd) (S:Nat→fJ) (ws:List Wt):Prop where
  tr:jd W T S
  wt:∀w∈ws,lK W w.st∧(w.par= -1∨∃(p:Nat) (x:Nd),w.par=(p:Int)∧T[p]?=some x∧((w.side=0∧w.st=L2.nxt W (S p) x.tie true)∨(w.side=1∧w.st=L2.nxt W (S p) x.tie false)))
  side:∀w∈ws,w.side=0∨w.side=1
theorem oB.up{W:aM}{n:Nat}{S:Nat→fJ}{i:Nat}{k:Int}{b:Bool}{l:Int}{s:fJ}(h:oB W n S i k b l)(hi:i < n):oB W (n+1) (Bl S n s) i k b l:=by
  rcases h with h | ⟨h1,h2,h3⟩
  · exact .inl h
  · refine .inr ⟨h1,by lia,?_⟩
    unfold Bl
    rw [if_neg (by lia),if_neg (by lia)]
    exact h3
def gF(x:Nd)(side n:Int):Nd:=if side=0 then{x with yes:=n} else{x with no:=n}
theorem xg{x:Nd}{s n:Int}:(gF x s n).tie=x.tie:=by unfold gF;split<;>rfl
theorem pS.more{W:aM}{T:List Nd}{S:Nat→fJ}{w:Wt}{ws:List Wt}{k:Int}(ok:W.Ok)(h:pS W T S (w::ws))(hk:kB W k)(hm:W.may w.st.1 w.st.2 k=true):
    pS W ((if 0≤w.par then T.modify w.par.toNat (fun x=>gF x w.side T.length) else T)++[⟨k, -1, -1⟩]) (Bl S T.length w.st) (ws++[⟨L2.nxt W w.st k true,T.length,0⟩,⟨L2.nxt W w.st k false,T.length,1⟩]):=by
  obtain⟨ws1,ws2⟩:=h.wt w (by simp)
  generalize hT:(if 0≤w.par then T.modify w.par.toNat (fun x=>gF x w.side T.length) else T)=T'
  have len:T'.length=T.length:=by rw [←hT];split<;>simp
  have old:∀(i:Nat) (y:Nd),T'[i]?=some y→i < T.length∧∃x,T[i]?=some x∧y.tie=x.tie:=by
    intro i y hy
    have hi:i < T.length:=by rw [←len];exact(List.getElem?_eq_some_iff.mp hy).1
    refine⟨hi,?_⟩
    rw [←hT] at hy
    split at hy
    · rw [List.getElem?_modify] at hy
      obtain⟨x,hx,e⟩:=Option.map_eq_some_iff.mp hy
      refine⟨x,hx,?_⟩
      rw [←e]
      split
      · exact xg
      · rfl
    · exact⟨y,hy,rfl⟩
  have keep:∀(i:Nat) (x:Nd),T[i]?=some x→∃y,T'[i]?=some y∧y.tie=x.tie:=by
    intro i x hx
    have hi:i < T'.length:=by rw [len];exact(List.getElem?_eq_some_iff.mp hx).1
    obtain⟨_,x',hx',e⟩:=old i _ (List.getElem?_eq_getElem hi)
    rw [hx] at hx'
    cases hx'
    exact⟨_,List.getElem?_eq_getElem hi,e⟩
  have up:∀i,i < T.length→Bl S T.length w.st i=S i:=fun i hi=>by unfold Bl;rw [if_neg (by lia)]
  have upn:Bl S T.length w.st T.length=w.st:=by unfold Bl;rw [if_pos rfl]
  refine⟨fun i y hy=>?_,fun v hv=>?_,fun v hv=>?_⟩
  · rw [List.length_append,len]
    show yR W (T.length+1) _ i y
    by_cases c:i < T.length
    · rw [List.getElem?_append_left (by lia)] at hy
      have hy0:=hy
      rw [←hT] at hy
      split at hy
      case isFalse=>
        have o:=h.tr i y hy
        exact⟨o.tie,by rw [up i c];exact o.st,by rw [up i c];exact o.may,o.yes.up c,o.no.up c⟩
      case isTrue hp=>
        rw [List.getElem?_modify] at hy
        obtain⟨x,hx,e⟩:=Option.map_eq_some_iff.mp hy
        have o:=h.tr i x hx
        split at e
        case isFalse=>
          subst e
          exact⟨o.tie,by rw [up i c];exact o.st,by rw [up i c];exact o.may,o.yes.up c,o.no.up c⟩
        case isTrue hi=>
          rcases ws2 with z | ⟨p,x2,z1,z2,z3⟩
          · lia
          · have:i=p:=by lia
            subst this
            rw [hx] at z2
            cases z2
            have new:∀b,w.st=L2.nxt W (S i) x.tie b→oB W (T.length+1) (Bl S T.length w.st) i x.tie b (T.length:Int):=fun b hb=>.inr ⟨by lia,by lia,by
              rw [show((T.length:Int)).toNat=T.length by lia,upn,up i c];exact hb⟩
            rw [←e]
            rcases z3 with ⟨s0,s1⟩ | ⟨s0,s1⟩
            · have:gF x w.side T.length={x with yes:=T.length}:=by unfold gF;rw [if_pos s0]
              rw [this]
              exact⟨o.tie,by rw [up i c];exact o.st,by rw [up i c];exact o.may,new true s1,o.no.up c⟩
            · have:gF x w.side T.length={x with no:=T.length}:=by unfold gF;rw [if_neg (by lia)]
              rw [this]
              exact⟨o.tie,by rw [up i c];exact o.st,by rw [up i c];exact o.may,o.yes.up c,new false s1⟩
    · rw [List.getElem?_append_right (by lia)] at hy
      have:i=T.length:=by
        have:=(List.getElem?_eq_some_iff.mp hy).1
        simp at this;lia
      subst this
      rw [len] at hy
      simp at hy
      subst hy
      exact⟨hk,by rw [upn];exact ws1,by rw [upn];exact hm,.inl rfl,.inl rfl⟩
  · rcases List.mem_append.mp hv with hv | hv
    · obtain⟨v1,v2⟩:=h.wt v (by simp [hv])
      refine⟨v1,?_⟩
      rcases v2 with z | ⟨p,x,z1,z2,z3⟩
      · exact .inl z
      · obtain⟨y,hy,e⟩:=keep p x z2
        have hp:p < T.length:=(List.getElem?_eq_some_iff.mp z2).1
        refine .inr ⟨p,y,z1,by rw [List.getElem?_append_left (by lia)];exact hy,?_⟩
        rw [up p hp,e]
        exact z3
    · have key:∀b,lK W (L2.nxt W w.st k b):=fun b=>ws1.nxt b ok hk (qk hm)
      have at':(T'++[(⟨k, -1, -1⟩:Nd)])[T.length]?=some ⟨k, -1, -1⟩:=by rw [List.getElem?_append_right (by lia),len];simp
      simp only [List.mem_cons,List.not_mem_nil,or_false] at hv
      rcases hv with rfl | rfl
      · exact⟨key true,.inr ⟨T.length,_,rfl,at',.inl ⟨rfl,by rw [upn]⟩⟩⟩
      · exact⟨key false,.inr ⟨T.length,_,rfl,at',.inr ⟨rfl,by rw [upn]⟩⟩⟩
  · rcases List.mem_append.mp hv with hv | hv
    · exact h.side v (by simp [hv])
    · simp only [List.mem_cons,List.not_mem_nil,or_false] at hv
      rcases hv with rfl | rfl
      · exact .inl rfl
      · exact .inr rfl
theorem pS.less{W:aM}{T:List Nd}{S:Nat→fJ}{w:Wt}{ws:List Wt}(h:pS W T S (w::ws)):pS W T S ws:=⟨h.tr,fun v hv=>h.wt v (by simp [hv]),fun v hv=>h.side v (by simp [hv])⟩
theorem vM{T:List Nd}{p:Nat}{x:Nd}{n:Int}(h:T[p]?=some x):(T.map vn).set p [.int x.tie,.int n,.int x.no]=(T.modify p (fun x=>gF x 0 n)).map vn:=by
  refine List.ext_getElem? fun i=>?_
  rw [List.getElem?_set,List.getElem?_map,List.getElem?_map,List.getElem?_modify]
  by_cases c:p=i
  · subst c
    obtain⟨hp,e⟩:=List.getElem?_eq_some_iff.mp h
    simp [h,hp,gF,vn,e]
  · simp [c]
theorem vN{T:List Nd}{p:Nat}{x:Nd}{n:Int}(h:T[p]?=some x):(T.map vn).set p [.int x.tie,.int x.yes,.int n]=(T.modify p (fun x=>gF x 1 n)).map vn:=by
  refine List.ext_getElem? fun i=>?_
  rw [List.getElem?_set,List.getElem?_map,List.getElem?_map,List.getElem?_modify]
  by_cases c:p=i
  · subst c
    obtain⟨hp,e⟩:=List.getElem?_eq_some_iff.mp h
    simp [h,hp,gF,vn,e]
  · simp [c]
theorem yW{W:aM}{a t:List Int}{k:Int}(h:k∈W.can a t):kB W k∧W.may a t k=true:=by
  unfold aM.can at h
  rw [List.mem_filter] at h
  exact⟨mR.mp h.1,h.2⟩
end L2
namespace L2
open PySem PySem.Spec PyProof.Rows
theorem pb{α:Type}(x:α):∀n,(List.replicate n [x]).flatten=List.replicate n x
  | 0=>rfl
  | n+1=>by rw [List.replicate_succ,List.flatten_cons,pb x n];rfl
theorem AZ{e:En}{x:PyData}{n:Int}(h0:0≤n)(h1:n≤100000):cD e (.l [x]) (.d (.int n))=some (.l (List.replicate n.toNat x)):=by
  have a:rd e (.l [x]) (.d (.int n))=some (.l (List.replicate n.toNat [x]).flatten):=by
    simp [rd,sQ,bC]
    lia
  have b:rc e (.l [x]) (.d (.int n))=none:=by simp [rc,gI,bC]
  have c:rf e (.l [x]) (.d (.int n))=none:=by simp [rf,el,bC]
  unfold cD wV
  rw [b,c,a,pb]
  rfl
theorem uX{α:Type}{xs:List α}{x:α}:atI (xs++[x]) (-1)=some x:=by
  unfold atI qO
  rw [if_neg (by decide),if_pos (by simp;lia)]
  simp
  rw [show(-1+((xs.length:Int)+1)).toNat=xs.length by lia]
  simp
def nm(nums:List Int)(l:Int):Int:=(atI nums l).getD (-1)
structure FX (order:List Int) (n:Nat) (nums:List Int):Prop where
  len:nums.length=n+1
  top:nums[n]?=some (-1)
  at':∀(j:Nat) (v:Int),j < n→nums[j]?=some v→v= -1∨∃p:Nat,v=(p:Int)∧order[p]?=some (j:Int)
def xo(T:List Nd)(w:Int):Nd:=T.getD w.toNat ⟨0,0,0⟩
theorem oB.rng{W:aM}{n:Nat}{S:Nat→fJ}{i:Nat}{k:Int}{b:Bool}{l:Int}(h:oB W n S i k b l): -1≤l∧l < (n:Int):=by
  rcases h with h | h<;>lia
theorem yR.room{W:aM}{n:Nat}{S:Nat→fJ}{i:Nat}{x:Nd}(ok:W.Ok)(h:yR W n S i x):(S i).1.length≤15:=by
  have h1:=(h.st.nxt true ok h.tie (qk h.may)).len
  have h2:=ok.len
  have:(nxt W (S i) x.tie true).1.length=(S i).1.length+1:=m4
  lia
end L2
namespace L2
open PySem PySem.Spec PyProof.Rows
def stp(W:aM)(ss:List fJ)(i:Nat)(k:Int)(b:Bool)(l:Int):List fJ:=if l= -1 then ss else ss.set l.toNat (nxt W (ss.getD i ([],[])) k b)
structure Gm (S:Nat→fJ) (n:Nat) (ss:List fJ):Prop where
  len:ss.length=n
  at':∀(j:Nat) (s:fJ),ss[j]?=some s→s.1.length≤(S j).1.length∧s.2.length≤2*s.1.length∧(∀k∈s.1,0≤k∧k < 16)∧∀t∈s.2,0≤t∧t < 12
theorem wK{T:List Nd}{i:Nat}{x:PyData}(h:(ij 0 (T.map a8))[i]?=some x):∃y,T[i]?=some y∧x=.tuple [.int (i:Int),a8 y]:=by
  rw [jQ,List.getElem?_map,Option.map_map] at h
  obtain⟨y,hy,rfl⟩:=Option.map_eq_some_iff.mp h
  exact⟨y,hy,by simp⟩
end L2
namespace L2
open PySem PySem.Spec PyProof.Rows
structure Sz (n dep:Nat) (d:PyData):Prop where
  fl:AX d=true
  sh:d.showable=true
  dp:d.depth≤dep
  ln:d.shown.length≤n
  so:PyData.strOk d.shown=true
end L2
namespace L2
open PySem PySem.Spec PyProof.Rows
theorem ui{e:En}{i:Nat}{xs ys:List PyData}(h:e[i]?=some (some (.l xs)))(hl:xs.length+ys.length≤1000000):cy e (.s i) (.l ys)=some (.l (xs++ys)):=by
  simp [cy,wV,wO,gI,bC,q_,el,uh,sQ,h,hl]
theorem DD{e:En}{i:Nat}{xs:List PyData}{lo hi:Option Int}(h:e[i]?=some (some (.l xs))):Dl e (.s i) lo hi=some (.l (kh xs lo hi)):=by
  simp [Dl,el,h]
def rn(T:List Nd)(ans:List Bool):Nat→Int→List (Int × Bool)
  | 0,_=>[]
  | f+1,at'=>if at' < 0 then [] else((xo T at').tie,ans.getD (xo T at').tie.toNat false)::rn T ans f (if ans.getD (xo T at').tie.toNat false=true then(xo T at').yes else(xo T at').no)
def rt(T:List Nd):Int:=if T.length=0 then -1 else 0
structure F8 (W:aM) (T:List Nd) (S:Nat→fJ) (ans:List Bool) (r:List (Int × Bool)) (a:Int):Prop where
  at':a= -1∨(0≤a∧a < (T.length:Int)∧r.length≤(S a.toNat).1.length)
  eq:r++rn T ans (17 - r.length) a=rn T ans 17 (rt T)
  len:r.length≤16
  inw:∀p∈r,kB W p.1
end L2
namespace L2
open PySem PySem.Spec PyProof.Rows
abbrev Fr:=Int × Int
def dF(f:Fr):PyData:=.tuple [.int f.1,.int f.2]
def tm(a b:Fr):Fr:=bo (a.1*b.1) (a.2*b.2)
def pl(a b:Fr):Fr:=bo (a.1*b.2+b.1*a.2) (a.2*b.2)
theorem jV{t b:Int}(hb:0 < b)(ht:0≤t):∃d:Int,0 < d∧(bo t b).1*d=t∧(bo t b).2*d=b∧0 < (bo t b).2∧0≤(bo t b).1:=by
  obtain⟨d,h1,h2,h3,h4,h5⟩:=fV (t:=t) (b:=b) (by lia)
  have d0:0 < d:=by
    rcases Int.lt_trichotomy d 0 with z | z | z
    · have:=Int.mul_neg_of_pos_of_neg h5 z
      lia
    · exact absurd z h2
    · exact z
  refine⟨d,d0,h3,h4,h5,?_⟩
  rcases Int.lt_or_le (bo t b).1 0 with z | z
  · have:=Int.mul_neg_of_neg_of_pos z d0
    lia
  · exact z
theorem qh{t b i:Int}(hb:0 < b)(ht:0≤t)(h:t≤i*b):(bo t b).1≤i*(bo t b).2:=by
  obtain⟨d,d0,h3,h4,h5,h6⟩:=jV hb ht
  refine Int.le_of_mul_le_mul_right (a:=d) ?_ d0
  rw [h3,Int.mul_assoc,h4]
  exact h
theorem rm{t b:Int}(hb:0 < b)(ht:0≤t):(bo t b).2 ∣ b:=by
  obtain⟨d,d0,h3,h4,h5,h6⟩:=jV hb ht
  exact⟨d,h4.symm⟩
theorem xk{t b M u:Int}(hb:0 < b)(ht:0≤t)(h:t*M=b*u):(bo t b).2 ∣ M:=by
  have g:=jv (t:=t) (b:=b) (by lia)
  obtain⟨d,d0,h3,h4,h5,h6⟩:=jV hb ht
  generalize (bo t b).1=p at*
  generalize (bo t b).2=q at*
  have e:p*M=q*u:=by
    refine Int.eq_of_mul_eq_mul_right (a:=d) (by lia) ?_
    rw [show p*M*d=(p*d)*M by rw [Int.mul_assoc,Int.mul_comm M d,←Int.mul_assoc],h3,h,←h4,Int.mul_assoc,Int.mul_comm d u,←Int.mul_assoc]
  have dv:q.natAbs ∣ (p*M).natAbs:=Int.natAbs_dvd_natAbs.mpr ⟨u,e⟩
  rw [Int.natAbs_mul] at dv
  have cp:Nat.Coprime q.natAbs p.natAbs:=by
    have:Nat.gcd p.natAbs q.natAbs=1:=g
    rw [Nat.Coprime,Nat.gcd_comm];exact this
  exact Int.natAbs_dvd_natAbs.mp (cp.dvd_of_dvd_mul_left dv)
structure wc (M:Int) (f:Fr):Prop where
  pos:0 < f.2
  lo:0≤f.1
  hi:f.1≤f.2
  dv:f.2 ∣ M
theorem wc.tm{M N:Int}{a b:Fr}(h:wc M a)(k:wc N b):wc (M*N) (tm a b):=by
  have p:0 < a.2*b.2:=Int.mul_pos h.pos k.pos
  have t:0≤a.1*b.1:=Int.mul_nonneg h.lo k.lo
  obtain⟨d,d0,h3,h4,h5,h6⟩:=jV p t
  refine⟨h5,h6,?_,Int.dvd_trans (rm p t) (Int.mul_dvd_mul h.dv k.dv)⟩
  have:=qh (i:=1) p t (by rw [Int.one_mul];exact Int.mul_le_mul h.hi k.hi k.lo (Int.le_of_lt h.pos))
  rw [Int.one_mul] at this
  exact this
structure oy (M i:Int) (f:Fr):Prop where
  pos:0 < f.2
  lo:0≤f.1
  hi:f.1≤i*f.2
  dv:f.2 ∣ M
theorem wc.bt{M:Int}{f:Fr}{n:Nat}(h:wc M f)(hM:Bt n M)(h0:0 < M):Bt n f.1∧Bt n f.2:=by
  have l:=Int.le_of_dvd h0 h.dv
  have:=h.pos;have:=h.lo;have:=h.hi
  exact⟨hM.of_le (by lia),hM.of_le (by lia)⟩
theorem oy.bt{M i:Int}{f:Fr}{n m:Nat}(h:oy M i f)(hM:Bt n M)(h0:0 < M)(hi:Bt m i):Bt (m+n) f.1∧Bt n f.2:=by
  have l:=Int.le_of_dvd h0 h.dv
  have p:=h.pos;have q:=h.lo;have r:=h.hi
  have b2:Bt n f.2:=hM.of_le (by lia)
  exact⟨(hi.mul b2).of_le (by lia),b2⟩
def bp(W:aM):List Int→Int
  | []=>1
  | k::r=>(W.tie k).bot*bp W r
theorem mP{W:aM}{a b:List Int}(h:a.Perm b):bp W a=bp W b:=by
  induction h with
  | nil=>rfl
  | cons x _ ih=>simp only [bp,ih]
  | swap x y l=>simp only [bp];ac_rfl
  | trans _ _ i1 i2=>rw [i1,i2]
theorem yV{W:aM}{a:List Int}{k:Int}:bp W (aM.askd a k)=bp W a*(W.tie k).bot:=by
  unfold aM.askd
  rw [mP (iX _),mP (List.perm_append_comm (l₁:=a) (l₂:=[k]))]
  show(W.tie k).bot*bp W a=_
  rw [Int.mul_comm]
theorem sA{W:aM}:∀{a L:List Int},a.Nodup→(∀k∈a,k∈L)→bp W a ∣ bp W L
  | [],L,_,_=>Int.one_dvd _
  | k::r,L,hn,hs=>by
    have hk:=hs k (by simp)
    rw [List.nodup_cons] at hn
    rw [mP (List.perm_cons_erase hk)]
    refine Int.mul_dvd_mul (Int.dvd_refl _) (sA hn.2 fun j hj=>?_)
    have:j≠k:=fun z=>hn.1 (z ▸ hj)
    exact(List.mem_erase_of_ne this).mpr (hs j (by simp [hj]))
theorem wy{W:aM}(ok:W.Ok):∀{a:List Int},(∀k∈a,kB W k)→0 < bp W a∧Bt (7*a.length+1) (bp W a)
  | [],_=>⟨by simp [bp],by unfold Bt;simp [bp]⟩
  | k::r,h=>by
    obtain⟨i1,i2⟩:=wy ok (a:=r) fun j hj=>h j (by simp [hj])
    have o:=(h k (by simp)).ok ok
    have b0:=o.b0;have b1:=o.b1
    have bt:Bt 7 (W.tie k).bot:=by unfold Bt;lia
    refine⟨Int.mul_pos (by lia) i1,?_⟩
    have:=bt.mul i2
    exact this.mono (by simp;lia)
def m8(W:aM):Int:=bp W W.rng
theorem m9{W:aM}(ok:W.Ok):0 < m8 W∧Bt 113 (m8 W):=by
  obtain⟨h1,h2⟩:=wy ok (a:=W.rng) fun k hk=>mR.mp hk
  refine⟨h1,h2.mono ?_⟩
  have:=ok.len
  have:W.rng.length=W.ties.length:=by unfold aM.rng;simp
  lia
theorem lK.bp{W:aM}{s:fJ}(h:lK W s):L2.bp W s.1 ∣ m8 W:=sA h.nd fun k hk=>mR.mpr (h.inw k hk)
def ch(W:aM)(k:Int)(b:Bool):Fr:=if b then((W.tie k).top,(W.tie k).bot) else((W.tie k).bot - (W.tie k).top,(W.tie k).bot)
theorem o8{W:aM}(ok:W.Ok){k:Int}(hk:kB W k)(b:Bool):wc (W.tie k).bot (ch W k b):=by
  have o:=hk.ok ok
  have:=o.c0;have:=o.c1;have:=o.b0
  cases b<;>refine⟨?_,?_,?_,?_⟩<;>simp [ch]<;>lia
theorem xl{t b:Int}(hb:0 < b)(hg:Int.gcd t b=1):bo (b - t) b=(b - t,b):=by
  have g:Int.gcd (b - t) b=1:=by
    rw [show b - t= -(t - b) by lia,Int.neg_gcd,Int.gcd_sub_self_left,hg]
  unfold bo
  rw [if_neg (by lia),g]
  simp
def rstp(W:aM)(rs:List Fr)(i:Nat)(k:Int)(b:Bool)(l:Int):List Fr:=if l= -1 then rs else rs.set l.toNat (tm (rs.getD i (1,1)) (ch W k b))
def rL(W:aM)(rs:List Fr)(i:Nat)(x:Nd):List Fr:=rstp W (rstp W rs i x.tie true x.yes) i x.tie false x.no
def fg(W:aM)(T:List Nd):Nat→List Fr
  | 0=>List.replicate T.length (1,1)
  | i+1=>match T[i]? with
    | some x=>rL W (fg W T i) i x
    | none=>fg W T i
theorem uF{W:aM}{T:List Nd}{i:Nat}{x:Nd}(h:T[i]?=some x):fg W T (i+1)=rL W (fg W T i) i x:=by
  rw [fg,h]
structure j4 (W:aM) (S:Nat→fJ) (n:Nat) (rs:List Fr):Prop where
  len:rs.length=n
  at':∀(j:Nat) (f:Fr),rs[j]?=some f→wc (bp W (S j).1) f
theorem nR{W:aM}{rs:List Fr}{i:Nat}{k:Int}{b:Bool}{l:Int}:(rstp W rs i k b l).length=rs.length:=by unfold rstp;split<;>simp
theorem j4.stp{W:aM}(ok:W.Ok){S:Nat→fJ}{n:Nat}{rs:List Fr}{i:Nat}{k:Int}{b:Bool}{l:Int}(h:j4 W S n rs)(hi:i < n)(hk:kB W k)(hl:oB W n S i k b l):j4 W S n (rstp W rs i k b l):=by
  refine⟨by rw [nR];exact h.len,fun j s hs=>?_⟩
  unfold L2.rstp at hs
  split at hs
  · exact h.at' j s hs
  case isFalse c=>
    rw [List.getElem?_set] at hs
    split at hs
    case isFalse=>exact h.at' j s hs
    case isTrue cj=>
      split at hs
      case isFalse=>cases hs
      case isTrue=>
      cases hs
      have hil:i < rs.length:=by rw [h.len];exact hi
      have e:rs[i]?=some (rs.getD i (1,1)):=by simp [hil]
      rcases hl with hl | ⟨h1,h2,h3⟩
      · exact absurd hl c
      · rw [←cj,h3]
        show wc (bp W (aM.askd (S i).1 k)) _
        rw [yV]
        exact(h.at' i _ e).tm (o8 ok hk b)
theorem j4.first{W:aM}{S:Nat→fJ}{n:Nat}:j4 W S n (List.replicate n (1,1)):=⟨by simp,fun j s hs=>by
  rw [List.getElem?_replicate] at hs
  split at hs
  · cases hs;exact⟨by decide,by decide,by decide,Int.one_dvd _⟩
  · cases hs⟩
theorem j4.all{W:aM}(ok:W.Ok){S:Nat→fJ}{T:List Nd}(h:jd W T S):∀i,j4 W S T.length (fg W T i)
  | 0=>j4.first
  | i+1=>by
    unfold fg
    split
    · rename_i x hx
      have hi:=(List.getElem?_eq_some_iff.mp hx).1
      have o:=h i x hx
      exact((j4.all ok h i).stp ok hi o.tie o.yes).stp ok hi o.tie o.no
    · exact j4.all ok h i
theorem pX{rs:List Fr}{i:Nat}{z:Fr}(h:i < rs.length):atI (rs.map dF) (i:Int)=some (dF (rs.getD i z)):=by
  rw [gf (by lia) (by rw [List.length_map];lia),List.getElem?_map]
  simp [h,dF]
theorem iC{rs:List Fr}{k:Int}{z:Fr}(h0:0≤k)(h:k < (rs.length:Int)):atI (rs.map dF) k=some (dF (rs.getD k.toNat z)):=by
  have:=pX (rs:=rs) (i:=k.toNat) (z:=z) (by lia)
  rw [show((k.toNat:Nat):Int)=k by lia] at this
  exact this
theorem j4.one{W:aM}(ok:W.Ok){S:Nat→fJ}{T:List Nd}{rs:List Fr}(h:jd W T S)(hs:j4 W S T.length rs){i:Nat}(hi:i < T.length):wc (m8 W) (rs.getD i (1,1)):=by
  have hil:i < rs.length:=by rw [hs.len];exact hi
  have e:rs[i]?=some (rs.getD i (1,1)):=by simp [hil]
  have r:=hs.at' i _ e
  exact⟨r.pos,r.lo,r.hi,Int.dvd_trans r.dv (h i _ (List.getElem?_eq_getElem hi)).st.bp⟩
structure Gh (W:aM) (i:Nat) (ss:List Fr):Prop where
  len:ss.length=W.ties.length
  at':∀(j:Nat) (f:Fr),ss[j]?=some f→oy (m8 W) (i:Int) f
def dm(l:Int)(f:Fr):PyData:=.tuple [.int l,dF f]
def iY(W:aM)(x:Nd):List PyData:=(if x.yes= -1 then [] else [dm x.yes (ch W x.tie true)])++(if x.no= -1 then [] else [dm x.no (ch W x.tie false)])
theorem Am{W:aM}{rs:List Fr}{i:Nat}{k:Int}{b:Bool}:rstp W rs i k b (-1)=rs:=by unfold rstp;rw [if_pos rfl]
theorem iK{W:aM}{k:Int}:dF (ch W k true)=.tuple [.int (W.tie k).top,.int (W.tie k).bot]:=rfl
end L2
namespace L2
open PySem PySem.Spec PyProof.Rows
def Dg(sc:Scope)(x:Str):Bool:=match sc.names.lookup x with
  | some .local=>true
  | some .cell=>true
  | some .free=>true
  | _=>false
theorem AC{sc:Scope}{x:Str}(h:Dg sc x=true):yL sc x:=by
  unfold Dg at h
  unfold yL
  split at h
  · rename_i e;exact .inl e
  · rename_i e;exact .inr (.inl e)
  · rename_i e;exact .inr (.inr e)
  · cases h
section
variable{X:Cx}{K:PySem.W.Frag}
theorem qw(i:Nat){x:Str}{pos:Pos}(hN:X.N[i]?=some x)(hv:Dg X.env.scope x=true)(hd:((x==("__debug__":Str)) || (x==("__classdict__":Str)))=false):PE X (.Name x pos) (fE K (ac i)):=qv i hN (AC hv) (Bool.or_eq_false_iff.mp hd).1 (Bool.or_eq_false_iff.mp hd).2
end
end L2
namespace L2
open PySem PySem.Spec PyProof.Rows
def EW(top:Int)(n:Nat):It:=⟨fun i _=>i < n,fun i H x H'=>H'=H∧x=.int (top - i),fun i _=>n≤i⟩
theorem r8{P:Program}{w:World}{K:PySem.W.Frag}{tg:Expr}(it:Addr)(top:Int)(n:Nat):mY P w K tg (EW top n) [it] it (fun i h=>IsRangeIter h it (top+(i:Nat)*(-1)) ((n:Int) - (i:Nat)) (-1)) where
  mem:=by simp
  obj:=fun i h st b hb=>by
    have e:b=it:=by simpa using hb
    subst e
    exact⟨_,st,fun v z=>by
      have z':Data.fields _=Data.cell v:=z
      cases z'⟩
  keep:=fun i h h' st k=>k it (by simp) _ st
  item:=by
    intro X hP hw hK hc i pins s σ H E I hf st hg
    subst hP hw hK
    obtain⟨f0,f1,f2,f3,f4,f5⟩:=hf it (by simp)
    have W:=Walks.range (prog:=X.prog) (w:=X.w) (I.ok.hd hc) it top (-1) n
    refine W.item i s _ _ hg st fun v h' tk hv st' kk=>?_
    obtain⟨t,rfl⟩:=hv
    have I1:aF X pins σ H {s with heap:=h',toks:=tk}:=I.turned (fun b o hb e=>kk b o (by simpa using hb) e) f0 f1 f3 f4 f5
    refine⟨_,rfl,uk (s:={s with heap:=h',toks:=tk}) (n:="range_iterator") st' rfl rfl (by decide) ⟨.int (top - i),H,I1,⟨t,?_⟩,⟨rfl,rfl⟩,st',fun b hb=>(hf b hb).1⟩⟩
    rw [show(top+(i:Int)* -1:Int)=top - (i:Int) by lia]
  done:=by
    intro X hP hw hK hc i pins s σ H E I hf st hg
    subst hP hw hK
    obtain⟨f0,f1,f2,f3,f4,f5⟩:=hf it (by simp)
    exact wpAny_pyNext_range_end (I.ok.hd hc) st (by have:n≤i:=hg;lia) fun h' eb=>⟨rfl,I.turned (t':=s.toks) (fun b o hb e=>eb b o hb e) f0 f1 f3 f4 f5⟩
  self:=fun _ _ _ _ _ st h=>wpAny_pyIter_rangeiter st h
section
variable{X:Cx}{tg a b c:Expr}{ta:TA}{p pos p2 pos2:Pos}
def DF(ta:TA):TI:=fun σ H R=>ta σ H fun vs H1=>∃i:Int,vs=[.int i,.int (-1),.int (-1)]∧(-1≤i∧i≤100000)∧R (EW i (i+1).toNat) H1
theorem jA{i:Int}(h: -1≤i):Builtin.Range.rangeSize i (-1) (-1)=i+1:=by
  unfold Builtin.Range.rangeSize
  rw [if_neg (by decide)]
  split
  · rw [show(-(-1):Int)=1 by decide,Int.ediv_one];lia
  · lia
theorem tD{i:Int}(h0: -1≤i)(h1:i≤100000):Builtin.Range.small i (-1) (-1)=true:=by
  unfold Builtin.Range.small
  rw [jA h0]
  simp only [Builtin.Range.rangeFitsLong,Bool.and_eq_true,Bool.or_eq_true,decide_eq_true_eq,beq_iff_eq,show ¬((-1:Int) > 0) by decide,if_false]
  lia
theorem vE(hg:Gl X "range")(hm:X.mg "range"=none)(ha:PA X [a,b,c] ta)(hs:starEach [a,b,c] X.env=[(false,eval a X.env),(false,eval b X.env),(false,eval c X.env)])(hs2:starEach [b,c] X.env=[(false,eval b X.env),(false,eval c X.env)]):
    PI X tg (.Call (.Name "range" p) [a,b,c] [] pos) (DF ta):=by
  intro pins s σ H R I h
  refine Call_ (gj I hg hm boot_range (PyProof.Rows.callWith_type1 (ci (ha pos pins s σ H _ I h) fun us s1 ⟨vs,H1,I1,r1,q1⟩=>?_) (by rw [hs,hs2]) (by rw [hs2];rfl)))
  obtain⟨i,e,⟨q1,q2⟩,q⟩:=q1
  subst e
  cases r1 with
  | cons r rr=>
    cases rr with
    | cons r' rr=>
      cases rr with
      | cons r'' rr=>
        cases rr
        obtain⟨t,rfl⟩:=r
        obtain⟨t',rfl⟩:=r'
        obtain⟨t'',rfl⟩:=r''
        refine call_range_3 (by decide) ?_ (Or.inl (PyProof.noPylong_small (by lia)))
        refine wpAny_pyIter_range (IsRange.new ..) (tD q1 q2) ?_
        have I2:aF X pins σ H1 {s1 with heap:=s1.heap.push {cls:=.type "range",data:=.fields #[.int i t,.int (-1) t',.int (-1) t'']}}:=I1.kept (t':=s1.toks) fun b o e=>Heap.get?_push_of_some _ e
        refine⟨(s1.heap.push {cls:=.type "range",data:=.fields #[.int i t,.int (-1) t',.int (-1) t'']}).objs.size,[(s1.heap.push {cls:=.type "range",data:=.fields #[.int i t,.int (-1) t',.int (-1) t'']}).objs.size],_,_,H1,rfl,
          I2.kept (t':=s1.toks) fun b o e=>Heap.get?_push_of_some _ e,r8 _ i (i+1).toNat,?_,fun b hb=>?_,q⟩
        · have e1:i+((0:Nat):Int)*(-1)=i:=by lia
          have e2:(((i+1).toNat:Nat):Int) - ((0:Nat):Int)=Builtin.Range.rangeSize i (-1) (-1):=by rw [jA q1];lia
          show IsRangeIter _ _ (i+((0:Nat):Int)*(-1)) ((((i+1).toNat:Nat):Int) - ((0:Nat):Int)) (-1)
          rw [e1,e2]
          exact Heap.get?_push_size _ rfl
        · have e:b=(s1.heap.push {cls:=.type "range",data:=.fields #[.int i t,.int (-1) t',.int (-1) t'']}).objs.size:=by simpa using hb
          subst e
          exact I2.fpOk (Nat.le_refl _) (I2.hok.fresh (Nat.le_refl _))
end
def kP(top:Int)(n:Nat):List PyData:=(List.range n).map fun(i:Nat)=>.int (top - (i:Int))
section
variable{K:PySem.W.Frag}{σ:L2.St}
theorem vm{top:Int}{n:Nat}{F0:Hp}:qQ K σ (EW top n) (kP top n) [] F0:=by
  intro F H s0 s1 hh
  unfold kP
  rw [List.length_map,List.length_range]
  refine⟨fun i hi=>hi,fun i hi=>hi,fun i x v H' hx hy=>?_⟩
  obtain⟨rfl,rfl⟩:=hy
  rw [List.getElem?_map] at hx
  obtain⟨k,h1,rfl⟩:=Option.map_eq_some_iff.mp hx
  have h2:=(List.getElem?_eq_some_iff.mp h1).2
  simp at h2
  subst h2
  exact⟨F,av.refl _,av.refl _,s1,fun _ h _=>h,bT.mpr rfl⟩
end
section
variable{X:Cx}{K:PySem.W.Frag}{tg a b c:Expr}{fs:FA}{pos p p2 pos2:Pos}
theorem vJ{σ:L2.St}{H0 F H:Hp}{e:En}{x y z:Rv}{vs:List V}(h:cH K σ H0 F H e [x,y,z] vs):∃v u w,vs=[v,u,w]∧cn K σ H0 F H e x v∧cn K σ H0 F H e y u∧cn K σ H0 F H e z w:=by
  obtain⟨v,ws,rfl,h1,h2⟩:=h
  obtain⟨u,w,rfl,h3,h4⟩:=mU h2
  exact⟨v,u,w,rfl,h1,h3,h4⟩
def ul(fs:FA):FI:=fun e=>(fs e).bind fun p=>match p.1 with
  | [r,s,t]=>(bC r).bind fun i=>(bC s).bind fun j=>(bC t).bind fun k=>if (j= -1∧k= -1)∧ -1≤i∧i≤100000 then some (kP i (i+1).toNat,[],p.2) else none
  | _=>none
theorem Ae(hg:Gl X "range")(hm:X.mg "range"=none)(ha:PA X [a,b,c] (fA K fs))(hs:starEach [a,b,c] X.env=[(false,eval a X.env),(false,eval b X.env),(false,eval c X.env)])(hs2:starEach [b,c] X.env=[(false,eval b X.env),(false,eval c X.env)]):
    PI X tg (.Call (.Name "range" p) [a,b,c] [] pos) (fI K (ul fs)):=(vE hg hm ha hs hs2).mono fun σ H R hh=>by
  obtain⟨F,e,items,own,e',R0,hf,q⟩:=hh
  unfold ul at hf
  obtain⟨⟨rs,e1⟩,h1,hf⟩:=Option.bind_eq_some_iff.mp hf
  match rs,h1,hf with
  | [r,s,t],h1,hf=>
  obtain⟨i,h2,hf⟩:=Option.bind_eq_some_iff.mp hf
  obtain⟨j,h3,hf⟩:=Option.bind_eq_some_iff.mp hf
  obtain⟨k,h4,hf⟩:=Option.bind_eq_some_iff.mp hf
  split at hf
  case isFalse=>cases hf
  case isTrue hj=>
  cases hf
  obtain⟨⟨rfl,rfl⟩,hi⟩:=hj
  refine⟨F,e,_,e1,R0,h1,fun F1 H1 vs X1 R1 A1=>?_⟩
  obtain⟨v,u,w,rfl,A2,A3,A4⟩:=vJ A1
  exact⟨i,by rw [bL A2 h2,bL A3 h3,bL A4 h4],hi,q _ F1 H1 X1 R1 (fun _ h=>by cases h) vm⟩
end
theorem vd{top:Int}{n i:Nat}{x:PyData}(h:(kP top n)[i]?=some x):x=.int (top - i)∧i < n:=by
  unfold kP at h
  rw [List.getElem?_map] at h
  obtain⟨k,h1,rfl⟩:=Option.map_eq_some_iff.mp h
  obtain⟨h2,h3⟩:=List.getElem?_eq_some_iff.mp h1
  simp at h2 h3
  subst h3
  exact⟨rfl,h2⟩
theorem ve{top:Int}{n:Nat}:(kP top n).length=n:=by simp [kP]
end L2
namespace L2
open PySem PySem.Spec PyProof.Rows
end L2
namespace L2
open PySem PySem.Spec PyProof.Rows
section
variable(P:Program)(w:World)
end
section
variable{P:Program}{w:World}{H H':Hp}{h h':Heap}{a:Addr}{o:HO}
end
section
variable{P:Program}{w:World}{H:Hp}{h h':Heap}{x e:Addr}{o':HO}
end
section
variable{fs fs' ex ex':List Addr}{H H1 H2:Hp}{h h1 h2 h':Heap}{a x e:Addr}{o:HO}
end
end L2
namespace L2
open PySem PySem.Spec PyProof.Rows
section
variable{X:Cx}{pins:List (Addr × Obj)}{σ:List (Option V)}{H H':Hp}{s:Shared}{h':Heap}
end
end L2
namespace L2
open PySem PySem.Spec PyProof.Rows
section
variable{X:Cx}
variable{a b:Expr}{ta tb:TE}{pos:Pos}
variable{tA tB':TT}{eT:List Expr}
end
end L2
namespace L2
open PySem PySem.Spec PyProof.Rows
section
variable{X:Cx}{pins:List (Addr × Obj)}{σ:St}{H:Hp}{s:Shared}{a:Addr}{xs ys:List V}
end
section
variable{X:Cx}{pins:List (Addr × Obj)}{σ:St}{H:Hp}{s:Shared}{E:Value→Shared→Prop}
end
section
variable{X:Cx}{st:Stmt}{eT:List Stmt}{t u:TS}{e:Expr}{te:TE}{pos:Pos}
end
section
variable{X:Cx}{pos:Pos}
end
section
variable{X:Cx}{pos:Pos}
end
end L2
namespace L2
open PySem PySem.Spec PyProof.Rows
section
variable{X:Cx}{tg:Expr}
end
end L2
namespace L2
open PySem PySem.Spec PyProof.Rows
section
variable{X:Cx}{a b c:Expr}{ta tb tc:TE}{pos:Pos}
end
section
variable{X:Cx}{a b c:Expr}{ta tb tc:TE}{pos:Pos}
end
end L2
namespace L2
open PySem PySem.Spec PyProof.Rows
section
variable{prog:Program}{w:World}{A:Around}{E:Value→Shared→Prop}{s:Shared}{K:PySem.W.Frag}{x dx C f:Addr}{mA:Str→Option Value}{name:Str}{v:Value}
end
section
variable{P:Program}{w:World}{H H':Hp}{h h':Heap}{a C dx:Addr}{fs fs':List (Str × V)}
end
section
variable{X:Cx}{pins:List (Addr × Obj)}{σ:St}{H:Hp}{s:Shared}{a C dx:Addr}{fs:List (Str × V)}{f:Str}{v:V}{A:Around}{E:Value→Shared→Prop}
end
section
variable{X:Cx}{o e value:Expr}{f:Str}{pos pos' tpos:Pos}{ta tv:TE}
end
section
variable{X:Cx}{pins:List (Addr × Obj)}{σ:St}{H:Hp}{s:Shared}{A:Around}{E:Value→Shared→Prop}{Q:Value→Shared→Prop}{c:Value}{b:Bool}
end
end L2
namespace L2
open PySem PySem.Spec PyProof.Rows
section
variable{X:Cx}{e:Expr}{es:List Expr}{te:TE}{t:TA}{pos:Pos}
end
section
variable{X:Cx}{pins:List (Addr × Obj)}{σ:St}{H:Hp}{s s':Shared}
end
section
variable{X:Cx}{CX:uT}{k:Nat}{f C:Addr}{fd:FuncData}{ps:List Str}{sp:Sp}{dvs:List V}{ds:List Value}{E:XK}{x m:Str}{p pos apos:Pos}{e o:Expr}{es:List Expr}{ta:TE}{t:TA}
end
section
variable{X:Cx}{CX:uT}{k:Nat}{f C:Addr}{fd:FuncData}{ps ks:List Str}{sp:Sp}{E:XK}{x m:Str}{p pos apos kpos:Pos}{e o:Expr}{es:List Expr}{kws:List Keyword}{te ta:TE}{t tk:TA}{nm:Option Str}
variable{g:List Value→List Value→List Value}{gV:List V→List V→List V}
end
end L2
namespace L2
open PySem PySem.Spec PyProof.Rows
section
variable{X:Cx}{x:Str}{p pos:Pos}{e:Expr}{es:List Expr}{t:TA}{id T:String}{r:List V→Hp→VK→Prop}
end
end L2
namespace L2
open PySem PySem.Spec PyProof.Rows
section
variable{κ:Type}[DecidableEq κ]
end
section
variable{P:Program}{w:World}{H:Hp}{h:Heap}{a:Addr}
end
section
variable{X:Cx}{pins:List (Addr × Obj)}{σ:St}{H:Hp}{s:Shared}{a:Addr}{y v:V}{u r:Value}{o:Option V}{A:Around}{E:Value→Shared→Prop}
end
section
variable{X:Cx}{pins:List (Addr × Obj)}{σ:St}{H:Hp}{s:Shared}{a:Addr}{kvs:List (oA × V)}{k:oA}{u:Value}{A:Around}{E:Value→Shared→Prop}
end
section
variable{X:Cx}{o i e value:Expr}{pos pos' tpos:Pos}{td ty tv:TE}
end
section
variable{X:Cx}{pos:Pos}
end
section
variable{X:Cx}{pins:List (Addr × Obj)}{σ:St}{H:Hp}{s:Shared}{a:Addr}{y d:V}{u r:Value}{o:Option V}{A:Around}{E:Value→Shared→Prop}
end
section
variable{X:Cx}{o e f:Expr}{apos cpos:Pos}{td ty tx:TE}
end
section
variable{X:Cx}{pins:List (Addr × Obj)}{σ:St}{H:Hp}{s:Shared}{a:Addr}{kvs:List (oA × V)}{A:Around}{E:Value→Shared→Prop}
end
section
variable{X:Cx}{pins:List (Addr × Obj)}{σ:St}{H:Hp}{s:Shared}{a:Addr}{y:V}{u:Value}{A:Around}{E:Value→Shared→Prop}
end
end L2
namespace Att
open PySem PySem.W PySem.Calls PyProof.Rows
section
variable{prog:Program}{w:World}{A:Around}{E:Value→Shared→Prop}{s:Shared}{K:Frag}
end
end Att
namespace L2
open PySem PySem.Spec PyProof.Rows
end L2
namespace L2
open PySem PySem.Spec PyProof.Rows
end L2
namespace L2
open PySem PySem.Spec PyProof.Rows
section
variable{P:Program}{w:World}{K:PySem.W.Frag}{mg:Str→Option Value}{base:Heap}
end
section
variable{X:Cx}
end
section
variable{κ:Type}[DecidableEq κ]
end
end L2
namespace L2
open PySem PySem.Spec PyProof.Rows
def EG:PyData→String
  | .none=>"NoneType"
  | .bool _=>"bool"
  | .int _=>"int"
  | .str _=>"str"
  | .tuple _=>"tuple"
  | .list _=>"list"
  | .dict _=>"dict"
def CZ(t T:String):Bool:=t==T || (t=="bool"&&T=="int")
def DM(T:String)(d:PyData):Bool:=CZ (EG d) T
def p_(T:String):En→Rv→Option Rv:=fun _ r=>match r with
  | .d x=>some (.d (.bool (DM T x)))
  | _=>some (.d (.bool (DM T (.list []))))
section
variable{X:Cx}{K:PySem.W.Frag}{a:Expr}{fa:FE}{pos p p2:Pos}
def E3(K:PySem.W.Frag)(H:Hp):V→String→Prop
  | .non,t=>t="NoneType"
  | .bl _,t=>t="bool"
  | .int _,t=>t="int"
  | .str _,t=>t="str"
  | .ref a,t=>(t="tuple"∧∃xs,cg K H a xs)∨(t="list"∧∃xs,cX K H a xs)∨(t="dict"∧∃m,H a=some (.dK m))
  | _,_=>False
theorem wC{T:String}:ey X (.builtin "isinstance") (fun xs H Q=>∃x t b,xs=[x,.ty T]∧E3 X.K H x t∧PySem.W.kitOne X.K (.type t) (.type T)=some b∧Q (.bl b) H):=by
  intro pins s σ H xs us Q I r h
  obtain⟨x,t,b,rfl,ht,hk,q⟩:=h
  obtain⟨u1,u2,rfl,r1,r2⟩:∃u1 u2,us=[u1,u2]∧bI x u1∧bI (.ty T) u2:=by
    cases r with
    | cons p q=>cases q with
      | cons p' q'=>cases q';exact⟨_,_,rfl,p,p'⟩
  cases r2
  have q':∀tk,EP X pins σ Q (.bool b) {s with toks:=tk}:=fun tk=>⟨.bl b,H,I.tok _,rfl,q⟩
  cases x with
  | non=>cases (show u1=Value.none from r1);cases (show t=_ from ht);exact PySem.W.kia_one PySem.W.kitx_none I.kIn True.intro hk (fun z=>nomatch z) q'
  | bl y=>cases (show u1=Value.bool y from r1);cases (show t=_ from ht);exact PySem.W.kia_one PySem.W.kitx_bool I.kIn True.intro hk (fun z=>nomatch z) q'
  | int i=>obtain⟨tt,rfl⟩:=r1;cases (show t=_ from ht);exact PySem.W.kia_one PySem.W.kitx_int I.kIn True.intro hk (fun z=>nomatch z) q'
  | str y=>obtain⟨tt,rfl⟩:=r1;cases (show t=_ from ht);exact PySem.W.kia_one PySem.W.kitx_str I.kIn True.intro hk (fun z=>nomatch z) q'
  | ref a=>
    cases (show u1=Value.ref a from r1)
    rcases ht with ⟨rfl,xs,hs⟩ | ⟨rfl,xs,hs⟩ | ⟨rfl,m,hs⟩
    · obtain⟨its,rv,pl,hz⟩:=I.tuple hs
      obtain⟨o,h1,h2⟩:=pl.typeIs
      exact PySem.W.kia_one PySem.W.kitx_tuple I.kIn ⟨o,h1,h2⟩ hk (fun z=>nomatch z) q'
    · obtain⟨its,rv,pl,hz⟩:=I.list hs
      obtain⟨o,h1,h2⟩:=pl.isList.typeIs
      exact PySem.W.kia_one PySem.W.kitx_list I.kIn ⟨o,h1,h2⟩ hk (fun z=>nomatch z) q'
    · obtain⟨_,_,vs,_,pp⟩:=(show gG X.prog X.w H s.heap a (.dK m) from I.hok a _ hs)
      obtain⟨o,es,ep,h1,h2,_⟩:=pp
      exact PySem.W.kia_one PySem.W.kitx_dict I.kIn ⟨o,h1,h2.1⟩ hk (fun z=>nomatch z) q'
  | _=>exact False.elim ht
theorem xK{x:Str}{T:String}(hg:Gl X x)(hm:X.mg x=none)(hv:bootBuiltins x=some (.type T))(hn:x≠"__name__")(hd:(x==("__debug__":Str))=false):PE X (.Name x pos) (tC (.ty T)):=fun pins s σ H Q I h=>
  gj I hg hm hv ⟨.ty T,H,I,rfl,h⟩ hn hd
theorem BV{t T:String}(ht:t∈["NoneType","bool","int","str","tuple","list","dict"])(hT:T∈["int","bool","tuple","str"]):PySem.W.kitOne K (.type t) (.type T)=some (CZ t T):=by
  simp only [List.mem_cons,List.not_mem_nil,or_false] at ht hT
  rcases ht with rfl | rfl | rfl | rfl | rfl | rfl | rfl<;>rcases hT with rfl | rfl | rfl | rfl<;>rfl
theorem Ax(d:PyData):EG d∈["NoneType","bool","int","str","tuple","list","dict"]:=by cases d<;>simp [EG]
theorem Da{F H:Hp}{d:PyData}{v:V}(h:DA K F d v)(s:av F H):E3 K H v (EG d):=by
  have h:=DA.mono s h
  cases d with
  | none=>rw [jN.mp h];rfl
  | bool b=>rw [dI.mp h];rfl
  | int b=>rw [bT.mp h];rfl
  | str b=>rw [wJ.mp h];rfl
  | tuple ds=>obtain⟨a,xs,rfl,h1,_⟩:=dJ.mp h;exact .inl ⟨rfl,xs,h1⟩
  | list ds=>obtain⟨a,xs,rfl,h1,_⟩:=cK.mp h;exact .inr (.inl ⟨rfl,xs,h1⟩)
  | dict m=>simp only [DA] at h;obtain⟨a,m,rfl,h1,_⟩:=h;exact .inr (.inr ⟨rfl,_,h1⟩)
theorem y6{f:FE}{σ:L2.St}{H:Hp}{Q Q':VK}(h:fE K f σ H Q)(m:∀v H1,Q v H1→Q' v H1):fE K f σ H Q':=by
  obtain⟨F,e,r,e',R,hf,q⟩:=h
  exact⟨F,e,r,e',R,hf,fun F' H' v x R' A=>m _ _ (q F' H' v x R' A)⟩
theorem DN{T:String}:Dq K (fun v H Q=>∃t,t∈["NoneType","bool","int","str","tuple","list","dict"]∧E3 K H v t∧Q (.bl (CZ t T)) H) (p_ T):=by
  intro σ H0 F H e x z v Q R A hg q
  unfold p_ at hg
  cases x with
  | d d=>
    cases hg
    exact⟨EG d,Ax d,Da A R.sm,q F H _ (d9.refl _ _ _ _) R et⟩
  | l xs=>
    cases hg
    obtain⟨l,vs,rfl,h1,h2,h3,h4⟩:=A
    exact⟨"list",by simp,.inr (.inl ⟨rfl,vs,cX.of h3⟩),q F H _ (d9.refl _ _ _ _) R et⟩
  | s i=>
    cases hg
    obtain⟨h1,xs,h2⟩:=A
    obtain⟨l,vs,h3,h4,h5,h6⟩:=R.own i xs h2
    rw [h1] at h3;cases h3
    exact⟨"list",by simp,.inr (.inl ⟨rfl,vs,cX.of h5⟩),q F H _ (d9.refl _ _ _ _) R et⟩
theorem xZ{x:Str}{T:String}(hK:X.K=K)(hT:T∈["int","bool","tuple","str"])(hg:Gl X "isinstance")(hm:X.mg "isinstance"=none)(hgT:Gl X x)(hmT:X.mg x=none)(Ga:bootBuiltins x=some (.type T))(hn:x≠"__name__")(hd:(x==("__debug__":Str))=false)
    (ha:PE X a (fE K fa))(he:starEach [a,.Name x p2] X.env=(false,eval a X.env)::starEach [.Name x p2] X.env)(hpl:(backTo pos (starEach [.Name x p2] X.env)).any (·.1)=false):
    PE X (.Call (.Name "isinstance" p) [a,.Name x p2] [] pos) (fE K (lG (p_ T) fa)):=
  (nP (wC (T:=T)) hg hm boot_isinstance (qt ha (qt (xK hgT hmT Ga hn hd) nO) he) (by decide) (by decide) he hpl).mono fun σ H Q h=>by
    subst hK
    have h1:=yE (DN (T:=T)) h
    refine y6 h1 fun v H1 ⟨t,ht,k,q⟩=>?_
    exact⟨v,t,_,rfl,k,BV ht hT,q⟩
end
end L2
namespace L2
open PySem PySem.Spec PyProof.Rows
section
variable{X:Cx}{K:PySem.W.Frag}
end
end L2
namespace L2
open PySem PySem.Spec PyProof.Rows
section
variable{X:Cx}{K:PySem.W.Frag}{σ:L2.St}{F H:Hp}{e:En}{pos p1 p2:Pos}
end
end L2
namespace L2
open PySem PySem.Spec PyProof.Rows
section
variable{X:Cx}{K:PySem.W.Frag}{a b c d:Expr}{ta tb tc td:TE}{fa fb fc fd:FE}{pos:Pos}
end
end L2
namespace L2
open PySem PySem.Spec PyProof.Rows
section
variable{X:Cx}{K:PySem.W.Frag}{a b:Expr}{es:List Expr}{fa fb:FE}{fs:FA}{pos p apos:Pos}
end
end L2
namespace L2
open PySem PySem.Spec PyProof.Rows
section
variable{X:Cx}{K:PySem.W.Frag}{a b:Expr}{fa fb:FE}{fs:FA}{pos p p2 p3:Pos}
end
end L2
namespace L2
open PySem PySem.Spec PyProof.Rows
theorem wc.tmS{N M i:Int}{c y:Fr}(hc:wc N c)(hy:oy M i y):oy (N*M) i (L2.tm c y):=by
  have p:0 < c.2*y.2:=Int.mul_pos hc.pos hy.pos
  have t:0≤c.1*y.1:=Int.mul_nonneg hc.lo hy.lo
  obtain⟨d,d0,h3,h4,h5,h6⟩:=jV p t
  refine⟨h5,h6,qh p t ?_,Int.dvd_trans (rm p t) (Int.mul_dvd_mul hc.dv hy.dv)⟩
  have e1:c.1*y.1≤c.2*y.1:=Int.mul_le_mul_of_nonneg_right hc.hi hy.lo
  have e2:c.2*y.1≤c.2*(i*y.2):=Int.mul_le_mul_of_nonneg_left hy.hi (Int.le_of_lt hc.pos)
  rw [show i*(c.2*y.2)=c.2*(i*y.2) by ac_rfl]
  lia
theorem oy.plS{M i j:Int}{a b:Fr}(h:oy M i a)(k:oy M j b):oy M (i+j) (L2.pl a b):=by
  have p:0 < a.2*b.2:=Int.mul_pos h.pos k.pos
  have t:0≤a.1*b.2+b.1*a.2:=Int.add_nonneg (Int.mul_nonneg h.lo (Int.le_of_lt k.pos)) (Int.mul_nonneg k.lo (Int.le_of_lt h.pos))
  obtain⟨d,d0,h3,h4,h5,h6⟩:=jV p t
  refine⟨h5,h6,qh p t ?_,?_⟩
  · have e1:a.1*b.2≤i*a.2*b.2:=Int.mul_le_mul_of_nonneg_right h.hi (Int.le_of_lt k.pos)
    have e2:b.1*a.2≤j*b.2*a.2:=Int.mul_le_mul_of_nonneg_right k.hi (Int.le_of_lt h.pos)
    rw [Int.add_mul,show i*(a.2*b.2)=i*a.2*b.2 by ac_rfl,show j*(a.2*b.2)=j*b.2*a.2 by ac_rfl]
    lia
  · obtain⟨x,hx⟩:=h.dv
    obtain⟨y,hy⟩:=k.dv
    refine xk (u:=a.1*x+b.1*y) p t ?_
    rw [Int.add_mul,Int.mul_add]
    congr 1
    · rw [hx]
      rw [show a.1*b.2*(a.2*x)=a.2*b.2*(a.1*x) by ac_rfl]
    · rw [hy]
      rw [show b.1*a.2*(b.2*y)=a.2*b.2*(b.1*y) by ac_rfl]
def bq(W:aM)(as:List Int):Int:=bp W (W.rng.filter fun k=> !as.contains k)
theorem pB(W:aM):W.rng.Nodup:=by
  unfold aM.rng
  rw [List.Nodup,List.pairwise_map]
  exact List.nodup_range.imp fun h z=>h (by have:((_:Nat):Int)=((_:Nat):Int):=z;lia)
theorem ua{W:aM}{as:List Int}{k:Int}(hk:kB W k)(hn:k∉as):bq W as=(W.tie k).bot*bq W (aM.askd as k):=by
  unfold bq
  have hm:k∈W.rng.filter fun k=> !as.contains k:=by
    rw [List.mem_filter]
    exact⟨mR.mpr hk,by simpa using hn⟩
  rw [mP (List.perm_cons_erase hm)]
  show(W.tie k).bot*_=_
  congr 2
  have nd:(W.rng.filter fun k=> !as.contains k).Nodup:=(pB W).filter _
  rw [nd.erase_eq_filter,List.filter_filter]
  congr 1
  funext j
  have:(aM.askd as k).contains j=(as.contains j || j==k):=by
    rw [Bool.eq_iff_iff]
    simp [aM.askd,lY]
  rw [this]
  cases as.contains j<;>cases h:(j==k)<;>simp [bne,h]
theorem Bx{W:aM}{as:List Int}:bq W as ∣ m8 W:=sA ((pB W).filter _) fun k hk=>(List.mem_filter.mp hk).1
def wI(l:Nat):Int:=1000*(2 ^ (16 - l) - 1)
theorem AD{l:Nat}(h:l≤15):wI l=1000+wI (l+1)+wI (l+1):=by
  unfold wI
  rw [show 16 - l=(16 - (l+1))+1 by lia,Int.pow_succ]
  lia
theorem sj{l:Nat}:0≤wI l∧wI l≤65536000:=by
  unfold wI
  have h1:(2:Nat) ^ (16 - l)≤2 ^ 16:=Nat.pow_le_pow_right (by decide) (by lia)
  have h2:1≤(2:Nat) ^ (16 - l):=Nat.one_le_two_pow
  have e:((2:Int) ^ (16 - l))=((2 ^ (16 - l):Nat):Int):=by simp
  rw [e]
  lia
def aw(W:aM)(k:Int)(y n:Fr):Fr:=pl (tm (ch W k true) (pl ((W.tie k).worth,1) y)) (tm (ch W k false) n)
structure mC (W:aM) (k:Int) (as:List Int) (y n:Fr):Prop where
  y:oy (bq W (aM.askd as k)) (wI (as.length+1)) y
  n:oy (bq W (aM.askd as k)) (wI (as.length+1)) n
  len:as.length≤15
  inw:kB W k
  new:k∉as
theorem mC.w{W:aM}{k:Int}{as:List Int}{y n:Fr}(ok:W.Ok)(h:mC W k as y n):oy (bq W (aM.askd as k)) 1000 ((W.tie k).worth,1):=by
  have o:=h.inw.ok ok
  have:=o.w0;have:=o.w1
  exact⟨by show(0:Int) < 1;decide,by show 0≤(W.tie k).worth;lia,by show(W.tie k).worth≤1000*1;lia,Int.one_dvd _⟩
theorem mC.t1{W:aM}{k:Int}{as:List Int}{y n:Fr}(ok:W.Ok)(h:mC W k as y n):oy (bq W (aM.askd as k)) (1000+wI (as.length+1)) (pl ((W.tie k).worth,1) y):=(h.w ok).plS h.y
theorem mC.t2{W:aM}{k:Int}{as:List Int}{y n:Fr}(ok:W.Ok)(h:mC W k as y n):oy (bq W as) (1000+wI (as.length+1)) (tm (ch W k true) (pl ((W.tie k).worth,1) y)):=by
  rw [ua h.inw h.new]
  exact(o8 ok h.inw true).tmS (h.t1 ok)
theorem mC.t3{W:aM}{k:Int}{as:List Int}{y n:Fr}(ok:W.Ok)(h:mC W k as y n):oy (bq W as) (wI (as.length+1)) (tm (ch W k false) n):=by
  rw [ua h.inw h.new]
  exact(o8 ok h.inw false).tmS h.n
theorem mC.t4{W:aM}{k:Int}{as:List Int}{y n:Fr}(ok:W.Ok)(h:mC W k as y n):oy (bq W as) (wI as.length) (aw W k y n):=by
  rw [AD h.len]
  exact(h.t2 ok).plS (h.t3 ok)
theorem oy.b{W:aM}(ok:W.Ok){as:List Int}{i:Int}{f:Fr}(h:oy (bq W as) i f)(h0:0≤i)(hi:i≤65537000):Bt 140 f.1∧Bt 140 f.2:=by
  have b:=m9 ok
  have h2:oy (m8 W) i f:=⟨h.pos,h.lo,h.hi,Int.dvd_trans h.dv Bx⟩
  obtain⟨b1,b2⟩:=h2.bt b.2 b.1 (m:=27) (by unfold Bt;lia)
  exact⟨b1,b2.mono (by decide)⟩
def lk(ws:List Fr)(l:Int):Fr:=if l= -1 then(0,1) else ws.getD l.toNat (0,1)
structure lL (W:aM) (S:Nat→fJ) (n:Nat) (ws:List Fr):Prop where
  len:ws.length=n
  at':∀(j:Nat) (f:Fr),ws[j]?=some f→oy (bq W (S j).1) (wI (S j).1.length) f
theorem yH{M i:Int}(h:0≤i):oy M i (0,1):=⟨by decide,by decide,by show(0:Int)≤i*1;lia,Int.one_dvd _⟩
theorem A_{W:aM}{S:Nat→fJ}{n:Nat}{ws:List Fr}{i:Nat}{k:Int}{b:Bool}{l:Int}(h:lL W S n ws)(hl:oB W n S i k b l):oy (bq W (aM.askd (S i).1 k)) (wI ((S i).1.length+1)) (lk ws l):=by
  unfold lk
  rcases hl with hl | ⟨h1,h2,h3⟩
  · rw [if_pos hl];exact yH sj.1
  · rw [if_neg (by lia)]
    have hil:l.toNat < ws.length:=by rw [h.len];lia
    have e:ws[l.toNat]?=some (ws.getD l.toNat (0,1)):=by simp [hil]
    have:=h.at' _ _ e
    rw [h3] at this
    have e1:(nxt W (S i) k b).1.length=(S i).1.length+1:=m4
    rw [e1] at this
    exact this
theorem AN{W:aM}(ok:W.Ok){S:Nat→fJ}{T:List Nd}{ws:List Fr}{i:Nat}{x:Nd}(h:jd W T S)(hs:lL W S T.length ws)(hx:T[i]?=some x):mC W x.tie (S i).1 (lk ws x.yes) (lk ws x.no):=by
  have o:=h i x hx
  exact⟨A_ hs o.yes,A_ hs o.no,o.room ok,o.tie,qk o.may⟩
def wd1(W:aM)(ws:List Fr)(i:Nat)(x:Nd):List Fr:=ws.set i (aw W x.tie (lk ws x.yes) (lk ws x.no))
def iZ(W:aM)(T:List Nd):Nat→List Fr
  | 0=>List.replicate T.length (0,1)
  | m+1=>match T[T.length - 1 - m]? with
    | some x=>wd1 W (iZ W T m) (T.length - 1 - m) x
    | none=>iZ W T m
theorem yF{W:aM}{T:List Nd}{m:Nat}{x:Nd}(h:T[T.length - 1 - m]?=some x):iZ W T (m+1)=wd1 W (iZ W T m) (T.length - 1 - m) x:=by
  rw [iZ,h]
theorem lL.wd1{W:aM}(ok:W.Ok){S:Nat→fJ}{T:List Nd}{ws:List Fr}{i:Nat}{x:Nd}(h:jd W T S)(hs:lL W S T.length ws)(hx:T[i]?=some x):lL W S T.length (L2.wd1 W ws i x):=by
  refine⟨by unfold L2.wd1;rw [List.length_set];exact hs.len,fun j f hf=>?_⟩
  unfold L2.wd1 at hf
  rw [List.getElem?_set] at hf
  split at hf
  case isFalse=>exact hs.at' j f hf
  case isTrue c=>
    split at hf
    case isFalse=>cases hf
    case isTrue=>
      cases hf
      rw [←c]
      exact(AN ok h hs hx).t4 ok
theorem lL.all{W:aM}(ok:W.Ok){S:Nat→fJ}{T:List Nd}(h:jd W T S):∀m,lL W S T.length (iZ W T m)
  | 0=>⟨by simp [iZ],fun j f hf=>by
    simp only [iZ] at hf
    rw [List.getElem?_replicate] at hf
    split at hf
    · cases hf;exact yH sj.1
    · cases hf⟩
  | m+1=>by
    unfold iZ
    split
    · rename_i x hx
      exact(lL.all ok h m).wd1 ok h hx
    · exact lL.all ok h m
theorem yU{T:List Nd}{i:Nat}{y:Nd}(h:T[i]?=some y):atI (T.map a8) (i:Int)=some (a8 y):=by
  have hi:i < T.length:=(List.getElem?_eq_some_iff.mp h).1
  rw [gf (by lia) (by rw [List.length_map];lia),List.getElem?_map]
  simp [h]
theorem sx{ws:List Fr}{l:Int}(h0: -1≤l)(h1:l < (ws.length:Int)):atI ((ws++[(0,1)]).map dF) l=some (dF (lk ws l)):=by
  unfold lk
  by_cases c:l= -1
  · subst c
    rw [if_pos rfl,List.map_append]
    exact uX
  · rw [if_neg c]
    rw [gf (by lia) (by rw [List.length_map,List.length_append];simp;lia),List.getElem?_map,List.getElem?_append_left (by lia)]
    have:l.toNat < ws.length:=by lia
    simp [this]
theorem yT{ws:List Fr}{l:Int}(c:l≠ -1)(h0: -1≤l)(h1:l < (ws.length:Int)):atI (ws.map dF) l=some (dF (lk ws l)):=by
  unfold lk
  rw [if_neg c]
  exact iC (by lia) h1
theorem wH{xs:List PyData}{z:PyData}:kh (xs++[z]) none (some (xs.length:Int))=xs:=by
  unfold kh
  rw [HT.sIx_none,HT.sIx_nat,List.drop_zero,Nat.sub_zero,List.length_append]
  rw [show min xs.length (xs.length+[z].length)=xs.length by simp]
  simp
end L2
namespace L2
open PySem PySem.Spec PyProof.Rows
theorem iJ{cs:En}{g:FG}{ft:FT}{fe:FE}{b:PyData→Bool}{y:PyData→PyData}{u:PyData→En}(n:Nat):∀(items:List PyData) (t:En) (acc:List PyData),t.length=n→(∀x∈items,∀t:En,t.length=n→g x (cs++t)=some (cs++u x))→(∀x∈items,(u x).length=n)→
    (∀x∈items,ft (cs++u x)=some (b x,cs++u x))→(∀x∈items,b x=true→fe (cs++u x)=some (.d (y x),cs++u x))→acc.length+items.length≤1000000→
    ∃t',t'.length=n∧bY g ft fe items (cs++t) acc=some (acc++(items.filter b).map y,cs++t')
  | [],t,acc,h,_,_,_,_,_=>⟨t,h,by simp [bY]⟩
  | x::r,t,acc,h,hg,hu,h1,h2,hl=>by
    have h1x:=h1 x (by simp)
    unfold bY
    rw [hg x (by simp) t h]
    simp only [Option.bind_some,h1x]
    cases hb:b x with
    | true=>
      simp only [if_true,h2 x (by simp) hb,Option.bind_some,ki]
      rw [if_pos (by simp at hl;lia)]
      obtain⟨t',e1,ih⟩:=iJ (b:=b) (y:=y) (u:=u) n r (u x) (acc++[y x]) (hu x (by simp)) (fun z hz=>hg z (by simp [hz])) (fun z hz=>hu z (by simp [hz])) (fun z hz=>h1 z (by simp [hz])) (fun z hz=>h2 z (by simp [hz])) (by simp at hl ⊢;lia)
      exact⟨t',e1,by rw [ih];simp [hb]⟩
    | false=>
      simp only [Bool.false_eq_true,if_false]
      obtain⟨t',e1,ih⟩:=iJ (b:=b) (y:=y) (u:=u) n r (u x) acc (hu x (by simp)) (fun z hz=>hg z (by simp [hz])) (fun z hz=>hu z (by simp [hz])) (fun z hz=>h1 z (by simp [hz])) (fun z hz=>h2 z (by simp [hz])) (by simp at hl;lia)
      exact⟨t',e1,by rw [ih];simp [hb]⟩
end L2
namespace L2
open PySem PySem.Spec PyProof.Rows
section
variable{X:Cx}{K:PySem.W.Frag}{a:Expr}{fa:FE}{pos p pos2 p2:Pos}
end
end L2
namespace L2
open PySem PySem.Spec PyProof.Rows
section
variable{X:Cx}{K:PySem.W.Frag}{a:Expr}{fa:FE}
end
end L2
namespace L2
open PySem PySem.Spec PyProof.Rows
abbrev Rn:=List (Int × Bool)
def y9(R:Rn):List Int:=R.map (·.1)
def AV(W:aM)(R:Rn):List Int:=(R.filter (·.2)).flatMap fun r=>[(W.tie r.1).one,(W.tie r.1).other]
structure Gk (W:aM) (R:Rn) (asked taken:List Int):Prop where
  pa:asked.Perm (y9 R)
  pt:taken.Perm (AV W R)
  inw:∀k∈y9 R,kB W k
  nd:(y9 R).Nodup
  nk:(AV W R).Nodup
  bd:∀t:Int,0≤t→t < W.things→W.many (y9 R) t≤W.pat.getD t.toNat 0
  ak:(R.length:Int)≤W.asks
  sa:asked.Pairwise (· ≤·)
  st:taken.Pairwise (· ≤·)
end L2
namespace L2
open PySem PySem.Spec PyProof.Rows
section
variable{prog:Program}{w:World}{A:Around}{R:Result→Shared→Prop}
def kU(elt tg iter tg2 iter2:Expr)(ifs ifs2:List Expr)(scope:Scope)(pos:Pos)(acc:Value)(env:Env)(k:Sem PySem.Fin):Sem PySem.Fin:=do
  let x ←eval iter2 env
  standAt iter2.pos
  let x ←foldedSetIterable iter2 env x
  let _ ←runOwn (.compStart (.ListComp elt [⟨tg,iter,ifs,0⟩,⟨tg2,iter2,ifs2,0⟩] scope pos) 1 (←holding [x] (pyIter x)) acc env) env
  k
theorem p6(elt tg iter tg2 iter2:Expr)(ifs ifs2:List Expr)(scope:Scope)(pos:Pos)(it acc:Value)(env:Env):
    compTurn (.ListComp elt [⟨tg,iter,ifs,0⟩,⟨tg2,iter2,ifs2,0⟩] scope pos) 0 it acc env=(do
      standAt iter.pos
      match ←pyNext it with
      | none=>pure (.done .next)
      | some v=>
        letOwnedTupleGo tg it v
        assign tg env v
        let mut ok:=true
        for c in ifs do
          if ok then ok ←isTrue c env (eval c env)
        if ok then kU elt tg iter tg2 iter2 ifs ifs2 scope pos acc env (again (.compLoop (.ListComp elt [⟨tg,iter,ifs,0⟩,⟨tg2,iter2,ifs2,0⟩] scope pos) 0 it acc env))
        else again (.compLoop (.ListComp elt [⟨tg,iter,ifs,0⟩,⟨tg2,iter2,ifs2,0⟩] scope pos) 0 it acc env)):=by rfl
theorem q5(elt tg iter tg2 iter2:Expr)(ifs ifs2:List Expr)(scope:Scope)(pos:Pos)(it acc:Value)(env:Env):
    compTurn (.ListComp elt [⟨tg,iter,ifs,0⟩,⟨tg2,iter2,ifs2,0⟩] scope pos) 1 it acc env=(do
      standAt iter2.pos
      match ←pyNext it with
      | none=>pure (.done .next)
      | some v=>
        letOwnedTupleGo tg2 it v
        assign tg2 env v
        let mut ok:=true
        for c in ifs2 do
          if ok then ok ←isTrue c env (eval c env)
        if ok then
          (do let _ ←call (.builtin "list.append") [acc,←eval elt env])
        again (.compLoop (.ListComp elt [⟨tg,iter,ifs,0⟩,⟨tg2,iter2,ifs2,0⟩] scope pos) 1 it acc env)):=by rfl
def yZ(prog:Program)(w:World)(A:Around)(B:Sem PySem.Fin→Sem PySem.Fin)(tg:Expr)(ifs:List Expr)(env:Env)(it:Value)(onward:Shared→Prop)(v:Value)(u:Shared):Prop:=
  wpAny (model prog w) A (letOwnedTupleGo tg it v) (fun _ u1=>wpAny (model prog w) A (assign tg env v) (fun _ u2=>wpAny (model prog w) A
    (forIn ifs true fun c r=>if r=true then do let ok ←isTrue c env (eval c env);pure (ForInStep.yield ok) else pure (ForInStep.yield r)) (fun ok u3=>if ok=true then(∀(k:Sem PySem.Fin) (Q:PySem.Fin→Shared→Prop) (E:Value→Shared→Prop),(∀u5,onward u5→wpAny (model prog w) A k Q E u5)→wpAny (model prog w) A (B k) Q E u3) else onward u3) uC u2) uC u1) uC u
theorem pZ{elt tg iter tg2 iter2:Expr}{ifs ifs2:List Expr}{scope:Scope}{pos:Pos}{it acc:Value}{env:Env}(J:Nat→Shared→Prop)
    (turn:∀n u,J n u→wpAny (model prog w) A (pyNext it) (fun r u1=>(r=none→R (.ok .next) u1)∧∀v,r=some v→yZ prog w A (kU elt tg iter tg2 iter2 ifs ifs2 scope pos acc env) tg ifs env it (fun u2=>∃m,m < n∧J m u2) v u1) uC u){n0:Nat}{u0:Shared}(fF:J n0 u0):
    codeAny (model prog w) A (.compLoop (.ListComp elt [⟨tg,iter,ifs,0⟩,⟨tg2,iter2,ifs2,0⟩] scope pos) 0 it acc env) R u0:=by
  refine codeAny_loop rfl J (fun n u ju=>?_) n0 fF
  show wpAny _ A ((compTurn (.ListComp elt [⟨tg,iter,ifs,0⟩,⟨tg2,iter2,ifs2,0⟩] scope pos) 0 it acc env).onRaise _) _ _ u;refine wpAny_noted ?_;rw [p6]
  refine wpAny_bind (wpAny_standAt (wpAny_bind (wpAny_mono (turn n u ju) (fun r u1 k1=>?_) fun _ _ z=>z.elim)))
  cases r with
  | none=>exact wpAny_pure (k1.1 rfl)
  | some v=>
    refine wpAny_bind (wpAny_mono (k1.2 v rfl) (fun _ u2 k2=>wpAny_bind (wpAny_mono k2 (fun _ u3 k3=>wpAny_bind (wpAny_mono k3 (fun ok u4 k4=>?_) fun _ _ z=>z.elim)) fun _ _ z=>z.elim)) fun _ _ z=>z.elim)
    cases ok with
    | false=>rw [if_neg Bool.false_ne_true] at k4;exact wpAny_pure ⟨rfl,k4⟩
    | true=>
      rw [if_pos rfl] at k4
      exact k4 _ _ _ fun u6 k6=>wpAny_pure ⟨rfl,k6⟩
theorem qZ{elt tg iter tg2 iter2:Expr}{ifs ifs2:List Expr}{scope:Scope}{pos:Pos}{it acc:Value}{env:Env}(J:Nat→Shared→Prop)
    (turn:∀n u,J n u→wpAny (model prog w) A (pyNext it) (fun r u1=>(r=none→R (.ok .next) u1)∧∀v,r=some v→wF prog w A elt tg2 ifs2 env it acc (fun u2=>∃m,m < n∧J m u2) v u1) uC u){n0:Nat}{u0:Shared}(fF:J n0 u0):
    codeAny (model prog w) A (.compLoop (.ListComp elt [⟨tg,iter,ifs,0⟩,⟨tg2,iter2,ifs2,0⟩] scope pos) 1 it acc env) R u0:=by
  refine codeAny_loop rfl J (fun n u ju=>?_) n0 fF
  show wpAny _ A ((compTurn (.ListComp elt [⟨tg,iter,ifs,0⟩,⟨tg2,iter2,ifs2,0⟩] scope pos) 1 it acc env).onRaise _) _ _ u;refine wpAny_noted ?_;rw [q5]
  refine wpAny_bind (wpAny_standAt (wpAny_bind (wpAny_mono (turn n u ju) (fun r u1 k1=>?_) fun _ _ z=>z.elim)))
  cases r with
  | none=>exact wpAny_pure (k1.1 rfl)
  | some v=>
    refine wpAny_bind (wpAny_mono (k1.2 v rfl) (fun _ u2 k2=>wpAny_bind (wpAny_mono k2 (fun _ u3 k3=>wpAny_bind (wpAny_mono k3 (fun ok u4 k4=>?_) fun _ _ z=>z.elim)) fun _ _ z=>z.elim)) fun _ _ z=>z.elim)
    cases ok with
    | false=>rw [if_neg Bool.false_ne_true] at k4;exact wpAny_pure ⟨rfl,k4⟩
    | true=>
      rw [if_pos rfl] at k4
      refine wpAny_bind (wpAny_bind (wpAny_mono k4 (fun x u5 k5=>wpAny_bind (wpAny_mono k5 (fun _ u6 k6=>?_) fun _ _ z=>z.elim)) fun _ _ z=>z.elim));exact wpAny_pure (wpAny_pure ⟨rfl,k6⟩)
theorem p0{elt tg iter tg2 iter2:Expr}{ifs ifs2:List Expr}{scope:Scope}{pos:Pos}{it acc:Value}{env:Env}{s:Shared}
    (h0:codeAny (model prog w) A (.compLoop (.ListComp elt [⟨tg,iter,ifs,0⟩,⟨tg2,iter2,ifs2,0⟩] scope pos) 1 it acc env) R s)
    (h:wpAny (model prog w) A (pyIter it) (fun it' s'=>codeAny (model prog w) A (.compLoop (.ListComp elt [⟨tg,iter,ifs,0⟩,⟨tg2,iter2,ifs2,0⟩] scope pos) 1 it' acc env) R s') (notedBy (model prog w) A env fun x s'=>R (.error x) s') s):
    codeAny (model prog w) A (.compStart (.ListComp elt [⟨tg,iter,ifs,0⟩,⟨tg2,iter2,ifs2,0⟩] scope pos) 1 it acc env) R s:=by
  refine codeAny_of_tree ?_;show wpAny _ _ ((compStart (.ListComp elt [⟨tg,iter,ifs,0⟩,⟨tg2,iter2,ifs2,0⟩] scope pos) 1 it acc env).onRaise (fun x=>do noteFrame x env;standAt theWindowsPlace)) _ _ s
  refine wpAny_notedAt ?_;unfold compStart
  show wpAny _ _ (ask >>= _) _ _ s
  refine wpAny_bind (wpAny_askSetting (wpAny_ite ?_));split
  · first | exact wpAny_bind (wpAny_pure (wpAny_pure (And.intro rfl h0))) | exact wpAny_pure (And.intro rfl h0)
  · first | exact wpAny_bind (wpAny_rule (wpAny_bind (wpAny_standAt (wpAny_bind (wpAny_mono h (fun it' s' h'=>wpAny_pure (And.intro rfl h')) fun _ _ x=>x))))) | (refine wpAny_bind (wpAny_rule ?_);show wpAny _ _ (standAt iter2.pos >>= _) _ _ s;exact wpAny_bind (wpAny_standAt (wpAny_bind (wpAny_mono h (fun it' s' h'=>wpAny_pure (And.intro rfl h')) fun _ _ x=>x))))
end
def yq(l:Addr)(wi:TI)(g:TG)(tc:TT)(te:TE)(σ:L2.St)(H:Hp)(N:L2.St→Hp→Prop):Prop:=
  wi σ H fun J H1=>∃W:Nat→Nat→L2.St→Hp→Prop,(∃m,W 0 m σ H1)∧∀i m σ' H',W i m σ' H'→
    (J.stop i H'∧N σ' H')∨(J.go i H'∧∃N2:L2.St→Hp→Prop,(∀σ2 H2,N2 σ2 H2→∃m',m' < m∧W (i+1) m' σ2 H2)∧
      ∀x H2,J.yld i H' x H2→g x σ' H2 fun σ2 H3=>tc σ2 H3 fun b H4=>if b=true then te σ2 H4 fun v H5=>∃ys,H5 l=some (.lst ys)∧ys.length < sizeLine∧N2 σ2 (bj H5 l (.lst (ys++[v]))) else N2 σ2 H4)
theorem w6{Y:Cx}{elt tg iter tg2 iter2:Expr}{ifs ifs2:List Expr}{scope:Scope}{pos:Pos}{wi:TI}{g:TG}{tc:TT}{te:TE}(hc:Y.calm=true)(hxe:Y.xe=uC)(hi:PI Y tg2 iter2 wi)(hg:PG Y tg2 g)(ht:tT Y ifs2 tc)(he:PE Y elt te)
    (hs:∀x,foldedSetIterable iter2 Y.env x=pure x){pins:List (Addr × Obj)}{s:Shared}{σ:L2.St}{H:Hp}{D:Addr}{N:L2.St→Hp→Prop}(I:aF Y pins σ H s)(h:yq D wi g tc te σ H N)(k:Sem PySem.Fin)(Q:PySem.Fin→Shared→Prop)(E:Value→Shared→Prop)(hk:∀s',(∃σ' H',aF Y pins σ' H' s'∧N σ' H')→wpAny (model Y.prog Y.w) Y.A k Q E s'):
    wpAny (model Y.prog Y.w) Y.A (kU elt tg iter tg2 iter2 ifs ifs2 scope pos (.ref D) Y.env k) Q E s:=by
  unfold kU
  have hi':=hi pins s σ H _ I h
  rw [hxe] at hi'
  refine wpAny_bind (wpAny_mono hi' (fun v s1 h1=>wpAny_bind (wpAny_standAt (wpAny_bind (wpAny_of_eq (hs v) (wpAny_bind (wpAny_holding (wpAny_mono h1 (fun itv s2 h2=>?_) fun _ _ z=>z.elim))))))) fun _ _ z=>z.elim)
  obtain⟨it,fp,tn,J,H2,rfl,I2,T,st2,f2,W,⟨m0,w0⟩,turn⟩:=h2
  have stat:∀{H':Hp},(∀b∈fp,H' b=none)→∀b∈fp,hX Y pins H' b:=fun hn b hb=>⟨hn b hb,(f2 b hb).2⟩
  have loop:codeAny (model Y.prog Y.w) Y.A (.compLoop (.ListComp elt [⟨tg,iter,ifs,0⟩,⟨tg2,iter2,ifs2,0⟩] scope pos) 1 (.ref it) (.ref D) Y.env) (fun r s'=>match r with | .ok f=>wpAny (model Y.prog Y.w) Y.A k Q E s' | .error e=>cameBackBy (model Y.prog Y.w) Y.A Y.env E e s') s2:=by
    refine qZ (fun n s'=>∃i σ' H',aF Y pins σ' H' s'∧tn i s'.heap∧(∀b∈fp,H' b=none)∧W i n σ' H') ?_ (n0:=m0) ⟨0,σ,H2,I2,st2,fun b hb=>(f2 b hb).1,w0⟩
    rintro n s3 ⟨i,σ3,H3,I3,st3,fr3,w3⟩
    rcases turn i n σ3 H3 w3 with ⟨stop,qn⟩ | ⟨go,N2,hN,step⟩
    · refine ci (T.done Y rfl rfl rfl hc i pins s3 σ3 H3 uC I3 (stat fr3) st3 stop) fun r s4 ⟨hr,I4⟩=>?_
      subst hr
      exact⟨fun _=>hk _ ⟨σ3,H3,I4,qn⟩,fun v z=>by cases z⟩
    · refine ci (T.item Y rfl rfl rfl hc i pins s3 σ3 H3 uC I3 (stat fr3) st3 go) fun r s4 ⟨u,hr,h4⟩=>?_
      subst hr
      refine⟨fun z=>(by cases z),fun v z=>?_⟩
      cases z
      refine ci h4 fun _ s5 ⟨x,H5,I5,r5,y5,st5,fr5⟩=>?_
      have I5':=I5.pinned (stat fr5) (T.obj _ _ st5)
      have again:∀{σ8:L2.St} {H8:Hp} {s8:Shared},aF Y (pins++kv fp s5.heap) σ8 H8 s8→N2 σ8 H8→∃m,m < n∧∃i σ' H',aF Y pins σ' H' s8∧tn i s8.heap∧(∀b∈fp,H' b=none)∧W i m σ' H':=fun{σ8 H8 s8} I8 n8=>by
        obtain⟨m',hm,w8⟩:=hN σ8 H8 n8
        refine⟨m',hm,i+1,σ8,H8,I8.unpinned,T.keep _ _ _ st5 fun b hb o e=>(I8.pin (b,o) (List.mem_append_right _ (List.mem_append_right _ (cP hb e)))).1,fun b hb=>?_,w8⟩
        obtain⟨o,e,d⟩:=T.obj _ _ st5 b hb
        exact(I8.pin (b,o) (List.mem_append_right _ (List.mem_append_right _ (cP hb e)))).2.1
      have hg':=hg _ s5 σ3 H5 x u _ I5' r5 (step x H5 y5)
      rw [hxe] at hg'
      refine ci hg' fun _ s8 ⟨σ8,H8,I8,q8⟩=>?_
      have ht':=ht _ s8 σ8 H8 _ I8 q8
      rw [hxe] at ht'
      refine ci ht' fun ok s9 ⟨H9,I9,q9⟩=>?_
      cases ok with
      | false=>
        rw [if_neg Bool.false_ne_true] at q9 ⊢
        exact again I9 q9
      | true=>
        rw [if_pos rfl] at q9 ⊢
        have he':=he _ s9 σ8 H9 _ I9 q9
        rw [hxe] at he'
        refine ci he' fun v s10 ⟨xv,H10,I10,r10,ys,hl,hz,n10⟩=>?_
        have ha:=jX _ s10 σ8 H10 (.ref D) [xv] (.ref D) [v] (fun _ H=>N2 σ8 H) I10 rfl (.cons r10 .nil) ⟨D,ys,xv,rfl,rfl,hl,hz,n10⟩
        rw [hxe] at ha
        refine ci ha fun _ s11 ⟨_,H11,I11,_,q11⟩=>?_
        exact again I11 q11
  exact wpAny_bind (wpAny_runOwn (p0 loop (T.self Y.A 0 _ _ _ st2 loop)))
structure yp (cp:List (Nat × Str)) (nT:Nat) (wi:TI) (g:TG) (tc:TT) (wi2:TI) (g2:TG) (tc2:TT) (te:TE) (σ:L2.St) (H:Hp) (Q:VK):Prop where
  go:wi σ H fun J H1=>∀l,H1 l=none→
  ∃W:Nat→Nat→L2.St→Hp→Prop,(∃m,W 0 m (fw cp nT σ) (bj H1 l (.lst [])))∧∀i m σ' H',W i m σ' H'→
    (J.stop i H'∧Q (.ref l) H')∨(J.go i H'∧∃N:L2.St→Hp→Prop,(∀σ2 H2,N σ2 H2→∃m',m' < m∧W (i+1) m' σ2 H2)∧
      ∀x H2,J.yld i H' x H2→g x σ' H2 fun σ2 H3=>tc σ2 H3 fun b H4=>if b=true then yq l wi2 g2 tc2 te σ2 H4 N else N σ2 H4)
theorem xF{X:Cx}{elt iter tg iter2 tg2:Expr}{ifs ifs2:List Expr}{scope:Scope}{pos:Pos}{wi wi2:TI}{g g2:TG}{tc tc2:TT}{te:TE}(sc0:Scope)(N0:List Str)(cp:List (Nat × Str))(tgN:List Str)
    (hc:X.calm=true)(hsc:X.env.scope=sc0)(hN0:X.N=N0)(hi:PI X tg iter wi)
    (hg:∀C s0 H0 fp,PG (aJ X scope cp tgN C s0 H0 fp) tg g)
    (ht:∀C s0 H0 fp,tT (aJ X scope cp tgN C s0 H0 fp) ifs tc)
    (hi2:∀C s0 H0 fp,PI (aJ X scope cp tgN C s0 H0 fp) tg2 iter2 wi2)
    (hg2:∀C s0 H0 fp,PG (aJ X scope cp tgN C s0 H0 fp) tg2 g2)
    (ht2:∀C s0 H0 fp,tT (aJ X scope cp tgN C s0 H0 fp) ifs2 tc2)
    (he:∀C s0 H0 fp,PE (aJ X scope cp tgN C s0 H0 fp) elt te)
    (hk:scope.kind=.function)(hcell:∀y∈scope.names,y.2≠.cell)(hnames:∀y∈scope.names,y.2=.local→scope.names.lookup y.1=some .local)
    (hfr:∀y∈scope.names,y.2=.free→scope.names.lookup y.1=some .free∧sc0.names.lookup y.1=some .cell)
    (hcp:∀p∈cp,N0[p.1]?=some p.2)(hcq:∀p∈cp,sc0.names.lookup p.2=some .cell∧scope.names.lookup p.2=some .free)
    (hs2:∀C s0 H0 fp x,foldedSetIterable iter2 (aJ X scope cp tgN C s0 H0 fp).env x=pure x)(hs:∀x,foldedSetIterable iter X.env x=pure x:=by intro _;rfl):
    PE X (.ListComp elt [⟨tg,iter,ifs,0⟩,⟨tg2,iter2,ifs2,0⟩] scope pos) (yp cp tgN.length wi g tc wi2 g2 tc2 te):=by
  intro pins s σ H Q I h
  have hkind:∀x,X.env.kindOf x=sc0.names.lookup x:=fun x=>by unfold Env.kindOf;rw [hsc]
  have hfree:∀y∈scope.names,y.2=.free→∃c,X.env.cells.lookup y.1=some c:=fun y hy e=>I.ok.has y.1 (.inl (by rw [hkind];exact(hfr y hy e).2))
  rw [eval_ListComp]
  refine wpAny_comprehension_free (use:=none) rfl hs (nh hfree) hk hnames (wpAny_mono (hi pins s σ H _ I h.go) (fun xv s₁ h₁=>wpAny_mono h₁ (fun itv s₂ h₂=>?_) fun _ _ e=>e) fun _ _ e=>e)
  obtain⟨it,fp,tn,J,H2,rfl,I2,T,st2,f2,hq⟩:=h₂
  refine wpAny_newObj_type ?_
  have hlF:H2 s₂.heap.objs.size=none:=I2.hok.fresh (Nat.le_refl _)
  have I3:aF X pins σ (bj H2 s₂.heap.objs.size (.lst [])) {s₂ with heap:=s₂.heap.push {cls:=.type "list",data:=.seq ([]:List Value).toArray}}:=I2.lnew (t':=s₂.toks) .nil (Nat.zero_le _)
  obtain⟨W,⟨m0,w0⟩,turn⟩:=hq _ hlF
  have f3:∀b∈fp,hX X pins (bj H2 s₂.heap.objs.size (.lst [])) b:=fun b hb=>by
    obtain⟨f0,fr⟩:=f2 b hb
    obtain⟨o,ho,_⟩:=T.obj _ _ st2 b hb
    exact⟨by rw [aA (Nat.ne_of_lt (Heap.lt_size ho))];exact f0,fr⟩
  have st3:tn 0 (s₂.heap.push {cls:=.type "list",data:=.seq ([]:List Value).toArray}):=T.keep _ _ _ st2 fun b _ o e=>Heap.get?_push_of_some _ e
  generalize hD:s₂.heap.objs.size=D at*
  generalize hs3:({s₂ with heap:=s₂.heap.push {cls:=.type "list",data:=.seq ([]:List Value).toArray}}:Shared)=s₃ at*
  have hst3:tn 0 s₃.heap:=by rw [←hs3];exact st3
  refine wpAny_newFunctionEnv hcell (by intro y hy;simp at hy) (fun h₁ hns₁ hsb₁=>?_) hk
  generalize hC:s₃.heap.objs.size=C at*
  have old:∀b o,s₃.heap.get? b=some o→h₁.get? b=some o:=fun b o e=>hsb₁.extBut b o (by rw [←hC];exact Nat.ne_of_lt (Heap.lt_size e)) (Heap.get?_push_of_some _ e)
  have nC:∀b o,s₃.heap.get? b=some o→b≠C:=fun b o e=>by rw [←hC];exact Nat.ne_of_lt (Heap.lt_size e)
  have hHC:(bj H2 D (.lst [])) C=none:=I3.hok.fresh (by rw [hC];exact Nat.le_refl _)
  have clS:∀x c,(ja X.env scope.names []).lookup x=some c→X.env.cells.lookup x=some c:=fun x c e=>kf _ _ x c hfree (fun _ _ z=>by simp at z) e
  have clH:∀x,(∃y∈scope.names,y.1=x∧y.2=.free)→∃c,(ja X.env scope.names []).lookup x=some c:=fun x e=>ng _ _ x (.inl e)
  have ok':(aJ X scope cp tgN C s₃ (bj H2 D (.lst [])) fp).Ok:=by
    refine⟨I.ok.mod,hk,I.ok.glob,I.ok.blt,by rw [←hC];exact Nat.le_refl _,fun x y c e1 e2=>I.ok.inj x y c (clS _ _ e1) (clS _ _ e2),fun x e=>clH x (dS hcell e),fun x c e1 e2=>?_,I.ok.hd,I.ok.frames,.inl rfl,fun b hb=>?_,fun b o e=>I3.bs b o e,?_,fun b o e hb=>?_,fun b hb z=>?_,I3.stack,fun b hb=>I3.stkFree b hb⟩
    · exfalso
      have e1':scope.names.lookup x=some .local:=by simpa [aJ] using e1
      have e2':=clS x c e2
      obtain⟨c',hc'⟩:∃y∈scope.names,y.1=x∧y.2=.free:=by
        by_cases q:∃y∈scope.names,y.1=x∧y.2=.free
        · exact q
        · exfalso
          have:∀(names:List (Str × NameKind)) (cs:List (Str × Addr)),(¬∃y∈names,y.1=x∧y.2=.free)→cs.lookup x=none→(ja X.env names cs).lookup x=none:=by
            intro names
            induction names with
            | nil=>intro cs _ h;exact h
            | cons y r ih=>
              intro cs hn hcs
              obtain⟨n,k⟩:=y
              refine ih _ (fun⟨y,hy,z⟩=>hn ⟨y,List.mem_cons_of_mem _ hy,z⟩) ?_
              by_cases hk:(k==NameKind.free)=true
              · rw [if_pos hk,List.lookup_cons]
                cases hx:x==n with
                | true=>exact absurd ⟨(n,k),List.mem_cons_self,(by simpa using hx:x=n).symm,by simpa using hk⟩ hn
                | false=>exact hcs
              · rw [if_neg hk];exact hcs
          have z:=this scope.names [] q rfl
          have e2'':(ja X.env scope.names []).lookup x=some c:=e2
          rw [z] at e2'';cases e2''
      have z:=(hfr c' hc'.1 hc'.2.2).1
      rw [hc'.2.1,e1'] at z;cases z
    · obtain⟨f0,f1,f4,f5,f6,f7⟩:=f3 b hb
      obtain⟨o,ho,_⟩:=T.obj _ _ hst3 b hb
      exact⟨nC b o ho,fun x c e=>f6 x c (clS x c e)⟩
    · exact Nat.le_trans I.ok.bsz I3.sz
    · obtain⟨f0,f1,f4,f5,f6,f7⟩:=f3 b hb
      rcases f5 with z | z
      · exact I.ok.noex b o e z
      · have:=(I.ok.bs b o e).1
        exact absurd (Nat.lt_of_lt_of_le (Heap.lt_size this) z) (Nat.lt_irrefl _)
    · obtain⟨f0,f1,f4,f5,f6,f7⟩:=f3 b hb
      rcases List.mem_cons.mp (I3.stkSub b z) with z | z
      · exact f1 z
      · exact f4 z
  have I4:aF (aJ X scope cp tgN C s₃ (bj H2 D (.lst [])) fp) [] (fw cp tgN.length σ) (bj H2 D (.lst [])) {s₃ with heap:=h₁,toks:=s₃.toks+([]:List (Str × Value)).length}:=by
    refine⟨ok',rfl,I3.bare,Un.kept old,⟨_,hns₁,fun i x v e1 e2 e3=>?_⟩,fun x c e=>?_,hHC,fun x c e=>I3.freeC x c (clS x c e),fun p hp=>by simp [aJ] at hp,I3.hok.kept old,by simp [fw,aJ]⟩
    · have hlt:i < cp.length:=by
        by_cases q:i < cp.length
        · exact q
        · exfalso
          unfold fw at e2
          rw [List.getElem?_append_right (by simp;lia)] at e2
          rw [List.getElem?_replicate] at e2
          split at e2<;>cases e2
      have e1':(cp.map (·.2))[i]?=some x:=by
        have e1'':(cp.map (·.2)++tgN)[i]?=some x:=e1
        rwa [List.getElem?_append_left (by simp;exact hlt)] at e1''
      have e2':(cp.map (fun p=>(σ[p.1]?).join))[i]?=some (some v):=by
        unfold fw at e2
        rwa [List.getElem?_append_left (by simp;exact hlt)] at e2
      rw [List.getElem?_map,List.getElem?_eq_getElem hlt] at e1' e2'
      have ex:(cp[i]).2=x:=by simpa using e1'
      have ev:(σ[(cp[i]).1]?).join=some v:=by simpa using e2'
      have ev':σ[(cp[i]).1]?=some (some v):=by
        cases q:σ[(cp[i]).1]? with
        | none=>rw [q] at ev;cases ev
        | some z=>rw [q] at ev;simp only [Option.join_some] at ev;rw [ev]
      have hN:=hcp cp[i] (List.getElem_mem hlt)
      rw [←hN0] at hN
      obtain⟨hcl,hcf⟩:=hcq cp[i] (List.getElem_mem hlt)
      rw [ex] at hN hcl hcf
      obtain⟨m,hn,hl⟩:=I3.loc
      obtain⟨u,r,l⟩:=hl _ x v hN ev' (.inr (.inl (by rw [hsc];exact hcl)))
      refine⟨u,r,.inr ?_⟩
      rcases l with ⟨k1,_⟩ | ⟨k1,c,hcc,o,ho,hd⟩
      · rw [hkind,hcl] at k1;cases k1
      · have e3':(relabel scope X.env).names.lookup x=some .local∨(relabel scope X.env).names.lookup x=some .cell∨(relabel scope X.env).names.lookup x=some .free:=e3
        have nl:(relabel scope X.env).names.lookup x=some .cell∨(relabel scope X.env).names.lookup x=some .free:=by
          rcases e3' with z | z | z
          · exact absurd z (fj hcf)
          · exact .inl z
          · exact .inr z
        obtain⟨c',hc'⟩:=clH x (dS hcell nl)
        have:=clS x c' hc'
        rw [hcc] at this;cases this
        exact⟨nl,c,hc',o,old c o ho,hd⟩
    · obtain⟨v,o,ho,hd⟩:=I3.cell x c (clS x c e)
      exact⟨v,o,old c o ho,hd⟩
  have hst4:tn 0 h₁:=T.keep _ _ _ hst3 fun b _ o e=>old b o e
  have loop:codeAny (model X.prog X.w) X.A (.compLoop (.ListComp elt [⟨tg,iter,ifs,0⟩,⟨tg2,iter2,ifs2,0⟩] scope pos) 0 (.ref it) (.ref D) (compEnvC scope (ja X.env scope.names []) C X.env))
      (compPost (model X.prog X.w) X.A X.xe none (EP X pins σ Q) (.ref D) C) {s₃ with heap:=h₁,toks:=s₃.toks+([]:List (Str × Value)).length}:=by
    refine pZ (fun n s'=>∃i σ' H',aF (aJ X scope cp tgN C s₃ (bj H2 D (.lst [])) fp) [] σ' H' s'∧tn i s'.heap∧(∀b∈fp,H' b=none)∧W i n σ' H') ?_ (n0:=m0) ⟨0,_,_,I4,hst4,fun b hb=>(f3 b hb).1,w0⟩
    rintro n s5 ⟨i,σ5,H5,I5,st5,fr5,w5⟩
    have stat:∀{H':Hp},(∀b∈fp,H' b=none)→∀b∈fp,hX (aJ X scope cp tgN C s₃ (bj H2 D (.lst [])) fp) [] H' b:=fun hn b hb=>
      ⟨hn b hb,(ok'.exf b hb).1,ok'.exfs b hb,.inl hb,(ok'.exf b hb).2,fun p hp=>by simp [aJ] at hp⟩
    rcases turn i n σ5 H5 w5 with ⟨stop,qn⟩ | ⟨go,N,hN,step⟩
    · refine ci (T.done (aJ X scope cp tgN C s₃ (bj H2 D (.lst [])) fp) rfl rfl rfl hc i [] s5 σ5 H5 (fun _ _=>False) I5 (stat fr5) st5 stop) fun r s6 ⟨hr,I6⟩=>?_
      subst hr
      refine⟨fun _=>?_,fun v z=>by cases z⟩
      obtain⟨m,hn,_⟩:=I6.loc
      refine⟨m,hn,fun h' sb=>⟨.ref D,H5,?_,rfl,qn⟩⟩
      have ub:=I6.base
      have kp:∀b u,b≠C→s6.heap.get? b=some u→h'.get? b=some u:=fun b u ne e=>sb.extBut b u ne e
      have nit:∀b u,H5 b=some u→b≠C:=fun b u e z=>by
        have:=I6.free
        rw [z] at e
        rw [show H5 C=none from this] at e;cases e
      refine I3.call' (s':={s6 with heap:=h'}) (ch:=fp) I6.os ⟨fun b o e n hb hx=>kp b o (nC b o e) (ub.keep b o e n hb hx),fun b o e n hb hx=>?_,ub.free,fun b o e hx=>?_,ub.tups,ub.frzs,ub.tbls⟩ (fun b u e=>?_) I6.bare (fun b hb=>?_)
      · obtain⟨sl,q⟩:=ub.slot b o e n hb hx
        exact⟨sl,kp b _ (nC b o e) q⟩
      · obtain⟨o',q⟩:=ub.there b o e hx
        exact⟨o',kp b _ (nC b o e) q⟩
      · refine(I6.hok b u e).stay (fun c v hc q=>kp c v ?_ q) (fun _ q=>q) fun _ _ q=>q
        rcases hc with z | z
        · rw [z];exact nit b u e
        · exact nit c _ z
      · obtain⟨f0,f1,f4,f5,f6,f7⟩:=f3 b hb
        exact⟨f5,f1,f6,f7⟩
    · refine ci (T.item (aJ X scope cp tgN C s₃ (bj H2 D (.lst [])) fp) rfl rfl rfl hc i [] s5 σ5 H5 (fun _ _=>False) I5 (stat fr5) st5 go) fun r s6 ⟨u,hr,h6⟩=>?_
      subst hr
      refine⟨fun z=>(by cases z),fun v z=>?_⟩
      cases z
      refine ci h6 fun _ s7 ⟨x,H7,I7,r7,y7,st7,fr7⟩=>?_
      have I7':=I7.pinned (stat fr7) (T.obj _ _ st7)
      have again:∀{σ8:L2.St} {H8:Hp} {s8:Shared},aF (aJ X scope cp tgN C s₃ (bj H2 D (.lst [])) fp) ([]++kv fp s7.heap) σ8 H8 s8→N σ8 H8→∃m,m < n∧∃i σ' H',aF (aJ X scope cp tgN C s₃ (bj H2 D (.lst [])) fp) [] σ' H' s8∧tn i s8.heap∧(∀b∈fp,H' b=none)∧W i m σ' H':=fun{σ8 H8 s8} I8 n8=>by
        obtain⟨m',hm,w8⟩:=hN σ8 H8 n8
        refine⟨m',hm,i+1,σ8,H8,I8.unpinned,T.keep _ _ _ st7 fun b hb o e=>(I8.pin (b,o) (List.mem_append_right _ (List.mem_append_right _ (cP hb e)))).1,fun b hb=>?_,w8⟩
        obtain⟨o,e,d⟩:=T.obj _ _ st7 b hb
        exact(I8.pin (b,o) (List.mem_append_right _ (List.mem_append_right _ (cP hb e)))).2.1
      refine ci (hg C s₃ (bj H2 D (.lst [])) fp _ s7 σ5 H7 x u _ I7' r7 (step x H7 y7)) fun _ s8 ⟨σ8,H8,I8,q8⟩=>?_
      refine ci (ht C s₃ (bj H2 D (.lst [])) fp _ s8 σ8 H8 _ I8 q8) fun ok s9 ⟨H9,I9,q9⟩=>?_
      cases ok with
      | false=>
        rw [if_neg Bool.false_ne_true] at q9 ⊢
        exact again I9 q9
      | true=>
        rw [if_pos rfl] at q9 ⊢
        exact fun k Q' E' hk=>w6 (Y:=aJ X scope cp tgN C s₃ (bj H2 D (.lst [])) fp) hc rfl (hi2 C s₃ _ fp) (hg2 C s₃ _ fp) (ht2 C s₃ _ fp) (he C s₃ _ fp) (hs2 C s₃ _ fp) I9 q9 k Q' E' fun s' ⟨σ11,H11,I11,q11⟩=>hk s' (again I11 q11)
  exact codeAny_compStart_list loop (T.self X.A 0 _ _ _ hst4 loop)
def iI(g:FG)(ft:FT)(fi2:FI)(g2:FG)(ft2:FT)(fe:FE):List PyData→En→List PyData→Option (List PyData × En)
  | [],e,acc=>some (acc,e)
  | x::r,e,acc=>(g x e).bind fun e1=>(ft e1).bind fun b=>if b.1=true then(fi2 b.2).bind fun p=>if p.2.1=[] then(bY g2 ft2 fe p.1 p.2.2 acc).bind fun z=>iI g ft fi2 g2 ft2 fe r z.2 z.1 else none else iI g ft fi2 g2 ft2 fe r b.2 acc
def l3(cp:List (Nat × Str))(nT:Nat)(fi:FI)(g:FG)(ft:FT)(fi2:FI)(g2:FG)(ft2:FT)(fe:FE):FE:=fun e=>(fi e).bind fun p=>if (p.2.1.all fun q=> !(cp.any fun c=>c.1==q.1))=true then(iI g ft fi2 g2 ft2 fe p.1 (mF cp nT p.2.2) []).bind fun z=>if kd cp z.2 p.2.2=true then some (.l z.1,lF (k_ cp) z.2 p.2.2) else none else none
section
variable{K:PySem.W.Frag}{F H:Hp}{σ:L2.St}{e:En}{cp:List (Nat × Str)}{nT:Nat}
theorem vY{Q:VK}{fi fi2:FI}{g g2:FG}{W:List Nat}{ft ft2:FT}{fe:FE}(hn:(cp.map (·.1)).Nodup)(hW:∀j∈W,cp.length≤j)(h:fE K (l3 cp nT fi g ft fi2 g2 ft2 fe) σ H Q):yp cp nT (fI K fi) (fG K g W) (fT K ft) (fI K fi2) (fG K g2 W) (fT K ft2) (fE K fe) σ H Q:=by
  obtain⟨F0,e0,z,e',R0,hf,q⟩:=h
  unfold l3 at hf
  obtain⟨⟨items,own,e1⟩,h1,hf⟩:=Option.bind_eq_some_iff.mp hf
  dsimp only at hf
  split at hf
  case isFalse=>cases hf
  case isTrue hO=>
  obtain⟨⟨out,eo⟩,h2,hf⟩:=Option.bind_eq_some_iff.mp hf
  dsimp only at hf
  split at hf
  case isFalse=>cases hf
  case isTrue hB=>
  cases hf
  refine⟨⟨F0,e0,items,own,e1,R0,h1,fun J F1 H1 X1 R1 kp ok=>?_⟩⟩
  intro l hl
  obtain⟨Ri,sub⟩:=R1.inn (nT:=nT) hn
  have hFl:F1 l=none:=R1.freeF hl
  let Iv:Nat→L2.St→Hp→Prop:=fun i=>CI K W (fw cp nT σ) F1 H1 (mF cp nT e1) l fun _ ei acc=>iI g ft fi2 g2 ft2 fe (items.drop i) ei acc=some (out,eo)
  have notown:∀p∈own,∀a,σ[p.1]?=some (some (.ref a))→¬cQ (fw cp nT σ) (mF cp nT e1) H1 a:=by
    rintro p hp a ha ⟨k,zf⟩
    obtain⟨xs,c1,c2⟩:=zf.resolve_right fun⟨xss,_,_,z,_⟩=>iN k xss z
    obtain⟨i,s,d1,d2⟩:=iM c1
    have e2:=lC d1 c2
    have:p.1=i:=R1.inj p.1 i p.2 xs a (kp p hp) d2 ha e2
    have hh:=List.all_eq_true.mp hO p hp
    simp only [Bool.not_eq_true',List.any_eq_false,beq_iff_eq] at hh
    exact hh (i,s) (List.mem_of_getElem? d1) this.symm
  refine⟨fun i m σ' H'=>m=items.length - i∧i≤items.length∧Iv i σ' H',⟨items.length,by simp,Nat.zero_le _,.mk (Ri.putT hFl (fun z=>(Ri.ownH l z) hl)).1 (di.refl.putT hl (Ri.putT hFl (fun z=>(Ri.ownH l z) hl)).2) hFl (fun z=>(Ri.ownH l (((Ri.putT hFl (fun z=>(Ri.ownH l z) hl)).2 l).mp z)) hl) ax aL.nil h2⟩,?_⟩
  rintro i m σ' H' ⟨rfl,hi,⟨R',X',fl,no,hl',da,hc⟩⟩
  rename_i F' ei acc vs
  have held:uU K σ F' H' own:=fun p hp=>by
    obtain⟨a,us,c1,c2,c3,c4⟩:=R1.own p.1 p.2 (kp p hp)
    exact⟨a,us,c1,X'.tmp a _ c3 (notown p hp a c1),c4.mono X'.sf⟩
  obtain⟨go,stop,yld⟩:=ok F' H' X'.sf R'.sm held
  by_cases hlt:i < items.length
  · have hd:items.drop i=items[i]::items.drop (i+1):=List.drop_eq_getElem_cons hlt
    rw [hd] at hc
    unfold iI at hc
    obtain⟨e2,c2,hc⟩:=Option.bind_eq_some_iff.mp hc
    obtain⟨⟨b,e3⟩,c3,hc⟩:=Option.bind_eq_some_iff.mp hc
    refine .inr ⟨go i hlt,Iv (i+1),fun σ2 H2 r=>⟨items.length - (i+1),by lia,rfl,hlt,r⟩,fun x H2 hy=>?_⟩
    obtain⟨F2,sH,sF2,sm2,fz,hx⟩:=yld i items[i] x H2 (List.getElem?_eq_getElem hlt) hy
    obtain⟨R2,X2⟩:=R'.step sH sF2 sm2 fz
    refine⟨F2,ei,items[i],e2,R2,hx,c2,fun σ3 X3 R3=>⟨F2,e2,b,e3,R3,c3,fun F4 H4 X4 R4=>?_⟩⟩
    have hlH2:H2 l=some (.lst vs):=sH _ _ hl'
    have no2:¬cQ σ' ei H2 l:=fun z=>by
      rcases X2.ow l z with z | z
      · exact no z
      · rw [hl'] at z;cases z
    have no3:¬cQ σ3 e2 H2 l:=fun z=>by
      rcases X3.own l z with z | z
      · exact no2 z
      · rw [hlH2] at z;cases z
    have fl2:F2 l=none:=fz l fl (by rw [hl'];simp)
    have hlH4:H4 l=some (.lst vs):=X4.tmp l _ hlH2 no3
    have fl4:F4 l=none:=X4.fr l vs fl2 hlH2 no3
    have no4:¬cQ σ3 e3 H4 l:=fun z=>by
      rcases X4.ow l z with z | z
      · exact no3 z
      · rw [hlH2] at z;cases z
    have E4:di W (fw cp nT σ) F1 H1 (mF cp nT e1) σ3 F4 H4 e3:=((X'.trans X2.s).trans X3).trans X4.s
    have da4:=da.mono (sF2.trans X4.sf)
    cases b with
    | false=>
      rw [if_neg (by simp)] at hc
      exact zg (.mk R4 E4 fl4 no4 hlH4 da4 hc)
    | true=>
      rw [if_pos rfl] at hc
      obtain⟨⟨its2,own2,e5⟩,c5,hc⟩:=Option.bind_eq_some_iff.mp hc
      dsimp only at hc
      split at hc
      case isFalse=>cases hc
      case isTrue ho2=>
      subst ho2
      obtain⟨⟨acc2,e6⟩,c6,hc⟩:=Option.bind_eq_some_iff.mp hc
      refine zh ⟨F4,e3,its2,[],e5,R4,c5,fun J2 F5 H5 X5 R5 _ ok2=>?_⟩
      have hlH5:H5 l=some (.lst vs):=X5.tmp l _ hlH4 no4
      have fl5:F5 l=none:=X5.fr l vs fl4 hlH4 no4
      have no5:¬cQ σ3 e5 H5 l:=fun z=>by
        rcases X5.ow l z with z | z
        · exact no4 z
        · rw [hlH4] at z;cases z
      let Iv2:Nat→L2.St→Hp→Prop:=fun j=>CI K W (fw cp nT σ) F1 H1 (mF cp nT e1) l fun F' ei acc=>av F5 F'∧bY g2 ft2 fe (its2.drop j) ei acc=some (acc2,e6)
      refine⟨fun j m σ' H'=>m=its2.length - j∧j≤its2.length∧Iv2 j σ' H',⟨its2.length,by simp,Nat.zero_le _,.mk R5 (E4.trans X5.s) fl5 no5 hlH5 (da4.mono X5.sf) ⟨av.refl _,c6⟩⟩,?_⟩
      rintro j m σ6 H6 ⟨rfl,hj,⟨R6,X6,fl6,no6,hl6,da6,s6,hc6⟩⟩
      rename_i F6 ei6 acc6 vs6
      obtain⟨go2,stop2,yld2⟩:=ok2 F6 H6 s6 R6.sm (fun p hp=>by cases hp)
      by_cases hjt:j < its2.length
      · have hd2:its2.drop j=its2[j]::its2.drop (j+1):=List.drop_eq_getElem_cons hjt
        rw [hd2] at hc6
        unfold bY at hc6
        obtain⟨e7,c7,hc6⟩:=Option.bind_eq_some_iff.mp hc6
        obtain⟨⟨b8,e8⟩,c8,hc6⟩:=Option.bind_eq_some_iff.mp hc6
        refine .inr ⟨go2 j hjt,Iv2 (j+1),fun σ2 H2 r=>⟨its2.length - (j+1),by lia,rfl,hjt,r⟩,fun x7 H7 hy7=>?_⟩
        obtain⟨F7,sH7,sF7,sm7,fz7,hx7⟩:=yld2 j its2[j] x7 H7 (List.getElem?_eq_getElem hjt) hy7
        obtain⟨R7,X7⟩:=R6.step sH7 sF7 sm7 fz7
        refine⟨F7,ei6,its2[j],e7,R7,hx7,c7,fun σ8 X8 R8=>⟨F7,e7,b8,e8,R8,c8,fun F9 H9 X9 R9=>?_⟩⟩
        have hlH7:H7 l=some (.lst vs6):=sH7 _ _ hl6
        have no7:¬cQ σ6 ei6 H7 l:=fun z=>by
          rcases X7.ow l z with z | z
          · exact no6 z
          · rw [hl6] at z;cases z
        have no8:¬cQ σ8 e7 H7 l:=fun z=>by
          rcases X8.own l z with z | z
          · exact no7 z
          · rw [hlH7] at z;cases z
        have fl7:F7 l=none:=fz7 l fl6 (by rw [hl6];simp)
        have hlH9:H9 l=some (.lst vs6):=X9.tmp l _ hlH7 no8
        have fl9:F9 l=none:=X9.fr l vs6 fl7 hlH7 no8
        have no9:¬cQ σ8 e8 H9 l:=fun z=>by
          rcases X9.ow l z with z | z
          · exact no8 z
          · rw [hlH7] at z;cases z
        have E9:di W (fw cp nT σ) F1 H1 (mF cp nT e1) σ8 F9 H9 e8:=((X6.trans X7.s).trans X8).trans X9.s
        have s9:av F5 F9:=(s6.trans sF7).trans X9.sf
        cases b8 with
        | false=>
          rw [if_neg (by simp)] at hc6
          exact zg (.mk R9 E9 fl9 no9 hlH9 (da6.mono (sF7.trans X9.sf)) ⟨s9,hc6⟩)
        | true=>
          rw [if_pos rfl] at hc6
          obtain⟨⟨r,e10⟩,c10,hc6⟩:=Option.bind_eq_some_iff.mp hc6
          obtain⟨d,c11,hc6⟩:=Option.bind_eq_some_iff.mp hc6
          split at hc6
          case isFalse=>cases hc6
          case isTrue hlen=>
          refine zh ⟨F9,e8,r,e10,R9,c10,fun Fa Ha v Xa Ra Aa=>?_⟩
          have hlHa:Ha l=some (.lst vs6):=Xa.tmp l _ hlH9 no9
          have fla:Fa l=none:=Xa.fr l vs6 fl9 hlH9 no9
          have noa:¬cQ σ8 e10 Ha l:=fun z=>by
            rcases Xa.ow l z with z | z
            · exact no9 z
            · rw [hlH9] at z;cases z
          obtain⟨Fb,Rb,sb,db,fb⟩:=cH.frozen Ra (rs:=[r]) (vs:=[v]) ⟨v,[],rfl,Aa,rfl⟩ (jO c11)
          have flb:Fb l=none:=fb l fla (by rw [hlH9];simp)
          have Xb:=Xa.frz sb fb
          have ll:=da6.len
          have sl:sizeLine=16777216:=sizeLine_eq
          have dv:DA K Fb d v:=by
            simp only [aL] at db
            obtain⟨v',r',e',hv,_⟩:=db
            cases e';exact hv
          obtain⟨Rc,oc⟩:=Rb.putT (ws:=vs6++[v]) flb noa
          exact⟨vs6,hlHa,by lia,.mk Rc ((E9.trans Xb.s).putT hl oc) flb (fun z=>noa ((oc l).mp z)) ax ((da6.mono (sF7.trans (X9.sf.trans (Xa.sf.trans sb)))).append (aL.one dv)) ⟨s9.trans (Xa.sf.trans sb),hc6⟩⟩
      · have hd2:its2.drop j=[]:=List.drop_eq_nil_of_le (by lia)
        rw [hd2] at hc6
        cases hc6
        exact .inl ⟨stop2 j (by lia),.mk R6 X6 fl6 no6 hl6 da6 hc⟩
  · have hd:items.drop i=[]:=List.drop_eq_nil_of_le (by lia)
    rw [hd] at hc
    cases hc
    refine .inl ⟨stop i (by lia),?_⟩
    obtain⟨R9,X9,o9⟩:=oj R1 sub iN X'.sf X'.dom X'.fr X'.lst X'.tmp R' (fun i k xs g1 g2=>X'.wr k fun z=>by
      obtain⟨s,g⟩:=ej g2
      have:=(List.getElem?_eq_some_iff.mp g).1
      have:=hW k z
      lia) fun i k xs g1 g2=>by
        obtain⟨s,g⟩:=ej g2
        unfold kd at hB
        have hb:=List.all_eq_true.mp hB _ (List.mem_of_getElem? g)
        simp only [g1,g2,Option.getD_some,w_,Bool.not_true,Bool.false_or] at hb
        exact uo.mp hb
    exact q F' H' (.ref l) (X1.trans X9) R9 ⟨l,vs,rfl,X1.dom l hl,fl,hl',da,fun z=>R1.ownH l (o9 l z) hl⟩
end
theorem PG.wide{X:Cx}{K:PySem.W.Frag}{tg:Expr}{g:FG}{W W':List Nat}(h:PG X tg (fG K g W))(hw:∀j,j∈W→j∈W'):PG X tg (fG K g W'):=h.mono fun v σ H Q ⟨F,e,x,e',R,d,hg,q⟩=>⟨F,e,x,e',R,d,hg,fun σ' x=>q σ' (x.mono hw)⟩
section
variable{X:Cx}{K:PySem.W.Frag}{pos:Pos}
theorem Ad{elt iter tg iter2 tg2:Expr}{ifs ifs2:List Expr}{scope:Scope}{fi fi2:FI}{g g2:FG}{ft ft2:FT}{fe:FE}{W W2:List Nat}(sc0:Scope)(N0:List Str)(cp:List (Nat × Str))(tgN:List Str)
    (hc:X.calm=true)(hsc:X.env.scope=sc0)(hN0:X.N=N0)(hi:PI X tg iter (fI K fi))
    (hg:∀C s0 H0 fp,PG (aJ X scope cp tgN C s0 H0 fp) tg (fG K g W))
    (ht:∀C s0 H0 fp,tT (aJ X scope cp tgN C s0 H0 fp) ifs (fT K ft))
    (hi2:∀C s0 H0 fp,PI (aJ X scope cp tgN C s0 H0 fp) tg2 iter2 (fI K fi2))
    (hg2:∀C s0 H0 fp,PG (aJ X scope cp tgN C s0 H0 fp) tg2 (fG K g2 W2))
    (ht2:∀C s0 H0 fp,tT (aJ X scope cp tgN C s0 H0 fp) ifs2 (fT K ft2))
    (he:∀C s0 H0 fp,PE (aJ X scope cp tgN C s0 H0 fp) elt (fE K fe))
    (hk:scope.kind=.function)(hcell:∀y∈scope.names,y.2≠.cell)(hnames:∀y∈scope.names,y.2=.local→scope.names.lookup y.1=some .local)
    (hfr:∀y∈scope.names,y.2=.free→scope.names.lookup y.1=some .free∧sc0.names.lookup y.1=some .cell)
    (hcp:∀p∈cp,N0[p.1]?=some p.2)(hcq:∀p∈cp,sc0.names.lookup p.2=some .cell∧scope.names.lookup p.2=some .free)(hnd:(cp.map (·.1)).Nodup)(hW:∀j∈W++W2,cp.length≤j)
    (hs2:∀C s0 H0 fp x,foldedSetIterable iter2 (aJ X scope cp tgN C s0 H0 fp).env x=pure x)(hs:∀x,foldedSetIterable iter X.env x=pure x):
    PE X (.ListComp elt [⟨tg,iter,ifs,0⟩,⟨tg2,iter2,ifs2,0⟩] scope pos) (fE K (l3 cp tgN.length fi g ft fi2 g2 ft2 fe)):=
  (xF sc0 N0 cp tgN hc hsc hN0 hi (fun C s0 H0 fp=>(hg C s0 H0 fp).wide fun j hj=>List.mem_append_left W2 hj) ht hi2 (fun C s0 H0 fp=>(hg2 C s0 H0 fp).wide fun j hj=>List.mem_append_right W hj) ht2 he hk hcell hnames hfr hcp hcq hs2 hs).mono fun _ _ _ h=>vY hnd hW h
end
section
variable{X:Cx}{K:PySem.W.Frag}{pos:Pos}
variable{o:Expr}{fo:FE}{apos cpos:Pos}
end
end L2
namespace L2
open PySem PySem.Spec PyProof.Rows
section
variable{X:Cx}{K:PySem.W.Frag}
def Gq:List Int→Int
  | []=>0
  | x::r=>r.foldl max x
end
end L2
namespace L2
open PySem PySem.Spec PyProof.Rows
structure GB (f:Fr):Prop where
  pos:0 < f.2
  cop:Int.gcd f.1 f.2=1
abbrev Pg:=List Int × Int
def Gr(t:pU)(p:Pg):Bool:= !p.1.contains t.one&& !p.1.contains t.other
def E7(t:pU)(p:Pg):Pg:=(p.1++[t.one,t.other],p.2+t.worth)
def Gu(ps:List Pg)(t:pU):List Pg:=ps++(ps.filter (Gr t)).map (E7 t)
def Gs(ts:List pU):List Pg:=ts.foldl Gu [([],0)]
structure FZ (k:Nat) (ps:List Pg):Prop where
  ne:ps≠[]
  len:ps.length≤2 ^ k
  pt:∀p∈ps,p.1.length≤2*k∧0≤p.2∧p.2≤1000*(k:Int)
def Ga(ts:List pU):Int:=Gq ((Gs ts).map (·.2))
end L2
namespace L2
open PySem PySem.Spec PyProof.Rows
end L2
namespace L2
open PySem PySem.Spec PyProof.Rows
section
variable{prog:Program}{w:World}{A:Around}{E:Value→Shared→Prop}{s:Shared}
end
section
variable{X:Cx}{a:Expr}{ta:TA}{p p2 pos pos2:Pos}
variable{K:PySem.W.Frag}{fs:FA}{p3:Pos}
end
end L2
namespace L2
open PySem PySem.Spec PyProof.Rows
def A6:PyData→Bool
  | .int _=>true
  | _=>false
theorem o6{α:Type}(p:α→Bool):∀(ds:List α),m7 (ds.map fun d=>PyData.bool (p d))=some (ds.map p)
  | []=>rfl
  | d::r=>by simp [m7,o6 p r]
theorem nj{α:Type}{e:En}(p:α→Bool)(ds:List α):g1 (j8 ml) e [.l (ds.map fun d=>.bool (p d))]=some (.d (.bool (ds.all p))):=by
  simp [g1,j8,el,ml,o6 p,List.all_map]
theorem lM{g:FG}{ft:FT}{fe:FE}(P:Nat→En→Prop)(R:PyData→Prop):∀(items:List PyData) (k:Nat) (e:En) (acc:List PyData),(∀i x e,items[i]?=some x→P (k+i) e→∃e1 r d e2,g x e=some e1∧ft e1=some (true,e1)∧fe e1=some (r,e2)∧ki r=some d∧R d∧P (k+i+1) e2)→P k e→acc.length+items.length≤1000000→
    ∃out e',bY g ft fe items e acc=some (acc++out,e')∧out.length=items.length∧(∀d∈out,R d)∧P (k+items.length) e'
  | [],k,e,acc,_,h,_=>⟨[],e,by simp [bY],rfl,(fun _ h=>by cases h),h⟩
  | x::r,k,e,acc,hs,h,hl=>by
    obtain⟨e1,v,d,e2,h1,h2,h3,h3',h4,h5⟩:=hs 0 x e rfl h
    simp only [List.length_cons] at hl
    obtain⟨out,e',h6,h7,h8,h9⟩:=lM P R r (k+1) e2 (acc++[d]) (fun i y e hy hp=>by
      have:=hs (i+1) y e (by simpa using hy) (by rw [show k+(i+1)=k+1+i by lia];exact hp)
      rw [show k+(i+1)+1=k+1+i+1 by lia] at this
      exact this) (by simpa using h5) (by simp;lia)
    refine⟨d::out,e',?_,by simp [h7],fun y hy=>?_,by rw [List.length_cons,show k+(r.length+1)=k+1+r.length by lia];exact h9⟩
    · unfold bY
      simp only [h1,h2,h3,h3',Option.bind_some,if_true]
      rw [if_pos (by lia),h6]
      simp
    · rcases List.mem_cons.mp hy with rfl | hy
      · exact h4
      · exact h8 y hy
theorem pP{cp:List (Nat × Str)}{nT:Nat}{fi:FI}{g:FG}{ft:FT}{fe:FE}{e e1 eo:En}{items out:List PyData}(h1:fi e=some (items,[],e1))(h3:bY g ft fe items (mF cp nT e1) []=some (out,eo))(hb:kd cp eo e1=true):ed cp nT fi g ft fe e=some (.l out,lF (k_ cp) eo e1):=by
  unfold ed
  rw [h1]
  simp only [Option.bind_some,List.all_nil,if_true,h3]
  rw [if_pos hb]
theorem jT{own:hZ}{g:FG}{f:FS}{Z:Rv}(ok:PyData→Bool)(P Q:En→Prop):∀(items:List PyData) (e:En),(∀x∈items,∀e,P e→∃e1,g x e=some e1∧(ok x=true→∃e2,f e1=some (.nx e2)∧keeps own e2∧P e2)∧(ok x=false→∃e2,f e1=some (.rt Z e2)∧Q e2))→P e→
    (items.all ok=true→∃e',gD own g f items e=some (.nx e')∧P e')∧(items.all ok=false→∃e',gD own g f items e=some (.rt Z e')∧Q e')
  | [],e,_,h=>⟨fun _=>⟨e,rfl,h⟩,fun z=>by simp at z⟩
  | x::r,e,hs,h=>by
    obtain⟨e1,h1,h2,h3⟩:=hs x (by simp) e h
    rw [List.all_cons]
    cases c:ok x with
    | true=>
      obtain⟨e2,h4,h5,h6⟩:=h2 c
      have ih:=jT ok P Q r e2 (fun y hy=>hs y (by simp [hy])) h6
      rw [Bool.true_and]
      have e0:gD own g f (x::r) e=gD own g f r e2:=by
        simp only [gD,h1,h4,Option.bind_some]
        rw [if_pos h5]
      rw [e0]
      exact ih
    | false=>
      obtain⟨e2,h4,h5⟩:=h3 c
      refine⟨fun z=>by simp at z,fun _=>⟨e2,?_,h5⟩⟩
      simp only [gD,h1,h4,Option.bind_some]
end L2
namespace L2
open PySem PySem.Spec PyProof.Rows
mutual
def wt:PyData→Nat
  | .list xs=>yG xs+1
  | .tuple xs=>yG xs+1
  | .dict _=>1
  | .none=>1
  | .bool _=>1
  | .int _=>1
  | .str _=>1
def yG:List PyData→Nat
  | []=>0
  | x::r=>wt x+yG r
end
structure Gz (d:PyData) (k:Nat):Prop where
  lay:d.canLay0=true
  sh:d.showable=true
  dp:d.depth≤k
  ln:d.shown.length+2≤104*wt d
  so:PyData.strOk d.shown=true
def mI(n:Int):PyData→Bool
  | .tuple ds=>(ds.length:Int)==n
  | _=>false
def qN:PyData→Bool
  | .tuple [.int t,.int b]=>decide (1≤b)&&decide (Int.gcd t b=1)
  | _=>false
theorem wQ{e:En}{xs:List PyData}{neg:Bool}(hs:SeqAt.shaped (.tuple xs)=true):bR neg e (.d (.tuple xs)) (.d (.tuple []))=some (.d (.bool (if neg then !xs.isEmpty else xs.isEmpty))):=by
  unfold bR
  simp only [i7,Option.bind_some,hs]
  have h0:SeqAt.shaped (.tuple [])=true:=by simp [SeqAt.shaped,PyData.canLay0,PyData.canLayAll0,PyData.depth,PyData.depthAll]
  rw [h0]
  cases xs<;>simp [PyData.eqv,PyData.eqvAll]
theorem Fy{d:PyData}(h:mI 2 d=true):∃x y,d=.tuple [x,y]:=by
  cases d with
  | tuple ds=>
    rcases ds with _ | ⟨x,_ | ⟨y,_ | ⟨z,r⟩⟩⟩
    · simp [mI] at h
    · simp [mI] at h
    · exact⟨x,y,rfl⟩
    · simp [mI] at h;lia
  | _=>simp [mI] at h
theorem uq{d:PyData}(h:A6 d=true):∃i,d=.int i:=by
  cases d with
  | int i=>exact⟨i,rfl⟩
  | _=>simp [A6] at h
theorem kQ{e:En}{a b c d:Int}:bR false e (.d (.tuple [.int a,.int b])) (.d (.tuple [.int c,.int d]))=some (.d (.bool (a==c&&b==d))):=by
  unfold bR
  have h0:∀x y:Int,SeqAt.shaped (.tuple [.int x,.int y])=true:=fun x y=>by simp [SeqAt.shaped,PyData.canLay0,PyData.canLayAll0,PyData.depth,PyData.depthAll]
  simp only [i7,Option.bind_some,h0,Bool.and_self,if_true]
  simp [PyData.eqv,PyData.eqvAll]
theorem By{b:Int}(h:b.natAbs.log2 < 1920)(h0:b≠0):Bt 4000 b:=Bt.mono (m:=1920) ((Nat.log2_lt (by lia)).mp h) (by decide)
theorem zl{t b:Int}(hb:0 < b):((bo t b).1==t&&(bo t b).2==b)=decide (Int.gcd t b=1):=by
  rw [Bool.eq_iff_iff]
  simp only [Bool.and_eq_true,beq_iff_eq,decide_eq_true_eq]
  constructor
  · rintro⟨h1,h2⟩
    have:=jv (t:=t) (b:=b) (by lia)
    rwa [h1,h2] at this
  · intro h
    unfold bo
    rw [if_neg (by lia),h]
    simp
theorem wg{ds:List PyData}(h:PyData.showableAll ds=true):∀d∈ds,d.showable=true:=fun d hd=>by
  induction ds with
  | nil=>cases hd
  | cons x r ih=>
    simp only [PyData.showableAll,Bool.and_eq_true] at h
    rcases List.mem_cons.mp hd with rfl | hd
    · exact h.1
    · exact ih h.2 hd
end L2
namespace L2
open PySem PySem.Spec PyProof.Rows
section
variable{X:Cx}{K:PySem.W.Frag}
variable{a b:Expr}{fa fb:FE}{pos:Pos}
end
end L2
namespace L2
open PySem PySem.Spec PyProof.Rows
def tx(s:Str):List Nat:=s.cps.toList
end L2
namespace L2
open PySem PySem.Spec PyProof.Rows
theorem qM{W:aM}{T:List Nd}:∀m,(iZ W T m).length=T.length
  | 0=>by simp [iZ]
  | m+1=>by
    rw [iZ]
    split
    · unfold wd1;rw [List.length_set];exact qM m
    · exact qM m
end L2
namespace L2
open PySem PySem.Spec PyProof.Rows
end L2
namespace L2
open PySem PySem.Spec PyProof.Rows
section
variable{X:Cx}{K:PySem.W.Frag}{es:List Expr}{k0:Nat}{tp:Pos}{a b:Expr}{fs:FA}{p pos:Pos}
end
end L2
namespace L2
open PySem PySem.Spec PyProof.Rows
def i9(x:Nd)(b:Bool):Int:=if b=true then x.yes else x.no
def uv(T:List Nd)(i:Nat)(b:Bool):Int:=match T[i]? with
  | some x=>i9 x b
  | none=> -1
theorem nD{T:List Nd}{i:Nat}{x:Nd}{b:Bool}(h:T[i]?=some x):uv T i b=i9 x b:=by unfold uv;rw [h]
theorem jt{T:List Nd}{i:Nat}{b:Bool}(h:T[i]?=none):uv T i b= -1:=by unfold uv;rw [h]
theorem xi{x:Nd}{s n:Int}{b:Bool}(hs:s=0∨s=1):i9 (gF x s n) b=if b=(s==0) then n else i9 x b:=by
  rcases hs with rfl | rfl<;>cases b<;>simp [i9,gF]
def E5(T:List Nd):Prop:=∀(i j:Nat) (a b:Bool),uv T i a=uv T j b→uv T i a≠ -1→i=j∧a=b
def AE(w:Wt):Int × Int:=(w.par,w.side)
structure uV (T:List Nd) (ws:List Wt):Prop where
  unq:E5 T
  rng:∀i a,uv T i a= -1∨(0 < uv T i a∧uv T i a < (T.length:Int))
  free:∀w∈ws,w.par= -1∨(0≤w.par∧w.par < (T.length:Int)∧uv T w.par.toNat (w.side==0)= -1)
  dst:(ws.map AE).Nodup
  side:∀w∈ws,w.side=0∨w.side=1
theorem uV.first{s:fJ}:uV [] [⟨s, -1,0⟩]:=⟨fun i j a b _ h=>absurd (jt (by simp)) h,fun i a=>.inl (jt (by simp)),fun w hw=>by simp at hw;subst hw;exact .inl rfl,by simp,fun w hw=>by simp at hw;subst hw;exact .inl rfl⟩
theorem uV.less{T:List Nd}{w:Wt}{ws:List Wt}(h:uV T (w::ws)):uV T ws:=⟨h.unq,h.rng,fun v hv=>h.free v (by simp [hv]),(List.nodup_cons.mp h.dst).2,fun v hv=>h.side v (by simp [hv])⟩
theorem xh{T:List Nd}{p s k:Int}{i:Nat}{a:Bool}(hs:s=0∨s=1)(hp:p= -1∨(0≤p∧p < (T.length:Int))):
    uv ((if 0≤p then T.modify p.toNat (fun x=>gF x s T.length) else T)++[⟨k, -1, -1⟩]) i a=if (i:Int)=p∧a=(s==0) then(T.length:Int) else uv T i a:=by
  generalize hT:(if 0≤p then T.modify p.toNat (fun x=>gF x s T.length) else T)=T'
  have len:T'.length=T.length:=by rw [←hT];split<;>simp
  by_cases c:i < T.length
  · have hx:T[i]?=some T[i]:=List.getElem?_eq_getElem c
    generalize T[i]=x at hx
    by_cases e:(i:Int)=p
    · have e2:p.toNat=i:=by lia
      have:(T'++[(⟨k, -1, -1⟩:Nd)])[i]?=some (gF x s T.length):=by
        rw [List.getElem?_append_left (by lia),←hT,if_pos (by lia),List.getElem?_modify,e2,hx]
        simp
      rw [nD this,xi hs,nD hx]
      simp [e]
    · have:(T'++[(⟨k, -1, -1⟩:Nd)])[i]?=some x:=by
        rw [List.getElem?_append_left (by lia),←hT]
        split
        · rw [List.getElem?_modify,hx]
          have:¬p.toNat=i:=by lia
          simp [this]
        · exact hx
      rw [nD this,nD hx,if_neg (fun z=>e z.1)]
  · rw [if_neg (fun z=>by lia),jt (T:=T) (List.getElem?_eq_none (by lia))]
    by_cases d:i=T.length
    · subst d
      rw [nD (x:=⟨k, -1, -1⟩) (by rw [List.getElem?_append_right (by lia),len];simp)]
      cases a<;>rfl
    · exact jt (List.getElem?_eq_none (by simp [len];lia))
theorem uV.more{T:List Nd}{w:Wt}{ws:List Wt}{k:Int}{s1 s2:fJ}(h:uV T (w::ws)):
    uV ((if 0≤w.par then T.modify w.par.toNat (fun x=>gF x w.side T.length) else T)++[⟨k, -1, -1⟩]) (ws++[⟨s1,T.length,0⟩,⟨s2,T.length,1⟩]):=by
  have hs:=h.side w (by simp)
  have hp:w.par= -1∨(0≤w.par∧w.par < (T.length:Int)):=(h.free w (by simp)).imp id fun z=>⟨z.1,z.2.1⟩
  have F:=fun i a=>xh (T:=T) (k:=k) (i:=i) (a:=a) hs hp
  have len:((if 0≤w.par then T.modify w.par.toNat (fun x=>gF x w.side T.length) else T)++[(⟨k, -1, -1⟩:Nd)]).length=T.length+1:=by
    rw [List.length_append];split<;>simp
  generalize (if 0≤w.par then T.modify w.par.toNat (fun x=>gF x w.side T.length) else T)++[(⟨k, -1, -1⟩:Nd)]=T' at F len
  have hd:=h.dst
  rw [List.map_cons,List.nodup_cons] at hd
  refine⟨fun i j a b e n=>?_,fun i a=>?_,fun v hv=>?_,?_,fun v hv=>?_⟩
  · rw [F,F] at e
    rw [F] at n
    have r1:=h.rng i a
    have r2:=h.rng j b
    by_cases c1:(i:Int)=w.par∧a=(w.side==0)
    · by_cases c2:(j:Int)=w.par∧b=(w.side==0)
      · exact⟨by lia,by rw [c1.2,c2.2]⟩
      · rw [if_pos c1,if_neg c2] at e
        lia
    · by_cases c2:(j:Int)=w.par∧b=(w.side==0)
      · rw [if_neg c1,if_pos c2] at e
        lia
      · rw [if_neg c1,if_neg c2] at e
        rw [if_neg c1] at n
        exact h.unq i j a b e n
  · rw [F,len]
    split
    · rename_i c;right;lia
    · have:=h.rng i a;lia
  · rw [len]
    rcases List.mem_append.mp hv with hv | hv
    · rcases h.free v (by simp [hv]) with z | ⟨z1,z2,z3⟩
      · exact .inl z
      · refine .inr ⟨z1,by lia,?_⟩
        rw [F,if_neg ?_]
        · exact z3
        · intro ⟨c1,c2⟩
          refine hd.1 (List.mem_map.mpr ⟨v,hv,?_⟩)
          have e1:v.par=w.par:=by lia
          have e2:v.side=w.side:=by
            rcases h.side v (by simp [hv]) with q | q<;>rcases hs with r | r<;>rw [q,r] at c2 ⊢<;>simp at c2
          unfold AE
          rw [e1,e2]
    · have:v.par=(T.length:Int):=by
        simp only [List.mem_cons,List.not_mem_nil,or_false] at hv
        rcases hv with rfl | rfl<;>rfl
      refine .inr ⟨by lia,by lia,?_⟩
      rw [this,F,if_neg (by lia)]
      exact jt (List.getElem?_eq_none (by simp))
  · rw [List.map_append,List.nodup_append]
    refine⟨hd.2,by simp [AE],fun x hx y hy=>?_⟩
    obtain⟨v,hv,rfl⟩:=List.mem_map.mp hx
    have hv2:=h.free v (by simp [hv])
    intro e
    have:y.1=(T.length:Int):=by
      simp only [List.map_cons,List.map_nil,List.mem_cons,List.not_mem_nil,or_false,AE] at hy
      rcases hy with rfl | rfl<;>rfl
    rw [←e] at this
    have:v.par=(T.length:Int):=this
    lia
  · rcases List.mem_append.mp hv with hv | hv
    · exact h.side v (by simp [hv])
    · simp only [List.mem_cons,List.not_mem_nil,or_false] at hv
      rcases hv with rfl | rfl
      · exact .inl rfl
      · exact .inr rfl
structure GC (T:List Nd) (w0 ws order:List Int):Prop where
  nd:(order++ws).Nodup
  par:∀v∈order++ws,v=0∨∃u∈order,∃b,uv T u.toNat b=v∧v≠ -1
  fst:(order=[]∧ws=w0)∨order[0]?=some 0
theorem li{W:aM}{T:List Nd}:∀m,(fg W T m).length=T.length
  | 0=>by simp [fg]
  | m+1=>by
    rw [fg]
    split
    · unfold rL;rw [nR,nR];exact li m
    · exact li m
theorem l7{cs:En}{g g2:FG}{ft ft2:FT}{fi2:FI}{fe:FE}{f:PyData→List PyData}(n:Nat):∀(items:List PyData) (t:En) (acc:List PyData),t.length=n→(∀x∈items,(f x).length≤2)→(∀x∈items,∀(t:En) (acc:List PyData),t.length=n→acc.length+2≤1000000→∃e1 e2 its e3 t',g x (cs++t)=some e1∧ft e1=some (true,e2)∧fi2 e2=some (its,[],e3)∧bY g2 ft2 fe its e3 acc=some (acc++f x,cs++t')∧t'.length=n)→acc.length+2*items.length≤1000000→
    ∃t',t'.length=n∧iI g ft fi2 g2 ft2 fe items (cs++t) acc=some (acc++items.flatMap f,cs++t')
  | [],t,acc,h,_,_,_=>⟨t,h,by simp [iI]⟩
  | x::r,t,acc,h,hf,hs,hl=>by
    simp only [List.length_cons] at hl
    obtain⟨e1,e2,its,e3,t1,a1,a2,a3,a4,a5⟩:=hs x (by simp) t acc h (by lia)
    have:=hf x (by simp)
    obtain⟨t',b1,b2⟩:=l7 n r t1 (acc++f x) a5 (fun y hy=>hf y (by simp [hy])) (fun y hy=>hs y (by simp [hy])) (by rw [List.length_append];lia)
    refine⟨t',b1,?_⟩
    unfold iI
    simp only [a1,a2,a3,a4,b2,Option.bind_some,if_true,List.flatMap_cons,List.append_assoc]
theorem vX{cp:List (Nat × Str)}{nT:Nat}{fi fi2:FI}{g g2:FG}{ft ft2:FT}{fe:FE}{e e1 cs:En}{t t':En}{items out:List PyData}(h1:fi e=some (items,[],e1))(hc:mF cp nT e1=cs++t)(hl:cs.length=cp.length)(h3:iI g ft fi2 g2 ft2 fe items (mF cp nT e1) []=some (out,cs++t')):l3 cp nT fi g ft fi2 g2 ft2 fe e=some (.l out,e1):=by
  have key:=gB (cp:=cp) (nT:=nT) (fi:=fun _=>some ([.none],[],e1)) (g:=fun _ _=>some (cs++t')) (ft:=fun e=>some (false,e)) (fe:=fe) (e:=e) (cs:=cs) (t:=t) (t':=t') (out:=[]) rfl hc hl rfl
  have c0:bY (fun _ _=>some (cs++t')) (fun e=>some (false,e)) fe [.none] (mF cp nT e1) []=some ([],cs++t'):=rfl
  unfold ed at key
  unfold l3
  rw [h1]
  simp only [Option.bind_some,List.all_nil,if_true,h3,c0] at key ⊢
  split at key
  · rename_i q
    rw [if_pos q]
    have:=Option.some.inj key
    have e2:lF (k_ cp) (cs++t') e1=e1:=(Prod.ext_iff.mp this).2
    rw [e2]
  · cases key
end L2
namespace L2
open PySem PySem.Spec PyProof.Rows
section
variable{prog:Program}{w:World}{A:Around}{E:Value→Shared→Prop}{s:Shared}
end
section
variable{X:Cx}{tg a:Expr}{ta:TA}{p pos:Pos}
end
section
variable{X:Cx}{K:PySem.W.Frag}{σ:L2.St}{tg a:Expr}{fs:FA}{p pos:Pos}
end
end L2
namespace L2
open PySem PySem.Spec PyProof.Rows
section
variable{X:Cx}{a k:Expr}{p2 pos:Pos}{fa fk:FE}{K:PySem.W.Frag}
def Gw(K:PySem.W.Frag)(te tk:TE):TE:=fun σ H Q=>te σ H fun x H1=>tk σ H1 fun y H2=>y=.int (-1)∧∃a xs,x=.ref a∧cX K H2 a xs∧∀p,H2 p=none→Q (.ref p) (bj H2 p (.lst xs.reverse))
theorem D4{te tk:TE}(he:PE X a te)(hk:PE X k tk):PE X (.Subscript a (.Slice none none (some k) p2) pos) (Gw X.K te tk):=by
  intro pins s σ H Q I h
  refine Subscript_ (ci (he pins s σ H _ I h) fun v s1 ⟨x,H1,I1,r1,q1⟩=>?_)
  refine wpAny_Slice ?_
  rw [evalPart_none]
  refine wpAny_pure (wpAny_pure ?_)
  refine ci (hk pins s1 σ H1 _ I1 q1) fun vk s3 ⟨y,H3,I3,rk,e,b,xs,ex,hx,q⟩=>?_
  subst e ex
  cases r1
  obtain⟨t,rfl⟩:∃t,vk=.int (-1) t:=rk
  have I4:aF X pins σ H3 {s3 with heap:=s3.heap.push {cls:=.type "slice",data:=.fields #[.none,.none,.int (-1) t]}}:=I3.kept (t':=s3.toks) fun b ob q=>Heap.get?_push_of_some _ q
  obtain⟨its,r,ht,hz⟩:=I4.list hx
  have hlen:=r.length
  show wpAny (model X.prog X.w) X.A (subscriptTail a (.Slice none none (some k) p2) (.ref b) (.ref s3.heap.objs.size)) (EP X pins σ Q) X.xe {s3 with heap:=s3.heap.push {cls:=.type "slice",data:=.fields #[.none,.none,.int (-1) t]}}
  refine tail_any (T:="list") ht.isList.typeIs slot_list_getitem.lookup ?_ (by with_unfolding_all rfl)
  refine wpAny_getItem_list_slice ht.isList (Heap.IsSliceOf.new ..) .none .none (.int (-1) t) (by decide) ?_ (by rw [List.size_toArray]<;>lia)
  rw [PySem.W.krv_pick]
  refine⟨.ref _,_,I4.laid (t':=s3.toks) (o:=.lst xs.reverse) (fun b ob q=>Heap.get?_push_of_some _ q) (Nat.le_refl _) ?_,rfl,q _ (I4.hok.fresh (Nat.le_refl _))⟩
  exact⟨by rw [List.length_reverse];exact hz,_,0,r.reverse,Heap.get?_push_size _ rfl⟩
def ES(e:En)(x y:Rv):Option Rv:=match y with
  | .d (.int i)=>if i= -1 then(el e x).bind fun p=>if p.1=true then some (.l p.2.reverse) else none else none
  | _=>none
def EH(fa fk:FE):FE:=fun e=>(fa e).bind fun p=>(fk p.2).bind fun k=>(ES k.2 p.1 k.1).map fun z=>(z,k.2)
theorem ue:∀{F:Hp} {ds:List PyData} {vs:List V},aL K F ds vs→aL K F ds.reverse vs.reverse
  | F,[],vs,h=>by simp only [aL] at h;subst h;exact aL.nil
  | F,d::ds,vs,h=>by
    simp only [aL] at h
    obtain⟨v,ws,rfl,h1,h2⟩:=h
    rw [List.reverse_cons,List.reverse_cons]
    exact(ue h2).append (aL.one h1)
theorem D'(he:PE X a (fE X.K fa))(hk:PE X k (fE X.K fk)):PE X (.Subscript a (.Slice none none (some k) p2) pos) (fE X.K (EH fa fk)):=(D4 he hk).mono fun σ H Q h=>by
  obtain⟨F,e,z,e',R,hf,q⟩:=h
  unfold EH at hf
  obtain⟨⟨x,e1⟩,h1,hf⟩:=Option.bind_eq_some_iff.mp hf
  obtain⟨⟨y,e2⟩,h2,hf⟩:=Option.bind_eq_some_iff.mp hf
  obtain⟨z',h4,hf⟩:=Option.map_eq_some_iff.mp hf
  cases hf
  refine⟨F,e,x,e1,R,h1,fun F1 H1 v X1 R1 A1=>⟨F1,e1,y,_,R1,h2,fun F2 H2 u X2 R2 A2=>?_⟩⟩
  unfold ES at h4
  split at h4
  · rename_i i hy
    have hy:y=.d (.int i):=hy
    subst hy
    by_cases hi:i= -1
    case neg=>rw [if_neg hi] at h4;cases h4
    rw [if_pos hi] at h4
    subst hi
    obtain⟨⟨b,xs⟩,h5,h4⟩:=Option.bind_eq_some_iff.mp h4
    cases b with
    | false=>cases h4
    | true=>
      cases h4
      obtain⟨p,vs,rfl,d1,s1⟩:=dY R2 (A1.ext X2) h5
      refine⟨by first | exact A2 | cases A2;rfl,p,vs,rfl,s1,fun t ht=>?_⟩
      obtain⟨R4,X4,hF,no⟩:=R2.newL (vs:=vs.reverse) ht
      exact q _ _ _ ((X1.trans X2).trans X4) R4 ⟨t,_,rfl,(X1.trans X2).dom _ ht,hF,ax,ue d1,no⟩
  · cases h4
theorem Fv(hK:X.K=K)(he:PE X a (fE K fa))(hk:PE X k (fE K fk)):PE X (.Subscript a (.Slice none none (some k) p2) pos) (fE K (EH fa fk)):=by subst hK;exact D' he hk
end
end L2
namespace V19
open PySem PySem.Spec PyProof.Rows L2
variable{P:Program}{w:World}{K:W.Frag}{mg:Str→Option Value}{base:Heap}{f:Addr}{fd:FuncData}
local macro_rules|`(tactic|trivial)=>`(tactic|first|exact .inl rfl|exact .inr rfl|assumption)
local macro_rules|`(¬$n:num)=>`(@qw _ _ $n _ _ (by rfl) (by rfl) (by decide))
local macro_rules|`($a∘$b)=>`(@Fw _ _ _ _ _ _ $a $b (by rfl))
def top(i:Nat):Stmt:=PySem.Challenge.pw_askedpairs_k19_papers_made_up.main.body.getD i (.Pass ⟨0,0,0,0⟩)
theorem mi{α:Type u}{β:Type v}{f:α→β}:List.map f []=[]:=rfl
theorem mh{α:Type u}{β:Type v}{f:α→β}{a:α}{l:List α}:List.map f (a::l)=f a::List.map f l:=rfl
theorem ma{α:Type u}{l:List α}:[]++l=l:=rfl
theorem l_{α:Type u}{a:α}{l m:List α}:(a::l)++m=a::(l++m):=rfl
theorem me{α:Type u}{a:α}{l:List α}:(a::l)[0]?=some a:=rfl
theorem mf{α:Type u}{a:α}{l:List α}{i:Nat}:(a::l)[i+1]?=l[i]?:=rfl
theorem md{α:Type u}{β:Type v}{a:α}{f:α→Option β}:Option.bind (some a) f=f a:=rfl
theorem mj{α:Type u}{β:Type v}{a:α}{f:α→β}:Option.map f (some a)=some (f a):=rfl
abbrev ce:Stmt:=top 3
abbrev eW:Stmt:=top 4
abbrev nW:Stmt:=top 5
abbrev jZ:Stmt:=top 6
abbrev ek:Stmt:=top 7
abbrev eV:Stmt:=top 9
abbrev dA:Stmt:=top 10
abbrev dg:Stmt:=top 11
abbrev bi:Stmt:=top 12
abbrev eU:Stmt:=top 15
abbrev dW:Stmt:=top 16
abbrev dX:Stmt:=top 17
abbrev gc:Stmt:=top 18
abbrev cC:Stmt:=top 19
abbrev cf:Stmt:=top 20
abbrev lq:Stmt:=top 22
abbrev lm:Stmt:=top 23
abbrev iU:Stmt:=top 24
abbrev rM:Stmt:=top 25
abbrev nS:Stmt:=top 26
abbrev lX:Stmt:=top 27
abbrev gX:Stmt:=top 28
abbrev jD:Stmt:=top 29
abbrev nU:Stmt:=top 30
abbrev jC:Stmt:=top 31
abbrev ls:Stmt:=top 32
abbrev nV:Stmt:=top 33
abbrev rO:Stmt:=top 34
abbrev gb:Stmt:=top 35
abbrev rN:Stmt:=top 36
abbrev jB:Stmt:=top 37
abbrev f_:Stmt:=top 38
abbrev jY:Stmt:=top 39
abbrev jE:Stmt:=top 40
abbrev iw:Stmt:=top 41
abbrev iu:Stmt:=top 42
abbrev ix:Stmt:=top 43
abbrev dU:Stmt:=top 44
abbrev df:Stmt:=top 45
abbrev lu:Stmt:=top 46
structure h_ (mg:Str→Option Value):Prop where
  b_abs:mg "abs"=none
  b_len:mg "len"=none
  b_min:mg "min"=none
  b_max:mg "max"=none
  b_range:mg "range"=none
  b_tuple:mg "tuple"=none
  b_int:mg "int"=none
  b_sorted:mg "sorted"=none
  b_zip:mg "zip"=none
  b_enumerate:mg "enumerate"=none
  b_isinstance:mg "isinstance"=none
  b_bool:mg "bool"=none
  b_all:mg "all"=none
noncomputable def bJ:FT:=(aH (ar (bR true) (ac 1) (vC (.int 0))))
noncomputable def cq:FS:=(mJ 0 1 (aa (ac 1) (aa (ar a9 (ac 0) (ac 1)) ah)))
noncomputable def ie:FS:=(aD (iV (2 ^ 4200) bJ cq)
    (aY (aQ (g1 sG) (aa (ac 0) ah))))
noncomputable def cc:FM:=fC 2 0 ([0,1]++[]) ie
theorem gY:aB ["one","other"] ["one","other"] (am ce):=⟨rfl,rfl,rfl,by decide+kernel,rfl,by decide+kernel,by decide+kernel⟩
theorem k8(h:aV K mg "common_divisor" ce f fd ["one","other"])(T:h_ mg):aC P w K mg base bv 1 f fd ["one","other"] (bA K 2 cc):=by
  have nd:=gY.nd
  exact h.fn gY rfl rfl (fun cdv A outer s H E hr=>(@ag _ _ _ _ _ _ _ _ (@lh _ _ _ _ _ _ _ _ _ PassesOwn.never (@aX _ _ _ _ _ _ _ _ _ (@m_ _ _ _ rfl hr) (¬1) ae (aU _))
      (@aj _ _ _ _ _ (@x8 _ _ _ _ _ 0 1 _ _ _ _ _ _ _ _ _ rfl nd rfl rfl (by decide) rfl rfl ((¬1)∘((@aZ _ _ _ _ _ _ _ (¬0) (¬1))∘ab)) (by rfl) (by rfl))))
      (@aj _ _ _ _ _ (@az _ _ _ _ _ (@bf _ _ _ _ _ _ _ _ _ (@b_abs _ _) (by rfl) T.b_abs ((¬0)∘ab) (by decide) (by decide) (by rfl) (by rfl))))))
noncomputable def qU:FS:=(aD (bh 2 (bH 2 cc (aa (ac 0) (aa (ac 1) ah))))
    (aD (ir (aH (ar wd (ac 1) (vC (.int 0))))
    (bh 2 (lG j5 (ac 2)))
    cG)
    (aY (bB (aa (ar dt (ac 0) (ac 2)) (aa (ar dt (ac 1) (ac 2)) ah))))))
noncomputable def cO:FM:=fC 2 1 ([2]++(([2]++[])++[])) qU
theorem pH:aB ["top","bottom","divisor"] ["top","bottom"] (am eW):=⟨rfl,rfl,rfl,by decide+kernel,rfl,by decide+kernel,by decide+kernel⟩
theorem vz(h:aV K mg "lowest" eW f fd ["top","bottom"])(T:h_ mg){f_common_divisor:Addr}{e_common_divisor:FuncData}(h_common_divisor:aV K mg "common_divisor" ce f_common_divisor e_common_divisor ["one","other"])(G_common_divisor:aC P w K mg base bv 1 f_common_divisor e_common_divisor ["one","other"] (bA K 2 cc)):aC P w K mg base bv 2 f fd ["top","bottom"] (bA K 2 cO):=by
  have nd:=pH.nd
  exact h.fn pH rfl rfl (fun cdv A outer s H E hr=>(@ag _ _ _ _ _ _ _ _ (@aG _ _ _ _ _ 2 _ _ nd rfl (Or.inl rfl) (@aP _ _ _ _ _ _ _ _ _ _ _ _ _ _ _ h_common_divisor G_common_divisor (hr.mono (by decide)) ((¬0)∘((¬1)∘ab)) (by rfl) (by decide) (by rfl) (by rfl)) (by rfl) (by trivial))
      (@ag _ _ _ _ _ _ _ _ (@cE _ _ _ _ _ _ _ _ _ _ _ (@aX _ _ _ _ _ _ _ _ _ (@uY _ _) (¬1) ae (aU _))
      (@aj _ _ _ _ _ (@aG _ _ _ _ _ 2 _ _ nd rfl (Or.inl rfl) (@lg _ _ _ _ _ (¬2)) (by rfl) (by trivial)))
      (@a' _ _))
      (@aj _ _ _ _ _ (@az _ _ _ _ _ (@aO _ _ _ _ _ _ ((@gu _ _ _ _ _ _ _ (¬0) (¬2))∘((@gu _ _ _ _ _ _ _ (¬1) (¬2))∘ab))))))))
noncomputable def wu:FS:=(aY (bH 2 cO (aa (ar cy (ar cD (ar bE (ac 0) (vC (.int 0))) (ar bE (ac 1) (vC (.int 1)))) (ar cD (ar bE (ac 1) (vC (.int 0))) (ar bE (ac 0) (vC (.int 1))))) (aa (ar cD (ar bE (ac 0) (vC (.int 1))) (ar bE (ac 1) (vC (.int 1)))) ah))))
noncomputable def km:FM:=fC 2 0 [] wu
theorem uL:aB ["one","other"] ["one","other"] (am nW):=⟨rfl,rfl,rfl,by decide+kernel,rfl,by decide+kernel,by decide+kernel⟩
theorem zz(h:aV K mg "plus" nW f fd ["one","other"])(T:h_ mg){f_lowest:Addr}{e_lowest:FuncData}(h_lowest:aV K mg "lowest" eW f_lowest e_lowest ["top","bottom"])(G_lowest:aC P w K mg base bv 2 f_lowest e_lowest ["top","bottom"] (bA K 2 cO)):aC P w K mg base bv 3 f fd ["one","other"] (bA K 2 km):=by
  have nd:=uL.nd
  exact h.fn uL rfl rfl (fun cdv A outer s H E hr=>(@aj _ _ _ _ _ (@az _ _ _ _ _ (@aP _ _ _ _ _ _ _ _ _ _ _ _ _ _ _ h_lowest G_lowest (hr.mono (by decide)) ((@cm _ _ _ _ _ _ _ rfl (@d_ _ _ _ _ _ _ _ rfl (@aS _ _ _ _ _ _ _ rfl (¬0) ae (fun _ _=>rfl)) (@aS _ _ _ _ _ _ _ rfl (¬1) ae (fun _ _=>rfl))) (@d_ _ _ _ _ _ _ _ rfl (@aS _ _ _ _ _ _ _ rfl (¬1) ae (fun _ _=>rfl)) (@aS _ _ _ _ _ _ _ rfl (¬0) ae (fun _ _=>rfl))))∘((@d_ _ _ _ _ _ _ _ rfl (@aS _ _ _ _ _ _ _ rfl (¬0) ae (fun _ _=>rfl)) (@aS _ _ _ _ _ _ _ rfl (¬1) ae (fun _ _=>rfl)))∘ab)) (by rfl) (by decide) (by rfl) (by rfl)))))
noncomputable def t_:FS:=(aY (bH 2 cO (aa (ar cD (ar bE (ac 0) (vC (.int 0))) (ar bE (ac 1) (vC (.int 0)))) (aa (ar cD (ar bE (ac 0) (vC (.int 1))) (ar bE (ac 1) (vC (.int 1)))) ah))))
noncomputable def gW:FM:=fC 2 0 [] t_
theorem rW:aB ["one","other"] ["one","other"] (am jZ):=⟨rfl,rfl,rfl,by decide+kernel,rfl,by decide+kernel,by decide+kernel⟩
theorem xB(h:aV K mg "times" jZ f fd ["one","other"])(T:h_ mg){f_lowest:Addr}{e_lowest:FuncData}(h_lowest:aV K mg "lowest" eW f_lowest e_lowest ["top","bottom"])(G_lowest:aC P w K mg base bv 2 f_lowest e_lowest ["top","bottom"] (bA K 2 cO)):aC P w K mg base bv 3 f fd ["one","other"] (bA K 2 gW):=by
  have nd:=rW.nd
  exact h.fn rW rfl rfl (fun cdv A outer s H E hr=>(@aj _ _ _ _ _ (@az _ _ _ _ _ (@aP _ _ _ _ _ _ _ _ _ _ _ _ _ _ _ h_lowest G_lowest (hr.mono (by decide)) ((@d_ _ _ _ _ _ _ _ rfl (@aS _ _ _ _ _ _ _ rfl (¬0) ae (fun _ _=>rfl)) (@aS _ _ _ _ _ _ _ rfl (¬1) ae (fun _ _=>rfl)))∘((@d_ _ _ _ _ _ _ _ rfl (@aS _ _ _ _ _ _ _ rfl (¬0) ae (fun _ _=>rfl)) (@aS _ _ _ _ _ _ _ rfl (¬1) ae (fun _ _=>rfl)))∘ab)) (by rfl) (by decide) (by rfl) (by rfl)))))
noncomputable def m6:FS:=(aY (bH 2 cO (aa (ar gZ (ar bE (ac 0) (vC (.int 1))) (ar bE (ac 0) (vC (.int 0)))) (aa (ar bE (ac 0) (vC (.int 1))) ah))))
noncomputable def dj:FM:=fC 1 0 [] m6
theorem my:aB ["chance"] ["chance"] (am ek):=⟨rfl,rfl,rfl,by decide+kernel,rfl,by decide+kernel,by decide+kernel⟩
theorem rF(h:aV K mg "one_less" ek f fd ["chance"])(T:h_ mg){f_lowest:Addr}{e_lowest:FuncData}(h_lowest:aV K mg "lowest" eW f_lowest e_lowest ["top","bottom"])(G_lowest:aC P w K mg base bv 2 f_lowest e_lowest ["top","bottom"] (bA K 2 cO)):aC P w K mg base bv 3 f fd ["chance"] (bA K 1 dj):=by
  have nd:=my.nd
  exact h.fn my rfl rfl (fun cdv A outer s H E hr=>(@aj _ _ _ _ _ (@az _ _ _ _ _ (@aP _ _ _ _ _ _ _ _ _ _ _ _ _ _ _ h_lowest G_lowest (hr.mono (by decide)) ((@pz _ _ _ _ _ _ _ (@aS _ _ _ _ _ _ _ rfl (¬0) ae (fun _ _=>rfl)) (@aS _ _ _ _ _ _ _ rfl (¬0) ae (fun _ _=>rfl)))∘((@aS _ _ _ _ _ _ _ rfl (¬0) ae (fun _ _=>rfl))∘ab)) (by rfl) (by decide) (by rfl) (by rfl)))))
noncomputable def l6:FS:=(aY (iz (lG (p_ "int") (ac 0)) (jK (lG (p_ "bool") (ac 0)))))
noncomputable def dy:FM:=fC 1 0 [] l6
theorem ly:aB ["thing"] ["thing"] (am eV):=⟨rfl,rfl,rfl,by decide+kernel,rfl,by decide+kernel,by decide+kernel⟩
theorem qq(h:aV K mg "is_number" eV f fd ["thing"])(T:h_ mg):aC P w K mg base bv 1 f fd ["thing"] (bA K 1 dy):=by
  have nd:=ly.nd
  exact h.fn ly rfl rfl (fun cdv A outer s H E hr=>(@aj _ _ _ _ _ (@az _ _ _ _ _ (@tj _ _ _ _ _ _ _ _ (@xZ _ _ _ _ _ _ _ _ "int" rfl (by decide) rfl T.b_isinstance rfl T.b_int PyProof.Rows.boot_int (by decide) (by decide) (¬0) (by rfl) (by rfl)) (@qz _ _ _ _ _ _ (@CC _ _ _ _ _ (@xZ _ _ _ _ _ _ _ _ "bool" rfl (by decide) rfl T.b_isinstance rfl T.b_bool PyProof.Rows.boot_bool (by decide) (by decide) (¬0) (by rfl) (by rfl))))))))
noncomputable def jj:FS:=(aY (iz (lG (p_ "tuple") (ac 0)) (ar (bR false) (aQ (g1 eX) (aa (ac 0) ah)) (ac 1))))
noncomputable def ck:FM:=fC 2 0 [] jj
theorem lA:aB ["thing","many"] ["thing","many"] (am dA):=⟨rfl,rfl,rfl,by decide+kernel,rfl,by decide+kernel,by decide+kernel⟩
theorem qr(h:aV K mg "is_row_of" dA f fd ["thing","many"])(T:h_ mg):aC P w K mg base bv 1 f fd ["thing","many"] (bA K 2 ck):=by
  have nd:=lA.nd
  exact h.fn lA rfl rfl (fun cdv A outer s H E hr=>(@aj _ _ _ _ _ (@az _ _ _ _ _ (@tj _ _ _ _ _ _ _ _ (@xZ _ _ _ _ _ _ _ _ "tuple" rfl (by decide) rfl T.b_isinstance rfl T.b_tuple PyProof.Rows.boot_tuple (by decide) (by decide) (¬0) (by rfl) (by rfl)) (@qz _ _ _ _ _ _ (@lc _ _ _ _ _ _ _ _ _ (@mE _ _ _ rfl hr) (@bf _ _ _ _ _ _ _ _ _ (@b_len _ _ rfl) (by rfl) T.b_len ((¬0)∘ab) (by decide) (by decide) (by rfl) (by rfl)) (¬1) (aU _)))))))
noncomputable def cB:FS:=(aD (ir (jc (aH (bH 2 ck (aa (ac 0) (aa (vC (.int 2)) ah)))))
    (aY (vC (.bool false)))
    cG)
    (aD (fm (ac 0) (aN (ai (af 1) (ai (af 2) aK))))
    (aD (ir (sd (jc (aH (bH 1 dy (aa (ac 1) ah)))) (sd (jc (aH (bH 1 dy (aa (ac 2) ah)))) (aH (ar wd (ac 2) (vC (.int 1))))))
    (aY (vC (.bool false)))
    cG)
    (aY (ar (bR false) (bH 2 cO (aa (ac 1) (aa (ac 2) ah))) (ac 0))))))
noncomputable def bx:FM:=fC 1 2 (([]++[])++(([1]++([2]++[]))++(([]++[])++[]))) cB
theorem jG:aB ["thing","top","bottom"] ["thing"] (am dg):=⟨rfl,rfl,rfl,by decide+kernel,rfl,by decide+kernel,by decide+kernel⟩
theorem nK(h:aV K mg "is_fraction" dg f fd ["thing"])(T:h_ mg){f_is_row_of:Addr}{e_is_row_of:FuncData}(h_is_row_of:aV K mg "is_row_of" dA f_is_row_of e_is_row_of ["thing","many"])(G_is_row_of:aC P w K mg base bv 1 f_is_row_of e_is_row_of ["thing","many"] (bA K 2 ck)){f_lowest:Addr}{e_lowest:FuncData}(h_lowest:aV K mg "lowest" eW f_lowest e_lowest ["top","bottom"])(G_lowest:aC P w K mg base bv 2 f_lowest e_lowest ["top","bottom"] (bA K 2 cO)){f_is_number:Addr}{e_is_number:FuncData}(h_is_number:aV K mg "is_number" eV f_is_number e_is_number ["thing"])(G_is_number:aC P w K mg base bv 1 f_is_number e_is_number ["thing"] (bA K 1 dy)):aC P w K mg base bv 3 f fd ["thing"] (bA K 1 bx):=by
  have nd:=jG.nd
  exact h.fn jG rfl rfl (fun cdv A outer s H E hr=>(@ag _ _ _ _ _ _ _ _ (@cE _ _ _ _ _ _ _ _ _ _ _ (@ky _ _ _ _ _ (@hJ _ _ _ _ (@aP _ _ _ _ _ _ _ _ _ _ _ _ _ _ _ h_is_row_of G_is_row_of (hr.mono (by decide)) ((¬0)∘(ae∘ab)) (by rfl) (by decide) (by rfl) (by rfl)) (by intro _;rfl)))
      (@aj _ _ _ _ _ (@az _ _ _ _ _ (@ec _ _ _ _ _)))
      (@a' _ _))
      (@ag _ _ _ _ _ _ _ _ (@dQ _ _ _ _ _ _ _ _ (¬0) (@bN _ _ _ _ _ _ _ _ rfl rfl (@ap _ _ _ _ _ _ _ _ (@ao _ _ _ 1 _ nd rfl (Or.inl rfl) (by trivial)) (@ap _ _ _ _ _ _ _ _ (@ao _ _ _ 2 _ nd rfl (Or.inl rfl) (by trivial)) (@bg _ _) (by rfl)) (by rfl)) (aq (aq bK)) (by rfl) (by rfl)) (by rfl) (by rfl) (by rfl))
      (@ag _ _ _ _ _ _ _ _ (@cE _ _ _ _ _ _ _ _ _ _ _ (@rJ _ _ _ _ (@rK _ _ _ _ _ _ _ _ (@ky _ _ _ _ _ (@hJ _ _ _ _ (@aP _ _ _ _ _ _ _ _ _ _ _ _ _ _ _ h_is_number G_is_number (hr.mono (by decide)) ((¬1)∘ab) (by rfl) (by decide) (by rfl) (by rfl)) (by intro _;rfl))) (@rK _ _ _ _ _ _ _ _ (@ky _ _ _ _ _ (@hJ _ _ _ _ (@aP _ _ _ _ _ _ _ _ _ _ _ _ _ _ _ h_is_number G_is_number (hr.mono (by decide)) ((¬2)∘ab) (by rfl) (by decide) (by rfl) (by rfl)) (by intro _;rfl))) (@qD _ _ _ _ _ (@aX _ _ _ _ _ _ _ _ _ (@uY _ _) (¬2) ae (aU _))))))
      (@aj _ _ _ _ _ (@az _ _ _ _ _ (@ec _ _ _ _ _)))
      (@a' _ _))
      (@aj _ _ _ _ _ (@az _ _ _ _ _ (@lc _ _ _ _ _ _ _ _ _ (@mE _ _ _ rfl hr) (@aP _ _ _ _ _ _ _ _ _ _ _ _ _ _ _ h_lowest G_lowest (hr.mono (by decide)) ((¬1)∘((¬2)∘ab)) (by rfl) (by decide) (by rfl) (by rfl)) (¬0) (aU _))))))))
noncomputable def fy:FI:=(kS (ac 0))
noncomputable def bW:FE:=(bH 1 bx (aa (ac 0) ah))
noncomputable def dD:FS:=(aY (iz (bH 2 ck (aa (ac 0) (aa (ac 1) ah))) (aQ (g1 (j8 ml)) (aa (ed [] 1 fy (af 0) cz bW) ah))))
noncomputable def aW:FM:=fC 2 0 [] dD
theorem gv:aB ["thing","many"] ["thing","many"] (am bi):=⟨rfl,rfl,rfl,by decide+kernel,rfl,by decide+kernel,by decide+kernel⟩
theorem kr(h:aV K mg "is_fraction_row" bi f fd ["thing","many"])(T:h_ mg){f_is_row_of:Addr}{e_is_row_of:FuncData}(h_is_row_of:aV K mg "is_row_of" dA f_is_row_of e_is_row_of ["thing","many"])(G_is_row_of:aC P w K mg base bv 1 f_is_row_of e_is_row_of ["thing","many"] (bA K 2 ck)){f_is_fraction:Addr}{e_is_fraction:FuncData}(h_is_fraction:aV K mg "is_fraction" dg f_is_fraction e_is_fraction ["thing"])(G_is_fraction:aC P w K mg base bv 3 f_is_fraction e_is_fraction ["thing"] (bA K 1 bx)):aC P w K mg base bv 4 f fd ["thing","many"] (bA K 2 aW):=by
  have nd:=gv.nd
  exact h.fn gv rfl rfl (fun cdv A outer s H E hr=>(@aj _ _ _ _ _ (@az _ _ _ _ _ (@tj _ _ _ _ _ _ _ _ (@aP _ _ _ _ _ _ _ _ _ _ _ _ _ _ _ h_is_row_of G_is_row_of (hr.mono (by decide)) ((¬0)∘((¬1)∘ab)) (by rfl) (by decide) (by rfl) (by rfl)) (@qz _ _ _ _ _ _ (@bf _ _ _ _ _ _ _ _ _ (@b_all _ _ _ rfl hr) (by rfl) T.b_all ((@jy _ _ _ _ _ _ _ _ _ _ _ _ _ (am bi) ["thing","many"] [] ["part"] rfl rfl rfl (@jz _ _ _ _ _ rfl (¬0))
        (fun C s0 H0 fp=>(@ao _ _ _ 0 _ (show List.Nodup (["part"]:List Str) by decide+kernel) rfl (Or.inl rfl) (by trivial))) (fun C s0 H0 fp=>(@iT _ _))
        (fun C s0 H0 fp=>(@aP _ _ _ _ _ _ _ _ _ _ _ _ _ _ _ h_is_fraction G_is_fraction (hr.mono (by decide)) ((¬0)∘ab) (by rfl) (by decide) (by rfl) (by rfl))) rfl (by decide+kernel) (by decide+kernel) (by decide+kernel) (by decide+kernel) (by decide+kernel) (by decide+kernel) (by decide+kernel) (by intro _;rfl))∘ab) (by decide) (by decide) (by rfl) (by rfl)))))))
noncomputable def l5:FS:=(aD (fm (qP (ac 0) (eR (vC (.int 2))) fD) (aN (ai (af 3) (ai (af 4) aK))))
    (aY (bH 2 km (aa (bH 2 gW (aa (ac 3) (aa (bH 2 km (aa (bB (aa (ac 4) (aa (vC (.int 1)) ah))) (aa (ac 1) ah))) ah))) (aa (bH 2 gW (aa (bH 1 dj (aa (ac 3) ah)) (aa (ac 2) ah))) ah)))))
noncomputable def eQ:FM:=fC 3 2 (([3]++([4]++[]))++[]) l5
theorem lx:aB ["tie","yes","no","chance","worth"] ["tie","yes","no"] (am eU):=⟨rfl,rfl,rfl,by decide+kernel,rfl,by decide+kernel,by decide+kernel⟩
theorem qp(h:aV K mg "ask_worth" eU f fd ["tie","yes","no"])(T:h_ mg){f_plus:Addr}{e_plus:FuncData}(h_plus:aV K mg "plus" nW f_plus e_plus ["one","other"])(G_plus:aC P w K mg base bv 3 f_plus e_plus ["one","other"] (bA K 2 km)){f_times:Addr}{e_times:FuncData}(h_times:aV K mg "times" jZ f_times e_times ["one","other"])(G_times:aC P w K mg base bv 3 f_times e_times ["one","other"] (bA K 2 gW)){f_one_less:Addr}{e_one_less:FuncData}(h_one_less:aV K mg "one_less" ek f_one_less e_one_less ["chance"])(G_one_less:aC P w K mg base bv 3 f_one_less e_one_less ["chance"] (bA K 1 dj)):aC P w K mg base bv 4 f fd ["tie","yes","no"] (bA K 3 eQ):=by
  have nd:=lx.nd
  exact h.fn lx rfl rfl (fun cdv A outer s H E hr=>(@ag _ _ _ _ _ _ _ _ (@dQ _ _ _ _ _ _ _ _ (@iQ _ _ _ _ _ _ _ _ _ _ rfl (¬0) (@iS _ _ _ _ ae) (@iR _ _)) (@bN _ _ _ _ _ _ _ _ rfl rfl (@ap _ _ _ _ _ _ _ _ (@ao _ _ _ 3 _ nd rfl (Or.inl rfl) (by trivial)) (@ap _ _ _ _ _ _ _ _ (@ao _ _ _ 4 _ nd rfl (Or.inl rfl) (by trivial)) (@bg _ _) (by rfl)) (by rfl)) (aq (aq bK)) (by rfl) (by rfl)) (by rfl) (by rfl) (by rfl))
      (@aj _ _ _ _ _ (@az _ _ _ _ _ (@aP _ _ _ _ _ _ _ _ _ _ _ _ _ _ _ h_plus G_plus (hr.mono (by decide)) ((@aP _ _ _ _ _ _ _ _ _ _ _ _ _ _ _ h_times G_times (hr.mono (by decide)) ((¬3)∘((@aP _ _ _ _ _ _ _ _ _ _ _ _ _ _ _ h_plus G_plus (hr.mono (by decide)) ((@aO _ _ _ _ _ _ ((¬4)∘(ae∘ab)))∘((¬1)∘ab)) (by rfl) (by decide) (by rfl) (by rfl))∘ab)) (by rfl) (by decide) (by rfl) (by rfl))∘((@aP _ _ _ _ _ _ _ _ _ _ _ _ _ _ _ h_times G_times (hr.mono (by decide)) ((@aP _ _ _ _ _ _ _ _ _ _ _ _ _ _ _ h_one_less G_one_less (hr.mono (by decide)) ((¬3)∘ab) (by rfl) (by decide) (by rfl) (by rfl))∘((¬2)∘ab)) (by rfl) (by decide) (by rfl) (by rfl))∘ab)) (by rfl) (by decide) (by rfl) (by rfl))))))
noncomputable def iG:FS:=(aY (vZ (aH (ar (bR false) (ac 1) (vC (.int (-1))))) (vC (.tuple [.int (0),.int (1)])) (ar bE (ac 0) (ac 1))))
noncomputable def cu:FM:=fC 2 0 [] iG
theorem ka:aB ["worths","link"] ["worths","link"] (am dW):=⟨rfl,rfl,rfl,by decide+kernel,rfl,by decide+kernel,by decide+kernel⟩
theorem oI(h:aV K mg "link_worth" dW f fd ["worths","link"])(T:h_ mg){g_ZERO:Addr}(m_ZERO:mg "ZERO"=some (.ref g_ZERO))(c_ZERO:∀F,DA K F (.tuple [.int (0),.int (1)]) (.ref g_ZERO)){t_END:Tok}(m_END:mg "END"=some (.int (-1) t_END)):aC P w K mg base bv 1 f fd ["worths","link"] (bA K 2 cu):=by
  have nd:=ka.nd
  exact h.fn ka rfl rfl (fun cdv A outer s H E hr=>(@aj _ _ _ _ _ (@az _ _ _ _ _ (@x5 _ _ _ _ _ _ _ _ _ (@aX _ _ _ _ _ _ _ _ _ (@mE _ _ _ rfl hr) (¬1) (@mS _ _ _ (V.int (-1)) _ _ (PyData.int (-1)) rfl m_END ⟨_,rfl⟩ (fun _=>bT.mpr rfl) (by decide)) (aU _)) (@mS _ _ _ (V.ref g_ZERO) _ _ (PyData.tuple [.int (0),.int (1)]) rfl m_ZERO rfl c_ZERO (by decide)) (@aS _ _ _ _ _ _ _ rfl (¬0) (¬1) (fun _ _=>rfl))))))
noncomputable def kG:FS:=(aD (fm (ac 1) (aN (ai (af 3) (ai (af 4) (ai (af 5) aK)))))
    (aY (bH 3 eQ (aa (ar bE (ar bE (ac 0) (vC (.int 1))) (ac 3)) (aa (bH 2 cu (aa (ac 2) (aa (ac 4) ah))) (aa (bH 2 cu (aa (ac 2) (aa (ac 5) ah))) ah))))))
noncomputable def dP:FM:=fC 3 3 (([3]++([4]++([5]++[])))++[]) kG
theorem kb:aB ["web","node","worths","tie","yes","no"] ["web","node","worths"] (am dX):=⟨rfl,rfl,rfl,by decide+kernel,rfl,by decide+kernel,by decide+kernel⟩
theorem oJ(h:aV K mg "node_worth" dX f fd ["web","node","worths"])(T:h_ mg){f_ask_worth:Addr}{e_ask_worth:FuncData}(h_ask_worth:aV K mg "ask_worth" eU f_ask_worth e_ask_worth ["tie","yes","no"])(G_ask_worth:aC P w K mg base bv 4 f_ask_worth e_ask_worth ["tie","yes","no"] (bA K 3 eQ)){f_link_worth:Addr}{e_link_worth:FuncData}(h_link_worth:aV K mg "link_worth" dW f_link_worth e_link_worth ["worths","link"])(G_link_worth:aC P w K mg base bv 1 f_link_worth e_link_worth ["worths","link"] (bA K 2 cu)):aC P w K mg base bv 5 f fd ["web","node","worths"] (bA K 3 dP):=by
  have nd:=kb.nd
  exact h.fn kb rfl rfl (fun cdv A outer s H E hr=>(@ag _ _ _ _ _ _ _ _ (@dQ _ _ _ _ _ _ _ _ (¬1) (@bN _ _ _ _ _ _ _ _ rfl rfl (@ap _ _ _ _ _ _ _ _ (@ao _ _ _ 3 _ nd rfl (Or.inl rfl) (by trivial)) (@ap _ _ _ _ _ _ _ _ (@ao _ _ _ 4 _ nd rfl (Or.inl rfl) (by trivial)) (@ap _ _ _ _ _ _ _ _ (@ao _ _ _ 5 _ nd rfl (Or.inl rfl) (by trivial)) (@bg _ _) (by rfl)) (by rfl)) (by rfl)) (aq (aq (aq bK))) (by rfl) (by rfl)) (by rfl) (by rfl) (by rfl))
      (@aj _ _ _ _ _ (@az _ _ _ _ _ (@aP _ _ _ _ _ _ _ _ _ _ _ _ _ _ _ h_ask_worth G_ask_worth (hr.mono (by decide)) ((@aS _ _ _ _ _ _ _ rfl (@aS _ _ _ _ _ _ _ rfl (¬0) ae (fun _ _=>rfl)) (¬3) (fun _ _=>rfl))∘((@aP _ _ _ _ _ _ _ _ _ _ _ _ _ _ _ h_link_worth G_link_worth (hr.mono (by decide)) ((¬2)∘((¬4)∘ab)) (by rfl) (by decide) (by rfl) (by rfl))∘((@aP _ _ _ _ _ _ _ _ _ _ _ _ _ _ _ h_link_worth G_link_worth (hr.mono (by decide)) ((¬2)∘((¬5)∘ab)) (by rfl) (by decide) (by rfl) (by rfl))∘ab))) (by rfl) (by decide) (by rfl) (by rfl))))))
noncomputable def js:FI:=(kS (bB (aa (bB (aa (ac 3) (aa (ac 5) ah))) (aa (bB (aa (ac 4) (aa (bH 1 dj (aa (ac 5) ah)) ah))) ah))))
noncomputable def cJ:FT:=(aH (ar (bR true) (ac 0) (vC (.int (-1)))))
noncomputable def cL:FE:=(bB (aa (ac 0) (aa (ac 1) ah)))
noncomputable def oV:FS:=(aD (fm (ac 1) (aN (ai (af 2) (ai (af 3) (ai (af 4) aK)))))
    (aD (bh 5 (ar bE (ar bE (ar bE (ac 0) (vC (.int 1))) (ac 2)) (vC (.int 2))))
    (aY (ed [] 2 js (aN (ai (af 0) (ai (af 1) aK))) cJ cL))))
noncomputable def ip:FM:=fC 2 4 (([2]++([3]++([4]++[])))++([5]++[])) oV
theorem og:aB ["web","node","tie","yes","no","chance"] ["web","node"] (am gc):=⟨rfl,rfl,rfl,by decide+kernel,rfl,by decide+kernel,by decide+kernel⟩
theorem sX(h:aV K mg "ways_on" gc f fd ["web","node"])(T:h_ mg){f_one_less:Addr}{e_one_less:FuncData}(h_one_less:aV K mg "one_less" ek f_one_less e_one_less ["chance"])(G_one_less:aC P w K mg base bv 3 f_one_less e_one_less ["chance"] (bA K 1 dj)){t_END:Tok}(m_END:mg "END"=some (.int (-1) t_END)):aC P w K mg base bv 4 f fd ["web","node"] (bA K 2 ip):=by
  have nd:=og.nd
  exact h.fn og rfl rfl (fun cdv A outer s H E hr=>(@ag _ _ _ _ _ _ _ _ (@dQ _ _ _ _ _ _ _ _ (¬1) (@bN _ _ _ _ _ _ _ _ rfl rfl (@ap _ _ _ _ _ _ _ _ (@ao _ _ _ 2 _ nd rfl (Or.inl rfl) (by trivial)) (@ap _ _ _ _ _ _ _ _ (@ao _ _ _ 3 _ nd rfl (Or.inl rfl) (by trivial)) (@ap _ _ _ _ _ _ _ _ (@ao _ _ _ 4 _ nd rfl (Or.inl rfl) (by trivial)) (@bg _ _) (by rfl)) (by rfl)) (by rfl)) (aq (aq (aq bK))) (by rfl) (by rfl)) (by rfl) (by rfl) (by rfl))
      (@ag _ _ _ _ _ _ _ _ (@aG _ _ _ _ _ 5 _ _ nd rfl (Or.inl rfl) (@aS _ _ _ _ _ _ _ rfl (@aS _ _ _ _ _ _ _ rfl (@aS _ _ _ _ _ _ _ rfl (¬0) ae (fun _ _=>rfl)) (¬2) (fun _ _=>rfl)) ae (fun _ _=>rfl)) (by rfl) (by trivial))
      (@aj _ _ _ _ _ (@az _ _ _ _ _ (@jy _ _ _ _ _ _ _ _ _ _ _ _ _ (am gc) ["web","node","tie","yes","no","chance"] [] ["link","share"] rfl rfl rfl (@jz _ _ _ _ _ rfl (@aO _ _ _ _ _ _ ((@aO _ _ _ _ _ _ ((¬3)∘((¬5)∘ab)))∘((@aO _ _ _ _ _ _ ((¬4)∘((@aP _ _ _ _ _ _ _ _ _ _ _ _ _ _ _ h_one_less G_one_less (hr.mono (by decide)) ((¬5)∘ab) (by rfl) (by decide) (by rfl) (by rfl))∘ab)))∘ab))))
        (fun C s0 H0 fp=>(@bN _ _ _ _ _ _ _ _ rfl rfl (@ap _ _ _ _ _ _ _ _ (@ao _ _ _ 0 _ (show List.Nodup (["link","share"]:List Str) by decide+kernel) rfl (Or.inl rfl) (by trivial)) (@ap _ _ _ _ _ _ _ _ (@ao _ _ _ 1 _ (show List.Nodup (["link","share"]:List Str) by decide+kernel) rfl (Or.inl rfl) (by trivial)) (@bg _ _) (by rfl)) (by rfl)) (aq (aq bK)) (by rfl) (by rfl))) (fun C s0 H0 fp=>(@qC _ _ _ _ (@aX _ _ _ _ _ _ _ _ _ (@m_ _ _ _ rfl hr) (¬0) (@mS _ _ _ (V.int (-1)) _ _ (PyData.int (-1)) rfl m_END ⟨_,rfl⟩ (fun _=>bT.mpr rfl) (by decide)) (aU _))))
        (fun C s0 H0 fp=>(@aO _ _ _ _ _ _ ((¬0)∘((¬1)∘ab)))) rfl (by decide+kernel) (by decide+kernel) (by decide+kernel) (by decide+kernel) (by decide+kernel) (by decide+kernel) (by decide+kernel) (by intro _;rfl)))))))
noncomputable def i8:FI:=(mx (aa (ac 1) (aa (ac 2) ah)))
noncomputable def dh:FE:=(ar (bR false) (ac 3) (bH 3 dP (aa (ac 0) (aa (ac 2) (aa (ac 1) ah)))))
noncomputable def j7:FS:=(aD (ir (jc (aH (bH 2 aW (aa (ac 2) (aa (aQ (g1 eX) (aa (ac 1) ah)) ah)))))
    (aY (vC (.bool false)))
    cG)
    (aY (aQ (g1 (j8 ml)) (aa (ed [(0,"web"),(2,"thing")] 2 i8 (aN (ai (af 2) (ai (af 3) aK))) cz dh) ah))))
noncomputable def dc:FM:=fC 3 0 (([]++[])++[]) j7
theorem jH:aB ["web","tree","thing"] ["web","tree","thing"] (am cC):=⟨rfl,rfl,rfl,by decide+kernel,rfl,by decide+kernel,by decide+kernel⟩
theorem nL(h:aV K mg "worths_hold" cC f fd ["web","tree","thing"])(T:h_ mg){f_is_fraction_row:Addr}{e_is_fraction_row:FuncData}(h_is_fraction_row:aV K mg "is_fraction_row" bi f_is_fraction_row e_is_fraction_row ["thing","many"])(G_is_fraction_row:aC P w K mg base bv 4 f_is_fraction_row e_is_fraction_row ["thing","many"] (bA K 2 aW)){f_node_worth:Addr}{e_node_worth:FuncData}(h_node_worth:aV K mg "node_worth" dX f_node_worth e_node_worth ["web","node","worths"])(G_node_worth:aC P w K mg base bv 5 f_node_worth e_node_worth ["web","node","worths"] (bA K 3 dP)):aC P w K mg base bv 6 f fd ["web","tree","thing"] (bA K 3 dc):=by
  have nd:=jH.nd
  exact h.fn jH rfl rfl (fun cdv A outer s H E hr=>(@ag _ _ _ _ _ _ _ _ (@cE _ _ _ _ _ _ _ _ _ _ _ (@ky _ _ _ _ _ (@hJ _ _ _ _ (@aP _ _ _ _ _ _ _ _ _ _ _ _ _ _ _ h_is_fraction_row G_is_fraction_row (hr.mono (by decide)) ((¬2)∘((@bf _ _ _ _ _ _ _ _ _ (@b_len _ _ rfl) (by rfl) T.b_len ((¬1)∘ab) (by decide) (by decide) (by rfl) (by rfl))∘ab)) (by rfl) (by decide) (by rfl) (by rfl)) (by intro _;rfl)))
      (@aj _ _ _ _ _ (@az _ _ _ _ _ (@ec _ _ _ _ _)))
      (@a' _ _))
      (@aj _ _ _ _ _ (@az _ _ _ _ _ (@bf _ _ _ _ _ _ _ _ _ (@b_all _ _ _ rfl hr) (by rfl) T.b_all ((@jy _ _ _ _ _ _ _ _ _ _ _ _ _ (am cC) ["web","tree","thing"] [(0,"web"),(2,"thing")] ["node","worth"] rfl rfl rfl (@qA _ _ _ _ _ _ _ _ _ _ rfl rfl T.b_zip ((¬1)∘((¬2)∘ab)) (by rfl) (by rfl))
        (fun C s0 H0 fp=>(@bN _ _ _ _ _ _ _ _ rfl rfl (@ap _ _ _ _ _ _ _ _ (@ao _ _ _ 2 _ (show List.Nodup (["web","thing","node","worth"]:List Str) by decide+kernel) rfl (Or.inl rfl) (by trivial)) (@ap _ _ _ _ _ _ _ _ (@ao _ _ _ 3 _ (show List.Nodup (["web","thing","node","worth"]:List Str) by decide+kernel) rfl (Or.inl rfl) (by trivial)) (@bg _ _) (by rfl)) (by rfl)) (aq (aq bK)) (by rfl) (by rfl))) (fun C s0 H0 fp=>(@iT _ _))
        (fun C s0 H0 fp=>(@lc _ _ _ _ _ _ _ _ _ (@mE _ _ _ rfl hr) (¬3) (@aP _ _ _ _ _ _ _ _ _ _ _ _ _ _ _ h_node_worth G_node_worth (hr.mono (by decide)) ((¬0)∘((¬2)∘((¬1)∘ab))) (by rfl) (by decide) (by rfl) (by rfl)) (aU _))) rfl (by decide+kernel) (by decide+kernel) (by decide+kernel) (by decide+kernel) (by decide+kernel) (by decide+kernel) (by decide+kernel) (by intro _;rfl))∘ab) (by decide) (by decide) (by rfl) (by rfl))))))
noncomputable def ik:FI:=(mx (aa (ac 1) (aa (ac 2) ah)))
noncomputable def b_:FI:=(kS (bH 2 ip (aa (ac 1) (aa (ac 2) ah))))
noncomputable def bG:FE:=(ar (bR false) (ar bE (ac 0) (ac 4)) (bH 2 gW (aa (ac 3) (aa (ac 5) ah))))
noncomputable def dG:FS:=(aD (ir (jc (aH (bH 2 aW (aa (ac 2) (aa (aQ (g1 eX) (aa (ac 1) ah)) ah)))))
    (aY (vC (.bool false)))
    cG)
    (aD (ir (jb (aH (ar Dz (aQ (g1 eX) (aa (ac 1) ah)) (vC (.int 0)))) (aH (ar (bR true) (ar bE (ac 2) (vC (.int 0))) (vC (.tuple [.int (1),.int (1)])))))
    (aY (vC (.bool false)))
    cG)
    (aY (aQ (g1 (j8 ml)) (aa (l3 [(2,"thing"),(0,"web")] 4 ik (aN (ai (af 2) (ai (af 3) aK))) cz b_ (aN (ai (af 4) (ai (af 5) aK))) cz bG) ah)))))
noncomputable def bM:FM:=fC 3 0 (([]++[])++(([]++[])++[])) dG
theorem i_:aB ["web","tree","thing"] ["web","tree","thing"] (am cf):=⟨rfl,rfl,rfl,by decide+kernel,rfl,by decide+kernel,by decide+kernel⟩
theorem mH(h:aV K mg "reaches_hold" cf f fd ["web","tree","thing"])(T:h_ mg){f_is_fraction_row:Addr}{e_is_fraction_row:FuncData}(h_is_fraction_row:aV K mg "is_fraction_row" bi f_is_fraction_row e_is_fraction_row ["thing","many"])(G_is_fraction_row:aC P w K mg base bv 4 f_is_fraction_row e_is_fraction_row ["thing","many"] (bA K 2 aW)){f_times:Addr}{e_times:FuncData}(h_times:aV K mg "times" jZ f_times e_times ["one","other"])(G_times:aC P w K mg base bv 3 f_times e_times ["one","other"] (bA K 2 gW)){f_ways_on:Addr}{e_ways_on:FuncData}(h_ways_on:aV K mg "ways_on" gc f_ways_on e_ways_on ["web","node"])(G_ways_on:aC P w K mg base bv 4 f_ways_on e_ways_on ["web","node"] (bA K 2 ip)){g_ONE:Addr}(m_ONE:mg "ONE"=some (.ref g_ONE))(c_ONE:∀F,DA K F (.tuple [.int (1),.int (1)]) (.ref g_ONE)):aC P w K mg base bv 5 f fd ["web","tree","thing"] (bA K 3 bM):=by
  have nd:=i_.nd
  exact h.fn i_ rfl rfl (fun cdv A outer s H E hr=>(@ag _ _ _ _ _ _ _ _ (@cE _ _ _ _ _ _ _ _ _ _ _ (@ky _ _ _ _ _ (@hJ _ _ _ _ (@aP _ _ _ _ _ _ _ _ _ _ _ _ _ _ _ h_is_fraction_row G_is_fraction_row (hr.mono (by decide)) ((¬2)∘((@bf _ _ _ _ _ _ _ _ _ (@b_len _ _ rfl) (by rfl) T.b_len ((¬1)∘ab) (by decide) (by decide) (by rfl) (by rfl))∘ab)) (by rfl) (by decide) (by rfl) (by rfl)) (by intro _;rfl)))
      (@aj _ _ _ _ _ (@az _ _ _ _ _ (@ec _ _ _ _ _)))
      (@a' _ _))
      (@ag _ _ _ _ _ _ _ _ (@cE _ _ _ _ _ _ _ _ _ _ _ (@rJ _ _ _ _ (@nQ _ _ _ _ _ _ _ _ (@aX _ _ _ _ _ _ _ _ _ (@Dv _ _) (@bf _ _ _ _ _ _ _ _ _ (@b_len _ _ rfl) (by rfl) T.b_len ((¬1)∘ab) (by decide) (by decide) (by rfl) (by rfl)) ae (aU _)) (@mT _ _ _ _ _ (@aX _ _ _ _ _ _ _ _ _ (@m_ _ _ _ rfl hr) (@aS _ _ _ _ _ _ _ rfl (¬2) ae (fun _ _=>rfl)) (@mS _ _ _ (V.ref g_ONE) _ _ (PyData.tuple [.int (1),.int (1)]) rfl m_ONE rfl c_ONE (by decide)) (aU _)))))
      (@aj _ _ _ _ _ (@az _ _ _ _ _ (@ec _ _ _ _ _)))
      (@a' _ _))
      (@aj _ _ _ _ _ (@az _ _ _ _ _ (@bf _ _ _ _ _ _ _ _ _ (@b_all _ _ _ rfl hr) (by rfl) T.b_all ((@Ad _ _ _ _ _ _ _ _ _ _ _ _ _ _ _ _ _ _ _ _ (am cf) ["web","tree","thing"] [(2,"thing"),(0,"web")] ["node","reach","link","chance"] rfl rfl rfl (@qA _ _ _ _ _ _ _ _ _ _ rfl rfl T.b_zip ((¬1)∘((¬2)∘ab)) (by rfl) (by rfl))
        (fun C s0 H0 fp=>(@bN _ _ _ _ _ _ _ _ rfl rfl (@ap _ _ _ _ _ _ _ _ (@ao _ _ _ 2 _ (show List.Nodup (["thing","web","node","reach","link","chance"]:List Str) by decide+kernel) rfl (Or.inl rfl) (by trivial)) (@ap _ _ _ _ _ _ _ _ (@ao _ _ _ 3 _ (show List.Nodup (["thing","web","node","reach","link","chance"]:List Str) by decide+kernel) rfl (Or.inl rfl) (by trivial)) (@bg _ _) (by rfl)) (by rfl)) (aq (aq bK)) (by rfl) (by rfl))) (fun C s0 H0 fp=>(@iT _ _)) (fun C s0 H0 fp=>(@jz _ _ _ _ _ rfl (@aP _ _ _ _ _ _ _ _ _ _ _ _ _ _ _ h_ways_on G_ways_on (hr.mono (by decide)) ((¬1)∘((¬2)∘ab)) (by rfl) (by decide) (by rfl) (by rfl)))) (fun C s0 H0 fp=>(@bN _ _ _ _ _ _ _ _ rfl rfl (@ap _ _ _ _ _ _ _ _ (@ao _ _ _ 4 _ (show List.Nodup (["thing","web","node","reach","link","chance"]:List Str) by decide+kernel) rfl (Or.inl rfl) (by trivial)) (@ap _ _ _ _ _ _ _ _ (@ao _ _ _ 5 _ (show List.Nodup (["thing","web","node","reach","link","chance"]:List Str) by decide+kernel) rfl (Or.inl rfl) (by trivial)) (@bg _ _) (by rfl)) (by rfl)) (aq (aq bK)) (by rfl) (by rfl))) (fun C s0 H0 fp=>(@iT _ _))
        (fun C s0 H0 fp=>(@lc _ _ _ _ _ _ _ _ _ (@mE _ _ _ rfl hr) (@aS _ _ _ _ _ _ _ rfl (¬0) (¬4) (fun _ _=>rfl)) (@aP _ _ _ _ _ _ _ _ _ _ _ _ _ _ _ h_times G_times (hr.mono (by decide)) ((¬3)∘((¬5)∘ab)) (by rfl) (by decide) (by rfl) (by rfl)) (aU _))) rfl (by decide+kernel) (by decide+kernel) (by decide+kernel) (by decide+kernel) (by decide+kernel) (by decide+kernel) (by decide+kernel) (by intro _ _ _ _ _;rfl) (by intro _;rfl))∘ab) (by decide) (by decide) (by rfl) (by rfl)))))))
noncomputable def tY:FS:=(aD (bh 2 (ar a9 (ar cy (ar cy (ar cD (ar a9 (ac 0) (vC (.int 2147483647))) (vC (.int 48271))) (ar cD (ar cD (vC (.int 7919)) (ac 1)) (ac 1))) (vC (.int 104729))) (vC (.int 2147483647))))
    (aY (ar a9 (ar cD (ac 2) (ac 2)) (vC (.int 2147483629)))))
noncomputable def jW:FM:=fC 2 1 ([2]++[]) tY
theorem rR:aB ["_law_cell","_law_k","_law_number"] ["_law_cell","_law_k"] (am lq):=⟨rfl,rfl,rfl,by decide+kernel,rfl,by decide+kernel,by decide+kernel⟩
theorem xw(h:aV K mg "_law_mixed" lq f fd ["_law_cell","_law_k"])(T:h_ mg):aC P w K mg base bv 1 f fd ["_law_cell","_law_k"] (bA K 2 jW):=by
  have nd:=rR.nd
  exact h.fn rR rfl rfl (fun cdv A outer s H E hr=>(@ag _ _ _ _ _ _ _ _ (@aG _ _ _ _ _ 2 _ _ nd rfl (Or.inl rfl) (@aZ _ _ _ _ _ _ _ (@cm _ _ _ _ _ _ _ rfl (@cm _ _ _ _ _ _ _ rfl (@d_ _ _ _ _ _ _ _ rfl (@aZ _ _ _ _ _ _ _ (¬0) ae) ae) (@d_ _ _ _ _ _ _ _ rfl (@d_ _ _ _ _ _ _ _ rfl ae (¬1)) (¬1))) ae) ae) (by rfl) (by trivial))
      (@aj _ _ _ _ _ (@az _ _ _ _ _ (@aZ _ _ _ _ _ _ _ (@d_ _ _ _ _ _ _ _ rfl (¬2) (¬2)) ae)))))
noncomputable def fR:FT:=(jb (aH (ar y_ (ac 3) (ar sI (vC (.int 10)) (vC (.int 18))))) (aH (ar wd (aQ (g1 eX) (aa (ac 1) ah)) (vC (.int 900)))))
noncomputable def jL:FS:=(aD (dz (cF bD (ac 1) (aa (ar a9 (ac 3) (vC (.int 2147483629))) ah)))
    (bh 3 (ar dt (ac 3) (vC (.int 2147483629)))))
noncomputable def jU:FI:=(cS (aa (vC (.int 12)) ah))
noncomputable def ia:FS:=(dz (cF bD (ac 1) (aa (bH 2 jW (aa (bH 2 jW (aa (ac 3) (aa (ar cy (ar cD (vC (.int 3)) (ac 4)) (vC (.int 1))) ah))) (aa (ar cy (ar cy (ac 4) (ac 2)) (vC (.int 2))) ah))) ah)))
noncomputable def lP:FI:=(cS (aa (aQ (g2 wR) (aa (aQ (g1 eX) (aa (ac 0) ah)) (aa (vC (.int 63)) ah))) ah))
noncomputable def fP:FS:=(aD (bh 3 (aQ (g1 sG) (aa (ar bE (ac 0) (ac 2)) ah)))
    (aD (ir (aH (ar wd (ac 3) (ar sI (vC (.int 10)) (vC (.int 18)))))
    (de ([4]++[]) jU (af 4) ia)
    cG)
    (aD (iV (2 ^ 4200) fR jL)
    (ir (aH (ar y_ (ac 3) (vC (.int 2147483629))))
    (dz (cF bD (ac 1) (aa (ar a9 (ac 3) (vC (.int 2147483629))) ah)))
    cG))))
noncomputable def tW:FS:=(aD (bh 1 (cW ah))
    (aD (de ([2]++([3]++((([4]++[])++[])++(([]++[3])++([]++[]))))) lP (af 2) fP)
    (aY (ac 1))))
noncomputable def kX:FM:=fC 1 4 ([1]++(([2]++([3]++((([4]++[])++[])++(([]++[3])++([]++[])))))++[])) tW
theorem rP:aB ["_law_script","_law_drawn","_law_k","_law_cell","_law_j"] ["_law_script"] (am lm):=⟨rfl,rfl,rfl,by decide+kernel,rfl,by decide+kernel,by decide+kernel⟩
theorem xt(h:aV K mg "_law_draws" lm f fd ["_law_script"])(T:h_ mg){fLmixed:Addr}{eLmixed:FuncData}(hLmixed:aV K mg "_law_mixed" lq fLmixed eLmixed ["_law_cell","_law_k"])(GLmixed:aC P w K mg base bv 1 fLmixed eLmixed ["_law_cell","_law_k"] (bA K 2 jW)):aC P w K mg base bv 2 f fd ["_law_script"] (bA K 1 kX):=by
  have nd:=rP.nd
  exact h.fn rP rfl rfl (fun cdv A outer s H E hr=>(@ag _ _ _ _ _ _ _ _ (@aG _ _ _ _ _ 1 _ _ nd rfl (Or.inl rfl) (@bO _ _ _ _ _ ab) (by rfl) (by trivial))
      (@ag _ _ _ _ _ _ _ _ (@dR _ _ _ _ _ _ _ _ _ _ _ PassesOwn.never rfl (@cU _ _ _ _ _ _ _ rfl T.b_range ((@bf _ _ _ _ _ _ _ _ _ (@b_min _ _ rfl) (by rfl) T.b_min ((@bf _ _ _ _ _ _ _ _ _ (@b_len _ _ rfl) (by rfl) T.b_len ((¬0)∘ab) (by decide) (by decide) (by rfl) (by rfl))∘(ae∘ab)) (by decide) (by decide) (by rfl) (by rfl))∘ab) (by rfl)) (@ao _ _ _ 2 _ nd rfl (Or.inl rfl) (by trivial))
      (@ag _ _ _ _ _ _ _ _ (@aG _ _ _ _ _ 3 _ _ nd rfl (Or.inl rfl) (@bf _ _ _ _ _ _ _ _ _ (@b_abs _ _) (by rfl) T.b_abs ((@aS _ _ _ _ _ _ _ rfl (¬0) (¬2) (fun _ _=>rfl))∘ab) (by decide) (by decide) (by rfl) (by rfl)) (by rfl) (by trivial))
      (@ag _ _ _ _ _ _ _ _ (@cE _ _ _ _ _ _ _ _ _ _ _ (@aX _ _ _ _ _ _ _ _ _ (@uY _ _) (¬3) (@Be _ _ _ _ _ _ _ ae ae) (aU _))
      (@aj _ _ _ _ _ (@dR _ _ _ _ _ _ _ _ _ _ _ PassesOwn.never rfl (@cU _ _ _ _ _ _ _ rfl T.b_range (ae∘ab) (by rfl)) (@ao _ _ _ 4 _ nd rfl (Or.inl rfl) (by trivial))
      (@aj _ _ _ _ _ (@fN _ _ _ _ _ (@eS _ _ _ _ _ _ _ _ _ rfl (¬1) ((@aP _ _ _ _ _ _ _ _ _ _ _ _ _ _ _ hLmixed GLmixed (hr.mono (by decide)) ((@aP _ _ _ _ _ _ _ _ _ _ _ _ _ _ _ hLmixed GLmixed (hr.mono (by decide)) ((¬3)∘((@cm _ _ _ _ _ _ _ rfl (@d_ _ _ _ _ _ _ _ rfl ae (¬4)) ae)∘ab)) (by rfl) (by decide) (by rfl) (by rfl))∘((@cm _ _ _ _ _ _ _ rfl (@cm _ _ _ _ _ _ _ rfl (¬4) (¬2)) ae)∘ab)) (by rfl) (by decide) (by rfl) (by rfl))∘ab) (by rfl) (by rfl) (by rfl) (by rfl) (by rfl)) (by rfl))) (by intro _;rfl)))
      (@a' _ _))
      (@ag _ _ _ _ _ _ _ _ (@lh _ _ _ _ _ _ _ _ _ PassesOwn.never (@rJ _ _ _ _ (@nQ _ _ _ _ _ _ _ _ (@aX _ _ _ _ _ _ _ _ _ (@wz _ _) (¬3) (@Be _ _ _ _ _ _ _ ae ae) (aU _)) (@mT _ _ _ _ _ (@aX _ _ _ _ _ _ _ _ _ (@uY _ _) (@bf _ _ _ _ _ _ _ _ _ (@b_len _ _ rfl) (by rfl) T.b_len ((¬1)∘ab) (by decide) (by decide) (by rfl) (by rfl)) ae (aU _)))))
      (@ag _ _ _ _ _ _ _ _ (@fN _ _ _ _ _ (@eS _ _ _ _ _ _ _ _ _ rfl (¬1) ((@aZ _ _ _ _ _ _ _ (¬3) ae)∘ab) (by rfl) (by rfl) (by rfl) (by rfl) (by rfl)) (by rfl))
      (@aj _ _ _ _ _ (@aG _ _ _ _ _ 3 _ _ nd rfl (Or.inl rfl) (@gu _ _ _ _ _ _ _ (¬3) ae) (by rfl) (by trivial)))))
      (@aj _ _ _ _ _ (@cE _ _ _ _ _ _ _ _ _ _ _ (@aX _ _ _ _ _ _ _ _ _ (@wz _ _) (¬3) ae (aU _))
      (@aj _ _ _ _ _ (@fN _ _ _ _ _ (@eS _ _ _ _ _ _ _ _ _ rfl (¬1) ((@aZ _ _ _ _ _ _ _ (¬3) ae)∘ab) (by rfl) (by rfl) (by rfl) (by rfl) (by rfl)) (by rfl)))
      (@a' _ _)))))) (by intro _;rfl))
      (@aj _ _ _ _ _ (@az _ _ _ _ _ (¬1))))))
noncomputable def sy:FS:=(aD (ir (aH (ar (bR false) (ac 0) (cW ah)))
    (aY (vC (.int 0)))
    cG)
    (aY (cF eg (ac 0) (aa (vC (.int 0)) ah))))
noncomputable def bz:FM:=fC 1 0 (([]++[])++[]) sy
theorem uG:aB ["_law_drawn"] ["_law_drawn"] (am iU):=⟨rfl,rfl,rfl,by decide+kernel,rfl,by decide+kernel,by decide+kernel⟩
theorem zu(h:aV K mg "_law_next" iU f fd ["_law_drawn"])(T:h_ mg):aC P w K mg base bv 1 f fd ["_law_drawn"] (bA K 1 bz):=by
  have nd:=uG.nd
  exact h.fn uG rfl rfl (fun cdv A outer s H E hr=>(@ag _ _ _ _ _ _ _ _ (@cE _ _ _ _ _ _ _ _ _ _ _ (@aX _ _ _ _ _ _ _ _ _ (@mE _ _ _ rfl hr) (¬0) (@bO _ _ _ _ _ ab) (aU _))
      (@aj _ _ _ _ _ (@az _ _ _ _ _ ae))
      (@a' _ _))
      (@aj _ _ _ _ _ (@az _ _ _ _ _ (@uD _ _ _ _ _ _ _ _ _ rfl (¬0) (ae∘ab) (by rfl) (by rfl) (by rfl) (by rfl) (by rfl))))))
noncomputable def kL:FT:=(aH (ar (bR true) (ac 1) (vC (.int 0))))
noncomputable def mM:FS:=(mJ 0 1 (aa (ac 1) (aa (ar a9 (ac 0) (ac 1)) ah)))
noncomputable def AO:FS:=(aD (iV (2 ^ 4200) kL mM)
    (aY (aQ (g1 sG) (aa (ac 0) ah))))
noncomputable def rq:FM:=fC 2 0 ([0,1]++[]) AO
theorem yi:aB ["_law_one","_law_other"] ["_law_one","_law_other"] (am rM):=⟨rfl,rfl,rfl,by decide+kernel,rfl,by decide+kernel,by decide+kernel⟩
theorem B0(h:aV K mg "_law_gcd" rM f fd ["_law_one","_law_other"])(T:h_ mg):aC P w K mg base bv 1 f fd ["_law_one","_law_other"] (bA K 2 rq):=by
  have nd:=yi.nd
  exact h.fn yi rfl rfl (fun cdv A outer s H E hr=>(@ag _ _ _ _ _ _ _ _ (@lh _ _ _ _ _ _ _ _ _ PassesOwn.never (@aX _ _ _ _ _ _ _ _ _ (@m_ _ _ _ rfl hr) (¬1) ae (aU _))
      (@aj _ _ _ _ _ (@x8 _ _ _ _ _ 0 1 _ _ _ _ _ _ _ _ _ rfl nd rfl rfl (by decide) rfl rfl ((¬1)∘((@aZ _ _ _ _ _ _ _ (¬0) (¬1))∘ab)) (by rfl) (by rfl))))
      (@aj _ _ _ _ _ (@az _ _ _ _ _ (@bf _ _ _ _ _ _ _ _ _ (@b_abs _ _) (by rfl) T.b_abs ((¬0)∘ab) (by decide) (by decide) (by rfl) (by rfl))))))
noncomputable def AQ:FS:=(aD (bh 2 (bH 2 rq (aa (ac 0) (aa (ac 1) ah))))
    (aY (bB (aa (ar dt (ac 0) (ac 2)) (aa (ar dt (ac 1) (ac 2)) ah)))))
noncomputable def j9:FM:=fC 2 1 ([2]++[]) AQ
theorem yj:aB ["_law_top","_law_bottom","_law_common"] ["_law_top","_law_bottom"] (am nS):=⟨rfl,rfl,rfl,by decide+kernel,rfl,by decide+kernel,by decide+kernel⟩
theorem B1(h:aV K mg "_law_low" nS f fd ["_law_top","_law_bottom"])(T:h_ mg){fLgcd:Addr}{eLgcd:FuncData}(hLgcd:aV K mg "_law_gcd" rM fLgcd eLgcd ["_law_one","_law_other"])(GLgcd:aC P w K mg base bv 1 fLgcd eLgcd ["_law_one","_law_other"] (bA K 2 rq)):aC P w K mg base bv 2 f fd ["_law_top","_law_bottom"] (bA K 2 j9):=by
  have nd:=yj.nd
  exact h.fn yj rfl rfl (fun cdv A outer s H E hr=>(@ag _ _ _ _ _ _ _ _ (@aG _ _ _ _ _ 2 _ _ nd rfl (Or.inl rfl) (@aP _ _ _ _ _ _ _ _ _ _ _ _ _ _ _ hLgcd GLgcd (hr.mono (by decide)) ((¬0)∘((¬1)∘ab)) (by rfl) (by decide) (by rfl) (by rfl)) (by rfl) (by trivial))
      (@aj _ _ _ _ _ (@az _ _ _ _ _ (@aO _ _ _ _ _ _ ((@gu _ _ _ _ _ _ _ (¬0) (¬2))∘((@gu _ _ _ _ _ _ _ (¬1) (¬2))∘ab)))))))
noncomputable def wm:FS:=(aY (bH 2 j9 (aa (ar cy (ar cD (ar bE (ac 0) (vC (.int 0))) (ar bE (ac 1) (vC (.int 1)))) (ar cD (ar bE (ac 1) (vC (.int 0))) (ar bE (ac 0) (vC (.int 1))))) (aa (ar cD (ar bE (ac 0) (vC (.int 1))) (ar bE (ac 1) (vC (.int 1)))) ah))))
noncomputable def dO:FM:=fC 2 0 [] wm
theorem uH:aB ["_law_one","_law_other"] ["_law_one","_law_other"] (am lX):=⟨rfl,rfl,rfl,by decide+kernel,rfl,by decide+kernel,by decide+kernel⟩
theorem zv(h:aV K mg "_law_plus" lX f fd ["_law_one","_law_other"])(T:h_ mg){fLlow:Addr}{eLlow:FuncData}(hLlow:aV K mg "_law_low" nS fLlow eLlow ["_law_top","_law_bottom"])(GLlow:aC P w K mg base bv 2 fLlow eLlow ["_law_top","_law_bottom"] (bA K 2 j9)):aC P w K mg base bv 3 f fd ["_law_one","_law_other"] (bA K 2 dO):=by
  have nd:=uH.nd
  exact h.fn uH rfl rfl (fun cdv A outer s H E hr=>(@aj _ _ _ _ _ (@az _ _ _ _ _ (@aP _ _ _ _ _ _ _ _ _ _ _ _ _ _ _ hLlow GLlow (hr.mono (by decide)) ((@cm _ _ _ _ _ _ _ rfl (@d_ _ _ _ _ _ _ _ rfl (@aS _ _ _ _ _ _ _ rfl (¬0) ae (fun _ _=>rfl)) (@aS _ _ _ _ _ _ _ rfl (¬1) ae (fun _ _=>rfl))) (@d_ _ _ _ _ _ _ _ rfl (@aS _ _ _ _ _ _ _ rfl (¬1) ae (fun _ _=>rfl)) (@aS _ _ _ _ _ _ _ rfl (¬0) ae (fun _ _=>rfl))))∘((@d_ _ _ _ _ _ _ _ rfl (@aS _ _ _ _ _ _ _ rfl (¬0) ae (fun _ _=>rfl)) (@aS _ _ _ _ _ _ _ rfl (¬1) ae (fun _ _=>rfl)))∘ab)) (by rfl) (by decide) (by rfl) (by rfl)))))
noncomputable def tZ:FS:=(aY (bH 2 j9 (aa (ar cD (ar bE (ac 0) (vC (.int 0))) (ar bE (ac 1) (vC (.int 0)))) (aa (ar cD (ar bE (ac 0) (vC (.int 1))) (ar bE (ac 1) (vC (.int 1)))) ah))))
noncomputable def bF:FM:=fC 2 0 [] tZ
theorem rS:aB ["_law_one","_law_other"] ["_law_one","_law_other"] (am gX):=⟨rfl,rfl,rfl,by decide+kernel,rfl,by decide+kernel,by decide+kernel⟩
theorem xx(h:aV K mg "_law_times" gX f fd ["_law_one","_law_other"])(T:h_ mg){fLlow:Addr}{eLlow:FuncData}(hLlow:aV K mg "_law_low" nS fLlow eLlow ["_law_top","_law_bottom"])(GLlow:aC P w K mg base bv 2 fLlow eLlow ["_law_top","_law_bottom"] (bA K 2 j9)):aC P w K mg base bv 3 f fd ["_law_one","_law_other"] (bA K 2 bF):=by
  have nd:=rS.nd
  exact h.fn rS rfl rfl (fun cdv A outer s H E hr=>(@aj _ _ _ _ _ (@az _ _ _ _ _ (@aP _ _ _ _ _ _ _ _ _ _ _ _ _ _ _ hLlow GLlow (hr.mono (by decide)) ((@d_ _ _ _ _ _ _ _ rfl (@aS _ _ _ _ _ _ _ rfl (¬0) ae (fun _ _=>rfl)) (@aS _ _ _ _ _ _ _ rfl (¬1) ae (fun _ _=>rfl)))∘((@d_ _ _ _ _ _ _ _ rfl (@aS _ _ _ _ _ _ _ rfl (¬0) ae (fun _ _=>rfl)) (@aS _ _ _ _ _ _ _ rfl (¬1) ae (fun _ _=>rfl)))∘ab)) (by rfl) (by decide) (by rfl) (by rfl)))))
noncomputable def wn:FS:=(aY (bB (aa (ar gZ (ar bE (ac 0) (vC (.int 1))) (ar bE (ac 0) (vC (.int 0)))) (aa (ar bE (ac 0) (vC (.int 1))) ah))))
noncomputable def gp:FM:=fC 1 0 [] wn
theorem uI:aB ["_law_one"] ["_law_one"] (am jD):=⟨rfl,rfl,rfl,by decide+kernel,rfl,by decide+kernel,by decide+kernel⟩
theorem zw(h:aV K mg "_law_rest" jD f fd ["_law_one"])(T:h_ mg):aC P w K mg base bv 1 f fd ["_law_one"] (bA K 1 gp):=by
  have nd:=uI.nd
  exact h.fn uI rfl rfl (fun cdv A outer s H E hr=>(@aj _ _ _ _ _ (@az _ _ _ _ _ (@aO _ _ _ _ _ _ ((@pz _ _ _ _ _ _ _ (@aS _ _ _ _ _ _ _ rfl (¬0) ae (fun _ _=>rfl)) (@aS _ _ _ _ _ _ _ rfl (¬0) ae (fun _ _=>rfl)))∘((@aS _ _ _ _ _ _ _ rfl (¬0) ae (fun _ _=>rfl))∘ab))))))
noncomputable def wo:FS:=(aD (ir (aH (ac 1))
    (aY (ar DC (ac 0) (vC (.bool true))))
    cG)
    (aY (ar DC (ac 0) (vC (.bool false)))))
noncomputable def lQ:FM:=fC 2 0 (([]++[])++[]) wo
theorem uJ:aB ["_law_found","_law_due"] ["_law_found","_law_due"] (am nU):=⟨rfl,rfl,rfl,by decide+kernel,rfl,by decide+kernel,by decide+kernel⟩
theorem zx(h:aV K mg "_law_says" nU f fd ["_law_found","_law_due"])(T:h_ mg):aC P w K mg base bv 1 f fd ["_law_found","_law_due"] (bA K 2 lQ):=by
  have nd:=uJ.nd
  exact h.fn uJ rfl rfl (fun cdv A outer s H E hr=>(@ag _ _ _ _ _ _ _ _ (@cE _ _ _ _ _ _ _ _ _ _ _ (@hJ _ _ _ _ (¬1) (by intro _;rfl))
      (@aj _ _ _ _ _ (@az _ _ _ _ _ (@lc _ _ _ _ _ _ _ _ _ (@Dw _ _) (¬0) (@ec _ _ _ _ _) (aU _))))
      (@a' _ _))
      (@aj _ _ _ _ _ (@az _ _ _ _ _ (@lc _ _ _ _ _ _ _ _ _ (@Dw _ _) (¬0) (@ec _ _ _ _ _) (aU _))))))
noncomputable def ji:FS:=(aD (ir (aH (ar (bR false) (ac 1) (vC (.int 0))))
    (aY (ar bE (cW (aa (bB (aa (vC (.int 1)) (aa (vC (.int 2)) ah))) (aa (bB (aa (vC (.int 1)) (aa (vC (.int 3)) ah))) (aa (bB (aa (vC (.int 2)) (aa (vC (.int 3)) ah))) (aa (bB (aa (vC (.int 1)) (aa (vC (.int 1)) ah))) (aa (bB (aa (vC (.int 0)) (aa (vC (.int 1)) ah))) (aa (bB (aa (vC (.int 3)) (aa (vC (.int 4)) ah))) ah))))))) (ar a9 (ac 0) (vC (.int 6)))))
    cG)
    (aD (ir (aH (ar (bR false) (ac 1) (vC (.int 1))))
    (aD (bh 2 (ar cy (vC (.int 2)) (ar a9 (ac 0) (vC (.int 9)))))
    (aY (bH 2 j9 (aa (ar cy (vC (.int 1)) (ar a9 (ar dt (ac 0) (vC (.int 9))) (ar gZ (ac 2) (vC (.int 1))))) (aa (ac 2) ah)))))
    cG)
    (aD (ir (aH (ar (bR false) (ac 1) (vC (.int 2))))
    (aD (bh 2 (ar cy (vC (.int 1)) (ar a9 (ac 0) (vC (.int 100)))))
    (aY (bH 2 j9 (aa (ar a9 (ar dt (ac 0) (vC (.int 100))) (ar cy (ac 2) (vC (.int 1)))) (aa (ac 2) ah)))))
    cG)
    (aY (bB (aa (vC (.int 1)) (aa (vC (.int 1)) ah)))))))
noncomputable def eP:FM:=fC 2 1 (([]++[])++((([2]++[])++[])++((([2]++[])++[])++[]))) ji
theorem pF:aB ["_law_number","_law_kind","_law_bottom"] ["_law_number","_law_kind"] (am jC):=⟨rfl,rfl,rfl,by decide+kernel,rfl,by decide+kernel,by decide+kernel⟩
theorem vx(h:aV K mg "_law_chance" jC f fd ["_law_number","_law_kind"])(T:h_ mg){fLlow:Addr}{eLlow:FuncData}(hLlow:aV K mg "_law_low" nS fLlow eLlow ["_law_top","_law_bottom"])(GLlow:aC P w K mg base bv 2 fLlow eLlow ["_law_top","_law_bottom"] (bA K 2 j9)):aC P w K mg base bv 3 f fd ["_law_number","_law_kind"] (bA K 2 eP):=by
  have nd:=pF.nd
  exact h.fn pF rfl rfl (fun cdv A outer s H E hr=>(@ag _ _ _ _ _ _ _ _ (@cE _ _ _ _ _ _ _ _ _ _ _ (@aX _ _ _ _ _ _ _ _ _ (@mE _ _ _ rfl hr) (¬1) ae (aU _))
      (@aj _ _ _ _ _ (@az _ _ _ _ _ (@aS _ _ _ _ _ _ _ rfl (@bO _ _ _ _ _ ((@aO _ _ _ _ _ _ (ae∘(ae∘ab)))∘((@aO _ _ _ _ _ _ (ae∘(ae∘ab)))∘((@aO _ _ _ _ _ _ (ae∘(ae∘ab)))∘((@aO _ _ _ _ _ _ (ae∘(ae∘ab)))∘((@aO _ _ _ _ _ _ (ae∘(ae∘ab)))∘((@aO _ _ _ _ _ _ (ae∘(ae∘ab)))∘ab))))))) (@aZ _ _ _ _ _ _ _ (¬0) ae) (fun _ _=>rfl))))
      (@a' _ _))
      (@ag _ _ _ _ _ _ _ _ (@cE _ _ _ _ _ _ _ _ _ _ _ (@aX _ _ _ _ _ _ _ _ _ (@mE _ _ _ rfl hr) (¬1) ae (aU _))
      (@ag _ _ _ _ _ _ _ _ (@aG _ _ _ _ _ 2 _ _ nd rfl (Or.inl rfl) (@cm _ _ _ _ _ _ _ rfl ae (@aZ _ _ _ _ _ _ _ (¬0) ae)) (by rfl) (by trivial))
      (@aj _ _ _ _ _ (@az _ _ _ _ _ (@aP _ _ _ _ _ _ _ _ _ _ _ _ _ _ _ hLlow GLlow (hr.mono (by decide)) ((@cm _ _ _ _ _ _ _ rfl ae (@aZ _ _ _ _ _ _ _ (@gu _ _ _ _ _ _ _ (¬0) ae) (@pz _ _ _ _ _ _ _ (¬2) ae)))∘((¬2)∘ab)) (by rfl) (by decide) (by rfl) (by rfl)))))
      (@a' _ _))
      (@ag _ _ _ _ _ _ _ _ (@cE _ _ _ _ _ _ _ _ _ _ _ (@aX _ _ _ _ _ _ _ _ _ (@mE _ _ _ rfl hr) (¬1) ae (aU _))
      (@ag _ _ _ _ _ _ _ _ (@aG _ _ _ _ _ 2 _ _ nd rfl (Or.inl rfl) (@cm _ _ _ _ _ _ _ rfl ae (@aZ _ _ _ _ _ _ _ (¬0) ae)) (by rfl) (by trivial))
      (@aj _ _ _ _ _ (@az _ _ _ _ _ (@aP _ _ _ _ _ _ _ _ _ _ _ _ _ _ _ hLlow GLlow (hr.mono (by decide)) ((@aZ _ _ _ _ _ _ _ (@gu _ _ _ _ _ _ _ (¬0) ae) (@cm _ _ _ _ _ _ _ rfl (¬2) ae))∘((¬2)∘ab)) (by rfl) (by decide) (by rfl) (by rfl)))))
      (@a' _ _))
      (@aj _ _ _ _ _ (@az _ _ _ _ _ (@aO _ _ _ _ _ _ (ae∘(ae∘ab)))))))))
noncomputable def t9:FS:=(aY (ar bE (cW (aa (ar a9 (ac 0) (vC (.int 7))) (aa (ar cy (vC (.int 5)) (ar a9 (ac 0) (vC (.int 2)))) (aa (ar a9 (ac 0) (vC (.int 1001))) (aa (ar gZ (vC (.int 1000)) (ar a9 (ac 0) (vC (.int 3)))) ah))))) (ar a9 (ac 1) (vC (.int 4)))))
noncomputable def k7:FM:=fC 2 0 [] t9
theorem rT:aB ["_law_number","_law_kind"] ["_law_number","_law_kind"] (am ls):=⟨rfl,rfl,rfl,by decide+kernel,rfl,by decide+kernel,by decide+kernel⟩
theorem xA(h:aV K mg "_law_worth" ls f fd ["_law_number","_law_kind"])(T:h_ mg):aC P w K mg base bv 1 f fd ["_law_number","_law_kind"] (bA K 2 k7):=by
  have nd:=rT.nd
  exact h.fn rT rfl rfl (fun cdv A outer s H E hr=>(@aj _ _ _ _ _ (@az _ _ _ _ _ (@aS _ _ _ _ _ _ _ rfl (@bO _ _ _ _ _ ((@aZ _ _ _ _ _ _ _ (¬0) ae)∘((@cm _ _ _ _ _ _ _ rfl ae (@aZ _ _ _ _ _ _ _ (¬0) ae))∘((@aZ _ _ _ _ _ _ _ (¬0) ae)∘((@pz _ _ _ _ _ _ _ ae (@aZ _ _ _ _ _ _ _ (¬0) ae))∘ab))))) (@aZ _ _ _ _ _ _ _ (¬1) ae) (fun _ _=>rfl)))))
noncomputable def nB:FI:=(cS (aa (ac 2) ah))
noncomputable def ic:FS:=(aD (bh 8 (bH 1 bz (aa (ac 0) ah)))
    (aD (bh 9 (ar bE (cW (aa (ar a9 (ac 8) (ac 1)) (aa (vC (.int 0)) (aa (ar a9 (ac 7) (ac 1)) (aa (ar a9 (ac 8) (ac 1)) (aa (ar a9 (ac 8) (vC (.int 2))) (aa (ar a9 (ac 8) (ac 1)) ah))))))) (ac 3)))
    (aD (bh 10 (ar a9 (ar cy (ar cy (ac 9) (vC (.int 1))) (ar a9 (ar dt (ac 8) (vC (.int 12))) (ar gZ (ac 1) (vC (.int 1))))) (ac 1)))
    (aD (ir (aH (ar (bR false) (ac 3) (vC (.int 4))))
    (fm (bB (aa (vC (.int 0)) (aa (vC (.int 1)) ah))) (aN (ai (af 9) (ai (af 10) aK))))
    cG)
    (aD (bh 11 (bH 1 bz (aa (ac 0) ah)))
    (aD (bh 12 (bB (aa (aQ (g2 wR) (aa (ac 9) (aa (ac 10) ah))) (aa (aQ (g2 vh) (aa (ac 9) (aa (ac 10) ah))) ah))))
    (dz (cF bD (ac 6) (aa (ar cy (ac 12) (bB (aa (bH 2 eP (aa (ac 11) (aa (ac 4) ah))) (aa (bH 2 k7 (aa (ar dt (ac 11) (vC (.int 10007))) (aa (ac 5) ah))) ah)))) ah)))))))))
noncomputable def wq:FS:=(aD (bh 3 (ar a9 (bH 1 bz (aa (ac 0) ah)) (vC (.int 6))))
    (aD (bh 4 (ar a9 (bH 1 bz (aa (ac 0) ah)) (vC (.int 4))))
    (aD (bh 5 (ar a9 (bH 1 bz (aa (ac 0) ah)) (vC (.int 4))))
    (aD (bh 6 (cW ah))
    (aD (de ([7]++([8]++([9]++([10]++((([9]++([10]++[]))++[])++([11]++([12]++[]))))))) nB (af 7) ic)
    (aY (aQ (g1 c9) (aa (ac 6) ah))))))))
noncomputable def nE:FM:=fC 3 10 ([3]++([4]++([5]++([6]++(([7]++([8]++([9]++([10]++((([9]++([10]++[]))++[])++([11]++([12]++[])))))))++[]))))) wq
theorem uK:aB ["_law_drawn","_law_things","_law_many","_law_shape","_law_odds","_law_worths_here","_law_found","_law_k","_law_number","_law_one","_law_other","_law_cell","_law_ends"] ["_law_drawn","_law_things","_law_many"] (am nV):=⟨rfl,rfl,rfl,by decide+kernel,rfl,by decide+kernel,by decide+kernel⟩
theorem zy(h:aV K mg "_law_ties" nV f fd ["_law_drawn","_law_things","_law_many"])(T:h_ mg){fLnext:Addr}{eLnext:FuncData}(hLnext:aV K mg "_law_next" iU fLnext eLnext ["_law_drawn"])(GLnext:aC P w K mg base bv 1 fLnext eLnext ["_law_drawn"] (bA K 1 bz)){fLchance:Addr}{eLchance:FuncData}(hLchance:aV K mg "_law_chance" jC fLchance eLchance ["_law_number","_law_kind"])(GLchance:aC P w K mg base bv 3 fLchance eLchance ["_law_number","_law_kind"] (bA K 2 eP)){fLworth:Addr}{eLworth:FuncData}(hLworth:aV K mg "_law_worth" ls fLworth eLworth ["_law_number","_law_kind"])(GLworth:aC P w K mg base bv 1 fLworth eLworth ["_law_number","_law_kind"] (bA K 2 k7)):aC P w K mg base bv 4 f fd ["_law_drawn","_law_things","_law_many"] (bA K 3 nE):=by
  have nd:=uK.nd
  exact h.fn uK rfl rfl (fun cdv A outer s H E hr=>(@ag _ _ _ _ _ _ _ _ (@aG _ _ _ _ _ 3 _ _ nd rfl (Or.inl rfl) (@aZ _ _ _ _ _ _ _ (@aP _ _ _ _ _ _ _ _ _ _ _ _ _ _ _ hLnext GLnext (hr.mono (by decide)) ((¬0)∘ab) (by rfl) (by decide) (by rfl) (by rfl)) ae) (by rfl) (by trivial))
      (@ag _ _ _ _ _ _ _ _ (@aG _ _ _ _ _ 4 _ _ nd rfl (Or.inl rfl) (@aZ _ _ _ _ _ _ _ (@aP _ _ _ _ _ _ _ _ _ _ _ _ _ _ _ hLnext GLnext (hr.mono (by decide)) ((¬0)∘ab) (by rfl) (by decide) (by rfl) (by rfl)) ae) (by rfl) (by trivial))
      (@ag _ _ _ _ _ _ _ _ (@aG _ _ _ _ _ 5 _ _ nd rfl (Or.inl rfl) (@aZ _ _ _ _ _ _ _ (@aP _ _ _ _ _ _ _ _ _ _ _ _ _ _ _ hLnext GLnext (hr.mono (by decide)) ((¬0)∘ab) (by rfl) (by decide) (by rfl) (by rfl)) ae) (by rfl) (by trivial))
      (@ag _ _ _ _ _ _ _ _ (@aG _ _ _ _ _ 6 _ _ nd rfl (Or.inl rfl) (@bO _ _ _ _ _ ab) (by rfl) (by trivial))
      (@ag _ _ _ _ _ _ _ _ (@dR _ _ _ _ _ _ _ _ _ _ _ PassesOwn.never rfl (@cU _ _ _ _ _ _ _ rfl T.b_range ((¬2)∘ab) (by rfl)) (@ao _ _ _ 7 _ nd rfl (Or.inl rfl) (by trivial))
      (@ag _ _ _ _ _ _ _ _ (@aG _ _ _ _ _ 8 _ _ nd rfl (Or.inl rfl) (@aP _ _ _ _ _ _ _ _ _ _ _ _ _ _ _ hLnext GLnext (hr.mono (by decide)) ((¬0)∘ab) (by rfl) (by decide) (by rfl) (by rfl)) (by rfl) (by trivial))
      (@ag _ _ _ _ _ _ _ _ (@aG _ _ _ _ _ 9 _ _ nd rfl (Or.inl rfl) (@aS _ _ _ _ _ _ _ rfl (@bO _ _ _ _ _ ((@aZ _ _ _ _ _ _ _ (¬8) (¬1))∘(ae∘((@aZ _ _ _ _ _ _ _ (¬7) (¬1))∘((@aZ _ _ _ _ _ _ _ (¬8) (¬1))∘((@aZ _ _ _ _ _ _ _ (¬8) ae)∘((@aZ _ _ _ _ _ _ _ (¬8) (¬1))∘ab))))))) (¬3) (fun _ _=>rfl)) (by rfl) (by trivial))
      (@ag _ _ _ _ _ _ _ _ (@aG _ _ _ _ _ 10 _ _ nd rfl (Or.inl rfl) (@aZ _ _ _ _ _ _ _ (@cm _ _ _ _ _ _ _ rfl (@cm _ _ _ _ _ _ _ rfl (¬9) ae) (@aZ _ _ _ _ _ _ _ (@gu _ _ _ _ _ _ _ (¬8) ae) (@pz _ _ _ _ _ _ _ (¬1) ae))) (¬1)) (by rfl) (by trivial))
      (@ag _ _ _ _ _ _ _ _ (@cE _ _ _ _ _ _ _ _ _ _ _ (@aX _ _ _ _ _ _ _ _ _ (@mE _ _ _ rfl hr) (¬3) ae (aU _))
      (@aj _ _ _ _ _ (@dQ _ _ _ _ _ _ _ _ (@aO _ _ _ _ _ _ (ae∘(ae∘ab))) (@bN _ _ _ _ _ _ _ _ rfl rfl (@ap _ _ _ _ _ _ _ _ (@ao _ _ _ 9 _ nd rfl (Or.inl rfl) (by trivial)) (@ap _ _ _ _ _ _ _ _ (@ao _ _ _ 10 _ nd rfl (Or.inl rfl) (by trivial)) (@bg _ _) (by rfl)) (by rfl)) (aq (aq bK)) (by rfl) (by rfl)) (by rfl) (by rfl) (by rfl)))
      (@a' _ _))
      (@ag _ _ _ _ _ _ _ _ (@aG _ _ _ _ _ 11 _ _ nd rfl (Or.inl rfl) (@aP _ _ _ _ _ _ _ _ _ _ _ _ _ _ _ hLnext GLnext (hr.mono (by decide)) ((¬0)∘ab) (by rfl) (by decide) (by rfl) (by rfl)) (by rfl) (by trivial))
      (@ag _ _ _ _ _ _ _ _ (@aG _ _ _ _ _ 12 _ _ nd rfl (Or.inl rfl) (@aO _ _ _ _ _ _ ((@bf _ _ _ _ _ _ _ _ _ (@b_min _ _ rfl) (by rfl) T.b_min ((¬9)∘((¬10)∘ab)) (by decide) (by decide) (by rfl) (by rfl))∘((@bf _ _ _ _ _ _ _ _ _ (@b_max _ _ rfl) (by rfl) T.b_max ((¬9)∘((¬10)∘ab)) (by decide) (by decide) (by rfl) (by rfl))∘ab))) (by rfl) (by trivial))
      (@aj _ _ _ _ _ (@fN _ _ _ _ _ (@eS _ _ _ _ _ _ _ _ _ rfl (¬6) ((@cm _ _ _ _ _ _ _ rfl (¬12) (@aO _ _ _ _ _ _ ((@aP _ _ _ _ _ _ _ _ _ _ _ _ _ _ _ hLchance GLchance (hr.mono (by decide)) ((¬11)∘((¬4)∘ab)) (by rfl) (by decide) (by rfl) (by rfl))∘((@aP _ _ _ _ _ _ _ _ _ _ _ _ _ _ _ hLworth GLworth (hr.mono (by decide)) ((@gu _ _ _ _ _ _ _ (¬11) ae)∘((¬5)∘ab)) (by rfl) (by decide) (by rfl) (by rfl))∘ab))))∘ab) (by rfl) (by rfl) (by rfl) (by rfl) (by rfl)) (by rfl))))))))) (by intro _;rfl))
      (@aj _ _ _ _ _ (@az _ _ _ _ _ (@bf _ _ _ _ _ _ _ _ _ (@b_tuple _ _ rfl) (by rfl) T.b_tuple ((¬6)∘ab) (by decide) (by decide) (by rfl) (by rfl))))))))))
noncomputable def qc:FI:=(cS (aa (ac 3) ah))
noncomputable def mN:FS:=(dz (cF bD (ac 7) (aa (ar bE (cW (aa (vC (.int 20)) (aa (ar cy (vC (.int 1)) (ar a9 (bH 1 bz (aa (ac 0) ah)) (vC (.int 3)))) (aa (ar a9 (bH 1 bz (aa (ac 0) ah)) (vC (.int 21))) ah)))) (ac 6)) ah)))
noncomputable def AR:FS:=(aD (bh 3 (ar a9 (bH 1 bz (aa (ac 0) ah)) (ar cy (ac 1) (vC (.int 1)))))
    (aD (bh 4 (ar cD (ar a9 (bH 1 bz (aa (ac 0) ah)) (ar cy (ac 2) (vC (.int 1)))) (aQ (g1 vg) (aa (ar Dz (ac 3) (vC (.int 1))) ah))))
    (aD (bh 5 (bH 3 nE (aa (ac 0) (aa (aQ (g2 vh) (aa (vC (.int 2)) (aa (ac 3) ah))) (aa (ac 4) ah)))))
    (aD (bh 6 (ar a9 (bH 1 bz (aa (ac 0) ah)) (vC (.int 3))))
    (aD (bh 7 (cW ah))
    (aD (de ([8]++[]) qc (af 8) mN)
    (aD (bh 9 (ar bE (cW (aa (vC (.int 40)) (aa (ar cy (vC (.int 1)) (ar a9 (bH 1 bz (aa (ac 0) ah)) (aQ (g2 vh) (aa (vC (.int 1)) (aa (ac 4) ah))))) (aa (ar a9 (bH 1 bz (aa (ac 0) ah)) (vC (.int 41))) ah)))) (ar a9 (bH 1 bz (aa (ac 0) ah)) (vC (.int 3)))))
    (aY (bB (aa (ac 3) (aa (ac 5) (aa (aQ (g1 c9) (aa (ac 7) ah)) (aa (ac 9) ah)))))))))))))
noncomputable def rA:FM:=fC 3 7 ([3]++([4]++([5]++([6]++([7]++(([8]++[])++([9]++[]))))))) AR
theorem yl:aB ["_law_drawn","_law_most","_law_ties_here","_law_things","_law_many","_law_rows","_law_way","_law_patience","_law_k","_law_asks"] ["_law_drawn","_law_most","_law_ties_here"] (am rO):=⟨rfl,rfl,rfl,by decide+kernel,rfl,by decide+kernel,by decide+kernel⟩
theorem B3(h:aV K mg "_law_web" rO f fd ["_law_drawn","_law_most","_law_ties_here"])(T:h_ mg){fLties:Addr}{eLties:FuncData}(hLties:aV K mg "_law_ties" nV fLties eLties ["_law_drawn","_law_things","_law_many"])(GLties:aC P w K mg base bv 4 fLties eLties ["_law_drawn","_law_things","_law_many"] (bA K 3 nE)){fLnext:Addr}{eLnext:FuncData}(hLnext:aV K mg "_law_next" iU fLnext eLnext ["_law_drawn"])(GLnext:aC P w K mg base bv 1 fLnext eLnext ["_law_drawn"] (bA K 1 bz)):aC P w K mg base bv 5 f fd ["_law_drawn","_law_most","_law_ties_here"] (bA K 3 rA):=by
  have nd:=yl.nd
  exact h.fn yl rfl rfl (fun cdv A outer s H E hr=>(@ag _ _ _ _ _ _ _ _ (@aG _ _ _ _ _ 3 _ _ nd rfl (Or.inl rfl) (@aZ _ _ _ _ _ _ _ (@aP _ _ _ _ _ _ _ _ _ _ _ _ _ _ _ hLnext GLnext (hr.mono (by decide)) ((¬0)∘ab) (by rfl) (by decide) (by rfl) (by rfl)) (@cm _ _ _ _ _ _ _ rfl (¬1) ae)) (by rfl) (by trivial))
      (@ag _ _ _ _ _ _ _ _ (@aG _ _ _ _ _ 4 _ _ nd rfl (Or.inl rfl) (@d_ _ _ _ _ _ _ _ rfl (@aZ _ _ _ _ _ _ _ (@aP _ _ _ _ _ _ _ _ _ _ _ _ _ _ _ hLnext GLnext (hr.mono (by decide)) ((¬0)∘ab) (by rfl) (by decide) (by rfl) (by rfl)) (@cm _ _ _ _ _ _ _ rfl (¬2) ae)) (@bf _ _ _ _ _ _ _ _ _ (@b_int _ _) (by rfl) T.b_int ((@lc _ _ _ _ _ _ _ _ _ (@Dv _ _) (¬3) ae (aU _))∘ab) (by decide) (by decide) (by rfl) (by rfl))) (by rfl) (by trivial))
      (@ag _ _ _ _ _ _ _ _ (@aG _ _ _ _ _ 5 _ _ nd rfl (Or.inl rfl) (@aP _ _ _ _ _ _ _ _ _ _ _ _ _ _ _ hLties GLties (hr.mono (by decide)) ((¬0)∘((@bf _ _ _ _ _ _ _ _ _ (@b_max _ _ rfl) (by rfl) T.b_max (ae∘((¬3)∘ab)) (by decide) (by decide) (by rfl) (by rfl))∘((¬4)∘ab))) (by rfl) (by decide) (by rfl) (by rfl)) (by rfl) (by trivial))
      (@ag _ _ _ _ _ _ _ _ (@aG _ _ _ _ _ 6 _ _ nd rfl (Or.inl rfl) (@aZ _ _ _ _ _ _ _ (@aP _ _ _ _ _ _ _ _ _ _ _ _ _ _ _ hLnext GLnext (hr.mono (by decide)) ((¬0)∘ab) (by rfl) (by decide) (by rfl) (by rfl)) ae) (by rfl) (by trivial))
      (@ag _ _ _ _ _ _ _ _ (@aG _ _ _ _ _ 7 _ _ nd rfl (Or.inl rfl) (@bO _ _ _ _ _ ab) (by rfl) (by trivial))
      (@ag _ _ _ _ _ _ _ _ (@dR _ _ _ _ _ _ _ _ _ _ _ PassesOwn.never rfl (@cU _ _ _ _ _ _ _ rfl T.b_range ((¬3)∘ab) (by rfl)) (@ao _ _ _ 8 _ nd rfl (Or.inl rfl) (by trivial))
      (@aj _ _ _ _ _ (@fN _ _ _ _ _ (@eS _ _ _ _ _ _ _ _ _ rfl (¬7) ((@aS _ _ _ _ _ _ _ rfl (@bO _ _ _ _ _ (ae∘((@cm _ _ _ _ _ _ _ rfl ae (@aZ _ _ _ _ _ _ _ (@aP _ _ _ _ _ _ _ _ _ _ _ _ _ _ _ hLnext GLnext (hr.mono (by decide)) ((¬0)∘ab) (by rfl) (by decide) (by rfl) (by rfl)) ae))∘((@aZ _ _ _ _ _ _ _ (@aP _ _ _ _ _ _ _ _ _ _ _ _ _ _ _ hLnext GLnext (hr.mono (by decide)) ((¬0)∘ab) (by rfl) (by decide) (by rfl) (by rfl)) ae)∘ab)))) (¬6) (fun _ _=>rfl))∘ab) (by rfl) (by rfl) (by rfl) (by rfl) (by rfl)) (by rfl))) (by intro _;rfl))
      (@ag _ _ _ _ _ _ _ _ (@aG _ _ _ _ _ 9 _ _ nd rfl (Or.inl rfl) (@aS _ _ _ _ _ _ _ rfl (@bO _ _ _ _ _ (ae∘((@cm _ _ _ _ _ _ _ rfl ae (@aZ _ _ _ _ _ _ _ (@aP _ _ _ _ _ _ _ _ _ _ _ _ _ _ _ hLnext GLnext (hr.mono (by decide)) ((¬0)∘ab) (by rfl) (by decide) (by rfl) (by rfl)) (@bf _ _ _ _ _ _ _ _ _ (@b_max _ _ rfl) (by rfl) T.b_max (ae∘((¬4)∘ab)) (by decide) (by decide) (by rfl) (by rfl))))∘((@aZ _ _ _ _ _ _ _ (@aP _ _ _ _ _ _ _ _ _ _ _ _ _ _ _ hLnext GLnext (hr.mono (by decide)) ((¬0)∘ab) (by rfl) (by decide) (by rfl) (by rfl)) ae)∘ab)))) (@aZ _ _ _ _ _ _ _ (@aP _ _ _ _ _ _ _ _ _ _ _ _ _ _ _ hLnext GLnext (hr.mono (by decide)) ((¬0)∘ab) (by rfl) (by decide) (by rfl) (by rfl)) ae) (fun _ _=>rfl)) (by rfl) (by trivial))
      (@aj _ _ _ _ _ (@az _ _ _ _ _ (@aO _ _ _ _ _ _ ((¬3)∘((¬5)∘((@bf _ _ _ _ _ _ _ _ _ (@b_tuple _ _ rfl) (by rfl) T.b_tuple ((¬7)∘ab) (by decide) (by decide) (by rfl) (by rfl))∘((¬9)∘ab)))))))))))))))
noncomputable def ms:FI:=(kS (ac 1))
noncomputable def eC:FT:=(aH (ar (za false) (ac 0) (qP (ar bE (ar bE (ac 1) (vC (.int 1))) (ac 2)) fD (eR (vC (.int 2))))))
noncomputable def eE:FE:=(ac 2)
noncomputable def oQ:FS:=(aY (aQ (g1 eX) (aa (ed [(2,"_law_thing"),(0,"_law_web_here")] 1 ms (af 2) eC eE) ah)))
noncomputable def fW:FM:=fC 3 0 [] oQ
theorem nY:aB ["_law_web_here","_law_asked","_law_thing"] ["_law_web_here","_law_asked","_law_thing"] (am gb):=⟨rfl,rfl,rfl,by decide+kernel,rfl,by decide+kernel,by decide+kernel⟩
theorem sT(h:aV K mg "_law_asks_of" gb f fd ["_law_web_here","_law_asked","_law_thing"])(T:h_ mg):aC P w K mg base bv 1 f fd ["_law_web_here","_law_asked","_law_thing"] (bA K 3 fW):=by
  have nd:=nY.nd
  exact h.fn nY rfl rfl (fun cdv A outer s H E hr=>(@aj _ _ _ _ _ (@az _ _ _ _ _ (@bf _ _ _ _ _ _ _ _ _ (@b_len _ _ rfl) (by rfl) T.b_len ((@jy _ _ _ _ _ _ _ _ _ _ _ _ _ (am gb) ["_law_web_here","_law_asked","_law_thing"] [(2,"_law_thing"),(0,"_law_web_here")] ["_law_tie"] rfl rfl rfl (@jz _ _ _ _ _ rfl (¬1))
        (fun C s0 H0 fp=>(@ao _ _ _ 2 _ (show List.Nodup (["_law_thing","_law_web_here","_law_tie"]:List Str) by decide+kernel) rfl (Or.inl rfl) (by trivial))) (fun C s0 H0 fp=>(@qC _ _ _ _ (@aX _ _ _ _ _ _ _ _ _ (@Bz _ _ _ rfl hr) (¬0) (@iQ _ _ _ _ _ _ _ _ _ _ rfl (@aS _ _ _ _ _ _ _ rfl (@aS _ _ _ _ _ _ _ rfl (¬1) ae (fun _ _=>rfl)) (¬2) (fun _ _=>rfl)) (@iR _ _) (@iS _ _ _ _ ae)) (by with_unfolding_all rfl))))
        (fun C s0 H0 fp=>(¬2)) rfl (by decide+kernel) (by decide+kernel) (by decide+kernel) (by decide+kernel) (by decide+kernel) (by decide+kernel) (by decide+kernel) (by intro _;rfl))∘ab) (by decide) (by decide) (by rfl) (by rfl)))))
noncomputable def um:FI:=(kS (qP (ar bE (ar bE (ac 0) (vC (.int 1))) (ac 2)) fD (eR (vC (.int 2)))))
noncomputable def iD:FS:=(ir (sd (aH (ar (za false) (ac 5) (ac 4))) (aH (ar y_ (bH 3 fW (aa (ac 0) (aa (ac 3) (aa (ac 5) ah)))) (ar bE (ar bE (ac 0) (vC (.int 2))) (ac 5)))))
    (aY (vC (.bool false)))
    cG)
noncomputable def oS:FS:=(aD (fm (ac 1) (aN (ai (af 3) (ai (af 4) aK))))
    (aD (ir (sd (aH (ar (za false) (ac 2) (ac 3))) (aH (ar y_ (aQ (g1 eX) (aa (ac 3) ah)) (ar bE (ac 0) (vC (.int 3))))))
    (aY (vC (.bool false)))
    cG)
    (aD (de ([5]++([]++[])) um (af 5) iD)
    (aY (vC (.bool true))))))
noncomputable def kZ:FM:=fC 3 3 (([3]++([4]++[]))++(([]++[])++(([5]++([]++[]))++[]))) oS
theorem yk:aB ["_law_web_here","_law_stand","_law_tie","_law_asked","_law_taken","_law_thing"] ["_law_web_here","_law_stand","_law_tie"] (am rN):=⟨rfl,rfl,rfl,by decide+kernel,rfl,by decide+kernel,by decide+kernel⟩
theorem B2(h:aV K mg "_law_may" rN f fd ["_law_web_here","_law_stand","_law_tie"])(T:h_ mg){fLasks_of:Addr}{eLasks_of:FuncData}(hLasks_of:aV K mg "_law_asks_of" gb fLasks_of eLasks_of ["_law_web_here","_law_asked","_law_thing"])(GLasks_of:aC P w K mg base bv 1 fLasks_of eLasks_of ["_law_web_here","_law_asked","_law_thing"] (bA K 3 fW)):aC P w K mg base bv 2 f fd ["_law_web_here","_law_stand","_law_tie"] (bA K 3 kZ):=by
  have nd:=yk.nd
  exact h.fn yk rfl rfl (fun cdv A outer s H E hr=>(@ag _ _ _ _ _ _ _ _ (@dQ _ _ _ _ _ _ _ _ (¬1) (@bN _ _ _ _ _ _ _ _ rfl rfl (@ap _ _ _ _ _ _ _ _ (@ao _ _ _ 3 _ nd rfl (Or.inl rfl) (by trivial)) (@ap _ _ _ _ _ _ _ _ (@ao _ _ _ 4 _ nd rfl (Or.inl rfl) (by trivial)) (@bg _ _) (by rfl)) (by rfl)) (aq (aq bK)) (by rfl) (by rfl)) (by rfl) (by rfl) (by rfl))
      (@ag _ _ _ _ _ _ _ _ (@cE _ _ _ _ _ _ _ _ _ _ _ (@rJ _ _ _ _ (@rK _ _ _ _ _ _ _ _ (@aX _ _ _ _ _ _ _ _ _ (@Bz _ _ _ rfl hr) (¬2) (¬3) (by with_unfolding_all rfl)) (@qD _ _ _ _ _ (@aX _ _ _ _ _ _ _ _ _ (@wz _ _) (@bf _ _ _ _ _ _ _ _ _ (@b_len _ _ rfl) (by rfl) T.b_len ((¬3)∘ab) (by decide) (by decide) (by rfl) (by rfl)) (@aS _ _ _ _ _ _ _ rfl (¬0) ae (fun _ _=>rfl)) (aU _)))))
      (@aj _ _ _ _ _ (@az _ _ _ _ _ (@ec _ _ _ _ _)))
      (@a' _ _))
      (@ag _ _ _ _ _ _ _ _ (@dR _ _ _ _ _ _ _ _ _ _ _ PassesOwn.never rfl (@jz _ _ _ _ _ rfl (@iQ _ _ _ _ _ _ _ _ _ _ rfl (@aS _ _ _ _ _ _ _ rfl (@aS _ _ _ _ _ _ _ rfl (¬0) ae (fun _ _=>rfl)) (¬2) (fun _ _=>rfl)) (@iR _ _) (@iS _ _ _ _ ae))) (@ao _ _ _ 5 _ nd rfl (Or.inl rfl) (by trivial))
      (@aj _ _ _ _ _ (@cE _ _ _ _ _ _ _ _ _ _ _ (@rJ _ _ _ _ (@rK _ _ _ _ _ _ _ _ (@aX _ _ _ _ _ _ _ _ _ (@Bz _ _ _ rfl hr) (¬5) (¬4) (by with_unfolding_all rfl)) (@qD _ _ _ _ _ (@aX _ _ _ _ _ _ _ _ _ (@wz _ _) (@aP _ _ _ _ _ _ _ _ _ _ _ _ _ _ _ hLasks_of GLasks_of (hr.mono (by decide)) ((¬0)∘((¬3)∘((¬5)∘ab))) (by rfl) (by decide) (by rfl) (by rfl)) (@aS _ _ _ _ _ _ _ rfl (@aS _ _ _ _ _ _ _ rfl (¬0) ae (fun _ _=>rfl)) (¬5) (fun _ _=>rfl)) (aU _)))))
      (@aj _ _ _ _ _ (@az _ _ _ _ _ (@ec _ _ _ _ _)))
      (@a' _ _))) (by intro _;rfl))
      (@aj _ _ _ _ _ (@az _ _ _ _ _ (@ec _ _ _ _ _)))))))
noncomputable def m5:FS:=(aD (fm (ac 1) (aN (ai (af 4) (ai (af 5) aK))))
    (aD (bh 6 (ac 5))
    (aD (ir (aH (ac 3))
    (bh 6 (aQ (g1 c9) (aa (aQ (g1 iL) (aa (ar cy (ac 5) (qP (ar bE (ar bE (ac 0) (vC (.int 1))) (ac 2)) fD (eR (vC (.int 2))))) ah)) ah)))
    cG)
    (aY (bB (aa (aQ (g1 c9) (aa (aQ (g1 iL) (aa (ar cy (ac 4) (bB (aa (ac 2) ah))) ah)) ah)) (aa (ac 6) ah)))))))
noncomputable def eO:FM:=fC 4 3 (([4]++([5]++[]))++([6]++(([6]++[])++[]))) m5
theorem pD:aB ["_law_web_here","_law_stand","_law_tie","_law_truth","_law_asked","_law_taken","_law_more"] ["_law_web_here","_law_stand","_law_tie","_law_truth"] (am jB):=⟨rfl,rfl,rfl,by decide+kernel,rfl,by decide+kernel,by decide+kernel⟩
theorem vw(h:aV K mg "_law_behind" jB f fd ["_law_web_here","_law_stand","_law_tie","_law_truth"])(T:h_ mg):aC P w K mg base bv 1 f fd ["_law_web_here","_law_stand","_law_tie","_law_truth"] (bA K 4 eO):=by
  have nd:=pD.nd
  exact h.fn pD rfl rfl (fun cdv A outer s H E hr=>(@ag _ _ _ _ _ _ _ _ (@dQ _ _ _ _ _ _ _ _ (¬1) (@bN _ _ _ _ _ _ _ _ rfl rfl (@ap _ _ _ _ _ _ _ _ (@ao _ _ _ 4 _ nd rfl (Or.inl rfl) (by trivial)) (@ap _ _ _ _ _ _ _ _ (@ao _ _ _ 5 _ nd rfl (Or.inl rfl) (by trivial)) (@bg _ _) (by rfl)) (by rfl)) (aq (aq bK)) (by rfl) (by rfl)) (by rfl) (by rfl) (by rfl))
      (@ag _ _ _ _ _ _ _ _ (@aG _ _ _ _ _ 6 _ _ nd rfl (Or.inl rfl) (¬5) (by rfl) (by trivial))
      (@ag _ _ _ _ _ _ _ _ (@cE _ _ _ _ _ _ _ _ _ _ _ (@hJ _ _ _ _ (¬3) (by intro _;rfl))
      (@aj _ _ _ _ _ (@aG _ _ _ _ _ 6 _ _ nd rfl (Or.inl rfl) (@bf _ _ _ _ _ _ _ _ _ (@b_tuple _ _ rfl) (by rfl) T.b_tuple ((@bf _ _ _ _ _ _ _ _ _ (@b_sorted _ _ rfl) (by rfl) T.b_sorted ((@cm _ _ _ _ _ _ _ rfl (¬5) (@iQ _ _ _ _ _ _ _ _ _ _ rfl (@aS _ _ _ _ _ _ _ rfl (@aS _ _ _ _ _ _ _ rfl (¬0) ae (fun _ _=>rfl)) (¬2) (fun _ _=>rfl)) (@iR _ _) (@iS _ _ _ _ ae)))∘ab) (by decide) (by decide) (by rfl) (by rfl))∘ab) (by decide) (by decide) (by rfl) (by rfl)) (by rfl) (by trivial)))
      (@a' _ _))
      (@aj _ _ _ _ _ (@az _ _ _ _ _ (@aO _ _ _ _ _ _ ((@bf _ _ _ _ _ _ _ _ _ (@b_tuple _ _ rfl) (by rfl) T.b_tuple ((@bf _ _ _ _ _ _ _ _ _ (@b_sorted _ _ rfl) (by rfl) T.b_sorted ((@cm _ _ _ _ _ _ _ rfl (¬4) (@aO _ _ _ _ _ _ ((¬2)∘ab)))∘ab) (by decide) (by decide) (by rfl) (by rfl))∘ab) (by decide) (by decide) (by rfl) (by rfl))∘((¬6)∘ab)))))))))
noncomputable def jq:FI:=(cS (aa (aQ (g1 eX) (aa (ar bE (ac 0) (vC (.int 1))) ah)) ah))
noncomputable def eB:FT:=(aH (bH 3 kZ (aa (ac 0) (aa (ac 1) (aa (ac 2) ah)))))
noncomputable def eD:FE:=(ac 2)
noncomputable def oP:FS:=(aY (ed [(0,"_law_web_here"),(1,"_law_stand")] 1 jq (af 2) eB eD))
noncomputable def il:FM:=fC 2 0 [] oP
theorem nX:aB ["_law_web_here","_law_stand"] ["_law_web_here","_law_stand"] (am f_):=⟨rfl,rfl,rfl,by decide+kernel,rfl,by decide+kernel,by decide+kernel⟩
theorem sS(h:aV K mg "_law_askable" f_ f fd ["_law_web_here","_law_stand"])(T:h_ mg){fLmay:Addr}{eLmay:FuncData}(hLmay:aV K mg "_law_may" rN fLmay eLmay ["_law_web_here","_law_stand","_law_tie"])(GLmay:aC P w K mg base bv 2 fLmay eLmay ["_law_web_here","_law_stand","_law_tie"] (bA K 3 kZ)):aC P w K mg base bv 3 f fd ["_law_web_here","_law_stand"] (bA K 2 il):=by
  have nd:=nX.nd
  exact h.fn nX rfl rfl (fun cdv A outer s H E hr=>(@aj _ _ _ _ _ (@az _ _ _ _ _ (@jy _ _ _ _ _ _ _ _ _ _ _ _ _ (am f_) ["_law_web_here","_law_stand"] [(0,"_law_web_here"),(1,"_law_stand")] ["_law_tie"] rfl rfl rfl (@cU _ _ _ _ _ _ _ rfl T.b_range ((@bf _ _ _ _ _ _ _ _ _ (@b_len _ _ rfl) (by rfl) T.b_len ((@aS _ _ _ _ _ _ _ rfl (¬0) ae (fun _ _=>rfl))∘ab) (by decide) (by decide) (by rfl) (by rfl))∘ab) (by rfl))
        (fun C s0 H0 fp=>(@ao _ _ _ 2 _ (show List.Nodup (["_law_web_here","_law_stand","_law_tie"]:List Str) by decide+kernel) rfl (Or.inl rfl) (by trivial))) (fun C s0 H0 fp=>(@qC _ _ _ _ (@hJ _ _ _ _ (@aP _ _ _ _ _ _ _ _ _ _ _ _ _ _ _ hLmay GLmay (hr.mono (by decide)) ((¬0)∘((¬1)∘((¬2)∘ab))) (by rfl) (by decide) (by rfl) (by rfl)) (by intro _;rfl))))
        (fun C s0 H0 fp=>(¬2)) rfl (by decide+kernel) (by decide+kernel) (by decide+kernel) (by decide+kernel) (by decide+kernel) (by decide+kernel) (by decide+kernel) (by intro _;rfl)))))
noncomputable def pe:FI:=(wZ 3)
noncomputable def jP:FE:=(aQ (g1 c9) (aa (ac 0) ah))
noncomputable def ig:FT:=(aH (ar (bR true) (ac 4) (cW ah)))
noncomputable def ib:FS:=(aD (fm (cF eg (ac 4) (aa (vC (.int 0)) ah)) (aN (ai (af 5) (ai (af 6) (ai (af 7) aK)))))
    (aD (bh 8 (bH 2 il (aa (ac 1) (aa (ac 5) ah))))
    (aD (bh 9 (bH 1 bz (aa (ac 0) ah)))
    (ir (jb (aH (ar (bR true) (ac 8) (cW ah))) (jb (aH (ar wd (fH 3) (ac 2))) (sd (aH (ar (bR true) (ar a9 (ac 9) (vC (.int 7))) (vC (.int 6)))) (aH (ar wd (ac 6) (vC (.int 0)))))))
    (aD (bh 10 (ar bE (ac 8) (ar a9 (ar dt (ac 9) (vC (.int 7))) (aQ (g1 eX) (aa (ac 8) ah)))))
    (aD (ir (aH (ar y_ (ac 6) (vC (.int 0))))
    (pC 3 (fH 3) (ac 6) (vo (nC 1) (vp 7)))
    cG)
    (aD (dz (cF bD (ac 4) (aa (bB (aa (bH 4 eO (aa (ac 1) (aa (ac 5) (aa (ac 10) (aa (vC (.bool true)) ah))))) (aa (fH 3) (aa (vC (.int 0)) ah)))) ah)))
    (aD (dz (cF bD (ac 4) (aa (bB (aa (bH 4 eO (aa (ac 1) (aa (ac 5) (aa (ac 10) (aa (vC (.bool false)) ah))))) (aa (fH 3) (aa (vC (.int 1)) ah)))) ah)))
    (dz (r_ 3 (cW (aa (ac 10) (aa (lG j5 (vC (.int 1))) (aa (lG j5 (vC (.int 1))) ah))))))))))
    cG))))
noncomputable def tX:FS:=(aD (yh 3)
    (aD (bh 4 (cW (aa (bB (aa (bB (aa (bB ah) (aa (bB ah) ah))) (aa (lG j5 (vC (.int 1))) (aa (vC (.int 0)) ah)))) ah)))
    (aD (iV (2 ^ 4200) ig ib)
    (aY (aQ (g1 c9) (aa (ed [] 1 pe (af 0) cz jP) ah))))))
noncomputable def kY:FM:=fC 3 8 ([3]++([4]++((([5]++([6]++([7]++[])))++([8]++([9]++(([10]++(([]++[])++([]++([]++[]))))++[]))))++[]))) tX
theorem rQ:aB ["_law_drawn","_law_web_here","_law_most","_law_nodes","_law_waiting","_law_stand","_law_parent","_law_side","_law_some","_law_number","_law_tie"] ["_law_drawn","_law_web_here","_law_most"] (am jY):=⟨rfl,rfl,rfl,by decide+kernel,rfl,by decide+kernel,by decide+kernel⟩
theorem xu(h:aV K mg "_law_grown" jY f fd ["_law_drawn","_law_web_here","_law_most"])(T:h_ mg){fLaskable:Addr}{eLaskable:FuncData}(hLaskable:aV K mg "_law_askable" f_ fLaskable eLaskable ["_law_web_here","_law_stand"])(GLaskable:aC P w K mg base bv 3 fLaskable eLaskable ["_law_web_here","_law_stand"] (bA K 2 il)){fLnext:Addr}{eLnext:FuncData}(hLnext:aV K mg "_law_next" iU fLnext eLnext ["_law_drawn"])(GLnext:aC P w K mg base bv 1 fLnext eLnext ["_law_drawn"] (bA K 1 bz)){fLbehind:Addr}{eLbehind:FuncData}(hLbehind:aV K mg "_law_behind" jB fLbehind eLbehind ["_law_web_here","_law_stand","_law_tie","_law_truth"])(GLbehind:aC P w K mg base bv 1 fLbehind eLbehind ["_law_web_here","_law_stand","_law_tie","_law_truth"] (bA K 4 eO)):aC P w K mg base bv 4 f fd ["_law_drawn","_law_web_here","_law_most"] (bA K 3 kY):=by
  have nd:=rQ.nd
  exact h.fn rQ rfl rfl (fun cdv A outer s H E hr=>(@ag _ _ _ _ _ _ _ _ (@Ah _ _ _ _ _ _ 3 nd rfl (Or.inl rfl) (by rfl) (by trivial))
      (@ag _ _ _ _ _ _ _ _ (@aG _ _ _ _ _ 4 _ _ nd rfl (Or.inl rfl) (@bO _ _ _ _ _ ((@aO _ _ _ _ _ _ ((@aO _ _ _ _ _ _ ((@aO _ _ _ _ _ _ ab)∘((@aO _ _ _ _ _ _ ab)∘ab)))∘((@lg _ _ _ _ _ ae)∘(ae∘ab))))∘ab)) (by rfl) (by trivial))
      (@ag _ _ _ _ _ _ _ _ (@lh _ _ _ _ _ _ _ _ _ PassesOwn.never (@aX _ _ _ _ _ _ _ _ _ (@m_ _ _ _ rfl hr) (¬4) (@bO _ _ _ _ _ ab) (aU _))
      (@ag _ _ _ _ _ _ _ _ (@dQ _ _ _ _ _ _ _ _ (@uD _ _ _ _ _ _ _ _ _ rfl (¬4) (ae∘ab) (by rfl) (by rfl) (by rfl) (by rfl) (by rfl)) (@bN _ _ _ _ _ _ _ _ rfl rfl (@ap _ _ _ _ _ _ _ _ (@ao _ _ _ 5 _ nd rfl (Or.inl rfl) (by trivial)) (@ap _ _ _ _ _ _ _ _ (@ao _ _ _ 6 _ nd rfl (Or.inl rfl) (by trivial)) (@ap _ _ _ _ _ _ _ _ (@ao _ _ _ 7 _ nd rfl (Or.inl rfl) (by trivial)) (@bg _ _) (by rfl)) (by rfl)) (by rfl)) (aq (aq (aq bK))) (by rfl) (by rfl)) (by rfl) (by rfl) (by rfl))
      (@ag _ _ _ _ _ _ _ _ (@aG _ _ _ _ _ 8 _ _ nd rfl (Or.inl rfl) (@aP _ _ _ _ _ _ _ _ _ _ _ _ _ _ _ hLaskable GLaskable (hr.mono (by decide)) ((¬1)∘((¬5)∘ab)) (by rfl) (by decide) (by rfl) (by rfl)) (by rfl) (by trivial))
      (@ag _ _ _ _ _ _ _ _ (@aG _ _ _ _ _ 9 _ _ nd rfl (Or.inl rfl) (@aP _ _ _ _ _ _ _ _ _ _ _ _ _ _ _ hLnext GLnext (hr.mono (by decide)) ((¬0)∘ab) (by rfl) (by decide) (by rfl) (by rfl)) (by rfl) (by trivial))
      (@aj _ _ _ _ _ (@cE _ _ _ _ _ _ _ _ _ _ _ (@rJ _ _ _ _ (@nQ _ _ _ _ _ _ _ _ (@aX _ _ _ _ _ _ _ _ _ (@m_ _ _ _ rfl hr) (¬8) (@bO _ _ _ _ _ ab) (aU _)) (@nQ _ _ _ _ _ _ _ _ (@aX _ _ _ _ _ _ _ _ _ (@uY _ _) (@qu _ _ _ _ _ _ 3 rfl (by rfl) (by first | exact Or.inl rfl | exact Or.inr (Or.inl rfl) | exact Or.inr (Or.inr rfl)) (by decide) (by decide) (by rfl) T.b_len (by rfl) (by rfl) (by rfl)) (¬2) (aU _)) (@mT _ _ _ _ _ (@rJ _ _ _ _ (@rK _ _ _ _ _ _ _ _ (@aX _ _ _ _ _ _ _ _ _ (@m_ _ _ _ rfl hr) (@aZ _ _ _ _ _ _ _ (¬9) ae) ae (aU _)) (@qD _ _ _ _ _ (@aX _ _ _ _ _ _ _ _ _ (@uY _ _) (¬6) ae (aU _)))))))))
      (@ag _ _ _ _ _ _ _ _ (@aG _ _ _ _ _ 10 _ _ nd rfl (Or.inl rfl) (@aS _ _ _ _ _ _ _ rfl (¬8) (@aZ _ _ _ _ _ _ _ (@gu _ _ _ _ _ _ _ (¬9) ae) (@bf _ _ _ _ _ _ _ _ _ (@b_len _ _ rfl) (by rfl) T.b_len ((¬8)∘ab) (by decide) (by decide) (by rfl) (by rfl))) (fun _ _=>rfl)) (by rfl) (by trivial))
      (@ag _ _ _ _ _ _ _ _ (@cE _ _ _ _ _ _ _ _ _ _ _ (@aX _ _ _ _ _ _ _ _ _ (@wz _ _) (¬6) ae (aU _))
      (@aj _ _ _ _ _ (@Ai _ _ _ _ _ _ 3 _ _ _ _ _ _ _ rfl (@qu _ _ _ _ _ _ 3 rfl (by rfl) (by first | exact Or.inl rfl | exact Or.inr (Or.inl rfl) | exact Or.inr (Or.inr rfl)) (by decide) (by decide) (by rfl) T.b_len (by rfl) (by rfl) (by rfl)) (by rfl) (by first | exact Or.inl rfl | exact Or.inr (Or.inl rfl) | exact Or.inr (Or.inr rfl)) (by decide) (by decide) (¬6) (fun _ _=>rfl) (@CD _ _ _ _ _ _ _ (@CG _ _ _ _ _) (@CH _ _ _ _ 7 (by rfl) (by first | exact Or.inl rfl | exact Or.inr (Or.inl rfl) | exact Or.inr (Or.inr rfl)) (by decide) (by decide))) (by intro _;rfl) (by rfl) (by rfl) (by rfl)))
      (@a' _ _))
      (@ag _ _ _ _ _ _ _ _ (@fN _ _ _ _ _ (@eS _ _ _ _ _ _ _ _ _ rfl (¬4) ((@aO _ _ _ _ _ _ ((@aP _ _ _ _ _ _ _ _ _ _ _ _ _ _ _ hLbehind GLbehind (hr.mono (by decide)) ((¬1)∘((¬5)∘((¬10)∘((@ec _ _ _ _ _)∘ab)))) (by rfl) (by decide) (by rfl) (by rfl))∘((@qu _ _ _ _ _ _ 3 rfl (by rfl) (by first | exact Or.inl rfl | exact Or.inr (Or.inl rfl) | exact Or.inr (Or.inr rfl)) (by decide) (by decide) (by rfl) T.b_len (by rfl) (by rfl) (by rfl))∘(ae∘ab))))∘ab) (by rfl) (by rfl) (by rfl) (by rfl) (by rfl)) (by rfl))
      (@ag _ _ _ _ _ _ _ _ (@fN _ _ _ _ _ (@eS _ _ _ _ _ _ _ _ _ rfl (¬4) ((@aO _ _ _ _ _ _ ((@aP _ _ _ _ _ _ _ _ _ _ _ _ _ _ _ hLbehind GLbehind (hr.mono (by decide)) ((¬1)∘((¬5)∘((¬10)∘((@ec _ _ _ _ _)∘ab)))) (by rfl) (by decide) (by rfl) (by rfl))∘((@qu _ _ _ _ _ _ 3 rfl (by rfl) (by first | exact Or.inl rfl | exact Or.inr (Or.inl rfl) | exact Or.inr (Or.inr rfl)) (by decide) (by decide) (by rfl) T.b_len (by rfl) (by rfl) (by rfl))∘(ae∘ab))))∘ab) (by rfl) (by rfl) (by rfl) (by rfl) (by rfl)) (by rfl))
      (@aj _ _ _ _ _ (@fN _ _ _ _ _ (@CA _ _ _ _ _ _ 3 _ _ rfl (by rfl) (by first | exact Or.inl rfl | exact Or.inr (Or.inl rfl) | exact Or.inr (Or.inr rfl)) (by decide) (by decide) (@bO _ _ _ _ _ ((¬10)∘((@lg _ _ _ _ _ ae)∘((@lg _ _ _ _ _ ae)∘ab)))) (by rfl) (by rfl) (by rfl) (by rfl) (by rfl) (by rfl)) (by rfl)))))))
      (@a' _ _)))))))
      (@aj _ _ _ _ _ (@az _ _ _ _ _ (@bf _ _ _ _ _ _ _ _ _ (@b_tuple _ _ rfl) (by rfl) T.b_tuple ((@jy _ _ _ _ _ _ _ _ _ _ _ _ _ (am jY) ["_law_drawn","_law_web_here","_law_most","_law_nodes","_law_waiting","_law_stand","_law_parent","_law_side","_law_some","_law_number","_law_tie"] [] ["_law_node"] rfl rfl rfl (@Ag _ _ _ _ 3 _ rfl (by rfl) (by first | exact Or.inl rfl | exact Or.inr (Or.inl rfl) | exact Or.inr (Or.inr rfl)) (by decide) (by decide))
        (fun C s0 H0 fp=>(@ao _ _ _ 0 _ (show List.Nodup (["_law_node"]:List Str) by decide+kernel) rfl (Or.inl rfl) (by trivial))) (fun C s0 H0 fp=>(@iT _ _))
        (fun C s0 H0 fp=>(@bf _ _ _ _ _ _ _ _ _ (@b_tuple _ _ rfl) (by rfl) T.b_tuple ((¬0)∘ab) (by decide) (by decide) (by rfl) (by rfl))) rfl (by decide+kernel) (by decide+kernel) (by decide+kernel) (by decide+kernel) (by decide+kernel) (by decide+kernel) (by decide+kernel) (by intro _;rfl))∘ab) (by decide) (by decide) (by rfl) (by rfl))))))))
noncomputable def kl:FI:=(ul (aa (ar gZ (aQ (g1 eX) (aa (ac 1) ah)) (vC (.int 1))) (aa (lG j5 (vC (.int 1))) (aa (lG j5 (vC (.int 1))) ah))))
noncomputable def iE:FS:=(aD (fm (ar bE (ac 1) (ac 3)) (aN (ai (af 4) (ai (af 5) (ai (af 6) aK)))))
    (aD (fm (qP (ar bE (ar bE (ac 0) (vC (.int 1))) (ac 4)) (eR (vC (.int 2))) fD) (aN (ai (af 7) (ai (af 8) aK))))
    (aD (bh 9 (bH 2 bF (aa (ac 7) (aa (bH 2 dO (aa (bB (aa (ac 8) (aa (vC (.int 1)) ah))) (aa (ar bE (ac 2) (ac 5)) ah))) ah))))
    (vK (bH 2 dO (aa (ac 9) (aa (bH 2 bF (aa (bH 1 gp (aa (ac 7) ah)) (aa (ar bE (ac 2) (ac 6)) ah))) ah))) (ac 2) (ac 3)))))
noncomputable def qT:FS:=(aD (bh 2 (ar cD (cW (aa (bB (aa (vC (.int 0)) (aa (vC (.int 1)) ah))) ah)) (ar cy (aQ (g1 eX) (aa (ac 1) ah)) (vC (.int 1)))))
    (aD (de ([3]++(([4]++([5]++([6]++[])))++(([7]++([8]++[]))++([9]++[])))) kl (af 3) iE)
    (aY (aQ (g1 c9) (aa (qP (ac 2) fD (eR (aQ (g1 eX) (aa (ac 1) ah)))) ah)))))
noncomputable def jw:FM:=fC 2 8 ([2]++(([3]++(([4]++([5]++([6]++[])))++(([7]++([8]++[]))++([9]++[]))))++[])) qT
theorem pG:aB ["_law_web_here","_law_tree","_law_found","_law_at","_law_tie","_law_yes","_law_no","_law_chance_here","_law_worth_here","_law_kept"] ["_law_web_here","_law_tree"] (am jE):=⟨rfl,rfl,rfl,by decide+kernel,rfl,by decide+kernel,by decide+kernel⟩
theorem vy(h:aV K mg "_law_worths" jE f fd ["_law_web_here","_law_tree"])(T:h_ mg){fLtimes:Addr}{eLtimes:FuncData}(hLtimes:aV K mg "_law_times" gX fLtimes eLtimes ["_law_one","_law_other"])(GLtimes:aC P w K mg base bv 3 fLtimes eLtimes ["_law_one","_law_other"] (bA K 2 bF)){fLplus:Addr}{eLplus:FuncData}(hLplus:aV K mg "_law_plus" lX fLplus eLplus ["_law_one","_law_other"])(GLplus:aC P w K mg base bv 3 fLplus eLplus ["_law_one","_law_other"] (bA K 2 dO)){fLrest:Addr}{eLrest:FuncData}(hLrest:aV K mg "_law_rest" jD fLrest eLrest ["_law_one"])(GLrest:aC P w K mg base bv 1 fLrest eLrest ["_law_one"] (bA K 1 gp)):aC P w K mg base bv 4 f fd ["_law_web_here","_law_tree"] (bA K 2 jw):=by
  have nd:=pG.nd
  exact h.fn pG rfl rfl (fun cdv A outer s H E hr=>(@ag _ _ _ _ _ _ _ _ (@aG _ _ _ _ _ 2 _ _ nd rfl (Or.inl rfl) (@d_ _ _ _ _ _ _ _ rfl (@bO _ _ _ _ _ ((@aO _ _ _ _ _ _ (ae∘(ae∘ab)))∘ab)) (@cm _ _ _ _ _ _ _ rfl (@bf _ _ _ _ _ _ _ _ _ (@b_len _ _ rfl) (by rfl) T.b_len ((¬1)∘ab) (by decide) (by decide) (by rfl) (by rfl)) ae)) (by rfl) (by trivial))
      (@ag _ _ _ _ _ _ _ _ (@dR _ _ _ _ _ _ _ _ _ _ _ PassesOwn.never rfl (@Ae _ _ _ _ _ _ _ _ _ rfl T.b_range ((@pz _ _ _ _ _ _ _ (@bf _ _ _ _ _ _ _ _ _ (@b_len _ _ rfl) (by rfl) T.b_len ((¬1)∘ab) (by decide) (by decide) (by rfl) (by rfl)) ae)∘((@lg _ _ _ _ _ ae)∘((@lg _ _ _ _ _ ae)∘ab))) (by rfl) (by rfl)) (@ao _ _ _ 3 _ nd rfl (Or.inl rfl) (by trivial))
      (@ag _ _ _ _ _ _ _ _ (@dQ _ _ _ _ _ _ _ _ (@aS _ _ _ _ _ _ _ rfl (¬1) (¬3) (fun _ _=>rfl)) (@bN _ _ _ _ _ _ _ _ rfl rfl (@ap _ _ _ _ _ _ _ _ (@ao _ _ _ 4 _ nd rfl (Or.inl rfl) (by trivial)) (@ap _ _ _ _ _ _ _ _ (@ao _ _ _ 5 _ nd rfl (Or.inl rfl) (by trivial)) (@ap _ _ _ _ _ _ _ _ (@ao _ _ _ 6 _ nd rfl (Or.inl rfl) (by trivial)) (@bg _ _) (by rfl)) (by rfl)) (by rfl)) (aq (aq (aq bK))) (by rfl) (by rfl)) (by rfl) (by rfl) (by rfl))
      (@ag _ _ _ _ _ _ _ _ (@dQ _ _ _ _ _ _ _ _ (@iQ _ _ _ _ _ _ _ _ _ _ rfl (@aS _ _ _ _ _ _ _ rfl (@aS _ _ _ _ _ _ _ rfl (¬0) ae (fun _ _=>rfl)) (¬4) (fun _ _=>rfl)) (@iS _ _ _ _ ae) (@iR _ _)) (@bN _ _ _ _ _ _ _ _ rfl rfl (@ap _ _ _ _ _ _ _ _ (@ao _ _ _ 7 _ nd rfl (Or.inl rfl) (by trivial)) (@ap _ _ _ _ _ _ _ _ (@ao _ _ _ 8 _ nd rfl (Or.inl rfl) (by trivial)) (@bg _ _) (by rfl)) (by rfl)) (aq (aq bK)) (by rfl) (by rfl)) (by rfl) (by rfl) (by rfl))
      (@ag _ _ _ _ _ _ _ _ (@aG _ _ _ _ _ 9 _ _ nd rfl (Or.inl rfl) (@aP _ _ _ _ _ _ _ _ _ _ _ _ _ _ _ hLtimes GLtimes (hr.mono (by decide)) ((¬7)∘((@aP _ _ _ _ _ _ _ _ _ _ _ _ _ _ _ hLplus GLplus (hr.mono (by decide)) ((@aO _ _ _ _ _ _ ((¬8)∘(ae∘ab)))∘((@aS _ _ _ _ _ _ _ rfl (¬2) (¬5) (fun _ _=>rfl))∘ab)) (by rfl) (by decide) (by rfl) (by rfl))∘ab)) (by rfl) (by decide) (by rfl) (by rfl)) (by rfl) (by trivial))
      (@aj _ _ _ _ _ (@x9 _ _ _ _ _ _ _ _ _ _ (@aP _ _ _ _ _ _ _ _ _ _ _ _ _ _ _ hLplus GLplus (hr.mono (by decide)) ((¬9)∘((@aP _ _ _ _ _ _ _ _ _ _ _ _ _ _ _ hLtimes GLtimes (hr.mono (by decide)) ((@aP _ _ _ _ _ _ _ _ _ _ _ _ _ _ _ hLrest GLrest (hr.mono (by decide)) ((¬7)∘ab) (by rfl) (by decide) (by rfl) (by rfl))∘((@aS _ _ _ _ _ _ _ rfl (¬2) (¬6) (fun _ _=>rfl))∘ab)) (by rfl) (by decide) (by rfl) (by rfl))∘ab)) (by rfl) (by decide) (by rfl) (by rfl)) (¬2) (¬3) (by intro _;rfl) (by rfl) (by rfl) (by rfl)))))) (by intro _;rfl))
      (@aj _ _ _ _ _ (@az _ _ _ _ _ (@bf _ _ _ _ _ _ _ _ _ (@b_tuple _ _ rfl) (by rfl) T.b_tuple ((@iQ _ _ _ _ _ _ _ _ _ _ rfl (¬2) (@iR _ _) (@iS _ _ _ _ (@bf _ _ _ _ _ _ _ _ _ (@b_len _ _ rfl) (by rfl) T.b_len ((¬1)∘ab) (by decide) (by decide) (by rfl) (by rfl))))∘ab) (by decide) (by decide) (by rfl) (by rfl)))))))
noncomputable def jr:FI:=(kS (cW (aa (bB (aa (ac 6) (aa (ac 8) ah))) (aa (bB (aa (ac 7) (aa (bH 1 gp (aa (ac 8) ah)) ah))) ah))))
noncomputable def eA:FS:=(ir (aH (ar (bR true) (ac 9) (lG j5 (vC (.int 1)))))
    (vK (bH 2 bF (aa (ar bE (ac 2) (ac 3)) (aa (ac 10) ah))) (ac 2) (ac 9))
    cG)
noncomputable def mw:FI:=(wY (aa (ac 1) ah))
noncomputable def gJ:FS:=(aD (fm (ac 4) (aN (ai (af 5) (ai (af 6) (ai (af 7) aK)))))
    (aD (bh 8 (ar bE (ar bE (ar bE (ac 0) (vC (.int 1))) (ac 5)) (vC (.int 2))))
    (de (([9]++([10]++[]))++([]++[])) jr (aN (ai (af 9) (ai (af 10) aK))) eA)))
noncomputable def oT:FS:=(aD (bh 2 (ar cD (cW (aa (bB (aa (vC (.int 1)) (aa (vC (.int 1)) ah))) ah)) (aQ (g1 eX) (aa (ac 1) ah))))
    (aD (de (([3]++([4]++[]))++(([5]++([6]++([7]++[])))++([8]++(([9]++([10]++[]))++([]++[]))))) mw (aN (ai (af 3) (ai (af 4) aK))) gJ)
    (aY (aQ (g1 c9) (aa (ac 2) ah)))))
noncomputable def io:FM:=fC 2 9 ([2]++((([3]++([4]++[]))++(([5]++([6]++([7]++[])))++([8]++(([9]++([10]++[]))++([]++[])))))++[])) oT
theorem n_:aB ["_law_web_here","_law_tree","_law_found","_law_at","_law_node","_law_tie","_law_yes","_law_no","_law_chance_here","_law_link","_law_share"] ["_law_web_here","_law_tree"] (am iw):=⟨rfl,rfl,rfl,by decide+kernel,rfl,by decide+kernel,by decide+kernel⟩
theorem sV(h:aV K mg "_law_reaches" iw f fd ["_law_web_here","_law_tree"])(T:h_ mg){fLrest:Addr}{eLrest:FuncData}(hLrest:aV K mg "_law_rest" jD fLrest eLrest ["_law_one"])(GLrest:aC P w K mg base bv 1 fLrest eLrest ["_law_one"] (bA K 1 gp)){fLtimes:Addr}{eLtimes:FuncData}(hLtimes:aV K mg "_law_times" gX fLtimes eLtimes ["_law_one","_law_other"])(GLtimes:aC P w K mg base bv 3 fLtimes eLtimes ["_law_one","_law_other"] (bA K 2 bF)):aC P w K mg base bv 4 f fd ["_law_web_here","_law_tree"] (bA K 2 io):=by
  have nd:=n_.nd
  exact h.fn n_ rfl rfl (fun cdv A outer s H E hr=>(@ag _ _ _ _ _ _ _ _ (@aG _ _ _ _ _ 2 _ _ nd rfl (Or.inl rfl) (@d_ _ _ _ _ _ _ _ rfl (@bO _ _ _ _ _ ((@aO _ _ _ _ _ _ (ae∘(ae∘ab)))∘ab)) (@bf _ _ _ _ _ _ _ _ _ (@b_len _ _ rfl) (by rfl) T.b_len ((¬1)∘ab) (by decide) (by decide) (by rfl) (by rfl))) (by rfl) (by trivial))
      (@ag _ _ _ _ _ _ _ _ (@dR _ _ _ _ _ _ _ _ _ _ _ PassesOwn.never rfl (@Af _ _ _ _ _ _ _ _ _ rfl rfl T.b_enumerate ((¬1)∘ab) (by rfl)) (@bN _ _ _ _ _ _ _ _ rfl rfl (@ap _ _ _ _ _ _ _ _ (@ao _ _ _ 3 _ nd rfl (Or.inl rfl) (by trivial)) (@ap _ _ _ _ _ _ _ _ (@ao _ _ _ 4 _ nd rfl (Or.inl rfl) (by trivial)) (@bg _ _) (by rfl)) (by rfl)) (aq (aq bK)) (by rfl) (by rfl))
      (@ag _ _ _ _ _ _ _ _ (@dQ _ _ _ _ _ _ _ _ (¬4) (@bN _ _ _ _ _ _ _ _ rfl rfl (@ap _ _ _ _ _ _ _ _ (@ao _ _ _ 5 _ nd rfl (Or.inl rfl) (by trivial)) (@ap _ _ _ _ _ _ _ _ (@ao _ _ _ 6 _ nd rfl (Or.inl rfl) (by trivial)) (@ap _ _ _ _ _ _ _ _ (@ao _ _ _ 7 _ nd rfl (Or.inl rfl) (by trivial)) (@bg _ _) (by rfl)) (by rfl)) (by rfl)) (aq (aq (aq bK))) (by rfl) (by rfl)) (by rfl) (by rfl) (by rfl))
      (@ag _ _ _ _ _ _ _ _ (@aG _ _ _ _ _ 8 _ _ nd rfl (Or.inl rfl) (@aS _ _ _ _ _ _ _ rfl (@aS _ _ _ _ _ _ _ rfl (@aS _ _ _ _ _ _ _ rfl (¬0) ae (fun _ _=>rfl)) (¬5) (fun _ _=>rfl)) ae (fun _ _=>rfl)) (by rfl) (by trivial))
      (@aj _ _ _ _ _ (@dR _ _ _ _ _ _ _ _ _ _ _ PassesOwn.never rfl (@jz _ _ _ _ _ rfl (@bO _ _ _ _ _ ((@aO _ _ _ _ _ _ ((¬6)∘((¬8)∘ab)))∘((@aO _ _ _ _ _ _ ((¬7)∘((@aP _ _ _ _ _ _ _ _ _ _ _ _ _ _ _ hLrest GLrest (hr.mono (by decide)) ((¬8)∘ab) (by rfl) (by decide) (by rfl) (by rfl))∘ab)))∘ab)))) (@bN _ _ _ _ _ _ _ _ rfl rfl (@ap _ _ _ _ _ _ _ _ (@ao _ _ _ 9 _ nd rfl (Or.inl rfl) (by trivial)) (@ap _ _ _ _ _ _ _ _ (@ao _ _ _ 10 _ nd rfl (Or.inl rfl) (by trivial)) (@bg _ _) (by rfl)) (by rfl)) (aq (aq bK)) (by rfl) (by rfl))
      (@aj _ _ _ _ _ (@cE _ _ _ _ _ _ _ _ _ _ _ (@aX _ _ _ _ _ _ _ _ _ (@m_ _ _ _ rfl hr) (¬9) (@lg _ _ _ _ _ ae) (aU _))
      (@aj _ _ _ _ _ (@x9 _ _ _ _ _ _ _ _ _ _ (@aP _ _ _ _ _ _ _ _ _ _ _ _ _ _ _ hLtimes GLtimes (hr.mono (by decide)) ((@aS _ _ _ _ _ _ _ rfl (¬2) (¬3) (fun _ _=>rfl))∘((¬10)∘ab)) (by rfl) (by decide) (by rfl) (by rfl)) (¬2) (¬9) (by intro _;rfl) (by rfl) (by rfl) (by rfl)))
      (@a' _ _))) (by intro _;rfl))))) (by intro _;rfl))
      (@aj _ _ _ _ _ (@az _ _ _ _ _ (@bf _ _ _ _ _ _ _ _ _ (@b_tuple _ _ rfl) (by rfl) T.b_tuple ((¬2)∘ab) (by decide) (by decide) (by rfl) (by rfl)))))))
noncomputable def mv:FI:=(cS (aa (aQ (g1 eX) (aa (ar bE (ac 1) (vC (.int 0))) ah)) ah))
noncomputable def gH:FS:=(aD (bh 4 (bH 1 bz (aa (ac 0) ah)))
    (aD (bh 5 (cW (aa (ar bE (ar bE (ac 1) (vC (.int 0))) (ac 3)) (aa (ar bE (ar bE (ac 1) (vC (.int 0))) (ac 3)) (aa (ar bE (ar bE (ac 1) (vC (.int 1))) (ac 3)) (aa (bB (aa (vC (.int 0)) (aa (vC (.int 1)) ah))) (aa (bB (aa (vC (.int 1)) (aa (vC (.int 1)) ah))) (aa (bB (aa (vC (.int 1)) (aa (vC (.int 2)) ah))) (aa (ar bE (ar bE (ac 1) (vC (.int 0))) (ar a9 (ar dt (ac 4) (vC (.int 7))) (aQ (g1 eX) (aa (ar bE (ac 1) (vC (.int 0))) ah)))) ah)))))))))
    (dz (cF bD (ac 2) (aa (ar bE (ac 5) (ar a9 (ac 4) (vC (.int 7)))) ah)))))
noncomputable def oR:FS:=(aD (bh 2 (cW ah))
    (aD (de ([3]++([4]++([5]++[]))) mv (af 3) gH)
    (aY (aQ (g1 c9) (aa (ac 2) ah)))))
noncomputable def fX:FM:=fC 2 4 ([2]++(([3]++([4]++([5]++[])))++[])) oR
theorem nZ:aB ["_law_drawn","_law_rows","_law_found","_law_at","_law_number","_law_some"] ["_law_drawn","_law_rows"] (am iu):=⟨rfl,rfl,rfl,by decide+kernel,rfl,by decide+kernel,by decide+kernel⟩
theorem sU(h:aV K mg "_law_made_up" iu f fd ["_law_drawn","_law_rows"])(T:h_ mg){fLnext:Addr}{eLnext:FuncData}(hLnext:aV K mg "_law_next" iU fLnext eLnext ["_law_drawn"])(GLnext:aC P w K mg base bv 1 fLnext eLnext ["_law_drawn"] (bA K 1 bz)):aC P w K mg base bv 2 f fd ["_law_drawn","_law_rows"] (bA K 2 fX):=by
  have nd:=nZ.nd
  exact h.fn nZ rfl rfl (fun cdv A outer s H E hr=>(@ag _ _ _ _ _ _ _ _ (@aG _ _ _ _ _ 2 _ _ nd rfl (Or.inl rfl) (@bO _ _ _ _ _ ab) (by rfl) (by trivial))
      (@ag _ _ _ _ _ _ _ _ (@dR _ _ _ _ _ _ _ _ _ _ _ PassesOwn.never rfl (@cU _ _ _ _ _ _ _ rfl T.b_range ((@bf _ _ _ _ _ _ _ _ _ (@b_len _ _ rfl) (by rfl) T.b_len ((@aS _ _ _ _ _ _ _ rfl (¬1) ae (fun _ _=>rfl))∘ab) (by decide) (by decide) (by rfl) (by rfl))∘ab) (by rfl)) (@ao _ _ _ 3 _ nd rfl (Or.inl rfl) (by trivial))
      (@ag _ _ _ _ _ _ _ _ (@aG _ _ _ _ _ 4 _ _ nd rfl (Or.inl rfl) (@aP _ _ _ _ _ _ _ _ _ _ _ _ _ _ _ hLnext GLnext (hr.mono (by decide)) ((¬0)∘ab) (by rfl) (by decide) (by rfl) (by rfl)) (by rfl) (by trivial))
      (@ag _ _ _ _ _ _ _ _ (@aG _ _ _ _ _ 5 _ _ nd rfl (Or.inl rfl) (@bO _ _ _ _ _ ((@aS _ _ _ _ _ _ _ rfl (@aS _ _ _ _ _ _ _ rfl (¬1) ae (fun _ _=>rfl)) (¬3) (fun _ _=>rfl))∘((@aS _ _ _ _ _ _ _ rfl (@aS _ _ _ _ _ _ _ rfl (¬1) ae (fun _ _=>rfl)) (¬3) (fun _ _=>rfl))∘((@aS _ _ _ _ _ _ _ rfl (@aS _ _ _ _ _ _ _ rfl (¬1) ae (fun _ _=>rfl)) (¬3) (fun _ _=>rfl))∘((@aO _ _ _ _ _ _ (ae∘(ae∘ab)))∘((@aO _ _ _ _ _ _ (ae∘(ae∘ab)))∘((@aO _ _ _ _ _ _ (ae∘(ae∘ab)))∘((@aS _ _ _ _ _ _ _ rfl (@aS _ _ _ _ _ _ _ rfl (¬1) ae (fun _ _=>rfl)) (@aZ _ _ _ _ _ _ _ (@gu _ _ _ _ _ _ _ (¬4) ae) (@bf _ _ _ _ _ _ _ _ _ (@b_len _ _ rfl) (by rfl) T.b_len ((@aS _ _ _ _ _ _ _ rfl (¬1) ae (fun _ _=>rfl))∘ab) (by decide) (by decide) (by rfl) (by rfl))) (fun _ _=>rfl))∘ab)))))))) (by rfl) (by trivial))
      (@aj _ _ _ _ _ (@fN _ _ _ _ _ (@eS _ _ _ _ _ _ _ _ _ rfl (¬2) ((@aS _ _ _ _ _ _ _ rfl (¬5) (@aZ _ _ _ _ _ _ _ (¬4) ae) (fun _ _=>rfl))∘ab) (by rfl) (by rfl) (by rfl) (by rfl) (by rfl)) (by rfl))))) (by intro _;rfl))
      (@aj _ _ _ _ _ (@az _ _ _ _ _ (@bf _ _ _ _ _ _ _ _ _ (@b_tuple _ _ rfl) (by rfl) T.b_tuple ((¬2)∘ab) (by decide) (by decide) (by rfl) (by rfl)))))))
noncomputable def oU:FS:=(aY (ar bE (ar cy (ac 0) (bB (aa (bB (aa (vC (.int 0)) (aa (vC (.int 1)) ah))) ah))) (ac 1)))
noncomputable def fY:FM:=fC 2 0 [] oU
theorem oa:aB ["_law_row","_law_at"] ["_law_row","_law_at"] (am ix):=⟨rfl,rfl,rfl,by decide+kernel,rfl,by decide+kernel,by decide+kernel⟩
theorem sW(h:aV K mg "_law_told_at" ix f fd ["_law_row","_law_at"])(T:h_ mg):aC P w K mg base bv 1 f fd ["_law_row","_law_at"] (bA K 2 fY):=by
  have nd:=oa.nd
  exact h.fn oa rfl rfl (fun cdv A outer s H E hr=>(@aj _ _ _ _ _ (@az _ _ _ _ _ (@aS _ _ _ _ _ _ _ rfl (@cm _ _ _ _ _ _ _ rfl (¬0) (@aO _ _ _ _ _ _ ((@aO _ _ _ _ _ _ (ae∘(ae∘ab)))∘ab))) (¬1) (fun _ _=>rfl)))))
noncomputable def gh:FI:=(mx (aa (ac 1) (aa (ac 2) ah)))
noncomputable def cI:FS:=(aD (fm (ac 3) (aN (ai (af 5) (ai (af 6) (ai (af 7) aK)))))
    (aD (fm (qP (ar bE (ar bE (ac 0) (vC (.int 1))) (ac 5)) (eR (vC (.int 2))) fD) (aN (ai (af 8) (ai (af 9) aK))))
    (aD (bh 10 (bH 2 bF (aa (ac 8) (aa (bH 2 dO (aa (bB (aa (ac 9) (aa (vC (.int 1)) ah))) (aa (bH 2 fY (aa (ac 2) (aa (ac 6) ah))) ah))) ah))))
    (ir (aH (ar (bR true) (ac 4) (bH 2 dO (aa (ac 10) (aa (bH 2 bF (aa (bH 1 gp (aa (ac 8) ah)) (aa (bH 2 fY (aa (ac 2) (aa (ac 7) ah))) ah))) ah)))))
    (aY (vC (.bool false)))
    cG))))
noncomputable def iF:FS:=(aD (de (([3]++([4]++[]))++(([5]++([6]++([7]++[])))++(([8]++([9]++[]))++([10]++([]++[]))))) gh (aN (ai (af 3) (ai (af 4) aK))) cI)
    (aY (vC (.bool true))))
noncomputable def cT:FM:=fC 3 8 ((([3]++([4]++[]))++(([5]++([6]++([7]++[])))++(([8]++([9]++[]))++([10]++([]++[])))))++[]) iF
theorem j':aB ["_law_web_here","_law_tree","_law_row","_law_node","_law_own","_law_tie","_law_yes","_law_no","_law_chance_here","_law_worth_here","_law_kept"] ["_law_web_here","_law_tree","_law_row"] (am dU):=⟨rfl,rfl,rfl,by decide+kernel,rfl,by decide+kernel,by decide+kernel⟩
theorem oH(h:aV K mg "_law_worths_fit" dU f fd ["_law_web_here","_law_tree","_law_row"])(T:h_ mg){fLtimes:Addr}{eLtimes:FuncData}(hLtimes:aV K mg "_law_times" gX fLtimes eLtimes ["_law_one","_law_other"])(GLtimes:aC P w K mg base bv 3 fLtimes eLtimes ["_law_one","_law_other"] (bA K 2 bF)){fLplus:Addr}{eLplus:FuncData}(hLplus:aV K mg "_law_plus" lX fLplus eLplus ["_law_one","_law_other"])(GLplus:aC P w K mg base bv 3 fLplus eLplus ["_law_one","_law_other"] (bA K 2 dO)){fLtold_at:Addr}{eLtold_at:FuncData}(hLtold_at:aV K mg "_law_told_at" ix fLtold_at eLtold_at ["_law_row","_law_at"])(GLtold_at:aC P w K mg base bv 1 fLtold_at eLtold_at ["_law_row","_law_at"] (bA K 2 fY)){fLrest:Addr}{eLrest:FuncData}(hLrest:aV K mg "_law_rest" jD fLrest eLrest ["_law_one"])(GLrest:aC P w K mg base bv 1 fLrest eLrest ["_law_one"] (bA K 1 gp)):aC P w K mg base bv 4 f fd ["_law_web_here","_law_tree","_law_row"] (bA K 3 cT):=by
  have nd:=j'.nd
  exact h.fn j' rfl rfl (fun cdv A outer s H E hr=>(@ag _ _ _ _ _ _ _ _ (@dR _ _ _ _ _ _ _ _ _ _ _ PassesOwn.never rfl (@qA _ _ _ _ _ _ _ _ _ _ rfl rfl T.b_zip ((¬1)∘((¬2)∘ab)) (by rfl) (by rfl)) (@bN _ _ _ _ _ _ _ _ rfl rfl (@ap _ _ _ _ _ _ _ _ (@ao _ _ _ 3 _ nd rfl (Or.inl rfl) (by trivial)) (@ap _ _ _ _ _ _ _ _ (@ao _ _ _ 4 _ nd rfl (Or.inl rfl) (by trivial)) (@bg _ _) (by rfl)) (by rfl)) (aq (aq bK)) (by rfl) (by rfl))
      (@ag _ _ _ _ _ _ _ _ (@dQ _ _ _ _ _ _ _ _ (¬3) (@bN _ _ _ _ _ _ _ _ rfl rfl (@ap _ _ _ _ _ _ _ _ (@ao _ _ _ 5 _ nd rfl (Or.inl rfl) (by trivial)) (@ap _ _ _ _ _ _ _ _ (@ao _ _ _ 6 _ nd rfl (Or.inl rfl) (by trivial)) (@ap _ _ _ _ _ _ _ _ (@ao _ _ _ 7 _ nd rfl (Or.inl rfl) (by trivial)) (@bg _ _) (by rfl)) (by rfl)) (by rfl)) (aq (aq (aq bK))) (by rfl) (by rfl)) (by rfl) (by rfl) (by rfl))
      (@ag _ _ _ _ _ _ _ _ (@dQ _ _ _ _ _ _ _ _ (@iQ _ _ _ _ _ _ _ _ _ _ rfl (@aS _ _ _ _ _ _ _ rfl (@aS _ _ _ _ _ _ _ rfl (¬0) ae (fun _ _=>rfl)) (¬5) (fun _ _=>rfl)) (@iS _ _ _ _ ae) (@iR _ _)) (@bN _ _ _ _ _ _ _ _ rfl rfl (@ap _ _ _ _ _ _ _ _ (@ao _ _ _ 8 _ nd rfl (Or.inl rfl) (by trivial)) (@ap _ _ _ _ _ _ _ _ (@ao _ _ _ 9 _ nd rfl (Or.inl rfl) (by trivial)) (@bg _ _) (by rfl)) (by rfl)) (aq (aq bK)) (by rfl) (by rfl)) (by rfl) (by rfl) (by rfl))
      (@ag _ _ _ _ _ _ _ _ (@aG _ _ _ _ _ 10 _ _ nd rfl (Or.inl rfl) (@aP _ _ _ _ _ _ _ _ _ _ _ _ _ _ _ hLtimes GLtimes (hr.mono (by decide)) ((¬8)∘((@aP _ _ _ _ _ _ _ _ _ _ _ _ _ _ _ hLplus GLplus (hr.mono (by decide)) ((@aO _ _ _ _ _ _ ((¬9)∘(ae∘ab)))∘((@aP _ _ _ _ _ _ _ _ _ _ _ _ _ _ _ hLtold_at GLtold_at (hr.mono (by decide)) ((¬2)∘((¬6)∘ab)) (by rfl) (by decide) (by rfl) (by rfl))∘ab)) (by rfl) (by decide) (by rfl) (by rfl))∘ab)) (by rfl) (by decide) (by rfl) (by rfl)) (by rfl) (by trivial))
      (@aj _ _ _ _ _ (@cE _ _ _ _ _ _ _ _ _ _ _ (@aX _ _ _ _ _ _ _ _ _ (@m_ _ _ _ rfl hr) (¬4) (@aP _ _ _ _ _ _ _ _ _ _ _ _ _ _ _ hLplus GLplus (hr.mono (by decide)) ((¬10)∘((@aP _ _ _ _ _ _ _ _ _ _ _ _ _ _ _ hLtimes GLtimes (hr.mono (by decide)) ((@aP _ _ _ _ _ _ _ _ _ _ _ _ _ _ _ hLrest GLrest (hr.mono (by decide)) ((¬8)∘ab) (by rfl) (by decide) (by rfl) (by rfl))∘((@aP _ _ _ _ _ _ _ _ _ _ _ _ _ _ _ hLtold_at GLtold_at (hr.mono (by decide)) ((¬2)∘((¬7)∘ab)) (by rfl) (by decide) (by rfl) (by rfl))∘ab)) (by rfl) (by decide) (by rfl) (by rfl))∘ab)) (by rfl) (by decide) (by rfl) (by rfl)) (aU _))
      (@aj _ _ _ _ _ (@az _ _ _ _ _ (@ec _ _ _ _ _)))
      (@a' _ _)))))) (by intro _;rfl))
      (@aj _ _ _ _ _ (@az _ _ _ _ _ (@ec _ _ _ _ _)))))
noncomputable def eY:FI:=(kS (cW (aa (bB (aa (ac 6) (aa (ac 8) ah))) (aa (bB (aa (ac 7) (aa (bH 1 gp (aa (ac 8) ah)) ah))) ah))))
noncomputable def bP:FS:=(ir (jb (aH (ar (bR true) (ac 9) (lG j5 (vC (.int 1))))) (aH (ar (bR true) (ar bE (ac 2) (ac 9)) (bH 2 bF (aa (ac 4) (aa (ac 10) ah))))))
    (aY (vC (.bool false)))
    cG)
noncomputable def eZ:FI:=(mx (aa (ac 1) (aa (ac 2) ah)))
noncomputable def bQ:FS:=(aD (fm (ac 3) (aN (ai (af 5) (ai (af 6) (ai (af 7) aK)))))
    (aD (bh 8 (ar bE (ar bE (ar bE (ac 0) (vC (.int 1))) (ac 5)) (vC (.int 2))))
    (de (([9]++([10]++[]))++([]++[])) eY (aN (ai (af 9) (ai (af 10) aK))) bP)))
noncomputable def en:FS:=(aD (de (([3]++([4]++[]))++(([5]++([6]++([7]++[])))++([8]++(([9]++([10]++[]))++([]++[]))))) eZ (aN (ai (af 3) (ai (af 4) aK))) bQ)
    (aY (oq (ar (bR false) (ac 2) (bB ah)) (ar (bR false) (ar bE (ac 2) (vC (.int 0))) (bB (aa (vC (.int 1)) (aa (vC (.int 1)) ah)))))))
noncomputable def bU:FM:=fC 3 8 ((([3]++([4]++[]))++(([5]++([6]++([7]++[])))++([8]++(([9]++([10]++[]))++([]++[])))))++[]) en
theorem jF:aB ["_law_web_here","_law_tree","_law_row","_law_node","_law_own","_law_tie","_law_yes","_law_no","_law_chance_here","_law_link","_law_share"] ["_law_web_here","_law_tree","_law_row"] (am df):=⟨rfl,rfl,rfl,by decide+kernel,rfl,by decide+kernel,by decide+kernel⟩
theorem nJ(h:aV K mg "_law_reaches_fit" df f fd ["_law_web_here","_law_tree","_law_row"])(T:h_ mg){fLrest:Addr}{eLrest:FuncData}(hLrest:aV K mg "_law_rest" jD fLrest eLrest ["_law_one"])(GLrest:aC P w K mg base bv 1 fLrest eLrest ["_law_one"] (bA K 1 gp)){fLtimes:Addr}{eLtimes:FuncData}(hLtimes:aV K mg "_law_times" gX fLtimes eLtimes ["_law_one","_law_other"])(GLtimes:aC P w K mg base bv 3 fLtimes eLtimes ["_law_one","_law_other"] (bA K 2 bF)):aC P w K mg base bv 4 f fd ["_law_web_here","_law_tree","_law_row"] (bA K 3 bU):=by
  have nd:=jF.nd
  exact h.fn jF rfl rfl (fun cdv A outer s H E hr=>(@ag _ _ _ _ _ _ _ _ (@dR _ _ _ _ _ _ _ _ _ _ _ PassesOwn.never rfl (@qA _ _ _ _ _ _ _ _ _ _ rfl rfl T.b_zip ((¬1)∘((¬2)∘ab)) (by rfl) (by rfl)) (@bN _ _ _ _ _ _ _ _ rfl rfl (@ap _ _ _ _ _ _ _ _ (@ao _ _ _ 3 _ nd rfl (Or.inl rfl) (by trivial)) (@ap _ _ _ _ _ _ _ _ (@ao _ _ _ 4 _ nd rfl (Or.inl rfl) (by trivial)) (@bg _ _) (by rfl)) (by rfl)) (aq (aq bK)) (by rfl) (by rfl))
      (@ag _ _ _ _ _ _ _ _ (@dQ _ _ _ _ _ _ _ _ (¬3) (@bN _ _ _ _ _ _ _ _ rfl rfl (@ap _ _ _ _ _ _ _ _ (@ao _ _ _ 5 _ nd rfl (Or.inl rfl) (by trivial)) (@ap _ _ _ _ _ _ _ _ (@ao _ _ _ 6 _ nd rfl (Or.inl rfl) (by trivial)) (@ap _ _ _ _ _ _ _ _ (@ao _ _ _ 7 _ nd rfl (Or.inl rfl) (by trivial)) (@bg _ _) (by rfl)) (by rfl)) (by rfl)) (aq (aq (aq bK))) (by rfl) (by rfl)) (by rfl) (by rfl) (by rfl))
      (@ag _ _ _ _ _ _ _ _ (@aG _ _ _ _ _ 8 _ _ nd rfl (Or.inl rfl) (@aS _ _ _ _ _ _ _ rfl (@aS _ _ _ _ _ _ _ rfl (@aS _ _ _ _ _ _ _ rfl (¬0) ae (fun _ _=>rfl)) (¬5) (fun _ _=>rfl)) ae (fun _ _=>rfl)) (by rfl) (by trivial))
      (@aj _ _ _ _ _ (@dR _ _ _ _ _ _ _ _ _ _ _ PassesOwn.never rfl (@jz _ _ _ _ _ rfl (@bO _ _ _ _ _ ((@aO _ _ _ _ _ _ ((¬6)∘((¬8)∘ab)))∘((@aO _ _ _ _ _ _ ((¬7)∘((@aP _ _ _ _ _ _ _ _ _ _ _ _ _ _ _ hLrest GLrest (hr.mono (by decide)) ((¬8)∘ab) (by rfl) (by decide) (by rfl) (by rfl))∘ab)))∘ab)))) (@bN _ _ _ _ _ _ _ _ rfl rfl (@ap _ _ _ _ _ _ _ _ (@ao _ _ _ 9 _ nd rfl (Or.inl rfl) (by trivial)) (@ap _ _ _ _ _ _ _ _ (@ao _ _ _ 10 _ nd rfl (Or.inl rfl) (by trivial)) (@bg _ _) (by rfl)) (by rfl)) (aq (aq bK)) (by rfl) (by rfl))
      (@aj _ _ _ _ _ (@cE _ _ _ _ _ _ _ _ _ _ _ (@rJ _ _ _ _ (@nQ _ _ _ _ _ _ _ _ (@aX _ _ _ _ _ _ _ _ _ (@m_ _ _ _ rfl hr) (¬9) (@lg _ _ _ _ _ ae) (aU _)) (@mT _ _ _ _ _ (@aX _ _ _ _ _ _ _ _ _ (@m_ _ _ _ rfl hr) (@aS _ _ _ _ _ _ _ rfl (¬2) (¬9) (fun _ _=>rfl)) (@aP _ _ _ _ _ _ _ _ _ _ _ _ _ _ _ hLtimes GLtimes (hr.mono (by decide)) ((¬4)∘((¬10)∘ab)) (by rfl) (by decide) (by rfl) (by rfl)) (aU _)))))
      (@aj _ _ _ _ _ (@az _ _ _ _ _ (@ec _ _ _ _ _)))
      (@a' _ _))) (by intro _;rfl))))) (by intro _;rfl))
      (@aj _ _ _ _ _ (@az _ _ _ _ _ (@D_ _ _ _ _ _ _ _ _ (@lc _ _ _ _ _ _ _ _ _ (@mE _ _ _ rfl hr) (¬2) (@aO _ _ _ _ _ _ ab) (aU _)) (@qz _ _ _ _ _ _ (@lc _ _ _ _ _ _ _ _ _ (@mE _ _ _ rfl hr) (@aS _ _ _ _ _ _ _ rfl (¬2) ae (fun _ _=>rfl)) (@aO _ _ _ _ _ _ (ae∘(ae∘ab))) (aU _))))))))
noncomputable def Fh:FI:=(kS (ac 6))
noncomputable def EM:FS:=(aD (ir (jc (aH (bH 2 lQ (aa (bH 3 dc (aa (ac 3) (aa (ac 4) (aa (ac 7) ah)))) (aa (bH 3 cT (aa (ac 3) (aa (ac 4) (aa (ac 7) ah)))) ah)))))
    (aY (vC (.bool false)))
    cG)
    (ir (jc (aH (bH 2 lQ (aa (bH 3 bM (aa (ac 3) (aa (ac 4) (aa (ac 7) ah)))) (aa (bH 3 bU (aa (ac 3) (aa (ac 4) (aa (ac 7) ah)))) ah)))))
    (aY (vC (.bool false)))
    cG))
noncomputable def Fi:FI:=(cS (aa (vC (.int 5)) ah))
noncomputable def EO:FE:=(bH 2 fX (aa (ac 0) (aa (EH (ac 1) (lG j5 (vC (.int 1)))) ah)))
noncomputable def Fj:FI:=(cS (aa (vC (.int 5)) ah))
noncomputable def EQ:FE:=(bH 2 fX (aa (ac 0) (aa (ac 1) ah)))
noncomputable def Gb:FI:=(cS (aa (vC (.int 6)) ah))
noncomputable def EN:FS:=(aD (bh 3 (bH 3 rA (aa (ac 1) (aa (ar bE (cW (aa (vC (.int 2)) (aa (vC (.int 6)) ah))) (ar a9 (ac 2) (vC (.int 2)))) (aa (ar bE (cW (aa (vC (.int 2)) (aa (vC (.int 5)) ah))) (ar a9 (ac 2) (vC (.int 2)))) ah)))))
    (aD (bh 4 (bH 3 kY (aa (ac 1) (aa (ac 3) (aa (ar cy (vC (.int 1)) (ar a9 (bH 1 bz (aa (ac 1) ah)) (vC (.int 7)))) ah)))))
    (aD (bh 5 (cW (aa (bH 2 jw (aa (ac 3) (aa (ac 4) ah))) (aa (bH 2 io (aa (ac 3) (aa (ac 4) ah))) ah))))
    (aD (bh 6 (ar cy (ac 5) (ed [(1,"_law_drawn"),(5,"_law_papers")] 1 Fj (af 2) cz EQ)))
    (aD (bh 6 (ar cy (ac 6) (ed [(1,"_law_drawn"),(5,"_law_papers")] 1 Fi (af 2) cz EO)))
    (de ([7]++(([]++[])++([]++[]))) Fh (af 7) EM))))))
noncomputable def AS:FS:=(aD (bh 1 (bH 1 kX (aa (ac 0) ah)))
    (aD (de ([2]++([3]++([4]++([5]++([6]++([6]++([7]++(([]++[])++([]++[]))))))))) Gb (af 2) EN)
    (aY (vC (.bool true)))))
noncomputable def nF:FM:=fC 1 7 ([1]++(([2]++([3]++([4]++([5]++([6]++([6]++([7]++(([]++[])++([]++[])))))))))++[])) AS
theorem ym:aB ["_law_script","_law_drawn","_law_k","_law_web_here","_law_tree","_law_papers","_law_rows","_law_row"] ["_law_script"] (am lu):=⟨rfl,rfl,rfl,by decide+kernel,rfl,by decide+kernel,by decide+kernel⟩
theorem B4(h:aV K mg "law" lu f fd ["_law_script"])(T:h_ mg){fLdraws:Addr}{eLdraws:FuncData}(hLdraws:aV K mg "_law_draws" lm fLdraws eLdraws ["_law_script"])(GLdraws:aC P w K mg base bv 2 fLdraws eLdraws ["_law_script"] (bA K 1 kX)){fLweb:Addr}{eLweb:FuncData}(hLweb:aV K mg "_law_web" rO fLweb eLweb ["_law_drawn","_law_most","_law_ties_here"])(GLweb:aC P w K mg base bv 5 fLweb eLweb ["_law_drawn","_law_most","_law_ties_here"] (bA K 3 rA)){fLgrown:Addr}{eLgrown:FuncData}(hLgrown:aV K mg "_law_grown" jY fLgrown eLgrown ["_law_drawn","_law_web_here","_law_most"])(GLgrown:aC P w K mg base bv 4 fLgrown eLgrown ["_law_drawn","_law_web_here","_law_most"] (bA K 3 kY)){fLworths:Addr}{eLworths:FuncData}(hLworths:aV K mg "_law_worths" jE fLworths eLworths ["_law_web_here","_law_tree"])(GLworths:aC P w K mg base bv 4 fLworths eLworths ["_law_web_here","_law_tree"] (bA K 2 jw)){fLreaches:Addr}{eLreaches:FuncData}(hLreaches:aV K mg "_law_reaches" iw fLreaches eLreaches ["_law_web_here","_law_tree"])(GLreaches:aC P w K mg base bv 4 fLreaches eLreaches ["_law_web_here","_law_tree"] (bA K 2 io)){fLmade_up:Addr}{eLmade_up:FuncData}(hLmade_up:aV K mg "_law_made_up" iu fLmade_up eLmade_up ["_law_drawn","_law_rows"])(GLmade_up:aC P w K mg base bv 2 fLmade_up eLmade_up ["_law_drawn","_law_rows"] (bA K 2 fX)){fLsays:Addr}{eLsays:FuncData}(hLsays:aV K mg "_law_says" nU fLsays eLsays ["_law_found","_law_due"])(GLsays:aC P w K mg base bv 1 fLsays eLsays ["_law_found","_law_due"] (bA K 2 lQ)){fLnext:Addr}{eLnext:FuncData}(hLnext:aV K mg "_law_next" iU fLnext eLnext ["_law_drawn"])(GLnext:aC P w K mg base bv 1 fLnext eLnext ["_law_drawn"] (bA K 1 bz)){f_worths_hold:Addr}{e_worths_hold:FuncData}(h_worths_hold:aV K mg "worths_hold" cC f_worths_hold e_worths_hold ["web","tree","thing"])(G_worths_hold:aC P w K mg base bv 6 f_worths_hold e_worths_hold ["web","tree","thing"] (bA K 3 dc)){fLworths_fit:Addr}{eLworths_fit:FuncData}(hLworths_fit:aV K mg "_law_worths_fit" dU fLworths_fit eLworths_fit ["_law_web_here","_law_tree","_law_row"])(GLworths_fit:aC P w K mg base bv 4 fLworths_fit eLworths_fit ["_law_web_here","_law_tree","_law_row"] (bA K 3 cT)){f_reaches_hold:Addr}{e_reaches_hold:FuncData}(h_reaches_hold:aV K mg "reaches_hold" cf f_reaches_hold e_reaches_hold ["web","tree","thing"])(G_reaches_hold:aC P w K mg base bv 5 f_reaches_hold e_reaches_hold ["web","tree","thing"] (bA K 3 bM)){fLreaches_fit:Addr}{eLreaches_fit:FuncData}(hLreaches_fit:aV K mg "_law_reaches_fit" df fLreaches_fit eLreaches_fit ["_law_web_here","_law_tree","_law_row"])(GLreaches_fit:aC P w K mg base bv 4 fLreaches_fit eLreaches_fit ["_law_web_here","_law_tree","_law_row"] (bA K 3 bU)):aC P w K mg base bv 7 f fd ["_law_script"] (bA K 1 nF):=by
  have nd:=ym.nd
  exact h.fn ym rfl rfl (fun cdv A outer s H E hr=>(@ag _ _ _ _ _ _ _ _ (@aG _ _ _ _ _ 1 _ _ nd rfl (Or.inr rfl) (@aP _ _ _ _ _ _ _ _ _ _ _ _ _ _ _ hLdraws GLdraws (hr.mono (by decide)) ((¬0)∘ab) (by rfl) (by decide) (by rfl) (by rfl)) (by rfl) (by trivial))
      (@ag _ _ _ _ _ _ _ _ (@dR _ _ _ _ _ _ _ _ _ _ _ PassesOwn.never rfl (@cU _ _ _ _ _ _ _ rfl T.b_range (ae∘ab) (by rfl)) (@ao _ _ _ 2 _ nd rfl (Or.inl rfl) (by trivial))
      (@ag _ _ _ _ _ _ _ _ (@aG _ _ _ _ _ 3 _ _ nd rfl (Or.inl rfl) (@aP _ _ _ _ _ _ _ _ _ _ _ _ _ _ _ hLweb GLweb (hr.mono (by decide)) ((¬1)∘((@aS _ _ _ _ _ _ _ rfl (@bO _ _ _ _ _ (ae∘(ae∘ab))) (@aZ _ _ _ _ _ _ _ (¬2) ae) (fun _ _=>rfl))∘((@aS _ _ _ _ _ _ _ rfl (@bO _ _ _ _ _ (ae∘(ae∘ab))) (@aZ _ _ _ _ _ _ _ (¬2) ae) (fun _ _=>rfl))∘ab))) (by rfl) (by decide) (by rfl) (by rfl)) (by rfl) (by trivial))
      (@ag _ _ _ _ _ _ _ _ (@aG _ _ _ _ _ 4 _ _ nd rfl (Or.inl rfl) (@aP _ _ _ _ _ _ _ _ _ _ _ _ _ _ _ hLgrown GLgrown (hr.mono (by decide)) ((¬1)∘((¬3)∘((@cm _ _ _ _ _ _ _ rfl ae (@aZ _ _ _ _ _ _ _ (@aP _ _ _ _ _ _ _ _ _ _ _ _ _ _ _ hLnext GLnext (hr.mono (by decide)) ((¬1)∘ab) (by rfl) (by decide) (by rfl) (by rfl)) ae))∘ab))) (by rfl) (by decide) (by rfl) (by rfl)) (by rfl) (by trivial))
      (@ag _ _ _ _ _ _ _ _ (@aG _ _ _ _ _ 5 _ _ nd rfl (Or.inr rfl) (@bO _ _ _ _ _ ((@aP _ _ _ _ _ _ _ _ _ _ _ _ _ _ _ hLworths GLworths (hr.mono (by decide)) ((¬3)∘((¬4)∘ab)) (by rfl) (by decide) (by rfl) (by rfl))∘((@aP _ _ _ _ _ _ _ _ _ _ _ _ _ _ _ hLreaches GLreaches (hr.mono (by decide)) ((¬3)∘((¬4)∘ab)) (by rfl) (by decide) (by rfl) (by rfl))∘ab))) (by rfl) (by trivial))
      (@ag _ _ _ _ _ _ _ _ (@aG _ _ _ _ _ 6 _ _ nd rfl (Or.inl rfl) (@cm _ _ _ _ _ _ _ rfl (¬5) (@jy _ _ _ _ _ _ _ _ _ _ _ _ _ (am lu) ["_law_script","_law_drawn","_law_k","_law_web_here","_law_tree","_law_papers","_law_rows","_law_row"] [(1,"_law_drawn"),(5,"_law_papers")] ["_law_j"] rfl rfl rfl (@cU _ _ _ _ _ _ _ rfl T.b_range (ae∘ab) (by rfl))
        (fun C s0 H0 fp=>(@ao _ _ _ 2 _ (show List.Nodup (["_law_drawn","_law_papers","_law_j"]:List Str) by decide+kernel) rfl (Or.inl rfl) (by trivial))) (fun C s0 H0 fp=>(@iT _ _))
        (fun C s0 H0 fp=>(@aP _ _ _ _ _ _ _ _ _ _ _ _ _ _ _ hLmade_up GLmade_up (hr.mono (by decide)) ((¬0)∘((¬1)∘ab)) (by rfl) (by decide) (by rfl) (by rfl))) rfl (by decide+kernel) (by decide+kernel) (by decide+kernel) (by decide+kernel) (by decide+kernel) (by decide+kernel) (by decide+kernel) (by intro _;rfl))) (by rfl) (by trivial))
      (@ag _ _ _ _ _ _ _ _ (@aG _ _ _ _ _ 6 _ _ nd rfl (Or.inl rfl) (@cm _ _ _ _ _ _ _ rfl (¬6) (@jy _ _ _ _ _ _ _ _ _ _ _ _ _ (am lu) ["_law_script","_law_drawn","_law_k","_law_web_here","_law_tree","_law_papers","_law_rows","_law_row"] [(1,"_law_drawn"),(5,"_law_papers")] ["_law_j"] rfl rfl rfl (@cU _ _ _ _ _ _ _ rfl T.b_range (ae∘ab) (by rfl))
        (fun C s0 H0 fp=>(@ao _ _ _ 2 _ (show List.Nodup (["_law_drawn","_law_papers","_law_j"]:List Str) by decide+kernel) rfl (Or.inl rfl) (by trivial))) (fun C s0 H0 fp=>(@iT _ _))
        (fun C s0 H0 fp=>(@aP _ _ _ _ _ _ _ _ _ _ _ _ _ _ _ hLmade_up GLmade_up (hr.mono (by decide)) ((¬0)∘((@Fv _ _ _ _ _ _ _ _ rfl (¬1) (@lg _ _ _ _ _ ae))∘ab)) (by rfl) (by decide) (by rfl) (by rfl))) rfl (by decide+kernel) (by decide+kernel) (by decide+kernel) (by decide+kernel) (by decide+kernel) (by decide+kernel) (by decide+kernel) (by intro _;rfl))) (by rfl) (by trivial))
      (@aj _ _ _ _ _ (@dR _ _ _ _ _ _ _ _ _ _ _ PassesOwn.never rfl (@jz _ _ _ _ _ rfl (¬6)) (@ao _ _ _ 7 _ nd rfl (Or.inl rfl) (by trivial))
      (@ag _ _ _ _ _ _ _ _ (@cE _ _ _ _ _ _ _ _ _ _ _ (@ky _ _ _ _ _ (@hJ _ _ _ _ (@aP _ _ _ _ _ _ _ _ _ _ _ _ _ _ _ hLsays GLsays (hr.mono (by decide)) ((@aP _ _ _ _ _ _ _ _ _ _ _ _ _ _ _ h_worths_hold G_worths_hold (hr.mono (by decide)) ((¬3)∘((¬4)∘((¬7)∘ab))) (by rfl) (by decide) (by rfl) (by rfl))∘((@aP _ _ _ _ _ _ _ _ _ _ _ _ _ _ _ hLworths_fit GLworths_fit (hr.mono (by decide)) ((¬3)∘((¬4)∘((¬7)∘ab))) (by rfl) (by decide) (by rfl) (by rfl))∘ab)) (by rfl) (by decide) (by rfl) (by rfl)) (by intro _;rfl)))
      (@aj _ _ _ _ _ (@az _ _ _ _ _ (@ec _ _ _ _ _)))
      (@a' _ _))
      (@aj _ _ _ _ _ (@cE _ _ _ _ _ _ _ _ _ _ _ (@ky _ _ _ _ _ (@hJ _ _ _ _ (@aP _ _ _ _ _ _ _ _ _ _ _ _ _ _ _ hLsays GLsays (hr.mono (by decide)) ((@aP _ _ _ _ _ _ _ _ _ _ _ _ _ _ _ h_reaches_hold G_reaches_hold (hr.mono (by decide)) ((¬3)∘((¬4)∘((¬7)∘ab))) (by rfl) (by decide) (by rfl) (by rfl))∘((@aP _ _ _ _ _ _ _ _ _ _ _ _ _ _ _ hLreaches_fit GLreaches_fit (hr.mono (by decide)) ((¬3)∘((¬4)∘((¬7)∘ab))) (by rfl) (by decide) (by rfl) (by rfl))∘ab)) (by rfl) (by decide) (by rfl) (by rfl)) (by intro _;rfl)))
      (@aj _ _ _ _ _ (@az _ _ _ _ _ (@ec _ _ _ _ _)))
      (@a' _ _)))) (by intro _;rfl)))))))) (by intro _;rfl))
      (@aj _ _ _ _ _ (@az _ _ _ _ _ (@ec _ _ _ _ _))))))
local macro_rules | `(tactic| simp? [$ts,*]) => `(tactic| simp [$ts,*, fC, jx, aD, ir, aY, cG, bh, dz, fm, mJ, oK, aH, ar, lG, ac, vC, cW, ah, aa, bB, aQ, bH, jb, sd, jc, vZ, iz, oq, jK, qP, fD, eR, cF, bD, rB, eg, gg, ki, cY, bC, oE, qJ, aN, ai, af, aK, bX, aI, bc, qo, dn, eG, cN, fL, gU, gR, gM, gL, eI, eH, eJ, du, eF, mn, gQ, jl, mq, jp, gS, jm, jo, eL, eK, dw, eM, mr, je, dB, jf, jg, l9, dr, dq, dN, gN, List.replicate, -List.map_nil, -List.map_cons, -List.nil_append, -List.cons_append, -Option.bind_some, -Option.map_some, -getElem?_pos, -List.append_nil, mi, mh, ma, l_, me, mf, md, mj])
theorem yM{n k:Int}(h:0 < k):0≤n % k:=Int.emod_nonneg _ (Int.ne_of_gt h)
theorem yN{n k:Int}(h:0 < k):n % k < k:=Int.emod_lt_of_pos _ h
def nx:List Int→Int
  | []=>0
  | d::_=>d
def ii(ds:List Int):Prop:=∀d∈ds,0≤d∧d < 2147483648
theorem Ba{ds:List Int}(h:ii ds):0≤nx ds∧nx ds < 2147483648:=by
  cases ds with
  | nil=>exact⟨Int.le_refl 0,by show(0:Int) < 2147483648;decide⟩
  | cons d r=>exact h d (by simp)
theorem EF{ds:List Int}(h:ii ds):ii ds.tail:=fun d hd=>h d (List.mem_of_mem_tail hd)
theorem C3(ds:List Int):bz [.l (ds.map .int)]=some (.d (.int (nx ds)),[.l (ds.tail.map .int)]):=by
  have hq:∀e:En,e[0]?=some (some (.l (ds.map .int)))→bR false e (.s 0) (.l [])=some (.d (.bool (ds.map PyData.int).isEmpty)):=fun e he=>nu he (mz ds).1
  cases ds with
  | nil=>simp? [bz,sy,hq,nx]
  | cons d r=>simp? [bz,sy,hq,nx]
theorem j6{ds:List Int}(hd:ii ds):∃(n:Int) (ds':List Int),bz [.l (ds.map .int)]=some (.d (.int n),[.l (ds'.map .int)])∧0≤n∧n < 2147483648∧ii ds':=⟨nx ds,ds.tail,C3 ds,(Ba hd).1,(Ba hd).2,EF hd⟩
theorem uP(cell k:Int)(h0:0≤k)(h1:k≤1000):∃r,jW [.d (.int cell),.d (.int k)]=some (.d (.int r),[.d (.int cell),.d (.int k)])∧0≤r∧r < 2147483648:=by
  have a1:ko (cell % 2147483647) 48271=true:=qm (by decide) (by decide)
  have a2:ko 7919 k=true:=xn (by decide) (by decide)
  have a3:ko (7919*k) k=true:=qm (by lia) (by lia)
  have a4:ko ((cell % 2147483647*48271+7919*k*k+104729) % 2147483647) ((cell % 2147483647*48271+7919*k*k+104729) % 2147483647)=true:=qm (by lia) (by lia)
  refine⟨_,by simp? [jW,tY,aT,bZ,a1,a2,a3,a4];rfl,?_,?_⟩
  · lia
  · lia
theorem p8{ds:List Int}(h:ii ds){r:Int}(h0:0≤r)(h1:r < 2147483648):ii (ds++[r]):=fun d hd=>by
  rcases List.mem_append.mp hd with hd | hd
  · exact h d hd
  · simp at hd;subst hd;exact⟨h0,h1⟩
abbrev dE(ns ds:List Int)(v2 v3 v4:Option Sv):En:=[some (.d (.list (ns.map .int))),some (.l (ds.map .int)),v2,v3,v4]
inductive DI (ns:List Int) (i:Nat):En→Prop
  | mk {ds v2 v3 v4} (hd:ii ds) (hl:ds.length≤1000*i):DI ns i (dE ns ds v2 v3 v4)
inductive DJ (ns:List Int) (k cell:Int) (n i:Nat):En→Prop
  | mk {ds v4} (hd:ii ds) (hl:ds.length=n+i):DJ ns k cell n i (dE ns ds (some (.d (.int k))) (some (.d (.int cell))) v4)
inductive DW (ns:List Int) (k:Int) (v4:Option Sv) (n:Nat):En→Prop
  | mk {cell ds} (hc:0≤cell) (hd:ii ds) (hl:ds.length≤max n 900):DW ns k v4 n (dE ns ds (some (.d (.int k))) (some (.d (.int cell))) v4)
theorem Ar(ns:List Int)(hn:ns.length≤63):∃ds,kX [.d (.list (ns.map .int))]=some (.l (ds.map .int),[.d (.list (ns.map .int))])∧ii ds:=by
  have inner:∀(cell k:Int) (ds:List Int) (v4:Option Sv),0≤k→k≤63→ii ds→ds.length≤63000→∃ds' v4',(∀W,de W jU (af 4) ia (dE ns ds (some (.d (.int k))) (some (.d (.int cell))) v4)=some (.nx (dE ns ds' (some (.d (.int k))) (some (.d (.int cell))) v4')))∧ii ds'∧ds'.length=ds.length+12:=by
    intro cell k ds v4 k0 k1 hd hl
    obtain⟨e',h1,h2⟩:=c_ (own:=[]) (g:=af 4) (f:=ia) (DJ ns k cell ds.length) (be 0 12) 0 (dE ns ds (some (.d (.int k))) (some (.d (.int cell))) v4) (fun i x e hx hI=>by
      obtain⟨rfl,hi⟩:=dk hx
      obtain⟨hd',hl'⟩:=hI
      rename_i ds' v4'
      obtain⟨r1,c1,_,_⟩:=uP cell (3*(0+(i:Int))+1) (by lia) (by lia)
      obtain⟨r2,c2,c3,c4⟩:=uP r1 (0+(i:Int)+k+2) (by lia) (by lia)
      have a1:ko 3 (0+(i:Int))=true:=xn (by decide) (by decide)
      refine⟨_,dE ns (ds'++[r2]) (some (.d (.int k))) (some (.d (.int cell))) (some (.d (.int (0+(i:Int))))),rfl,?_,bu,.mk (p8 hd' c3 c4) (by simp;lia)⟩
      have hlen:ds'.length < 1000000:=by lia
      simp only [Int.zero_add] at a1 c1 c2
      simp? [dE,ia,c1,c2,bZ,a1,hlen]) (.mk hd rfl)
    obtain⟨hd',hl'⟩:=h2
    rename_i ds' v4'
    rw [cw] at hl'
    refine⟨ds',v4',fun W=>?_,hd',by lia⟩
    rw [cV (show jU _=some (be 0 12,[],_) from ef (n:=12) rfl (by decide) (by decide))]
    exact h1
  have wh:∀(cell k:Int) (ds:List Int) (v4:Option Sv),0≤cell→ii ds→ds.length≤63100→∃cell' ds',iV (2 ^ 4200) fR jL (dE ns ds (some (.d (.int k))) (some (.d (.int cell))) v4)=some (.nx (dE ns ds' (some (.d (.int k))) (some (.d (.int cell'))) v4))∧0≤cell'∧ii ds'∧ds'.length≤max ds.length 900:=by
    intro cell k ds v4 hc hd hl
    have tst:∀(cell:Int) (ds:List Int),fR (dE ns ds (some (.d (.int k))) (some (.d (.int cell))) v4)=some (decide (1000000000000000000≤cell)&&decide ((ds.length:Int) < 900),dE ns ds (some (.d (.int k))) (some (.d (.int cell))) v4):=by
      intro cell ds
      by_cases h:(1000000000000000000:Int)≤cell
      · simp? [dE,fR,kR,lb,h]
      · simp? [dE,fR,kR,lb,h]
    obtain⟨e0,e',h1,hI,h3⟩:=i3 (ft:=fR) (f:=jL) (DW ns k v4 ds.length)
      (fun e=>1000000 - pk 1 e) (fun e hI=>by
        obtain⟨hc',hd',hl'⟩:=hI
        rename_i cell' ds'
        rw [tst]
        by_cases c1:(1000000000000000000:Int)≤cell'
        · by_cases c2:(ds'.length:Int) < 900
          · refine .inr ⟨_,dE ns (ds'++[cell' % 2147483629]) (some (.d (.int k))) (some (.d (.int (cell' / 2147483629)))) v4,by rw [decide_eq_true c1,decide_eq_true c2];rfl,?_,.mk (by lia) (p8 hd' (by lia) (by lia)) (by simp;lia),?_⟩
            · have hlen:ds'.length < 1000000:=by lia
              have b8:Bt 8000 2147483629:=ke (by decide) (by decide)
              simp? [dE,jL,aT,ee,b8,hlen]
            · simp [pk,dE];lia
          · exact .inl ⟨_,by rw [decide_eq_true c1,decide_eq_false c2];rfl,trivial⟩
        · exact .inl ⟨_,by rw [decide_eq_false c1];rfl,trivial⟩) (2 ^ 4200) _ (.mk hc hd (by lia)) (mQ (m:=20) (Nat.lt_of_le_of_lt (Nat.sub_le _ _) (by decide)) (by decide))
    obtain⟨hc',hd',hl'⟩:=hI
    rename_i cell' ds'
    rw [tst] at h3
    have h4:=(Prod.mk.inj (Option.some.inj h3)).2
    subst h4
    exact⟨cell',ds',h1,hc',hd',hl'⟩
  have turn:∀(i:Nat) (ds:List Int) (v3 v4:Option Sv) (hi:i < ns.length),ii ds→ds.length≤1000*i→∃ds2 v3' v4',fP (dE ns ds (some (.d (.int (i:Int)))) v3 v4)=some (.nx (dE ns ds2 (some (.d (.int (i:Int)))) v3' v4'))∧ii ds2∧ds2.length≤1000*(i+1):=by
    intro i ds v3 v4 hi hd hl
    have hcell:atI (ns.map PyData.int) (i:Int)=some (.int ns[i]):=by
      rw [gf (by lia) (by rw [List.length_map];lia)]
      simp [hi]
    have c0:(0:Int)≤(ns[i].natAbs:Int):=by lia
    have st:bh 3 (aQ (g1 sG) (aa (ar bE (ac 0) (ac 2)) ah)) (dE ns ds (some (.d (.int (i:Int)))) v3 v4)=some (.nx (dE ns ds (some (.d (.int (i:Int)))) (some (.d (.int (ns[i].natAbs:Int)))) v4)):=by
      simp? [dE,hcell]
    generalize (ns[i].natAbs:Int)=cell at c0 st
    have mid:∃ds1 v4',ir (aH (ar wd (ac 3) (ar sI (vC (.int 10)) (vC (.int 18))))) (de ([4]++[]) jU (af 4) ia) cG (dE ns ds (some (.d (.int (i:Int)))) (some (.d (.int cell))) v4)=some (.nx (dE ns ds1 (some (.d (.int (i:Int)))) (some (.d (.int cell))) v4'))∧ii ds1∧ds1.length≤ds.length+12:=by
      by_cases cb:cell < 1000000000000000000
      · obtain⟨ds1,v4',f1,f2,f3⟩:=inner cell (i:Int) ds v4 (by lia) (by lia) hd (by lia)
        refine⟨ds1,v4',?_,f2,by lia⟩
        rw [Bj (e1:=dE ns ds (some (.d (.int (i:Int)))) (some (.d (.int cell))) v4) (by simp? [dE,kR,lb,cb])]
        exact f1 _
      · refine⟨ds,v4,?_,hd,by lia⟩
        rw [Bi (e1:=dE ns ds (some (.d (.int (i:Int)))) (some (.d (.int cell))) v4) (by simp? [dE,kR,lb,cb])]
        rfl
    obtain⟨ds1,v4',m1,m2,m3⟩:=mid
    obtain⟨cell2,ds2,w1,w2,w3,w4⟩:=wh cell (i:Int) ds1 v4' c0 m2 (by lia)
    by_cases c2:(2147483629:Int)≤cell2
    · refine⟨ds2++[cell2 % 2147483629],some (.d (.int cell2)),v4',?_,p8 w3 (by lia) (by lia),by simp;lia⟩
      have hlen:ds2.length < 1000000:=by lia
      unfold fP
      rw [cx st,cx m1,cx w1]
      simp? [dE,c2,aT,hlen]
    · refine⟨ds2,some (.d (.int cell2)),v4',?_,w3,by lia⟩
      unfold fP
      rw [cx st,cx m1,cx w1]
      simp? [dE,c2]
  obtain⟨e',h1,hI⟩:=c_ (own:=[]) (g:=af 2) (f:=fP) (DI ns) (be 0 (min (ns.length:Int) 63).toNat) 0 (dE ns [] none none none) (fun i x e hx hI=>by
    obtain⟨rfl,hi⟩:=dk hx
    obtain⟨hd,hl⟩:=hI
    rename_i ds v2 v3 v4
    rw [Nat.zero_add] at hl ⊢
    obtain⟨ds2,v3',v4',t1,t2,t3⟩:=turn i ds v3 v4 (by lia) hd hl
    exact⟨dE ns ds (some (.d (.int (i:Int)))) v3 v4,_,by simp [af,dE],t1,bu,.mk t2 t3⟩) (.mk (fun d hd=>by cases hd) (by simp))
  obtain⟨hd,hl⟩:=hI
  rename_i ds v2 v3 v4
  refine⟨ds,?_,hd⟩
  have hf:∀W,de W lP (af 2) fP (dE ns [] none none none)=some (.nx (dE ns ds v2 v3 v4)):=fun W=>by
    rw [cV (show lP _=some (be 0 (min (ns.length:Int) 63).toNat,[],dE ns [] none none none) from ef (n:=min (ns.length:Int) 63) (by simp? [dE]) (by lia) (by lia))]
    exact h1
  unfold dE at hf
  simp only [List.map_nil] at hf
  simp? [kX,tW,hf]
theorem EB(a b:Int)(hb:Bt 4000 b):rq [.d (.int a),.d (.int b)]=some (.d (.int (Int.gcd a b)),[.d (.int a),.d (.int b)]):=by
  have tst:∀x y:Int,kL [some (.d (.int x)),some (.d (.int y))]=some (!(y==0),[some (.d (.int x)),some (.d (.int y))]):=fun x y=>by simp? [kL]
  obtain⟨e0,e',h1,⟨x,y,he,hg,hy⟩,h3⟩:=i3 (ft:=kL) (f:=mM) (fun e=>∃x y,e=[some (.d (.int x)),some (.d (.int y))]∧Int.gcd x y=Int.gcd a b∧Bt 4000 y) (pw 1) (fun e ⟨x,y,he,hg,hy⟩=>by
    subst he
    rw [tst]
    by_cases c:y=0
    · subst c;exact .inl ⟨_,rfl,trivial⟩
    · refine .inr ⟨_,[some (.d (.int y)),some (.d (.int (x.fmod y)))],by rw [beq_false_of_ne c];rfl,by simp? [mM,wU c],⟨y,x.fmod y,rfl,by rw [rh,hg],?_⟩,?_⟩
      · have:=gK x c
        exact Bt.of_le hy (by lia)
      · have:=gK x c
        simpa [pw] using this) (2 ^ 4200) _ ⟨a,b,rfl,rfl,hb⟩ (mQ (m:=4000) (by simpa [pw,Bt] using hb) (by decide))
  subst he
  rw [tst] at h3
  have h4:=Prod.mk.inj (Option.some.inj h3)
  have hy0:y=0:=by simpa using h4.1
  subst hy0
  have h5:=h4.2
  subst h5
  have hs:iV (2 ^ 4200) kL mM [some (.d (.int a)),some (.d (.int b))]=some (.nx [some (.d (.int x)),some (.d (.int 0))]):=h1
  have hg':(x.natAbs:Int)=(Int.gcd a b:Int):=by rw [←hg];simp
  simp only [rq,AO,fC,jx,aD,ir,aY,cG,bh,dz,fm,mJ,oK,aH,ar,lG,ac,vC,cW,ah,aa,bB,aQ,bH,jb,sd,jc,vZ,iz,oq,jK,qP,fD,eR,cF,bD,rB,eg,gg,ki,cY,bC,oE,qJ,aN,ai,af,aK,bX,aI,bc,qo,dn,eG,cN,fL,gU,gR,gM,gL,eI,eH,eJ,du,eF,mn,gQ,jl,mq,jp,gS,jm,jo,eL,eK,dw,eM,mr,je,dB,jf,jg,l9,dr,dq,dN,gN,List.replicate, -List.map_nil, -List.map_cons, -List.nil_append, -List.cons_append, -Option.bind_some, -Option.map_some, -getElem?_pos, -List.append_nil,mi,mh,ma,l_,me,mf,md,mj]
  simp? [hs,hg']
theorem uO(t b:Int)(hb:0 < b)(h:Bt 4000 b):j9 [.d (.int t),.d (.int b)]=some (.d (.tuple [.int (bo t b).1,.int (bo t b).2]),[.d (.int t),.d (.int b)]):=by
  have g0:=qa (t:=t) (b:=b) (by lia)
  have g1:(Int.gcd t b:Int)≠0:=by lia
  have g8:Bt 8000 (Int.gcd t b:Int):=(wW (t:=t) (by lia) h).mono (by decide)
  have e:bo t b=(t.fdiv (Int.gcd t b:Int),b.fdiv (Int.gcd t b:Int)):=by unfold bo;rw [if_neg (by lia)]
  rw [e]
  simp? [j9,AQ,EB t b h,uj g1 g8]
theorem AU{i:Int}{n:Nat}(h1: -2147483648 < i)(h2:i < 2147483648)(hn:31≤n):Bt n i:=Bt.mono (m:=31) (by unfold Bt;lia) hn
def wD(t b:Int):Prop:=0≤t∧t≤b∧1≤b∧b≤100∧Int.gcd t b=1
theorem yt(n k:Int)(hn:0≤n):∃t b,eP [.d (.int n),.d (.int k)]=some (.d (.tuple [.int t,.int b]),[.d (.int n),.d (.int k)])∧wD t b:=by
  have b9:Bt 8000 9:=ke (by decide) (by decide)
  have b100:Bt 8000 100:=ke (by decide) (by decide)
  have low:∀t b:Int,0 < b→0≤t→t≤b→b≤100→wD (bo t b).1 (bo t b).2:=fun t b hb h0 h1 h2=>by
    obtain⟨r1,r2,r3,r4⟩:=sP hb h0 h1 h2
    exact⟨r1,r2,r3,r4,jv (by lia)⟩
  by_cases c0:k=0
  · subst c0
    obtain⟨x,hx,ha⟩:=jh (xs:=[PyData.tuple [.int 1,.int 2],.tuple [.int 1,.int 3],.tuple [.int 2,.int 3],.tuple [.int 1,.int 1],.tuple [.int 0,.int 1],.tuple [.int 3,.int 4]]) (i:=n % 6) (by lia) (by simp;lia)
    obtain⟨t,b,rfl,hc⟩:∃t b,x=.tuple [.int t,.int b]∧wD t b:=by
      simp only [List.mem_cons,List.not_mem_nil,or_false] at hx
      rcases hx with rfl | rfl | rfl | rfl | rfl | rfl<;>exact⟨_,_,rfl,by unfold wD;decide⟩
    exact⟨t,b,by simp? [eP,ji,aT,ha],hc⟩
  · by_cases c1:k=1
    · subst c1
      have hm:(n / 9) % (2+n % 9 - 1) < 2+n % 9 - 1:=Int.emod_lt_of_pos _ (by lia)
      have hm0:0≤(n / 9) % (2+n % 9 - 1):=Int.emod_nonneg _ (by lia)
      refine⟨_,_,?_,low (1+(n / 9) % (2+n % 9 - 1)) (2+n % 9) (by lia) (by lia) (by lia) (by lia)⟩
      have hpos:∀e:En,a9 e (.d (.int (n / 9))) (.d (.int (2+n % 9 - 1)))=_:=fun e=>aT (by lia)
      have hl:=uO (1+(n / 9) % (2+n % 9 - 1)) (2+n % 9) (by lia) (AU (by lia) (by lia) (by decide))
      simp? [eP,ji,aT,ee,b9,hpos,hl]
    · by_cases c2:k=2
      · subst c2
        have hm:(n / 100) % (1+n % 100+1) < 1+n % 100+1:=Int.emod_lt_of_pos _ (by lia)
        have hm0:0≤(n / 100) % (1+n % 100+1):=Int.emod_nonneg _ (by lia)
        refine⟨_,_,?_,low ((n / 100) % (1+n % 100+1)) (1+n % 100) (by lia) (by lia) (by lia) (by lia)⟩
        have hpos:∀e:En,a9 e (.d (.int (n / 100))) (.d (.int (1+n % 100+1)))=_:=fun e=>aT (by lia)
        have hl:=uO ((n / 100) % (1+n % 100+1)) (1+n % 100) (by lia) (AU (by lia) (by lia) (by decide))
        simp? [eP,ji,aT,ee,b100,hpos,hl]
      · refine⟨1,1,?_,by unfold wD;decide⟩
        simp? [eP,ji,c0,c1,c2]
theorem Av(n k:Int):∃r,k7 [.d (.int n),.d (.int k)]=some (.d (.int r),[.d (.int n),.d (.int k)])∧0≤r∧r≤1000:=by
  obtain⟨x,hx,ha⟩:=jh (xs:=[PyData.int (n % 7),.int (5+n % 2),.int (n % 1001),.int (1000 - n % 3)]) (i:=k % 4) (by lia) (by simp;lia)
  obtain⟨r,rfl,hr⟩:∃r,x=.int r∧0≤r∧r≤1000:=by
    simp only [List.mem_cons,List.not_mem_nil,or_false] at hx
    rcases hx with rfl | rfl | rfl | rfl<;>exact⟨_,rfl,by lia,by lia⟩
  exact⟨r,by simp? [k7,t9,aT,ha],hr⟩
abbrev tE(ds:List Int)(things many shape odds ws:Int)(ts:List pU)(v7 v8 v9 v10 v11 v12:Option Sv):En:=[some (.l (ds.map .int)),some (.d (.int things)),some (.d (.int many)),some (.d (.int shape)),some (.d (.int odds)),some (.d (.int ws)),some (.l (ts.map cZ)),v7,v8,v9,v10,v11,v12]
inductive TR (things many shape odds ws:Int) (ts:List pU) (k:Option Sv):En→Prop
  | mk {t ds w8 w9 w10 w11 w12} (hd:ii ds) (ht:t.Ok things):TR things many shape odds ws ts k (tE ds things many shape odds ws (ts++[t]) k w8 w9 w10 w11 w12)
inductive TI (things many a b c:Int) (i:Nat):En→Prop
  | mk {ts ds w7 w8 w9 w10 w11 w12} (hd:ii ds) (hl:ts.length=i) (ht:∀t∈ts,t.Ok things):TI things many a b c i (tE ds things many a b c ts w7 w8 w9 w10 w11 w12)
theorem ED(ds:List Int)(things many shape odds ws:Int)(ts:List pU)(k:Int)(v8 v9 v10 v11 v12:Option Sv)(hd:ii ds)(h2:2≤things)(h12:things≤100)(s0:0≤shape)(s1:shape < 6)(k0:0≤k)(hl:ts.length≤1000):
    ∃e',ic (tE ds things many shape odds ws ts (some (.d (.int k))) v8 v9 v10 v11 v12)=some (.nx e')∧TR things many shape odds ws ts (some (.d (.int k))) e':=by
  obtain⟨n,d1,tn, -, -,hd1⟩:=j6 hd
  obtain⟨m,d2,tm,m0, -,hd2⟩:=j6 hd1
  obtain⟨x,hx,ha⟩:=jh (xs:=[PyData.int (n % things),.int 0,.int (k % things),.int (n % things),.int (n % 2),.int (n % things)]) (i:=shape) s0 (by simp;lia)
  have tp:0 < things:=Int.lt_of_lt_of_le (by decide) h2
  have tq:0 < things - 1:=Int.sub_pos_of_lt (Int.lt_of_lt_of_le (by decide) h2)
  have nt:0≤n % things∧n % things < things:=⟨yM tp,yN tp⟩
  have kt:0≤k % things∧k % things < things:=⟨yM tp,yN tp⟩
  obtain⟨one,rfl,o0,o1⟩:∃r,x=.int r∧0≤r∧r < things:=by
    simp only [List.mem_cons,List.not_mem_nil,or_false] at hx
    rcases hx with rfl | rfl | rfl | rfl | rfl | rfl<;>exact⟨_,rfl,by lia,by lia⟩
  have r0:0≤(n / 12) % (things - 1):=yM tq
  have r1:(n / 12) % (things - 1) < things - 1:=yN tq
  have q0:0≤(one+1+(n / 12) % (things - 1)) % things:=yM tp
  have q1:(one+1+(n / 12) % (things - 1)) % things < things:=yN tp
  have qn:(one+1+(n / 12) % (things - 1)) % things≠one:=fun z=>by
    by_cases c:one+1+(n / 12) % (things - 1) < things
    · rw [Int.emod_eq_of_lt (by lia) c] at z;lia
    · have e:(one+1+(n / 12) % (things - 1)) % things=(one+1+(n / 12) % (things - 1) - things) % things:=by rw [Int.sub_emod_right]
      rw [e,Int.emod_eq_of_lt (by lia) (by lia)] at z;lia
  obtain⟨t,b,c1,c2,c3,c4,c5,c6⟩:=yt m odds m0
  obtain⟨w,w1,w2,w3⟩:=Av (m / 10007) ws
  have b12:Bt 8000 12:=ke (by decide) (by decide)
  have b107:Bt 8000 10007:=ke (by decide) (by decide)
  have g1:∀(e:En) (i:Int),a9 e (.d (.int i)) (.d (.int things))=some (.d (.int (i % things))):=fun e i=>aT tp
  have g2:∀(e:En) (i:Int),a9 e (.d (.int i)) (.d (.int (things - 1)))=some (.d (.int (i % (things - 1)))):=fun e i=>aT tq
  have hlen:ts.length < 1000000:=by lia
  by_cases c:shape=4
  · subst c
    refine⟨tE d2 things many 4 odds ws (ts++[⟨0,1,t,b,w⟩]) (some (.d (.int k))) (some (.d (.int n))) (some (.d (.int 0))) (some (.d (.int 1))) (some (.d (.int m))) (some (.d (.tuple [.int 0,.int 1]))),?_,.mk hd2 ⟨by show(0:Int)≤0;decide,by show(0:Int) < 1;decide,by show(1:Int) < things;lia,c2,c3,c4,c5,w2,w3,c6⟩⟩
    simp? [tE,ic,tn,tm,aT,g1,g2,ee,b12,b107,ha,c1,w1,nq,cZ,hlen]
    decide
  · refine⟨tE d2 things many shape odds ws (ts++[⟨min one ((one+1+(n / 12) % (things - 1)) % things),max one ((one+1+(n / 12) % (things - 1)) % things),t,b,w⟩]) (some (.d (.int k))) (some (.d (.int n))) (some (.d (.int one))) (some (.d (.int ((one+1+(n / 12) % (things - 1)) % things)))) (some (.d (.int m))) (some (.d (.tuple [.int (min one ((one+1+(n / 12) % (things - 1)) % things)),.int (max one ((one+1+(n / 12) % (things - 1)) % things))]))),?_,.mk hd2 ⟨by show 0≤min _ _;lia,by show min _ _ < max _ _;lia,by show max _ _ < _;lia,c2,c3,c4,c5,w2,w3,c6⟩⟩
    simp? [tE,ic,tn,tm,aT,g1,g2,ee,b12,b107,ha,c1,w1,nq,cZ,hlen,c]
theorem C6(ds:List Int)(things many:Int)(hd:ii ds)(h2:2≤things)(h12:things≤100)(m0:0≤many)(m1:many≤1000):∃(ts:List pU) (ds':List Int),nE [.l (ds.map .int),.d (.int things),.d (.int many)]=some (.d (.tuple (ts.map cZ)),[.l (ds'.map .int),.d (.int things),.d (.int many)])∧ii ds'∧(ts.length:Int)=many∧∀t∈ts,t.Ok things:=by
  obtain⟨n0,d1,t0, -, -,hd1⟩:=j6 hd
  obtain⟨n1,d2,t1, -, -,hd2⟩:=j6 hd1
  obtain⟨n2,d3,t2, -, -,hd3⟩:=j6 hd2
  obtain⟨e',h1,hI⟩:=c_ (own:=[]) (g:=af 7) (f:=ic) (TI things many (n0 % 6) (n1 % 4) (n2 % 4)) (be 0 many.toNat) 0 (tE d3 things many (n0 % 6) (n1 % 4) (n2 % 4) [] none none none none none none) (fun i x e hx hI=>by
    obtain⟨rfl,hi⟩:=dk hx
    obtain⟨hd',hl,ht⟩:=hI
    rename_i ts ds' w7 w8 w9 w10 w11 w12
    obtain⟨e9,s1,⟨s2,s3⟩⟩:=ED ds' things many (n0 % 6) (n1 % 4) (n2 % 4) ts (0+(i:Int)) w8 w9 w10 w11 w12 hd' h2 h12 (yM (by decide)) (yN (by decide)) (by lia) (by lia)
    exact⟨_,_,rfl,s1,bu,.mk s2 (by simp;lia) fun z hz=>by
      rcases List.mem_append.mp hz with hz | hz
      · exact ht z hz
      · simp at hz;subst hz;exact s3⟩) (.mk hd3 rfl fun t ht=>by cases ht)
  obtain⟨hd',hl,ht⟩:=hI
  rename_i ts ds' w7 w8 w9 w10 w11 w12
  refine⟨ts,ds',?_,hd',by rw [hl,cw];lia,ht⟩
  have hf:∀W,de W nB (af 7) ic (tE d3 things many (n0 % 6) (n1 % 4) (n2 % 4) [] none none none none none none)=some (.nx (tE ds' things many (n0 % 6) (n1 % 4) (n2 % 4) ts w7 w8 w9 w10 w11 w12)):=fun W=>by
    rw [cV (show nB _=some (be 0 many.toNat,[],tE d3 things many (n0 % 6) (n1 % 4) (n2 % 4) [] none none none none none none) from ef (n:=many) (by simp? [tE]) (by lia) (by lia))]
    exact h1
  unfold tE at hf
  simp only [List.map_nil] at hf
  simp? [nE,wq,t0,t1,t2,aT,hf]
abbrev wE(ds:List Int)(most tn things many:Int)(ts:List pU)(way:Int)(ps:List Int)(v8 v9:Option Sv):En:=[some (.l (ds.map .int)),some (.d (.int most)),some (.d (.int tn)),some (.d (.int things)),some (.d (.int many)),some (.d (.tuple (ts.map cZ))),some (.d (.int way)),some (.l (ps.map .int)),v8,v9]
inductive WI (most tn things many:Int) (ts:List pU) (way:Int) (i:Nat):En→Prop
  | mk {ps ds w8} (hd:ii ds) (hpl:ps.length=i) (hps:∀p∈ps,0≤p∧p≤20):WI most tn things many ts way i (wE ds most tn things many ts way ps w8 none)
theorem EE(ds:List Int)(most tn:Int)(hd:ii ds)(m0:0≤most)(m1:most≤12)(k0:0≤tn)(k1:tn≤16):∃(W:aM) (ds':List Int),rA [.l (ds.map .int),.d (.int most),.d (.int tn)]=some (.d (br W),[.l (ds'.map .int),.d (.int most),.d (.int tn)])∧ii ds'∧W.Ok∧W.things≤most∧(W.ties.length:Int)≤tn:=by
  obtain⟨n0,d1,t0, -, -,hd1⟩:=j6 hd
  obtain⟨n1,d2,t1, -, -,hd2⟩:=j6 hd1
  have mp:0 < most+1:=Int.lt_add_one_of_le m0
  have kp:0 < tn+1:=Int.lt_add_one_of_le k0
  have g0:∀(e:En),a9 e (.d (.int n0)) (.d (.int (most+1)))=some (.d (.int (n0 % (most+1)))):=fun e=>aT mp
  have g1':∀(e:En),a9 e (.d (.int n1)) (.d (.int (tn+1)))=some (.d (.int (n1 % (tn+1)))):=fun e=>aT kp
  have th0:0≤n0 % (most+1):=yM mp
  have th1:n0 % (most+1) < most+1:=yN mp
  have ti0:0≤n1 % (tn+1):=yM kp
  have ti1:n1 % (tn+1) < tn+1:=yN kp
  clear mp kp
  generalize n0 % (most+1)=things at th0 th1 g0
  generalize n1 % (tn+1)=tm at ti0 ti1 g1'
  obtain⟨many,hmany,mm,m00,m01⟩:∃many:Int,many=tm*(if decide (1 < things)=true then 1 else 0)∧(1 < things∨many=0)∧0≤many∧many≤tn:=by
    by_cases c:1 < things
    · exact⟨tm,by simp [c],.inl c,ti0,by lia⟩
    · exact⟨0,by simp [c],.inr rfl,by lia,by lia⟩
  have gm:∀e:En,cD e (.d (.int tm)) (.d (.int (if decide (1 < things)=true then 1 else 0)))=some (.d (.int many)):=fun e=>by
    rw [bZ (qm (by split<;>decide) (by split<;>decide)),hmany]
  have gi:∀e:En,g1 vg e [.d (.bool (decide (1 < things)))]=some (.d (.int (if decide (1 < things)=true then 1 else 0))):=fun e=>rfl
  generalize (if decide (1 < things)=true then 1 else 0:Int)=one at gm gi
  obtain⟨ts,d3,t3,hd3,hlen,hts⟩:=C6 d2 (max 2 things) many hd2 (by lia) (by lia) m00 (by lia)
  obtain⟨n4,d4,t4, -, -,hd4⟩:=j6 hd3
  obtain⟨e',h1,hI⟩:=c_ (own:=[]) (g:=af 8) (f:=mN) (WI most tn things many ts (n4 % 3)) (be 0 things.toNat) 0 (wE d4 most tn things many ts (n4 % 3) [] none none) (fun i x e hx hI=>by
    obtain⟨rfl,hi⟩:=dk hx
    obtain⟨hd5,hpl,hps⟩:=hI
    rename_i ps d5 w8
    obtain⟨p1,d6,t6, -, -,hd6⟩:=j6 hd5
    obtain⟨p2,d7,t7, -, -,hd7⟩:=j6 hd6
    obtain⟨z,hz,ha⟩:=jh (xs:=[PyData.int 20,.int (1+p1 % 3),.int (p2 % 21)]) (i:=n4 % 3) (yM (by decide)) (yN (k:=3) (by decide))
    obtain⟨p,rfl,hp⟩:∃r,z=.int r∧0≤r∧r≤20:=by
      simp only [List.mem_cons,List.not_mem_nil,or_false] at hz
      rcases hz with rfl | rfl | rfl<;>exact⟨_,rfl,by lia,by lia⟩
    refine⟨wE d5 most tn things many ts (n4 % 3) ps (some (.d (.int (0+(i:Int))))) none,wE d7 most tn things many ts (n4 % 3) (ps++[p]) (some (.d (.int (0+(i:Int))))) none,rfl,?_,bu,.mk hd7 (by simp;lia) fun q hq=>by
      rcases List.mem_append.mp hq with hq | hq
      · exact hps q hq
      · simp at hq;subst hq;exact hp⟩
    have hlen:ps.length < 1000000:=by lia
    simp? [wE,mN,t6,t7,aT,ha,hlen]) (.mk hd4 rfl fun p hp=>by cases hp)
  obtain⟨hd5,hpl,hps⟩:=hI
  rename_i ps d5 w8
  have hf:∀W,de W qc (af 8) mN (wE d4 most tn things many ts (n4 % 3) [] none none)=some (.nx (wE d5 most tn things many ts (n4 % 3) ps w8 none)):=fun W=>by
    rw [cV (show qc _=some (be 0 things.toNat,[],wE d4 most tn things many ts (n4 % 3) [] none none) from ef (n:=things) (by simp? [wE]) (by lia) (by lia))]
    exact h1
  obtain⟨p1,d6,t6, -, -,hd6⟩:=j6 hd5
  obtain⟨p2,d7,t7, -, -,hd7⟩:=j6 hd6
  obtain⟨p3,d8,t8, -, -,hd8⟩:=j6 hd7
  have xp:0 < max 1 many:=Int.lt_of_lt_of_le Int.zero_lt_one (Int.le_max_left _ _)
  have gx:∀(e:En),a9 e (.d (.int p1)) (.d (.int (max 1 many)))=some (.d (.int (p1 % max 1 many))):=fun e=>aT xp
  have x0:0≤p1 % max 1 many:=yM xp
  have x1:p1 % max 1 many < max 1 many:=yN xp
  obtain⟨z,hz,ha⟩:=jh (xs:=[PyData.int 40,.int (1+p1 % max 1 many),.int (p2 % 41)]) (i:=p3 % 3) (yM (by decide)) (yN (k:=3) (by decide))
  obtain⟨asks,rfl,hasks⟩:∃r,z=.int r∧0≤r∧r≤40:=by
    simp only [List.mem_cons,List.not_mem_nil,or_false] at hz
    rcases hz with rfl | rfl | rfl<;>exact⟨_,rfl,by lia,by lia⟩
  rw [cw] at hpl
  refine⟨⟨things,ts,ps,asks⟩,d8,?_,hd8,⟨th0,by show things≤12;lia,fun t ht=>?_,by show ts.length≤16;lia,by show(ps.length:Int)=things;lia,hps,hasks.1,hasks.2⟩,by show things≤most;lia,by show(ts.length:Int)≤tn;lia⟩
  · unfold wE at hf
    simp only [List.map_nil] at hf
    simp? [rA,AR,t0,t1,g0,g1',gm,gi,t3,t4,aT,hf,t6,t7,t8,gx,ha,br]
  · rcases mm with c | c
    · have:=hts t ht
      rw [show max 2 things=things by lia] at this
      exact this
    · have:ts=[]:=List.length_eq_zero_iff.mp (by lia)
      subst this;cases ht
theorem pL{W:aM}{asked:List Int}{thing:Int}(h:∀k∈asked,kB W k)(hl:asked.length≤1000):fW [.d (br W),.d (.tuple (asked.map .int)),.d (.int thing)]=some (.d (.int (W.many asked thing)),[.d (br W),.d (.tuple (asked.map .int)),.d (.int thing)]):=by
  let cs:En:=[some (.d (.int thing)),some (.d (br W))]
  have hc:∀x∈asked.map PyData.int,eC (cs++[some (.d x)])=some (wf (fun k=>W.has k thing) x,cs++[some (.d x)]):=fun x hx=>by
    obtain⟨k,hk,rfl⟩:=List.mem_map.mp hx
    simp? [wf,cs,eC,br,dC (h k hk),cZ,aM.has]
  have he:∀x∈asked.map PyData.int,wf (fun k=>W.has k thing) x=true→eE (cs++[some (.d x)])=some (.d (id x),cs++[some (.d x)]):=fun x hx _=>by
    simp? [cs,eE]
  obtain⟨t',hf⟩:=fU (cs:=cs) (ft:=eC) (fe:=eE) (b:=wf (fun k=>W.has k thing)) (y:=id) (asked.map PyData.int) none [] hc he (by simp;lia)
  have hv:=gB (cp:=[(2,"_law_thing"),(0,"_law_web_here")]) (nT:=1) (fi:=ms) (g:=af 2) (ft:=eC) (fe:=eE) (e:=[some (.d (br W)),some (.d (.tuple (asked.map PyData.int))),some (.d (.int thing))]) (cs:=cs) (t:=[none]) (t':=[t']) (qd (fa:=ac 1) rfl) rfl rfl hf
  have hlen:(([]++List.map id (List.filter (wf (fun k=>W.has k thing)) (asked.map PyData.int))).length:Int)=W.many asked thing:=by
    unfold aM.many
    simp [List.filter_map]
    rfl
  simp only [fW,oQ,fC,jx,aD,ir,aY,cG,bh,dz,fm,mJ,oK,aH,ar,lG,ac,vC,cW,ah,aa,bB,aQ,bH,jb,sd,jc,vZ,iz,oq,jK,qP,fD,eR,cF,bD,rB,eg,gg,ki,cY,bC,oE,qJ,aN,ai,af,aK,bX,aI,bc,qo,dn,eG,cN,fL,gU,gR,gM,gL,eI,eH,eJ,du,eF,mn,gQ,jl,mq,jp,gS,jm,jo,eL,eK,dw,eM,mr,je,dB,jf,jg,l9,dr,dq,dN,gN,List.replicate, -List.map_nil, -List.map_cons, -List.nil_append, -List.cons_append, -Option.bind_some, -Option.map_some, -getElem?_pos, -List.append_nil,mi,mh,ma,l_,me,mf,md,mj]
  simp? [hv]
  simpa using hlen
theorem xE{W:aM}(ok:W.Ok){thing:Int}(h0:0≤thing)(h1:thing < W.things):atI (W.pat.map PyData.int) thing=some (.int (W.pat.getD thing.toNat 0)):=wk h0 (by have:=ok.pl;lia)
theorem EC{W:aM}(ok:W.Ok){asked taken:List Int}{k:Int}(h:∀k∈asked,kB W k)(hl:asked.length≤1000)(hk:kB W k):kZ [.d (br W),.d (lN asked taken),.d (.int k)]=some (.d (.bool (W.may asked taken k)),[.d (br W),.d (lN asked taken),.d (.int k)]):=by
  have tk:=hk.ok ok
  have t0:=tk.o0
  have t1:=tk.o1
  have t2:=tk.o2
  have p1:=xE ok (thing:=(W.tie k).one) (by lia) (by lia)
  have p2:=xE ok (thing:=(W.tie k).other) (by lia) (by lia)
  have a1:=pL (W:=W) (asked:=asked) (thing:=(W.tie k).one) h hl
  have a2:=pL (W:=W) (asked:=asked) (thing:=(W.tie k).other) h hl
  rw [dH] at a1 a2 ⊢
  unfold aM.may aM.bears
  by_cases c1:asked.contains k=true
  · simp? [kZ,oS,lN,c1]
    simp at c1
    simp [c1]
  · by_cases c2:W.asks≤(asked.length:Int)
    · have c1':k∉asked:=by simpa using c1
      simp? [kZ,oS,lN,c1',c2]
    · have c1':k∉asked:=by simpa using c1
      have turn:∀(thing:Int) (v5:Option Sv),fW [.d (.tuple [.int W.things,.tuple (W.ties.map cZ),.tuple (W.pat.map .int),.int W.asks]),.d (.tuple (asked.map .int)),.d (.int thing)]=some (.d (.int (W.many asked thing)),[.d (.tuple [.int W.things,.tuple (W.ties.map cZ),.tuple (W.pat.map .int),.int W.asks]),.d (.tuple (asked.map .int)),.d (.int thing)])→atI (W.pat.map PyData.int) thing=some (.int (W.pat.getD thing.toNat 0))→
          iD [some (.d (.tuple [.int W.things,.tuple (W.ties.map cZ),.tuple (W.pat.map .int),.int W.asks])),some (.d (lN asked taken)),some (.d (.int k)),some (.d (.tuple (asked.map .int))),some (.d (.tuple (taken.map .int))),some (.d (.int thing))]=(if (!taken.contains thing&&decide (W.many asked thing < W.pat.getD thing.toNat 0))=true then some (.nx [some (.d (.tuple [.int W.things,.tuple (W.ties.map cZ),.tuple (W.pat.map .int),.int W.asks])),some (.d (lN asked taken)),some (.d (.int k)),some (.d (.tuple (asked.map .int))),some (.d (.tuple (taken.map .int))),some (.d (.int thing))]) else some (.rt (.d (.bool false)) [some (.d (.tuple [.int W.things,.tuple (W.ties.map cZ),.tuple (W.pat.map .int),.int W.asks])),some (.d (lN asked taken)),some (.d (.int k)),some (.d (.tuple (asked.map .int))),some (.d (.tuple (taken.map .int))),some (.d (.int thing))])):=by
        intro thing v5 ha hp
        by_cases d1:taken.contains thing=true
        · have d1':thing∈taken:=by simpa using d1
          simp? [iD,d1']
        · have d1':thing∉taken:=by simpa using d1
          by_cases d2:W.many asked thing < W.pat.getD thing.toNat 0
          · have d2':¬W.pat.getD thing.toNat 0≤W.many asked thing:=by lia
            simp only [List.getD_eq_getElem?_getD] at d2 d2' hp
            simp? [iD,d1',ha,hp,d2,d2']
          · have d2':W.pat.getD thing.toNat 0≤W.many asked thing:=by lia
            simp only [List.getD_eq_getElem?_getD] at d2 d2' hp
            simp? [iD,d1',ha,hp,d2,d2']
      have u1:=turn (W.tie k).one none a1 p1
      have u2:=turn (W.tie k).other none a2 p2
      have hf:∀Wl,de Wl um (af 5) iD [some (.d (.tuple [.int W.things,.tuple (W.ties.map cZ),.tuple (W.pat.map .int),.int W.asks])),some (.d (lN asked taken)),some (.d (.int k)),some (.d (.tuple (asked.map .int))),some (.d (.tuple (taken.map .int))),none]=gD [] (af 5) iD [.int (W.tie k).one,.int (W.tie k).other] [some (.d (.tuple [.int W.things,.tuple (W.ties.map cZ),.tuple (W.pat.map .int),.int W.asks])),some (.d (lN asked taken)),some (.d (.int k)),some (.d (.tuple (asked.map .int))),some (.d (.tuple (taken.map .int))),none]:=fun Wl=>by
        rw [cV]
        exact qd (by simp? [dC hk,cZ])
      unfold lN at u1 u2 hf ⊢
      by_cases e1:(!taken.contains (W.tie k).one&&decide (W.many asked (W.tie k).one < W.pat.getD (W.tie k).one.toNat 0))=true
      · by_cases e2:(!taken.contains (W.tie k).other&&decide (W.many asked (W.tie k).other < W.pat.getD (W.tie k).other.toNat 0))=true
        · rw [if_pos e1] at u1
          rw [if_pos e2] at u2
          rw [e1,e2]
          simp only [kZ,oS,fC,jx,aD,ir,aY,cG,bh,dz,fm,mJ,oK,aH,ar,lG,ac,vC,cW,ah,aa,bB,aQ,bH,jb,sd,jc,vZ,iz,oq,jK,qP,fD,eR,cF,bD,rB,eg,gg,ki,cY,bC,oE,qJ,aN,ai,af,aK,bX,aI,bc,qo,dn,eG,cN,fL,gU,gR,gM,gL,eI,eH,eJ,du,eF,mn,gQ,jl,mq,jp,gS,jm,jo,eL,eK,dw,eM,mr,je,dB,jf,jg,l9,dr,dq,dN,gN,List.replicate, -List.map_nil, -List.map_cons, -List.nil_append, -List.cons_append, -Option.bind_some, -Option.map_some, -getElem?_pos, -List.append_nil,mi,mh,ma,l_,me,mf,md,mj]
          simp? [c1',c2,hf,gD,u1,u2,bu]
        · rw [if_pos e1] at u1
          rw [if_neg e2] at u2
          rw [e1,Bool.not_eq_true _ |>.mp e2]
          simp only [kZ,oS,fC,jx,aD,ir,aY,cG,bh,dz,fm,mJ,oK,aH,ar,lG,ac,vC,cW,ah,aa,bB,aQ,bH,jb,sd,jc,vZ,iz,oq,jK,qP,fD,eR,cF,bD,rB,eg,gg,ki,cY,bC,oE,qJ,aN,ai,af,aK,bX,aI,bc,qo,dn,eG,cN,fL,gU,gR,gM,gL,eI,eH,eJ,du,eF,mn,gQ,jl,mq,jp,gS,jm,jo,eL,eK,dw,eM,mr,je,dB,jf,jg,l9,dr,dq,dN,gN,List.replicate, -List.map_nil, -List.map_cons, -List.nil_append, -List.cons_append, -Option.bind_some, -Option.map_some, -getElem?_pos, -List.append_nil,mi,mh,ma,l_,me,mf,md,mj]
          simp? [c1',c2,hf,gD,u1,u2,bu]
      · rw [if_neg e1] at u1
        rw [Bool.not_eq_true _ |>.mp e1]
        simp only [kZ,oS,fC,jx,aD,ir,aY,cG,bh,dz,fm,mJ,oK,aH,ar,lG,ac,vC,cW,ah,aa,bB,aQ,bH,jb,sd,jc,vZ,iz,oq,jK,qP,fD,eR,cF,bD,rB,eg,gg,ki,cY,bC,oE,qJ,aN,ai,af,aK,bX,aI,bc,qo,dn,eG,cN,fL,gU,gR,gM,gL,eI,eH,eJ,du,eF,mn,gQ,jl,mq,jp,gS,jm,jo,eL,eK,dw,eM,mr,je,dB,jf,jg,l9,dr,dq,dN,gN,List.replicate, -List.map_nil, -List.map_cons, -List.nil_append, -List.cons_append, -Option.bind_some, -Option.map_some, -getElem?_pos, -List.append_nil,mi,mh,ma,l_,me,mf,md,mj]
        simp? [c1',c2,hf,gD,u1,bu]
theorem r6{W:aM}{asked taken:List Int}{k:Int}(truth:Bool)(hk:kB W k)(h1:asked.length < 60)(h2:taken.length < 60):eO [.d (br W),.d (lN asked taken),.d (.int k),.d (.bool truth)]=some (.d (lN (aM.askd asked k) (W.took taken k truth)),[.d (br W),.d (lN asked taken),.d (.int k),.d (.bool truth)]):=by
  have s1:∀e,g1 iL e [.d (.tuple (asked.map PyData.int++[.int k]))]=some (.l ((jI (asked++[k])).map .int)):=fun e=>by
    have:=nA (e:=e) (ns:=asked++[k]) (by simp;lia)
    simpa using this
  have s2:∀e,g1 iL e [.d (.tuple (taken.map PyData.int++[.int (W.tie k).one,.int (W.tie k).other]))]=some (.l ((jI (taken++[(W.tie k).one,(W.tie k).other])).map .int)):=fun e=>by
    have:=nA (e:=e) (ns:=taken++[(W.tie k).one,(W.tie k).other]) (by simp;lia)
    simpa using this
  have g1':∀e,cy e (.d (.tuple (asked.map .int))) (.d (.tuple [.int k]))=some (.d (.tuple (asked.map .int++[.int k]))):=fun e=>nq (by simp;lia)
  have g2':∀e,cy e (.d (.tuple (taken.map .int))) (.d (.tuple [.int (W.tie k).one,.int (W.tie k).other]))=some (.d (.tuple (taken.map .int++[.int (W.tie k).one,.int (W.tie k).other]))):=fun e=>nq (by simp;lia)
  rw [dH]
  cases truth with
  | true=>simp? [eO,m5,lN,dC hk,cZ,g1',g2',s1,s2,aM.askd,aM.took]
  | false=>simp? [eO,m5,lN,g1',s1,aM.askd,aM.took]
theorem vS{W:aM}(ok:W.Ok){asked taken:List Int}(h:∀k∈asked,kB W k)(hl:asked.length≤1000):il [.d (br W),.d (lN asked taken)]=some (.l ((W.can asked taken).map .int),[.d (br W),.d (lN asked taken)]):=by
  let cs:En:=[some (.d (br W)),some (.d (lN asked taken))]
  have wl:=ok.len
  have hc:∀x∈be 0 W.ties.length,eB (cs++[some (.d x)])=some (wf (fun k=>W.may asked taken k) x,cs++[some (.d x)]):=fun x hx=>by
    obtain⟨i,hi⟩:=List.getElem?_of_mem hx
    obtain⟨rfl,hi⟩:=dk hi
    have:=EC ok (taken:=taken) h hl (k:=0+(i:Int)) ⟨by lia,by lia⟩
    simp only [Int.zero_add] at this
    simp? [wf,cs,eB,this]
  have he:∀x∈be 0 W.ties.length,wf (fun k=>W.may asked taken k) x=true→eD (cs++[some (.d x)])=some (.d (id x),cs++[some (.d x)]):=fun x hx _=>by
    simp? [cs,eD]
  obtain⟨t',hf⟩:=fU (cs:=cs) (ft:=eB) (fe:=eD) (b:=wf (fun k=>W.may asked taken k)) (y:=id) (be 0 W.ties.length) none [] hc he (by rw [cw];simp;lia)
  have hv:=gB (cp:=[(0,"_law_web_here"),(1,"_law_stand")]) (nT:=1) (fi:=jq) (g:=af 2) (ft:=eB) (fe:=eD) (e:=[some (.d (br W)),some (.d (lN asked taken))]) (cs:=cs) (t:=[none]) (t':=[t']) (show jq [some (.d (br W)),some (.d (lN asked taken))]=some (be 0 W.ties.length,[],[some (.d (br W)),some (.d (lN asked taken))]) from ef (n:=(W.ties.length:Int)) (by rw [dH];simp? [List.replicate]) (by lia) (by lia)) rfl rfl hf
  rw [List.nil_append,List.map_id,vI] at hv
  simp only [il,oP,fC,jx,aD,ir,aY,cG,bh,dz,fm,mJ,oK,aH,ar,lG,ac,vC,cW,ah,aa,bB,aQ,bH,jb,sd,jc,vZ,iz,oq,jK,qP,fD,eR,cF,bD,rB,eg,gg,ki,cY,bC,oE,qJ,aN,ai,af,aK,bX,aI,bc,qo,dn,eG,cN,fL,gU,gR,gM,gL,eI,eH,eJ,du,eF,mn,gQ,jl,mq,jp,gS,jm,jo,eL,eK,dw,eM,mr,je,dB,jf,jg,l9,dr,dq,dN,gN,List.replicate, -List.map_nil, -List.map_cons, -List.nil_append, -List.cons_append, -Option.bind_some, -Option.map_some, -getElem?_pos, -List.append_nil,mi,mh,ma,l_,me,mf,md,mj]
  simp? [hv]
def gE(ds:List Int)(W:aM)(most:Int)(T:List Nd)(ws:List Wt)(v5 v6 v7 v8 v9 v10:Option Sv):En:=[some (.l (ds.map .int)),some (.d (br W)),some (.d (.int most)),some (.n (T.map vn)),some (.l (ws.map y3)),v5,v6,v7,v8,v9,v10]
inductive GT (W:aM) (most:Int) (T:List Nd) (ws:List Wt):En→Prop
  | mk {ds T' S' ws' u5 u6 u7 u8 u9 u10} (hd:ii ds) (hG:pS W T' S' ws') (hU:uV T' ws') (hc:(T'.length=T.length∧ws'.length=ws.length)∨((T.length:Int) < most∧T'.length=T.length+1∧ws'.length=ws.length+2)):GT W most T ws (gE ds W most T' ws' u5 u6 u7 u8 u9 u10)
noncomputable abbrev gC:FT:=jb (aH (ar (bR true) (ac 8) (cW ah))) (jb (aH (ar wd (fH 3) (ac 2))) (sd (aH (ar (bR true) (ar a9 (ac 9) (vC (.int 7))) (vC (.int 6)))) (aH (ar wd (ac 6) (vC (.int 0))))))
noncomputable abbrev gP:FS:=ir (aH (ar y_ (ac 6) (vC (.int 0)))) (pC 3 (fH 3) (ac 6) (vo (nC 1) (vp 7))) cG
noncomputable abbrev gA(b:Bool)(i:Int):FS:=dz (cF bD (ac 4) (aa (bB (aa (bH 4 eO (aa (ac 1) (aa (ac 5) (aa (ac 10) (aa (vC (.bool b)) ah))))) (aa (fH 3) (aa (vC (.int i)) ah)))) ah))
theorem C7{W:aM}(ok:W.Ok){ds:List Int}{most:Int}{T:List Nd}{S:Nat→fJ}{w:Wt}{ws:List Wt}{v5 v6 v7 v8 v9 v10:Option Sv}(hd:ii ds)(h:pS W T S (w::ws))(hu:uV T (w::ws))(hT:T.length≤1000)(hw:ws.length≤5000):
    ∃e',ib (gE ds W most T (w::ws) v5 v6 v7 v8 v9 v10)=some (.nx e')∧GT W most T ws e':=by
  obtain⟨n,d1,t1, -, -,hd1⟩:=j6 hd
  obtain⟨hs,hp⟩:=h.wt w (by simp)
  have hl:=hs.len
  have hl2:=hs.tk
  have wl:=ok.len
  have ta:=vS ok (asked:=w.st.1) (taken:=w.st.2) hs.inw (by lia)
  let E:List Nd→List Wt→Option Sv→En:=fun T ws v10=>gE d1 W most T ws (some (.d (lN w.st.1 w.st.2))) (some (.d (.int w.par))) (some (.d (.int w.side))) (some (.l ((W.can w.st.1 w.st.2).map .int))) (some (.d (.int n))) v10
  have pre:∀R,(ir gC (aD (bh 10 (ar bE (ac 8) (ar a9 (ar dt (ac 9) (vC (.int 7))) (aQ (g1 eX) (aa (ac 8) ah))))) (aD gP (aD (gA true 0) (aD (gA false 1) (dz (r_ 3 (cW (aa (ac 10) (aa (lG j5 (vC (.int 1))) (aa (lG j5 (vC (.int 1))) ah)))))))))) cG (E T ws v10)=R)→ib (gE ds W most T (w::ws) v5 v6 v7 v8 v9 v10)=R:=fun R hR=>by
    refine(cx (e1:=gE ds W most T ws (some (.d (lN w.st.1 w.st.2))) (some (.d (.int w.par))) (some (.d (.int w.side))) v8 v9 v10) ?_).trans ((cx (e1:=gE ds W most T ws (some (.d (lN w.st.1 w.st.2))) (some (.d (.int w.par))) (some (.d (.int w.side))) (some (.l ((W.can w.st.1 w.st.2).map .int))) v9 v10) ?_).trans ((cx (e1:=E T ws v10) ?_).trans hR))
    · simp? [gE,y3]
    · simp? [gE,ta]
    · simp? [gE,E,t1]
  have q8:∀e:En,e[8]?=some (some (.l ((W.can w.st.1 w.st.2).map .int)))→bR true e (.s 8) (.l [])=some (.d (.bool (!((W.can w.st.1 w.st.2).map PyData.int).isEmpty))):=fun e he=>by
    have:=nu (neg:=true) he (mz _).1
    simpa using this
  have gm:∀e:En,a9 e (.d (.int n)) (.d (.int 7))=some (.d (.int (n % 7))):=fun e=>aT (by decide)
  have tst:gC (E T ws v10)=some (!(W.can w.st.1 w.st.2).isEmpty&&(decide ((T.length:Int) < most)&&(!(n % 7==6) || decide (w.par < 0))),E T ws v10):=by
    by_cases c1:W.can w.st.1 w.st.2=[]
    · rw [c1] at q8
      simp? [E,gC,gE,q8,c1]
    · by_cases c2:(T.length:Int) < most
      · by_cases c3:n % 7=6
        · simp? [E,gC,gE,q8,gm,c1,c2,c3,fH,cv]
        · simp? [E,gC,gE,q8,gm,c1,c2,c3,fH,cv]
      · simp? [E,gC,gE,q8,c1,c2,fH,cv]
  cases hb:(!(W.can w.st.1 w.st.2).isEmpty&&(decide ((T.length:Int) < most)&&(!(n % 7==6) || decide (w.par < 0)))) with
  | false=>
    rw [hb] at tst
    exact⟨E T ws v10,pre _ (Bi tst),.mk hd1 h.less hu.less (.inl ⟨rfl,rfl⟩)⟩
  | true=>
    rw [hb] at tst
    simp only [Bool.and_eq_true,Bool.or_eq_true,Bool.not_eq_true',decide_eq_true_eq] at hb
    obtain⟨c1,c2,c3⟩:=hb
    have cl:0 < (W.can w.st.1 w.st.2).length:=by
      cases z:W.can w.st.1 w.st.2 with
      | nil=>rw [z] at c1;cases c1
      | cons a r=>simp
    have gd:∀e:En,dt e (.d (.int n)) (.d (.int 7))=some (.d (.int (n / 7))):=fun e=>ee (by decide) (ke (by decide) (by decide))
    have gx:∀e:En,a9 e (.d (.int (n / 7))) (.d (.int (W.can w.st.1 w.st.2).length))=some (.d (.int (n / 7 % (W.can w.st.1 w.st.2).length))):=fun e=>aT (by lia)
    have x0:0≤n / 7 % ((W.can w.st.1 w.st.2).length:Int):=Int.emod_nonneg _ (by lia)
    have x1:n / 7 % ((W.can w.st.1 w.st.2).length:Int) < (W.can w.st.1 w.st.2).length:=Int.emod_lt_of_pos _ (by lia)
    obtain⟨z,hz,hat⟩:=jh (xs:=(W.can w.st.1 w.st.2).map PyData.int) x0 (by rw [List.length_map];exact x1)
    obtain⟨k,hk,rfl⟩:=List.mem_map.mp hz
    obtain⟨k1,k2⟩:=yW hk
    have b1:=r6 (W:=W) (asked:=w.st.1) (taken:=w.st.2) true k1 (by lia) (by lia)
    have b2:=r6 (W:=W) (asked:=w.st.1) (taken:=w.st.2) false k1 (by lia) (by lia)
    have more:=h.more ok k1 k2
    refine⟨E ((if 0≤w.par then T.modify w.par.toNat (fun x=>gF x w.side T.length) else T)++[⟨k, -1, -1⟩]) (ws++[⟨L2.nxt W w.st k true,T.length,0⟩,⟨L2.nxt W w.st k false,T.length,1⟩]) (some (.d (.int k))),pre _ ((Bj tst).trans ?_),.mk hd1 more hu.more (.inr ⟨c2,by simp;split<;>simp,by simp⟩)⟩
    refine(cx (e1:=E T ws (some (.d (.int k)))) ?_).trans ?_
    · simp? [E,gE,gd,gx,hat]
    generalize hT':(if 0≤w.par then T.modify w.par.toNat (fun x=>gF x w.side T.length) else T)=T'
    have lT':T'.length=T.length:=by rw [←hT'];split<;>simp
    have hP:gP (E T ws (some (.d (.int k))))=some (.nx (E T' ws (some (.d (.int k))))):=by
      rcases hp with z | ⟨p,x,z1,z2,z3⟩
      · have g0:¬0≤w.par:=by lia
        rw [if_neg g0] at hT'
        subst hT'
        simp? [E,gP,gE,g0]
      · have g0:0≤w.par:=by lia
        have pt:w.par.toNat=p:=by lia
        have pl:p < T.length:=(List.getElem?_eq_some_iff.mp z2).1
        rw [if_pos g0,pt] at hT'
        have hix:qO T.length w.par=some p:=by unfold qO;rw [if_pos g0,if_pos (by lia),pt]
        have i1:qO 3 1=some 1:=rfl
        have i2:qO 3 2=some 2:=rfl
        rcases z3 with ⟨s0,s1⟩ | ⟨s0,s1⟩
        · have sl:=vM (n:=T.length) z2
          rw [s0] at hT'
          rw [hT'] at sl
          simp? [E,gP,gE,g0,fH,cv,pC,vo,nC,vp,hix,i1,i2,z2,s0,vn,←sl]
        · have sl:=vN (n:=T.length) z2
          rw [s0] at hT'
          rw [hT'] at sl
          simp? [E,gP,gE,g0,fH,cv,pC,vo,nC,vp,hix,i1,i2,z2,s0,vn,←sl]
    have wl1:ws.length < 1000000:=by lia
    have wl2:ws.length+1 < 1000000:=by lia
    have tl:T.length < 1000000:=by lia
    refine(cx hP).trans ((cx (e1:=E T' (ws++[⟨L2.nxt W w.st k true,T.length,0⟩]) (some (.d (.int k)))) ?_).trans ((cx (e1:=E T' (ws++[⟨L2.nxt W w.st k true,T.length,0⟩,⟨L2.nxt W w.st k false,T.length,1⟩]) (some (.d (.int k)))) ?_).trans ?_))
    · simp? [E,gA,gE,b1,wl1,lT',fH,cv,nxt,y3]
    · simp? [E,gA,gE,b2,wl2,lT',fH,cv,nxt,y3]
    · simp? [E,gE,lT',tl,r_,cv,vn]
def zp(i:Nat)(e:En):Nat:=match cv e i with
  | some x=>x.length
  | none=>0
def C':PyData→PyData
  | .list xs=>.tuple xs
  | d=>d
inductive GI (W:aM) (most:Int):En→Prop
  | mk {ds T S ws v5 v6 v7 v8 v9 v10} (hd:ii ds) (hG:pS W T S ws) (hT:(T.length:Int)≤most) (hws:ws.length≤T.length+1) (hU:uV T ws):GI W most (gE ds W most T ws v5 v6 v7 v8 v9 v10)
theorem As{W:aM}(ok:W.Ok){ds:List Int}{most:Int}(hd:ii ds)(m0:0≤most)(m1:most≤400):∃ds' T S,kY [.l (ds.map .int),.d (br W),.d (.int most)]=some (.d (.tuple (T.map a8)),[.l (ds'.map .int),.d (br W),.d (.int most)])∧ii ds'∧jd W T S∧(T.length:Int)≤most∧uV T []:=by
  have q4:∀(ws:List Wt) (e:En),e[4]?=some (some (.l (ws.map y3)))→bR true e (.s 4) (.l [])=some (.d (.bool (!(ws.map y3).isEmpty))):=fun ws e he=>by
    have:=nu (neg:=true) he ((Sh.list (n:=8) fun d hd=>by
      obtain⟨k,_,rfl⟩:=List.mem_map.mp hd
      exact Sh.wt).ok (by decide))
    simpa using this
  have tst:∀ds T ws v5 v6 v7 v8 v9 v10,ig (gE ds W most T ws v5 v6 v7 v8 v9 v10)=some (!(ws.map y3).isEmpty,gE ds W most T ws v5 v6 v7 v8 v9 v10):=fun ds T ws v5 v6 v7 v8 v9 v10=>by
    have:=q4 ws (gE ds W most T ws v5 v6 v7 v8 v9 v10) rfl
    unfold gE at this ⊢
    simp? [ig,this]
  obtain⟨e0,e',hw,hI,hf⟩:=i3 (ft:=ig) (f:=ib)
    (GI W most)
    (fun e=>pk 4 e+2*(most.toNat - zp 3 e)) (fun e hI=>by
      obtain⟨hd1,hG,hT,hws,hU⟩:=hI
      rename_i d1 T S ws v5 v6 v7 v8 v9 v10
      cases ws with
      | nil=>exact .inl ⟨_,tst _ _ _ _ _ _ _ _ _,trivial⟩
      | cons w ws=>
        obtain⟨e9,hb,⟨hd2,hG2,hU2,hc⟩⟩:=C7 ok (most:=most) (v5:=v5) (v6:=v6) (v7:=v7) (v8:=v8) (v9:=v9) (v10:=v10) hd1 hG hU (by lia) (by simp at hws;lia)
        simp only [List.length_cons] at hws
        refine .inr ⟨_,_,tst _ _ _ _ _ _ _ _ _,hb,⟨hd2,hG2,?_,?_,hU2⟩,?_⟩
        · rcases hc with hc | hc<;>lia
        · rcases hc with hc | hc<;>lia
        · have l1:∀ds T ws v5 v6 v7 v8 v9 v10,pk 4 (gE ds W most T ws v5 v6 v7 v8 v9 v10)=ws.length:=fun ds T ws v5 v6 v7 v8 v9 v10=>by simp [gE,pk]
          have l2:∀ds T ws v5 v6 v7 v8 v9 v10,zp 3 (gE ds W most T ws v5 v6 v7 v8 v9 v10)=T.length:=fun ds T ws v5 v6 v7 v8 v9 v10=>by simp [gE,zp,cv]
          simp only [l1,l2,List.length_cons]
          rcases hc with hc | hc<;>lia) (2 ^ 4200) (gE ds W most [] [⟨([],[]), -1,0⟩] none none none none none none)
    (.mk (S:=fun _=>([],[])) hd ⟨fun i x h=>(by simp at h),fun w hw=>(by simp at hw;subst hw;exact⟨lK.first W,.inl rfl⟩),fun w hw=>(by simp at hw;subst hw;exact .inl rfl)⟩ m0 (by simp) uV.first)
    (mQ (m:=20) (by simp [gE,pk,zp,cv];lia) (by decide))
  obtain⟨hd1,hG,hT,hws,hU⟩:=hI
  rename_i d1 T S ws v5 v6 v7 v8 v9 v10
  rw [tst] at hf
  have hw0:ws=[]:=by
    cases ws with
    | nil=>rfl
    | cons a r=>simp at hf
  subst hw0
  simp at hf
  subst hf
  refine⟨d1,T,S,?_,hd1,hG.tr,hT,hU⟩
  obtain⟨t',hc⟩:=fU (cs:=[]) (ft:=cz) (fe:=jP) (b:=fun _=>true) (y:=C') ((T.map vn).map PyData.list) none [] (fun x hx=>rfl) (fun x hx _=>by
    obtain⟨xs,_,rfl⟩:=List.mem_map.mp hx
    simp? [jP,C']) (by simp;lia)
  have hv:=gB (cp:=[]) (nT:=1) (fi:=pe) (g:=af 0) (ft:=cz) (fe:=jP) (e:=gE d1 W most T [] v5 v6 v7 v8 v9 v10) (e1:=(gE d1 W most T [] v5 v6 v7 v8 v9 v10).set 3 (some (.d (.list ((T.map vn).map .list))))) (cs:=[]) (t:=[none]) (t':=[t']) rfl rfl rfl hc
  have hl:([]++(((T.map vn).map PyData.list).filter fun _=>true).map C')=T.map a8:=by
    rw [List.nil_append,List.filter_eq_self.mpr (fun _ _=>rfl),List.map_map,List.map_map]
    exact List.map_congr_left fun x _=>rfl
  rw [hl] at hv
  have hw':iV (2 ^ 4200) ig ib (gE ds W most [] [⟨([],[]), -1,0⟩] none none none none none none)=some (.nx (gE d1 W most T [] v5 v6 v7 v8 v9 v10)):=hw
  unfold gE at hv hw'
  simp only [List.map_cons,List.map_nil,y3,lN] at hw' hv
  simp only [List.set_cons_succ,List.set_cons_zero] at hv
  simp? [kY,tX,yh,hw',hv]
def BM:PyData→Bool
  | .int _=>true
  | .bool _=>true
  | _=>false
def BL:PyData→Bool
  | .bool _=>true
  | _=>false
def BO:PyData→Bool
  | .tuple _=>true
  | _=>false
theorem DB{e:En}{d:PyData}:p_ "int" e (.d d)=some (.d (.bool (BM d))):=by cases d<;>rfl
theorem E8{e:En}{d:PyData}:p_ "bool" e (.d d)=some (.d (.bool (BL d))):=by cases d<;>rfl
theorem zc{e:En}{d:PyData}:p_ "tuple" e (.d d)=some (.d (.bool (BO d))):=by cases d<;>rfl
theorem ze{d:PyData}(h:BO d=true):∃ds,d=.tuple ds:=by cases d<;>first | exact⟨_,rfl⟩ | cases h
theorem BN(d:PyData):A6 d=(BM d&& !BL d):=by cases d<;>rfl
theorem yu(d:PyData):dy [.d d]=some (.d (.bool (A6 d)),[.d d]):=by
  rw [BN]
  have g1:=fun e=>DB (e:=e) (d:=d)
  have g2:=fun e=>E8 (e:=e) (d:=d)
  generalize BM d=a at*
  generalize BL d=b at*
  cases a<;>simp? [dy,l6,g1,g2]
theorem yx(a b:Bool):lQ [.d (.bool a),.d (.bool b)]=some (.d (.bool (a==b)),[.d (.bool a),.d (.bool b)]):=by
  have gi:∀(e:En) (x y:Bool),DC e (.d (.bool x)) (.d (.bool y))=some (.d (.bool (x==y))):=fun e x y=>rfl
  cases a<;>cases b<;>simp? [lQ,wo,gi]
theorem lZ(a b:Int)(hb:Bt 4000 b):cc [.d (.int a),.d (.int b)]=some (.d (.int (Int.gcd a b)),[.d (.int a),.d (.int b)]):=by
  have tst:∀x y:Int,bJ [some (.d (.int x)),some (.d (.int y))]=some (!(y==0),[some (.d (.int x)),some (.d (.int y))]):=fun x y=>by simp? [bJ]
  obtain⟨e0,e',h1,⟨x,y,he,hg,hy⟩,h3⟩:=i3 (ft:=bJ) (f:=cq) (fun e=>∃x y,e=[some (.d (.int x)),some (.d (.int y))]∧Int.gcd x y=Int.gcd a b∧Bt 4000 y) (pw 1) (fun e ⟨x,y,he,hg,hy⟩=>by
    subst he
    rw [tst]
    by_cases c:y=0
    · subst c;exact .inl ⟨_,rfl,trivial⟩
    · refine .inr ⟨_,[some (.d (.int y)),some (.d (.int (x.fmod y)))],by rw [beq_false_of_ne c];rfl,by simp? [cq,wU c],⟨y,x.fmod y,rfl,by rw [rh,hg],?_⟩,?_⟩
      · have:=gK x c
        exact Bt.of_le hy (by lia)
      · have:=gK x c
        simpa [pw] using this) (2 ^ 4200) _ ⟨a,b,rfl,rfl,hb⟩ (mQ (m:=4000) (by simpa [pw,Bt] using hb) (by decide))
  subst he
  rw [tst] at h3
  have h4:=Prod.mk.inj (Option.some.inj h3)
  have hy0:y=0:=by simpa using h4.1
  subst hy0
  have h5:=h4.2
  subst h5
  have hs:iV (2 ^ 4200) bJ cq [some (.d (.int a)),some (.d (.int b))]=some (.nx [some (.d (.int x)),some (.d (.int 0))]):=h1
  have hg':(x.natAbs:Int)=(Int.gcd a b:Int):=by rw [←hg];simp
  simp only [cc,ie,fC,jx,aD,ir,aY,cG,bh,dz,fm,mJ,oK,aH,ar,lG,ac,vC,cW,ah,aa,bB,aQ,bH,jb,sd,jc,vZ,iz,oq,jK,qP,fD,eR,cF,bD,rB,eg,gg,ki,cY,bC,oE,qJ,aN,ai,af,aK,bX,aI,bc,qo,dn,eG,cN,fL,gU,gR,gM,gL,eI,eH,eJ,du,eF,mn,gQ,jl,mq,jp,gS,jm,jo,eL,eK,dw,eM,mr,je,dB,jf,jg,l9,dr,dq,dN,gN,List.replicate, -List.map_nil, -List.map_cons, -List.nil_append, -List.cons_append, -Option.bind_some, -Option.map_some, -getElem?_pos, -List.append_nil,mi,mh,ma,l_,me,mf,md,mj]
  simp? [hs,hg']
theorem lE(t b:Int)(hb:0 < b)(h:Bt 4000 b):cO [.d (.int t),.d (.int b)]=some (.d (dF (bo t b)),[.d (.int t),.d (.int b)]):=by
  have g0:=qa (t:=t) (b:=b) (by lia)
  have g1:(Int.gcd t b:Int)≠0:=by lia
  have g8:Bt 8000 (Int.gcd t b:Int):=(wW (t:=t) (by lia) h).mono (by decide)
  have e:bo t b=(t.fdiv (Int.gcd t b:Int),b.fdiv (Int.gcd t b:Int)):=by unfold bo;rw [if_neg (by lia)]
  have nb:¬b < 0:=by lia
  rw [e]
  simp? [cO,qU,lZ t b h,uj g1 g8,nb,dF]
theorem qI{a b:Fr}{n:Nat}(a2:0 < a.2)(b2:0 < b.2)(ha1:Bt n a.1)(ha:Bt n a.2)(hb1:Bt n b.1)(hb:Bt n b.2)(hn:n≤1900):gW [.d (dF a),.d (dF b)]=some (.d (dF (tm a b)),[.d (dF a),.d (dF b)]):=by
  have g1:∀e:En,cD e (.d (.int a.1)) (.d (.int b.1))=some (.d (.int (a.1*b.1))):=fun e=>bZ (g_ (ha1.mono (by lia)) (hb1.mono (by lia)))
  have g2:∀e:En,cD e (.d (.int a.2)) (.d (.int b.2))=some (.d (.int (a.2*b.2))):=fun e=>bZ (g_ (ha.mono (by lia)) (hb.mono (by lia)))
  have tl:=lE (a.1*b.1) (a.2*b.2) (Int.mul_pos a2 b2) ((ha.mul hb).mono (by lia))
  unfold tm
  unfold dF at*
  simp? [gW,t_,g1,g2,tl]
theorem j3{a b:Fr}{n:Nat}(a2:0 < a.2)(b2:0 < b.2)(ha1:Bt n a.1)(ha:Bt n a.2)(hb1:Bt n b.1)(hb:Bt n b.2)(hn:n≤1900):bF [.d (dF a),.d (dF b)]=some (.d (dF (tm a b)),[.d (dF a),.d (dF b)]):=by
  have g1:∀e:En,cD e (.d (.int a.1)) (.d (.int b.1))=some (.d (.int (a.1*b.1))):=fun e=>bZ (g_ (ha1.mono (by lia)) (hb1.mono (by lia)))
  have g2:∀e:En,cD e (.d (.int a.2)) (.d (.int b.2))=some (.d (.int (a.2*b.2))):=fun e=>bZ (g_ (ha.mono (by lia)) (hb.mono (by lia)))
  have tl:=uO (a.1*b.1) (a.2*b.2) (Int.mul_pos a2 b2) ((ha.mul hb).mono (by lia))
  unfold tm
  unfold dF at*
  simp? [bF,tZ,g1,g2,tl]
theorem yv{a b:Fr}{n:Nat}(a2:0 < a.2)(b2:0 < b.2)(ha1:Bt n a.1)(ha:Bt n a.2)(hb1:Bt n b.1)(hb:Bt n b.2)(hn:n≤1900):km [.d (dF a),.d (dF b)]=some (.d (dF (pl a b)),[.d (dF a),.d (dF b)]):=by
  have g1:∀e:En,cD e (.d (.int a.1)) (.d (.int b.2))=some (.d (.int (a.1*b.2))):=fun e=>bZ (g_ (ha1.mono (by lia)) (hb.mono (by lia)))
  have g3:∀e:En,cD e (.d (.int b.1)) (.d (.int a.2))=some (.d (.int (b.1*a.2))):=fun e=>bZ (g_ (hb1.mono (by lia)) (ha.mono (by lia)))
  have g2:∀e:En,cD e (.d (.int a.2)) (.d (.int b.2))=some (.d (.int (a.2*b.2))):=fun e=>bZ (g_ (ha.mono (by lia)) (hb.mono (by lia)))
  have tl:=lE (a.1*b.2+b.1*a.2) (a.2*b.2) (Int.mul_pos a2 b2) ((ha.mul hb).mono (by lia))
  unfold pl
  unfold dF at*
  simp? [km,wu,g1,g2,g3,tl]
theorem qF{a b:Fr}{n:Nat}(a2:0 < a.2)(b2:0 < b.2)(ha1:Bt n a.1)(ha:Bt n a.2)(hb1:Bt n b.1)(hb:Bt n b.2)(hn:n≤1900):dO [.d (dF a),.d (dF b)]=some (.d (dF (pl a b)),[.d (dF a),.d (dF b)]):=by
  have g1:∀e:En,cD e (.d (.int a.1)) (.d (.int b.2))=some (.d (.int (a.1*b.2))):=fun e=>bZ (g_ (ha1.mono (by lia)) (hb.mono (by lia)))
  have g3:∀e:En,cD e (.d (.int b.1)) (.d (.int a.2))=some (.d (.int (b.1*a.2))):=fun e=>bZ (g_ (hb1.mono (by lia)) (ha.mono (by lia)))
  have g2:∀e:En,cD e (.d (.int a.2)) (.d (.int b.2))=some (.d (.int (a.2*b.2))):=fun e=>bZ (g_ (ha.mono (by lia)) (hb.mono (by lia)))
  have tl:=uO (a.1*b.2+b.1*a.2) (a.2*b.2) (Int.mul_pos a2 b2) ((ha.mul hb).mono (by lia))
  unfold pl
  unfold dF at*
  simp? [dO,wm,g1,g2,g3,tl]
theorem oo{W:aM}(ok:W.Ok){k:Int}(hk:kB W k):dj [.d (.tuple [.int (W.tie k).top,.int (W.tie k).bot])]=some (.d (dF (ch W k false)),[.d (.tuple [.int (W.tie k).top,.int (W.tie k).bot])]):=by
  have o:=hk.ok ok
  have b0:=o.b0;have b1:=o.b1
  have tl:=lE ((W.tie k).bot - (W.tie k).top) (W.tie k).bot (by lia) (Bt.mono (m:=7) (by unfold Bt;lia) (by decide))
  rw [xl (by lia) o.cop] at tl
  simp? [dj,m6,tl,ch]
theorem qG{W:aM}{k:Int}:gp [.d (.tuple [.int (W.tie k).top,.int (W.tie k).bot])]=some (.d (dF (ch W k false)),[.d (.tuple [.int (W.tie k).top,.int (W.tie k).bot])]):=by
  simp? [gp,wn,ch,dF]
theorem pN(d:PyData)(n:Int):ck [.d d,.d (.int n)]=some (.d (.bool (mI n d)),[.d d,.d (.int n)]):=by
  have g:=fun e=>zc (e:=e) (d:=d)
  cases c:BO d with
  | false=>
    rw [c] at g
    have e:mI n d=false:=by cases d<;>first | rfl | cases c
    rw [e]
    simp? [ck,jj,g]
  | true=>
    rw [c] at g
    obtain⟨ds,rfl⟩:=ze c
    simp? [ck,jj,g,mI]
theorem om{d:PyData}(h:d.showable=true):bx [.d d]=some (.d (.bool (qN d)),[.d d]):=by
  have tr:=pN d 2
  cases c:mI 2 d with
  | false=>
    rw [c] at tr
    have e:qN d=false:=by
      cases q:qN d with
      | false=>rfl
      | true=>
        unfold qN at q
        split at q
        · simp [mI] at c
        · cases q
    rw [e]
    simp? [bx,cB,tr]
  | true=>
    obtain⟨x,y,rfl⟩:=Fy c
    rw [c] at tr
    have nx:=yu x
    have ny:=yu y
    cases hx:A6 x with
    | false=>
      rw [hx] at nx
      have e:qN (.tuple [x,y])=false:=by cases x<;>first | rfl | simp [A6] at hx
      rw [e]
      simp? [bx,cB,tr,nx]
    | true=>
      obtain⟨t,rfl⟩:=uq hx
      rw [hx] at nx
      cases hy:A6 y with
      | false=>
        rw [hy] at ny
        have e:qN (.tuple [.int t,y])=false:=by cases y<;>first | rfl | simp [A6] at hy
        rw [e]
        simp? [bx,cB,tr,nx,ny]
      | true=>
        obtain⟨b,rfl⟩:=uq hy
        rw [hy] at ny
        by_cases c1:b < 1
        · have e:qN (.tuple [.int t,.int b])=false:=by
            simp only [qN,Bool.and_eq_false_iff,decide_eq_false_iff_not];left;lia
          rw [e]
          simp? [bx,cB,tr,nx,ny,c1]
        · simp only [PyData.showable,PyData.showableAll,Bool.and_eq_true,decide_eq_true_eq] at h
          have tl:=lE t b (by lia) (By h.2.1 (by lia))
          have e:qN (.tuple [.int t,.int b])=((bo t b).1==t&&(bo t b).2==b):=by
            rw [zl (by lia)]
            show(decide (1≤b)&&_)=_
            rw [decide_eq_true (by lia),Bool.true_and]
          rw [e]
          unfold dF at tl
          have ge:=fun e=>kQ (e:=e) (a:=(bo t b).1) (b:=(bo t b).2) (c:=t) (d:=b)
          generalize bo t b=p at*
          simp? [bx,cB,tr,nx,ny,c1,tl,ge]
theorem qg{t b:Int}{n:Nat}(hb:0 < b)(h1:Bt n t)(h2:Bt n b):Bt n (bo t b).1∧Bt n (bo t b).2∧0 < (bo t b).2:=by
  obtain⟨d,e1,e2,e3,e4,e5⟩:=fV (t:=t) (b:=b) (by lia)
  have dp:1≤d.natAbs:=by lia
  have k1:(bo t b).1.natAbs≤t.natAbs:=by
    have:=congrArg Int.natAbs e3
    rw [Int.natAbs_mul] at this
    rw [←this]
    exact Nat.le_mul_of_pos_right _ dp
  have k2:(bo t b).2.natAbs≤b.natAbs:=by
    have:=congrArg Int.natAbs e4
    rw [Int.natAbs_mul] at this
    rw [←this]
    exact Nat.le_mul_of_pos_right _ dp
  exact⟨h1.of_le k1,h2.of_le k2,e5⟩
structure FB (n:Nat) (f:Fr):Prop where
  pos:0 < f.2
  top:Bt n f.1
  bot:Bt n f.2
theorem FB.mono{n m:Nat}{f:Fr}(h:FB n f)(hm:n≤m):FB m f:=⟨h.pos,h.top.mono hm,h.bot.mono hm⟩
theorem FB.pl{n:Nat}{a b:Fr}(ha:FB n a)(hb:FB n b):FB (n+n+1) (L2.pl a b):=by
  obtain⟨r1,r2,r3⟩:=qg (t:=a.1*b.2+b.1*a.2) (b:=a.2*b.2) (n:=n+n+1) (Int.mul_pos ha.pos hb.pos) ((ha.top.mul hb.bot).add (hb.top.mul ha.bot)) ((ha.bot.mul hb.bot).mono (by lia))
  exact⟨r3,r1,r2⟩
theorem FB.tm{n:Nat}{a b:Fr}(ha:FB n a)(hb:FB n b):FB (n+n) (L2.tm a b):=by
  obtain⟨r1,r2,r3⟩:=qg (t:=a.1*b.1) (b:=a.2*b.2) (n:=n+n) (Int.mul_pos ha.pos hb.pos) (ha.top.mul hb.top) (ha.bot.mul hb.bot)
  exact⟨r3,r1,r2⟩
theorem FB.ch{W:aM}(ok:W.Ok){k:Int}(hk:kB W k)(b:Bool):FB 7 (L2.ch W k b):=by
  have o:=hk.ok ok
  have:=o.c0;have:=o.c1;have:=o.b0;have:=o.b1
  cases b<;>refine⟨?_,?_,?_⟩<;>simp only [L2.ch,if_true,Bool.false_eq_true,if_false,Bt]<;>lia
theorem qH{W:aM}(ok:W.Ok){k:Int}(hk:kB W k){y n:Fr}(hy:FB 200 y)(hn:FB 200 n):eQ [.d (cZ (W.tie k)),.d (dF y),.d (dF n)]=some (.d (dF (aw W k y n)),[.d (cZ (W.tie k)),.d (dF y),.d (dF n)]):=by
  have ot:=hk.ok ok
  have w0:=ot.w0;have w1:=ot.w1
  have w:FB 200 ((W.tie k).worth,1):=⟨Int.zero_lt_one,Bt.mono (m:=10) (by show(W.tie k).worth.natAbs < 2 ^ 10;lia) (by decide),by show Bt 200 1;unfold Bt;decide⟩
  have c1:=FB.ch ok hk true
  have c2:=FB.ch ok hk false
  have t1:=w.pl hy
  have t2:=(c1.mono (m:=401) (by decide)).tm t1
  have t3:=(c2.mono (m:=200) (by decide)).tm hn
  have p1:=yv (a:=((W.tie k).worth,1)) (b:=y) w.pos hy.pos w.top w.bot hy.top hy.bot (by decide)
  rw [show dF ((W.tie k).worth,1)=.tuple [.int (W.tie k).worth,.int 1] from rfl] at p1
  have p2:=qI (a:=ch W k true) (b:=pl ((W.tie k).worth,1) y) (n:=401) c1.pos t1.pos (c1.top.mono (by decide)) (c1.bot.mono (by decide)) t1.top t1.bot (by decide)
  rw [iK] at p2
  have ol:=oo ok hk
  have p3:=qI (a:=ch W k false) (b:=n) (n:=200) c2.pos hn.pos (c2.top.mono (by decide)) (c2.bot.mono (by decide)) hn.top hn.bot (by decide)
  have p4:km [.d (dF (tm (ch W k true) (pl ((W.tie k).worth,1) y))),.d (dF (tm (ch W k false) n))]=some (.d (dF (aw W k y n)),[.d (dF (tm (ch W k true) (pl ((W.tie k).worth,1) y))),.d (dF (tm (ch W k false) n))]):=yv (n:=802) t2.pos t3.pos (t2.top.mono (by decide)) (t2.bot.mono (by decide)) (t3.top.mono (by decide)) (t3.bot.mono (by decide)) (by decide)
  generalize dF (aw W k y n)=A at p4 ⊢
  generalize dF (tm (ch W k true) (pl ((W.tie k).worth,1) y))=B at p2 p4
  generalize dF (tm (ch W k false) n)=C at p3 p4
  generalize dF (pl ((W.tie k).worth,1) y)=D at p1 p2
  simp? [eQ,l5,cZ,p1,p2,ol,p3,p4]
theorem kc{ws:List Fr}{l:Int}(h0: -1≤l)(h1:l < (ws.length:Int)):cu [.d (.tuple (ws.map dF)),.d (.int l)]=some (.d (dF (lk ws l)),[.d (.tuple (ws.map dF)),.d (.int l)]):=by
  by_cases c:l= -1
  · subst c
    have:dF (lk ws (-1))=.tuple [.int 0,.int 1]:=rfl
    rw [this]
    simp? [cu,iG,vZ]
  · have:=yT c h0 h1
    simp? [cu,iG,vZ,c,this]
theorem uw{ws:List Fr}(hb:∀f∈ws,FB 200 f)(l:Int):FB 200 (lk ws l):=by
  have z:FB 200 (0,1):=⟨Int.zero_lt_one,by show Bt 200 0;unfold Bt;decide,by show Bt 200 1;unfold Bt;decide⟩
  unfold lk
  split
  · exact z
  · rw [List.getD_eq_getElem?_getD]
    cases h:ws[l.toNat]? with
    | none=>exact z
    | some f=>exact hb f (List.mem_of_getElem? h)
theorem oN{W:aM}(ok:W.Ok){S:Nat→fJ}{T:List Nd}{ws:List Fr}{i:Nat}{x:Nd}(h:jd W T S)(hl:ws.length=T.length)(hb:∀f∈ws,FB 200 f)(hx:T[i]?=some x):dP [.d (br W),.d (a8 x),.d (.tuple (ws.map dF))]=some (.d (dF (aw W x.tie (lk ws x.yes) (lk ws x.no))),[.d (br W),.d (a8 x),.d (.tuple (ws.map dF))]):=by
  have o:=h i x hx
  have gw:∀e,bE e (.d (br W)) (.d (.int 1))=some (.d (.tuple (W.ties.map cZ))):=fun e=>by rw [dH,gQ,dB];rfl
  have ha:=dC o.tie
  have l1:=kc (ws:=ws) (l:=x.yes) o.yes.rng.1 (by rw [hl];exact o.yes.rng.2)
  have l2:=kc (ws:=ws) (l:=x.no) o.no.rng.1 (by rw [hl];exact o.no.rng.2)
  have ta:=qH ok o.tie (uw hb x.yes) (uw hb x.no)
  generalize dF (aw W x.tie (lk ws x.yes) (lk ws x.no))=A at ta ⊢
  simp? [dP,kG,a8,gw,ha,l1,l2,ta]
def kj(n:Int):PyData→Bool
  | .tuple ds=>((ds.length:Int)==n)&&ds.all qN
  | _=>false
theorem jJ{d:PyData}(hs:d.showable=true){n:Int}(hn:n≤65535):aW [.d d,.d (.int n)]=some (.d (.bool (kj n d)),[.d d,.d (.int n)]):=by
  have tr:=pN d n
  cases c:mI n d with
  | false=>
    rw [c] at tr
    have e:kj n d=false:=by
      cases d with
      | tuple ds=>have c':((ds.length:Int)==n)=false:=c;simp only [kj,c',Bool.false_and]
      | _=>rfl
    rw [e]
    simp? [aW,dD,tr]
  | true=>
    cases d with
    | tuple ds=>
      have c':((ds.length:Int)==n)=true:=c
      have c2:(ds.length:Int)=n:=by simpa using c'
      rw [c] at tr
      simp only [PyData.showable] at hs
      obtain⟨t',hf⟩:=fU (cs:=[]) (ft:=cz) (fe:=bW) (b:=fun _=>true) (y:=fun d=>.bool (qN d)) ds none [] (fun x _=>rfl) (fun x hx _=>by
        have t:=om (wg hs x hx)
        generalize qN x=bb at*
        simp? [bW,t]) (by simp;lia)
      have hv:=gB (cp:=[]) (nT:=1) (fi:=fy) (g:=af 0) (ft:=cz) (fe:=bW) (e:=[some (.d (.tuple ds)),some (.d (.int n))]) (cs:=[]) (t:=[none]) (t':=[t']) (qd (fa:=ac 0) rfl) rfl rfl hf
      rw [List.nil_append,show List.filter (fun _=>true) ds=ds from List.filter_eq_self.mpr fun _ _=>rfl] at hv
      have ga:=fun e=>nj (e:=e) qN ds
      rw [show kj n (.tuple ds)=ds.all qN by simp only [kj,c',Bool.true_and]]
      generalize ds.all qN=bb at*
      generalize ds.map (fun d=>PyData.bool (qN d))=M at*
      simp? [aW,dD,tr,hv,ga]
    | _=>simp [mI] at c
theorem vT{W:aM}(ok:W.Ok){x:Nd}(hk:kB W x.tie):ip [.d (br W),.d (a8 x)]=some (.l (iY W x),[.d (br W),.d (a8 x)]):=by
  let E:En:=[some (.d (br W)),some (.d (a8 x)),some (.d (.int x.tie)),some (.d (.int x.yes)),some (.d (.int x.no)),some (.d (.tuple [.int (W.tie x.tie).top,.int (W.tie x.tie).bot]))]
  have tl:=oo ok hk
  have hi:js E=some ([dm x.yes (ch W x.tie true),dm x.no (ch W x.tie false)],[],E):=qd (by simp? [E,tl,dm,iK])
  have hc:∃t',bY (aN (ai (af 0) (ai (af 1) aK))) cJ cL [dm x.yes (ch W x.tie true),dm x.no (ch W x.tie false)] [none,none] []=some (iY W x,[]++t'):=by
    by_cases c1:x.yes= -1
    · by_cases c2:x.no= -1
      · exact⟨_,by simp? [bY,dm,iY,c1,c2,cJ,cL];rfl⟩
      · exact⟨_,by simp? [bY,dm,iY,c1,c2,cJ,cL];rfl⟩
    · by_cases c2:x.no= -1
      · exact⟨_,by simp? [bY,dm,iY,c1,c2,cJ,cL];rfl⟩
      · exact⟨_,by simp? [bY,dm,iY,c1,c2,cJ,cL];rfl⟩
  obtain⟨t',hc⟩:=hc
  have hv:=gB (cp:=[]) (nT:=2) (fi:=js) (g:=aN (ai (af 0) (ai (af 1) aK))) (ft:=cJ) (fe:=cL) (e:=E) (cs:=[]) (t:=[none,none]) (t':=t') hi rfl rfl hc
  have gw:∀e,bE e (.d (br W)) (.d (.int 1))=some (.d (.tuple (W.ties.map cZ))):=fun e=>by rw [dH,gQ,dB];rfl
  have ha:=dC hk
  simp only [E] at hv
  unfold a8 cZ at*
  simp? [ip,oV,gw,ha,hv]
theorem C2{W:aM}(ok:W.Ok){k:Int}{as:List Int}{y n:Fr}(h:mC W k as y n):∃Y B C:PyData,dO [.d (.tuple [.int (W.tie k).worth,.int 1]),.d (dF y)]=some (.d Y,[.d (.tuple [.int (W.tie k).worth,.int 1]),.d (dF y)])∧bF [.d (.tuple [.int (W.tie k).top,.int (W.tie k).bot]),.d Y]=some (.d B,[.d (.tuple [.int (W.tie k).top,.int (W.tie k).bot]),.d Y])∧bF [.d (dF (ch W k false)),.d (dF n)]=some (.d C,[.d (dF (ch W k false)),.d (dF n)])∧dO [.d B,.d C]=some (.d (dF (aw W k y n)),[.d B,.d C]):=by
  have i1:=sj (l:=as.length+1)
  have ot:=h.inw.ok ok
  have bt0:Bt 140 (W.tie k).bot:=by
    have:=ot.b0;have:=ot.b1
    exact Bt.mono (m:=7) (by unfold Bt;lia) (by decide)
  have bp0:0 < (W.tie k).bot:=by have:=ot.b0;lia
  have w:=h.w ok
  have t1:=h.t1 ok
  have t2:=h.t2 ok
  have t3:=h.t3 ok
  have c1:=o8 ok h.inw true
  have c2:=o8 ok h.inw false
  have bw:=w.b ok (by lia) (by lia)
  have by':=h.y.b ok (by lia) (by lia)
  have bn:=h.n.b ok (by lia) (by lia)
  have b1:=t1.b ok (by lia) (by lia)
  have b2:=t2.b ok (by lia) (by lia)
  have b3:=t3.b ok (by lia) (by lia)
  have p1:=qF (a:=((W.tie k).worth,1)) (b:=y) w.pos h.y.pos bw.1 bw.2 by'.1 by'.2 (by decide)
  rw [show dF ((W.tie k).worth,1)=.tuple [.int (W.tie k).worth,.int 1] from rfl] at p1
  have p2:=j3 (a:=ch W k true) (b:=pl ((W.tie k).worth,1) y) c1.pos t1.pos (c1.bt bt0 bp0).1 (c1.bt bt0 bp0).2 b1.1 b1.2 (by decide)
  rw [iK] at p2
  have p3:=j3 (a:=ch W k false) (b:=n) c2.pos h.n.pos (c2.bt bt0 bp0).1 (c2.bt bt0 bp0).2 bn.1 bn.2 (by decide)
  have p4:=qF (a:=tm (ch W k true) (pl ((W.tie k).worth,1) y)) (b:=tm (ch W k false) n) t2.pos t3.pos b2.1 b2.2 b3.1 b3.2 (by decide)
  exact⟨_,_,_,p1,p2,p3,p4⟩
def lW(W:aM)(T:List Nd)(L:List PyData)(v3 v4 v5 v6 v7 v8 v9:Option Sv):En:=[some (.d (br W)),some (.d (.tuple (T.map a8))),some (.l L),v3,v4,v5,v6,v7,v8,v9]
inductive WJ (W:aM) (T:List Nd) (m:Nat):En→Prop
  | mk {v3 v4 v5 v6 v7 v8 v9}:WJ W T m (lW W T ((iZ W T m++[(0,1)]).map dF) v3 v4 v5 v6 v7 v8 v9)
theorem yr{W:aM}(ok:W.Ok){T:List Nd}{S:Nat→fJ}(h:jd W T S)(hT:T.length≤65535):jw [.d (br W),.d (.tuple (T.map a8))]=some (.d (.tuple ((iZ W T T.length).map dF)),[.d (br W),.d (.tuple (T.map a8))]):=by
  have gw:∀e,bE e (.d (br W)) (.d (.int 1))=some (.d (.tuple (W.ties.map cZ))):=fun e=>by rw [dH,gQ,dB];rfl
  obtain⟨e2,h1,hI⟩:=c_ (own:=[]) (g:=af 3) (f:=iE) (WJ W T) (kP ((T.length:Int) - 1) T.length) 0 (lW W T ((iZ W T 0++[(0,1)]).map dF) none none none none none none none) (fun m x e hx hI=>by
    obtain⟨⟩:=hI
    rename_i v3 v4 v5 v6 v7 v8 v9
    obtain⟨rfl,hm⟩:=vd hx
    have hy:T[T.length - 1 - m]?=some (T[T.length - 1 - m]'(by lia)):=List.getElem?_eq_getElem (by lia)
    generalize T[T.length - 1 - m]'(by lia)=y at hy
    have key:∀{v3 v4 v5 v6 v7 v8 v9},WJ W T (0+m+1) (lW W T ((wd1 W (iZ W T m) (T.length - 1 - m) y++[(0,1)]).map dF) v3 v4 v5 v6 v7 v8 v9):=by
      rw [Nat.zero_add,←yF hy]
      exact .mk
    rw [Nat.zero_add] at key ⊢
    rw [show((T.length:Int) - 1 - (m:Int))=((T.length - 1 - m:Nat):Int) by lia]
    have hi:T.length - 1 - m < T.length:=by lia
    generalize T.length - 1 - m=i at hy hi key
    have s0:=lL.all ok h m
    generalize iZ W T m=ws at s0 key ⊢
    have o:=h i y hy
    obtain⟨Y,B,C,p1,p2,p3,p4⟩:=C2 ok (AN ok h s0 hy)
    have tr:=qG (W:=W) (k:=y.tie)
    have ha:=yU hy
    have hat:=dC o.tie
    have ay:=sx (ws:=ws) (l:=y.yes) o.yes.rng.1 (by rw [s0.len];exact o.yes.rng.2)
    have an:=sx (ws:=ws) (l:=y.no) o.no.rng.1 (by rw [s0.len];exact o.no.rng.2)
    have hset:((ws++[(0,1)]).map dF).set i (dF (aw W y.tie (lk ws y.yes) (lk ws y.no)))=((wd1 W ws i y)++[(0,1)]).map dF:=by
      unfold wd1
      rw [←List.map_set,List.set_append_left _ _ (by rw [s0.len];exact hi)]
    have hix:qO ((ws++[(0,1)]).map dF).length (i:Int)=some i:=by
      unfold qO
      rw [if_pos (by lia),if_pos (by rw [List.length_map,List.length_append,s0.len];simp;lia)]
      simp
    generalize ((wd1 W ws i y)++[(0,1)]).map dF=L' at hset key ⊢
    generalize (ws++[(0,1)]).map dF=L at ay an hset hix ⊢
    generalize dF (aw W y.tie (lk ws y.yes) (lk ws y.no))=A at p4 hset
    generalize dF (lk ws y.yes)=f1 at p1 ay
    generalize dF (lk ws y.no)=f2 at p3 an
    refine⟨lW W T L (some (.d (.int (i:Int)))) v4 v5 v6 v7 v8 v9,lW W T L' (some (.d (.int (i:Int)))) (some (.d (.int y.tie))) (some (.d (.int y.yes))) (some (.d (.int y.no))) (some (.d (.tuple [.int (W.tie y.tie).top,.int (W.tie y.tie).bot]))) (some (.d (.int (W.tie y.tie).worth))) (some (.d B)),rfl,?_,bu,key⟩
    simp? [lW,iE,ha,a8,gw,hat,cZ,ay,an,p1,p2,tr,p3,p4,vK,oi,hix,hset]) (.mk)
  obtain⟨⟩:=hI
  rename_i v3 v4 v5 v6 v7 v8 v9
  rw [Nat.zero_add,ve] at h1
  have hfor:∀Wl,de Wl kl (af 3) iE (lW W T ((iZ W T 0++[(0,1)]).map dF) none none none none none none none)=some (.nx (lW W T ((iZ W T T.length++[(0,1)]).map dF) v3 v4 v5 v6 v7 v8 v9)):=fun Wl=>by
    rw [cV (items:=kP ((T.length:Int) - 1) T.length) (e1:=lW W T ((iZ W T 0++[(0,1)]).map dF) none none none none none none none) (by
      have e:(aa (ar gZ (aQ (g1 eX) (aa (ac 1) ah)) (vC (.int 1))) (aa (lG j5 (vC (.int 1))) (aa (lG j5 (vC (.int 1))) ah))) (lW W T ((iZ W T 0++[(0,1)]).map dF) none none none none none none none)=some ([.d (.int ((T.length:Int) - 1)),.d (.int (-1)),.d (.int (-1))],lW W T ((iZ W T 0++[(0,1)]).map dF) none none none none none none none):=by
        simp? [lW]
      unfold kl ul
      rw [e]
      simp only [Option.bind_some,bC]
      rw [if_pos ⟨by simp,by lia,by lia⟩,show((T.length:Int) - 1+1).toNat=T.length by lia])]
    exact h1
  have ln:=(lL.all ok h T.length).len
  have gr:∀e:En,cD e (.l [.tuple [.int 0,.int 1]]) (.d (.int ((T.length:Int)+1)))=some (.l ((iZ W T 0++[(0,1)]).map dF)):=fun e=>by
    rw [AZ (by lia) (by lia),show((T.length:Int)+1).toNat=T.length+1 by lia,List.replicate_succ']
    simp [iZ,dF]
  have cut:kh ((iZ W T T.length++[(0,1)]).map dF) none (some (T.length:Int))=(iZ W T T.length).map dF:=by
    rw [List.map_append,show(T.length:Int)=(((iZ W T T.length).map dF).length:Int) by rw [List.length_map,ln]]
    exact wH
  generalize (iZ W T 0++[(0,1)]).map dF=L0 at gr hfor
  generalize (iZ W T T.length++[(0,1)]).map dF=L at cut hfor
  have gs:∀(e:En) lo hi,e[2]?=some (some (.l L))→Dl e (.s 2) lo hi=some (.l (kh L lo hi)):=fun e lo hi he=>DD he
  unfold lW at hfor
  simp? [jw,qT,gr,hfor,gs,cut]
def pE(W:aM)(T:List Nd)(rs:List Fr)(v3 v4 v5 v6 v7 v8 v9 v10:Option Sv):En:=[some (.d (br W)),some (.d (.tuple (T.map a8))),some (.l (rs.map dF)),v3,v4,v5,v6,v7,v8,v9,v10]
theorem yw{W:aM}{T:List Nd}{rs:List Fr}{i:Nat}{k:Int}{b:Bool}{l:Int}{v4 v5 v6 v7 v8:Option Sv}(hi:i < rs.length)(tt:bF [.d (dF (rs.getD i (1,1))),.d (dF (ch W k b))]=some (.d (dF (tm (rs.getD i (1,1)) (ch W k b))),[.d (dF (rs.getD i (1,1))),.d (dF (ch W k b))]))(hl: -1≤l∧l < (rs.length:Int)):
    eA (pE W T rs (some (.d (.int i))) v4 v5 v6 v7 v8 (some (.d (.int l))) (some (.d (dF (ch W k b)))))=some (.nx (pE W T (rstp W rs i k b l) (some (.d (.int i))) v4 v5 v6 v7 v8 (some (.d (.int l))) (some (.d (dF (ch W k b)))))):=by
  have ha:=pX (z:=(1,1)) hi
  by_cases h0:l= -1
  · subst h0
    rw [Am]
    simp? [pE,eA]
  · have hix:qO rs.length l=some l.toNat:=by unfold qO;rw [if_pos (by lia),if_pos hl.2]
    unfold rstp
    rw [if_neg h0]
    generalize rs.getD i (1,1)=r at tt ha
    generalize ch W k b=c at tt
    simp? [pE,eA,h0,ha,tt,vK,oi,hix,List.map_set]
inductive E2 (W:aM) (T:List Nd) (i:Nat):En→Prop
  | mk {v3 v4 v5 v6 v7 v8 v9 v10}:E2 W T i (pE W T (fg W T i) v3 v4 v5 v6 v7 v8 v9 v10)
theorem vR{W:aM}(ok:W.Ok){T:List Nd}{S:Nat→fJ}(h:jd W T S)(hT:T.length≤65535):io [.d (br W),.d (.tuple (T.map a8))]=some (.d (.tuple ((fg W T T.length).map dF)),[.d (br W),.d (.tuple (T.map a8))]):=by
  have gw:∀e,bE e (.d (br W)) (.d (.int 1))=some (.d (.tuple (W.ties.map cZ))):=fun e=>by rw [dH,gQ,dB];rfl
  obtain⟨e2,h1,hI⟩:=c_ (own:=[]) (g:=aN (ai (af 3) (ai (af 4) aK))) (f:=gJ) (E2 W T) (ij 0 (T.map a8)) 0 (pE W T (fg W T 0) none none none none none none none none) (fun i x e hx hI=>by
    obtain⟨⟩:=hI
    rename_i v3 v4 v5 v6 v7 v8 v9 v10
    obtain⟨y,hy,rfl⟩:=wK hx
    have hi:i < T.length:=(List.getElem?_eq_some_iff.mp hy).1
    have o:=h i y hy
    have s0:=j4.all ok h i
    have s1:=s0.stp ok hi o.tie o.yes
    have e1:E2 W T (0+i+1) (pE W T (rL W (fg W T i) i y) (some (.d (.int i))) (some (.d (a8 y))) (some (.d (.int y.tie))) (some (.d (.int y.yes))) (some (.d (.int y.no))) (some (.d (dF (ch W y.tie true)))) (some (.d (.int y.no))) (some (.d (dF (ch W y.tie false))))):=by
      rw [Nat.zero_add,←uF hy]
      exact .mk
    rw [Nat.zero_add] at e1 ⊢
    generalize fg W T i=rs at s0 s1 e1 ⊢
    have ba:=m9 ok
    have bb:Bt 113 (W.tie y.tie).bot:=by
      have ot:=o.tie.ok ok
      have:=ot.b0;have:=ot.b1
      exact Bt.mono (m:=7) (by unfold Bt;lia) (by decide)
    have b0:0 < (W.tie y.tie).bot:=by
      have:=(o.tie.ok ok).b0;lia
    have tt:∀(rs:List Fr),j4 W S T.length rs→∀b,bF [.d (dF (rs.getD i (1,1))),.d (dF (ch W y.tie b))]=some (.d (dF (tm (rs.getD i (1,1)) (ch W y.tie b))),[.d (dF (rs.getD i (1,1))),.d (dF (ch W y.tie b))]):=fun rs s b=>by
      have r:=s.one ok h hi
      have c:=o8 ok o.tie b
      exact j3 r.pos c.pos (r.bt ba.2 ba.1).1 (r.bt ba.2 ba.1).2 (c.bt bb b0).1 (c.bt bb b0).2 (by decide)
    have u1:=yw (W:=W) (T:=T) (k:=y.tie) (b:=true) (l:=y.yes) (v4:=some (.d (a8 y))) (v5:=some (.d (.int y.tie))) (v6:=some (.d (.int y.yes))) (v7:=some (.d (.int y.no))) (v8:=some (.d (dF (ch W y.tie true)))) (by rw [s0.len];exact hi) (tt rs s0 true) (by rw [s0.len];exact o.yes.rng)
    have u2:=yw (W:=W) (T:=T) (k:=y.tie) (b:=false) (l:=y.no) (v4:=some (.d (a8 y))) (v5:=some (.d (.int y.tie))) (v6:=some (.d (.int y.yes))) (v7:=some (.d (.int y.no))) (v8:=some (.d (dF (ch W y.tie true)))) (by rw [s1.len];exact hi) (tt _ s1 false) (by rw [s1.len];exact o.no.rng)
    have tr:=qG (W:=W) (k:=y.tie)
    rw [←iK] at tr
    have hf:∀Wl,de Wl jr (aN (ai (af 9) (ai (af 10) aK))) eA (pE W T rs (some (.d (.int i))) (some (.d (a8 y))) (some (.d (.int y.tie))) (some (.d (.int y.yes))) (some (.d (.int y.no))) (some (.d (dF (ch W y.tie true)))) v9 v10)=some (.nx (pE W T (rL W rs i y) (some (.d (.int i))) (some (.d (a8 y))) (some (.d (.int y.tie))) (some (.d (.int y.yes))) (some (.d (.int y.no))) (some (.d (dF (ch W y.tie true)))) (some (.d (.int y.no))) (some (.d (dF (ch W y.tie false)))))):=fun Wl=>by
      rw [cV (items:=[dm y.yes (ch W y.tie true),dm y.no (ch W y.tie false)]) (e1:=pE W T rs (some (.d (.int i))) (some (.d (a8 y))) (some (.d (.int y.tie))) (some (.d (.int y.yes))) (some (.d (.int y.no))) (some (.d (dF (ch W y.tie true)))) v9 v10) (show jr (pE W T rs (some (.d (.int i))) (some (.d (a8 y))) (some (.d (.int y.tie))) (some (.d (.int y.yes))) (some (.d (.int y.no))) (some (.d (dF (ch W y.tie true)))) v9 v10)=_ from sJ (by
        generalize hg1:dF (ch W y.tie true)=f1 at tr ⊢
        generalize hg2:dF (ch W y.tie false)=f2 at tr ⊢
        simp? [pE,tr,dm,hg1,hg2]))]
      unfold rL
      unfold pE at u1 u2 ⊢
      simp only [gD,dm,aN,ai,af,aK,List.set_cons_succ,List.set_cons_zero,Option.bind_some,u1,u2,if_pos bu]
    refine⟨pE W T rs (some (.d (.int i))) (some (.d (a8 y))) v5 v6 v7 v8 v9 v10,pE W T (rL W rs i y) (some (.d (.int i))) (some (.d (a8 y))) (some (.d (.int y.tie))) (some (.d (.int y.yes))) (some (.d (.int y.no))) (some (.d (dF (ch W y.tie true)))) (some (.d (.int y.no))) (some (.d (dF (ch W y.tie false)))),by simp? [pE],?_,bu,e1⟩
    · have ha:=dC o.tie
      have s1:fm (ac 4) (aN (ai (af 5) (ai (af 6) (ai (af 7) aK)))) (pE W T rs (some (.d (.int i))) (some (.d (a8 y))) v5 v6 v7 v8 v9 v10)=some (.nx (pE W T rs (some (.d (.int i))) (some (.d (a8 y))) (some (.d (.int y.tie))) (some (.d (.int y.yes))) (some (.d (.int y.no))) v8 v9 v10)):=by
        simp? [pE,a8]
      have s2:bh 8 (ar bE (ar bE (ar bE (ac 0) (vC (.int 1))) (ac 5)) (vC (.int 2))) (pE W T rs (some (.d (.int i))) (some (.d (a8 y))) (some (.d (.int y.tie))) (some (.d (.int y.yes))) (some (.d (.int y.no))) v8 v9 v10)=some (.nx (pE W T rs (some (.d (.int i))) (some (.d (a8 y))) (some (.d (.int y.tie))) (some (.d (.int y.yes))) (some (.d (.int y.no))) (some (.d (dF (ch W y.tie true)))) v9 v10)):=by
        rw [iK]
        simp? [pE,gw,ha,cZ]
      unfold gJ
      rw [cx s1,cx s2,hf]) (.mk)
  obtain⟨⟩:=hI
  rename_i v3 v4 v5 v6 v7 v8 v9 v10
  rw [Nat.zero_add,jR,List.length_map] at h1
  have hfor:∀Wl,de Wl mw (aN (ai (af 3) (ai (af 4) aK))) gJ (pE W T (fg W T 0) none none none none none none none none)=some (.nx (pE W T (fg W T T.length) v3 v4 v5 v6 v7 v8 v9 v10)):=fun Wl=>by
    rw [cV (items:=ij 0 (T.map a8)) (e1:=pE W T (fg W T 0) none none none none none none none none) rfl]
    exact h1
  have gr:∀e:En,cD e (.l [.tuple [.int 1,.int 1]]) (.d (.int (T.length:Int)))=some (.l ((fg W T 0).map dF)):=fun e=>by
    rw [AZ (by lia) (by lia)]
    simp [fg,dF]
  unfold pE at hfor
  simp? [io,oT,gr,hfor]
structure PF (f:Fr):Prop where
  b:FB 140 f
  g:Int.gcd f.1 f.2=1
theorem PF.fr{f:Fr}(h:PF f):qN (dF f)=true:=by
  show(decide (1≤f.2)&&decide (Int.gcd f.1 f.2=1))=true
  have:=h.b.pos
  rw [decide_eq_true (by lia),decide_eq_true h.g];rfl
theorem qi{t b:Int}(hb:0 < b):0 < (bo t b).2:=by
  obtain⟨d,h1,h2,h3,h4,h5⟩:=fV (t:=t) (b:=b) (by lia)
  exact h5
theorem Cq{a b:Fr}(ha:0 < a.2)(hb:0 < b.2):Int.gcd (pl a b).1 (pl a b).2=1:=by
  unfold pl
  exact jv (Int.ne_of_gt (Int.mul_pos ha hb))
theorem C_{a b:Fr}(ha:0 < a.2)(hb:0 < b.2):Int.gcd (tm a b).1 (tm a b).2=1:=by
  unfold tm
  exact jv (Int.ne_of_gt (Int.mul_pos ha hb))
theorem Dh{W:aM}(ok:W.Ok){T:List Nd}{S:Nat→fJ}(h:jd W T S)(hT:T.length≤65535):∀f∈iZ W T T.length,PF f:=fun f hf=>by
  obtain⟨j,hj⟩:=List.getElem?_of_mem hf
  have o:=(lL.all ok h T.length).at' j f hj
  have b:=o.b ok sj.1 (by have:=(sj (l:=(S j).1.length)).2;lia)
  refine⟨⟨o.pos,b.1,b.2⟩,?_⟩
  have key:∀m,∀f∈iZ W T m,Int.gcd f.1 f.2=1:=by
    intro m
    induction m with
    | zero=>
      intro f hf
      rw [show iZ W T 0=List.replicate T.length (0,1) from rfl] at hf
      rw [(List.mem_replicate.mp hf).2];rfl
    | succ m ih=>
      intro f hf
      cases hx:T[T.length - 1 - m]? with
      | none=>rw [show iZ W T (m+1)=iZ W T m by rw [iZ,hx]] at hf;exact ih f hf
      | some x=>
        rw [yF hx] at hf
        unfold wd1 at hf
        rcases List.mem_or_eq_of_mem_set hf with hf | rfl
        · exact ih f hf
        · have hk:=(h _ x hx).tie
          have c1:=FB.ch ok hk true
          have c2:=FB.ch ok hk false
          have p:∀l,0 < (lk (iZ W T m) l).2:=fun l=>by
            unfold lk
            split
            · exact Int.zero_lt_one
            · rw [List.getD_eq_getElem?_getD]
              cases q:(iZ W T m)[l.toNat]? with
              | none=>exact Int.zero_lt_one
              | some g=>exact((lL.all ok h m).at' _ g q).pos
          unfold aw
          refine Cq ?_ ?_
          · exact qi (Int.mul_pos c1.pos (qi (Int.mul_pos Int.zero_lt_one (p _))))
          · exact qi (Int.mul_pos c2.pos (p _))
  exact key _ f hf
theorem CS{W:aM}(ok:W.Ok){T:List Nd}{S:Nat→fJ}(h:jd W T S):∀f∈fg W T T.length,PF f:=fun f hf=>by
  obtain⟨j,hj⟩:=List.getElem?_of_mem hf
  have hl:j < T.length:=by rw [←li (W:=W) (T:=T) T.length];exact(List.getElem?_eq_some_iff.mp hj).1
  have r:=(j4.all ok h T.length).one ok h hl
  rw [List.getD_eq_getElem?_getD,hj,Option.getD_some] at r
  have ba:=m9 ok
  have b:=r.bt ba.2 ba.1
  refine⟨⟨r.pos,b.1.mono (by decide),b.2.mono (by decide)⟩,?_⟩
  have key:∀m,m≤T.length→∀f∈fg W T m,Int.gcd f.1 f.2=1:=by
    intro m
    induction m with
    | zero=>
      intro _ f hf
      rw [show fg W T 0=List.replicate T.length (1,1) from rfl] at hf
      rw [(List.mem_replicate.mp hf).2];rfl
    | succ m ih=>
      intro hm f hf
      have hx:T[m]?=some T[m]:=List.getElem?_eq_getElem (by lia)
      generalize T[m]=x at hx
      rw [uF hx] at hf
      have hk:=(h _ x hx).tie
      have R:=j4.all ok h m
      have st:∀(rs:List Fr) (b:Bool) (l:Int),0 < (rs.getD m (1,1)).2→(∀f∈rs,Int.gcd f.1 f.2=1)→∀f∈rstp W rs m x.tie b l,Int.gcd f.1 f.2=1:=fun rs b l hp hr f hf=>by
        unfold rstp at hf
        split at hf
        · exact hr f hf
        · rcases List.mem_or_eq_of_mem_set hf with hf | rfl
          · exact hr f hf
          · exact C_ hp (FB.ch ok hk b).pos
      unfold rL at hf
      have o:=h m x hx
      have R2:=R.stp ok (i:=m) (k:=x.tie) (b:=true) (l:=x.yes) (by lia) hk o.yes
      refine st _ false x.no ?_ (st _ true x.yes ?_ (ih (by lia))) f hf
      · exact(R2.one ok h (by lia)).pos
      · exact(R.one ok h (by lia)).pos
  exact key _ (Nat.le_refl _) f hf
def vB(W:aM)(ws:List Fr):PyData→Bool
  | .tuple [.tuple [.int a,.int b,.int c],.tuple [.int p,.int q]]=>p==(aw W a (lk ws b) (lk ws c)).1&&q==(aw W a (lk ws b) (lk ws c)).2
  | _=>false
def uB:PyData→En
  | .tuple [a,b]=>[some (.d a),some (.d b)]
  | _=>[none,none]
theorem nv{e:En}{a b c d:Int}:bR true e (.d (.tuple [.int a,.int b])) (.d (.tuple [.int c,.int d]))=some (.d (.bool (!(a==c&&b==d)))):=by
  unfold bR
  have h0:∀x y:Int,SeqAt.shaped (.tuple [.int x,.int y])=true:=fun x y=>by simp [SeqAt.shaped,PyData.canLay0,PyData.canLayAll0,PyData.depth,PyData.depthAll]
  simp only [i7,Option.bind_some,h0,Bool.and_self,if_true]
  simp [PyData.eqv,PyData.eqvAll]
theorem iA:∀{xs ys:List PyData},xs.length=ys.length→(bV xs ys).length=xs.length
  | [],[],_=>rfl
  | [],_::_,h=>by simp at h
  | _::_,[],h=>by simp at h
  | a::r,b::s,h=>by simp only [bV,List.length_cons,iA (xs:=r) (ys:=s) (by simpa using h)]
theorem lH{T:List Nd}{ws:List Fr}:∀x∈bV (T.map a8) (ws.map dF),∃(i:Nat) (nd:Nd) (f:Fr),T[i]?=some nd∧ws[i]?=some f∧x=.tuple [a8 nd,dF f]:=fun x hx=>by
  obtain⟨i,hi⟩:=List.getElem?_of_mem hx
  obtain⟨a,b,h1,h2,rfl⟩:=ox hi
  rw [List.getElem?_map] at h1 h2
  obtain⟨nd,h3,rfl⟩:=Option.map_eq_some_iff.mp h1
  obtain⟨f,h4,rfl⟩:=Option.map_eq_some_iff.mp h2
  exact⟨i,nd,f,h3,h4,rfl⟩
theorem wL{ws:List Fr}{n:Nat}(hl:ws.length=n)(pf:∀f∈ws,PF f):kj (n:Int) (.tuple (ws.map dF))=true:=by
  have:(ws.map dF).all qN=true:=by
    rw [List.all_map,List.all_eq_true]
    exact fun f hf=>(pf f hf).fr
  simp only [kj,this,List.length_map,hl,beq_self_eq_true,Bool.and_self]
theorem A9{a:Int}(h:Bt 140 a):a.natAbs.log2 < 1920:=by
  by_cases c:a.natAbs=0
  · rw [c];decide
  · exact(Nat.log2_lt c).mpr (Nat.lt_of_lt_of_le h (Nat.pow_le_pow_right (by decide) (by decide)))
theorem tu:∀{ws:List Fr},(∀f∈ws,PF f)→PyData.showableAll (ws.map dF)=true
  | [],_=>rfl
  | f::r,h=>by
    have h1:=A9 (h f (by simp)).b.top
    have h2:=A9 (h f (by simp)).b.bot
    simp only [List.map_cons,PyData.showableAll,tu (ws:=r) fun g hg=>h g (by simp [hg]),Bool.and_true];simp [dF,PyData.showable,PyData.showableAll,h1,h2]
theorem C9{W:aM}(ok:W.Ok){T:List Nd}{S:Nat→fJ}(h:jd W T S)(hT:T.length≤65535){ws:List Fr}(hl:ws.length=T.length)(pf:∀f∈ws,PF f):
    dc [.d (br W),.d (.tuple (T.map a8)),.d (.tuple (ws.map dF))]=some (.d (.bool ((bV (T.map a8) (ws.map dF)).all (vB W ws))),[.d (br W),.d (.tuple (T.map a8)),.d (.tuple (ws.map dF))]):=by
  have tf:=jJ (d:=.tuple (ws.map dF)) (by show PyData.showableAll (ws.map dF)=true;exact tu pf) (n:=(T.length:Int)) (by lia)
  rw [wL hl pf] at tf
  have ql:((T.map a8).length:Int)=(T.length:Int):=by simp
  have fb:∀f∈ws,FB 200 f:=fun f hf=>(pf f hf).b.mono (by decide)
  let cs:En:=[some (.d (br W)),some (.d (.tuple (ws.map dF)))]
  have item:=lH (T:=T) (ws:=ws)
  obtain⟨t',ht,hf⟩:=iJ (cs:=cs) (g:=aN (ai (af 2) (ai (af 3) aK))) (ft:=cz) (fe:=dh) (b:=fun _=>true) (y:=fun x=>.bool (vB W ws x)) (u:=uB) 2 (bV (T.map a8) (ws.map dF)) [none,none] [] rfl (fun x hx t ht=>by
    obtain⟨i,nd,f,h1,h2,rfl⟩:=item x hx
    rcases t with _ | ⟨t1,_ | ⟨t2,_ | ⟨t3,r⟩⟩⟩
    · simp at ht
    · simp at ht
    · generalize a8 nd=A
      generalize dF f=B
      simp? [cs,uB]
    · simp at ht) (fun x hx=>by
    obtain⟨i,nd,f,h1,h2,rfl⟩:=item x hx
    rfl) (fun x _=>rfl) (fun x hx _=>by
    obtain⟨i,nd,f,h1,h2,rfl⟩:=item x hx
    have tn:=oN ok h hl fb h1
    have ge:=fun e=>kQ (e:=e) (a:=f.1) (b:=f.2) (c:=(aw W nd.tie (lk ws nd.yes) (lk ws nd.no)).1) (d:=(aw W nd.tie (lk ws nd.yes) (lk ws nd.no)).2)
    rw [show vB W ws (.tuple [a8 nd,dF f])=(f.1==(aw W nd.tie (lk ws nd.yes) (lk ws nd.no)).1&&f.2==(aw W nd.tie (lk ws nd.yes) (lk ws nd.no)).2) from rfl]
    rw [show uB (.tuple [a8 nd,dF f])=[some (.d (a8 nd)),some (.d (dF f))] from rfl]
    simp only [cs]
    unfold dF at tn ge ⊢
    generalize aw W nd.tie (lk ws nd.yes) (lk ws nd.no)=g at*
    generalize ws.map (fun f=>PyData.tuple [.int f.1,.int f.2])=WW at*
    generalize a8 nd=A at*
    simp? [dh,tn,ge]) (by
    rw [iA (by simp [hl])]
    simp
    lia)
  have hv:=gB (cp:=[(0,"web"),(2,"thing")]) (nT:=2) (fi:=i8) (g:=aN (ai (af 2) (ai (af 3) aK))) (ft:=cz) (fe:=dh) (e:=[some (.d (br W)),some (.d (.tuple (T.map a8))),some (.d (.tuple (ws.map dF)))]) (cs:=cs) (t:=[none,none]) (t':=t') rfl rfl rfl hf
  rw [List.nil_append,show List.filter (fun _=>true) (bV (T.map a8) (ws.map dF))=bV (T.map a8) (ws.map dF) from List.filter_eq_self.mpr fun _ _=>rfl] at hv
  have ga:=fun e=>nj (e:=e) (vB W ws) (bV (T.map a8) (ws.map dF))
  clear item hf fb
  generalize (bV (T.map a8) (ws.map dF)).all (vB W ws)=bb at*
  generalize (bV (T.map a8) (ws.map dF)).map (fun d=>PyData.bool (vB W ws d))=M at*
  generalize T.map a8=TT at*
  generalize ws.map dF=WW at*
  generalize (T.length:Int)=L at*
  simp? [dc,j7,ql,tf,hv,ga]
theorem Au{W:aM}(ok:W.Ok){k:Int}(hk:kB W k){y n:Fr}(hy:FB 200 y)(hn:FB 200 n):∃Y B C:PyData,dO [.d (.tuple [.int (W.tie k).worth,.int 1]),.d (dF y)]=some (.d Y,[.d (.tuple [.int (W.tie k).worth,.int 1]),.d (dF y)])∧bF [.d (.tuple [.int (W.tie k).top,.int (W.tie k).bot]),.d Y]=some (.d B,[.d (.tuple [.int (W.tie k).top,.int (W.tie k).bot]),.d Y])∧bF [.d (dF (ch W k false)),.d (dF n)]=some (.d C,[.d (dF (ch W k false)),.d (dF n)])∧dO [.d B,.d C]=some (.d (dF (aw W k y n)),[.d B,.d C]):=by
  have ot:=hk.ok ok
  have w0:=ot.w0;have w1:=ot.w1
  have w:FB 200 ((W.tie k).worth,1):=⟨Int.zero_lt_one,Bt.mono (m:=10) (by show(W.tie k).worth.natAbs < 2 ^ 10;lia) (by decide),by show Bt 200 1;unfold Bt;decide⟩
  have c1:=FB.ch ok hk true
  have c2:=FB.ch ok hk false
  have t1:=w.pl hy
  have t2:=(c1.mono (m:=401) (by decide)).tm t1
  have t3:=(c2.mono (m:=200) (by decide)).tm hn
  have p1:=qF (a:=((W.tie k).worth,1)) (b:=y) w.pos hy.pos w.top w.bot hy.top hy.bot (by decide)
  rw [show dF ((W.tie k).worth,1)=.tuple [.int (W.tie k).worth,.int 1] from rfl] at p1
  have p2:=j3 (a:=ch W k true) (b:=pl ((W.tie k).worth,1) y) (n:=401) c1.pos t1.pos (c1.top.mono (by decide)) (c1.bot.mono (by decide)) t1.top t1.bot (by decide)
  rw [iK] at p2
  have p3:=j3 (a:=ch W k false) (b:=n) (n:=200) c2.pos hn.pos (c2.top.mono (by decide)) (c2.bot.mono (by decide)) hn.top hn.bot (by decide)
  have p4:dO [.d (dF (tm (ch W k true) (pl ((W.tie k).worth,1) y))),.d (dF (tm (ch W k false) n))]=some (.d (dF (aw W k y n)),[.d (dF (tm (ch W k true) (pl ((W.tie k).worth,1) y))),.d (dF (tm (ch W k false) n))]):=qF (n:=802) t2.pos t3.pos (t2.top.mono (by decide)) (t2.bot.mono (by decide)) (t3.top.mono (by decide)) (t3.bot.mono (by decide)) (by decide)
  exact⟨_,_,_,p1,p2,p3,p4⟩
theorem pO{ws:List Fr}{l:Int}(hs:ws.length≤65535)(h0: -1≤l)(h1:l < (ws.length:Int)):fY [.d (.tuple (ws.map dF)),.d (.int l)]=some (.d (dF (lk ws l)),[.d (.tuple (ws.map dF)),.d (.int l)]):=by
  have hz:dF (0,1)=.tuple [.int 0,.int 1]:=rfl
  have ga:∀e:En,cy e (.d (.tuple (ws.map dF))) (.d (.tuple [.tuple [.int 0,.int 1]]))=some (.d (.tuple ((ws++[(0,1)]).map dF))):=fun e=>by
    rw [List.map_append];exact nq (by simp;lia)
  have hat:=sx (ws:=ws) h0 h1
  generalize (ws++[(0,1)]).map dF=A at*
  generalize dF (lk ws l)=B at*
  generalize ws.map dF=WW at*
  simp? [fY,oU,ga,hat]
def cM(W:aM)(T:List Nd)(ws:List Fr)(v3 v4 v5 v6 v7 v8 v9 v10:Option Sv):En:=[some (.d (br W)),some (.d (.tuple (T.map a8))),some (.d (.tuple (ws.map dF))),v3,v4,v5,v6,v7,v8,v9,v10]
inductive FJ (W:aM) (T:List Nd) (ws:List Fr):En→Prop
  | mk {v3 v4 v5 v6 v7 v8 v9 v10}:FJ W T ws (cM W T ws v3 v4 v5 v6 v7 v8 v9 v10)
theorem C8{W:aM}(ok:W.Ok){T:List Nd}{S:Nat→fJ}(h:jd W T S)(hT:T.length≤65535){ws:List Fr}(hl:ws.length=T.length)(pf:∀f∈ws,PF f):
    cT [.d (br W),.d (.tuple (T.map a8)),.d (.tuple (ws.map dF))]=some (.d (.bool ((bV (T.map a8) (ws.map dF)).all (vB W ws))),[.d (br W),.d (.tuple (T.map a8)),.d (.tuple (ws.map dF))]):=by
  have fb:∀f∈ws,FB 200 f:=fun f hf=>(pf f hf).b.mono (by decide)
  have gw:∀e,bE e (.d (br W)) (.d (.int 1))=some (.d (.tuple (W.ties.map cZ))):=fun e=>by rw [dH,gQ,dB];rfl
  obtain⟨k1,k2⟩:=jT (own:=[]) (g:=aN (ai (af 3) (ai (af 4) aK))) (f:=cI) (Z:=.d (.bool false)) (vB W ws) (FJ W T ws) (FJ W T ws) (bV (T.map a8) (ws.map dF)) (cM W T ws none none none none none none none none) (fun x hx e hI=>by
    obtain⟨i,nd,f,h1,h2,rfl⟩:=lH x hx
    obtain⟨⟩:=hI
    rename_i v3 v4 v5 v6 v7 v8 v9 v10
    have o:=h i nd h1
    have ha:=dC o.tie
    have l1:=pO (ws:=ws) (l:=nd.yes) (by lia) o.yes.rng.1 (by rw [hl];exact o.yes.rng.2)
    have l2:=pO (ws:=ws) (l:=nd.no) (by lia) o.no.rng.1 (by rw [hl];exact o.no.rng.2)
    obtain⟨Y,B,C,p1,p2,p3,p4⟩:=Au ok o.tie (uw fb nd.yes) (uw fb nd.no)
    have lr:=qG (W:=W) (k:=nd.tie)
    have ge:=fun e=>nv (e:=e) (a:=f.1) (b:=f.2) (c:=(aw W nd.tie (lk ws nd.yes) (lk ws nd.no)).1) (d:=(aw W nd.tie (lk ws nd.yes) (lk ws nd.no)).2)
    rw [show vB W ws (.tuple [a8 nd,dF f])=(f.1==(aw W nd.tie (lk ws nd.yes) (lk ws nd.no)).1&&f.2==(aw W nd.tie (lk ws nd.yes) (lk ws nd.no)).2) from rfl]
    rw [←show dF f=.tuple [.int f.1,.int f.2] from rfl,←show dF (aw W nd.tie (lk ws nd.yes) (lk ws nd.no))=.tuple [.int (aw W nd.tie (lk ws nd.yes) (lk ws nd.no)).1,.int (aw W nd.tie (lk ws nd.yes) (lk ws nd.no)).2] from rfl] at ge
    have hn:a8 nd=.tuple [.int nd.tie,.int nd.yes,.int nd.no]:=rfl
    have ht:cZ (W.tie nd.tie)=.tuple [.int (W.tie nd.tie).one,.int (W.tie nd.tie).other,.tuple [.int (W.tie nd.tie).top,.int (W.tie nd.tie).bot],.int (W.tie nd.tie).worth]:=rfl
    refine⟨cM W T ws (some (.d (a8 nd))) (some (.d (dF f))) v5 v6 v7 v8 v9 v10,?_,fun hv=>⟨cM W T ws (some (.d (a8 nd))) (some (.d (dF f))) (some (.d (.int nd.tie))) (some (.d (.int nd.yes))) (some (.d (.int nd.no))) (some (.d (.tuple [.int (W.tie nd.tie).top,.int (W.tie nd.tie).bot]))) (some (.d (.int (W.tie nd.tie).worth))) (some (.d B)),?_,bu,.mk⟩,fun hv=>⟨cM W T ws (some (.d (a8 nd))) (some (.d (dF f))) (some (.d (.int nd.tie))) (some (.d (.int nd.yes))) (some (.d (.int nd.no))) (some (.d (.tuple [.int (W.tie nd.tie).top,.int (W.tie nd.tie).bot]))) (some (.d (.int (W.tie nd.tie).worth))) (some (.d B)),?_,.mk⟩⟩
    · unfold cM
      generalize a8 nd=N at*
      generalize dF f=F at*
      simp? [List.replicate]
    all_goals
      rw [hv] at ge
      unfold cM
      generalize dF (aw W nd.tie (lk ws nd.yes) (lk ws nd.no))=A at*
      generalize dF (lk ws nd.yes)=LY at*
      generalize dF (lk ws nd.no)=LN at*
      generalize dF (ch W nd.tie false)=CF at*
      generalize dF f=F at*
      generalize ws.map dF=WW at*
      rw [hn] at*
      simp? [cI,gw,ha,ht,l1,l2,p1,p2,p3,p4,lr,ge]) .mk
  have hg:∀Wl,de Wl gh (aN (ai (af 3) (ai (af 4) aK))) cI (cM W T ws none none none none none none none none)=gD [] (aN (ai (af 3) (ai (af 4) aK))) cI (bV (T.map a8) (ws.map dF)) (cM W T ws none none none none none none none none):=fun Wl=>cV (by simp? [cM,gh,mx,rY])
  cases c:(bV (T.map a8) (ws.map dF)).all (vB W ws) with
  | true=>
    obtain⟨e',h1,hI⟩:=k1 c
    obtain⟨⟩:=hI
    rw [h1] at hg
    unfold cM at hg
    clear k1 k2 c h1
    generalize ws.map dF=WW at*
    generalize T.map a8=TT at*
    simp? [cT,iF,hg]
  | false=>
    obtain⟨e',h1,hI⟩:=k2 c
    obtain⟨⟩:=hI
    rw [h1] at hg
    unfold cM at hg
    clear k1 k2 c h1
    generalize ws.map dF=WW at*
    generalize T.map a8=TT at*
    simp? [cT,iF,hg]
def qB(ws:List Fr)(f:Fr):PyData→Bool
  | .tuple [.int l,.tuple [.int p,.int q]]=>(ws.getD l.toNat (1,1)).1==(tm f (p,q)).1&&(ws.getD l.toNat (1,1)).2==(tm f (p,q)).2
  | _=>false
def fB(W:aM)(ws:List Fr):PyData→List Bool
  | .tuple [.tuple [.int a,.int b,.int c],.tuple [.int p,.int q]]=>(iY W ⟨a,b,c⟩).map (qB ws (p,q))
  | _=>[]
theorem ou{W:aM}{x:Nd}{d:PyData}:d∈iY W x↔ ∃b,i9 x b≠ -1∧d=dm (i9 x b) (ch W x.tie b):=by
  unfold iY
  rw [List.mem_append]
  constructor
  · rintro(h | h)
    · split at h
      · cases h
      · simp at h;exact⟨true,by assumption,h⟩
    · split at h
      · cases h
      · simp at h;exact⟨false,by assumption,h⟩
  · rintro⟨b,n,rfl⟩
    cases b
    · right;rw [if_neg (show ¬x.no= -1 from n)];simp [i9]
    · left;rw [if_neg (show ¬x.yes= -1 from n)];simp [i9]
theorem sk{W:aM}{x:Nd}:(iY W x).length≤2:=by
  unfold iY
  rw [List.length_append]
  split<;>split<;>simp
theorem Aj{W:aM}(ok:W.Ok){T:List Nd}{S:Nat→fJ}(h:jd W T S){ws:List Fr}(hl:ws.length=T.length)(fb:∀f∈ws,FB 200 f){i:Nat}{nd:Nd}{f:Fr}(h1:T[i]?=some nd)(h2:ws[i]?=some f)(t:En)(acc:List PyData)(ht:t.length=4)(ha:acc.length+2≤1000000):
    ∃e1 e2 its e3 t',aN (ai (af 2) (ai (af 3) aK)) (.tuple [a8 nd,dF f]) ([some (.d (.tuple (ws.map dF))),some (.d (br W))]++t)=some e1∧cz e1=some (true,e2)∧b_ e2=some (its,[],e3)∧bY (aN (ai (af 4) (ai (af 5) aK))) cz bG its e3 acc=some (acc++(fB W ws (.tuple [a8 nd,dF f])).map PyData.bool,[some (.d (.tuple (ws.map dF))),some (.d (br W))]++t')∧t'.length=4:=by
  have o:=h i nd h1
  have tw:=vT ok o.tie
  have ff:=fb f (List.mem_of_getElem? h2)
  rcases t with _ | ⟨t1,_ | ⟨t2,_ | ⟨t3,_ | ⟨t4,_ | ⟨t5,r⟩⟩⟩⟩⟩
  · simp at ht
  · simp at ht
  · simp at ht
  · simp at ht
  · let cs:En:=[some (.d (.tuple (ws.map dF))),some (.d (br W)),some (.d (a8 nd)),some (.d (dF f))]
    obtain⟨t',ht',hf⟩:=iJ (cs:=cs) (g:=aN (ai (af 4) (ai (af 5) aK))) (ft:=cz) (fe:=bG) (b:=fun _=>true) (y:=fun x=>.bool (qB ws f x)) (u:=uB) 2 (iY W nd) [t3,t4] acc rfl (fun x hx t ht=>by
      obtain⟨b,n,rfl⟩:=ou.mp hx
      rcases t with _ | ⟨t1,_ | ⟨t2,_ | ⟨t3,r⟩⟩⟩
      · simp at ht
      · simp at ht
      · unfold dm
        generalize dF (ch W nd.tie b)=A
        generalize dF f=B
        simp? [cs,uB]
      · simp at ht) (fun x hx=>by
      obtain⟨b,n,rfl⟩:=ou.mp hx
      rfl) (fun x _=>rfl) (fun x hx _=>by
      obtain⟨b,n,rfl⟩:=ou.mp hx
      have cb:=FB.ch ok o.tie b
      have rg: -1≤i9 nd b∧i9 nd b < (T.length:Int):=by
        cases b
        · exact o.no.rng
        · exact o.yes.rng
      have hat:=iC (rs:=ws) (k:=i9 nd b) (z:=(1,1)) (by lia) (by rw [hl];exact rg.2)
      have tt:=qI (a:=f) (b:=ch W nd.tie b) (n:=200) ff.pos cb.pos ff.top ff.bot (cb.top.mono (by decide)) (cb.bot.mono (by decide)) (by decide)
      rw [show qB ws f (dm (i9 nd b) (ch W nd.tie b))=((ws.getD (i9 nd b).toNat (1,1)).1==(tm f (ch W nd.tie b)).1&&(ws.getD (i9 nd b).toNat (1,1)).2==(tm f (ch W nd.tie b)).2) from rfl]
      rw [show uB (dm (i9 nd b) (ch W nd.tie b))=[some (.d (.int (i9 nd b))),some (.d (dF (ch W nd.tie b)))] from rfl]
      generalize ws.getD (i9 nd b).toNat (1,1)=g at*
      have ge:=fun e=>kQ (e:=e) (a:=g.1) (b:=g.2) (c:=(tm f (ch W nd.tie b)).1) (d:=(tm f (ch W nd.tie b)).2)
      rw [←show dF g=.tuple [.int g.1,.int g.2] from rfl,←show dF (tm f (ch W nd.tie b))=.tuple [.int (tm f (ch W nd.tie b)).1,.int (tm f (ch W nd.tie b)).2] from rfl] at ge
      simp only [cs]
      generalize (g.1==(tm f (ch W nd.tie b)).1&&g.2==(tm f (ch W nd.tie b)).2)=bb at*
      generalize dF (tm f (ch W nd.tie b))=A at*
      generalize dF (ch W nd.tie b)=B at*
      generalize dF g=C at*
      generalize dF f=D at*
      generalize ws.map dF=WW at*
      generalize i9 nd b=l at*
      generalize a8 nd=N at*
      simp? [bG,hat,tt,ge]) (by
      have:=sk (W:=W) (x:=nd)
      lia)
    rcases t' with _ | ⟨u3,_ | ⟨u4,_ | ⟨u5,r⟩⟩⟩
    · simp at ht'
    · simp at ht'
    · refine⟨cs++[t3,t4],cs++[t3,t4],iY W nd,cs++[t3,t4],[some (.d (a8 nd)),some (.d (dF f)),u3,u4],?_,rfl,?_,?_,rfl⟩
      · simp only [cs]
        generalize a8 nd=N at*
        generalize dF f=D at*
        simp? [List.replicate]
      · unfold b_
        refine sJ ?_
        simp only [cs]
        generalize dF f=D at*
        generalize a8 nd=N at*
        simp? [tw]
      · rw [hf]
        have:(iY W nd).filter (fun _=>true)=iY W nd:=List.filter_eq_self.mpr fun _ _=>rfl
        rw [this]
        have:fB W ws (.tuple [a8 nd,dF f])=(iY W nd).map (qB ws f):=rfl
        rw [this,List.map_map]
        rfl
    · simp at ht'
  · simp at ht
def zB(ws:List Fr):Bool:=(ws.getD 0 (1,1)).1==1&&(ws.getD 0 (1,1)).2==1
theorem C5{W:aM}(ok:W.Ok){T:List Nd}{S:Nat→fJ}(h:jd W T S)(hT:T.length≤65535){ws:List Fr}(hl:ws.length=T.length)(pf:∀f∈ws,PF f):
    bM [.d (br W),.d (.tuple (T.map a8)),.d (.tuple (ws.map dF))]=some (.d (.bool (zB ws&&(bV (T.map a8) (ws.map dF)).all fun x=>(fB W ws x).all id)),[.d (br W),.d (.tuple (T.map a8)),.d (.tuple (ws.map dF))]):=by
  have tf:=jJ (d:=.tuple (ws.map dF)) (by show PyData.showableAll (ws.map dF)=true;exact tu pf) (n:=(T.length:Int)) (by lia)
  rw [wL hl pf] at tf
  have ql:((T.map a8).length:Int)=(T.length:Int):=by simp
  have fb:∀f∈ws,FB 200 f:=fun f hf=>(pf f hf).b.mono (by decide)
  have hat:0 < T.length→atI (ws.map dF) 0=some (.tuple [.int (ws.getD 0 (1,1)).1,.int (ws.getD 0 (1,1)).2]):=fun q=>by
    have:=iC (rs:=ws) (k:=0) (z:=(1,1)) (by lia) (by lia)
    rw [show(0:Int).toNat=0 from rfl] at this
    exact this
  have ge:=fun e=>nv (e:=e) (a:=(ws.getD 0 (1,1)).1) (b:=(ws.getD 0 (1,1)).2) (c:=1) (d:=1)
  rw [show((ws.getD 0 (1,1)).1==1&&(ws.getD 0 (1,1)).2==1)=zB ws from rfl] at ge
  have z0:¬0 < T.length→zB ws=true:=fun q=>by
    unfold zB
    rw [List.getD_eq_getElem?_getD,List.getElem?_eq_none (by lia)]
    rfl
  cases z:zB ws with
  | false=>
    have tp:0 < T.length:=by
      by_cases q:0 < T.length
      · exact q
      · rw [z0 q] at z;cases z
    have tp':0 < (T.length:Int):=by lia
    have hat:=hat tp
    rw [z] at ge
    clear fb pf z0
    rw [Bool.false_and]
    generalize (ws.getD 0 (1,1)).1=p1 at*
    generalize (ws.getD 0 (1,1)).2=p2 at*
    generalize T.map a8=TT at*
    generalize ws.map dF=WW at*
    generalize (T.length:Int)=L at*
    simp? [bM,dG,ql,tf,tp',hat,ge]
  | true=>
    let cs:En:=[some (.d (.tuple (ws.map dF))),some (.d (br W))]
    have item:=lH (T:=T) (ws:=ws)
    obtain⟨t',ht,hf⟩:=l7 (cs:=cs) (g:=aN (ai (af 2) (ai (af 3) aK))) (ft:=cz) (fi2:=b_) (g2:=aN (ai (af 4) (ai (af 5) aK))) (ft2:=cz) (fe:=bG) (f:=fun x=>(fB W ws x).map PyData.bool) 4 (bV (T.map a8) (ws.map dF)) [none,none,none,none] [] rfl (fun x hx=>by
      obtain⟨i,nd,f,h1,h2,rfl⟩:=item x hx
      rw [List.length_map,show fB W ws (.tuple [a8 nd,dF f])=(iY W nd).map (qB ws f) from rfl,List.length_map]
      exact sk) (fun x hx t acc ht ha=>by
      obtain⟨i,nd,f,h1,h2,rfl⟩:=item x hx
      exact Aj ok h hl fb h1 h2 t acc ht ha) (by
      rw [iA (by simp [hl])]
      simp
      lia)
    have hv:=vX (cp:=[(2,"thing"),(0,"web")]) (nT:=4) (fi:=ik) (g:=aN (ai (af 2) (ai (af 3) aK))) (ft:=cz) (fi2:=b_) (g2:=aN (ai (af 4) (ai (af 5) aK))) (ft2:=cz) (fe:=bG) (e:=[some (.d (br W)),some (.d (.tuple (T.map a8))),some (.d (.tuple (ws.map dF)))]) (cs:=cs) (t:=[none,none,none,none]) (t':=t') rfl rfl rfl hf
    rw [List.nil_append,←List.map_flatMap] at hv
    have ga:∀e,g1 (j8 ml) e [.l (((bV (T.map a8) (ws.map dF)).flatMap (fB W ws)).map PyData.bool)]=some (.d (.bool (((bV (T.map a8) (ws.map dF)).flatMap (fB W ws)).all id))):=fun e=>nj (e:=e) (id:Bool→Bool) _
    rw [List.all_flatMap] at ga
    rw [z] at ge
    rw [Bool.true_and]
    clear item hf fb pf z0
    generalize (bV (T.map a8) (ws.map dF)).all (fun x=>(fB W ws x).all id)=bb at*
    generalize ((bV (T.map a8) (ws.map dF)).flatMap (fB W ws)).map PyData.bool=M at*
    generalize T.map a8=TT at*
    by_cases q:0 < T.length
    · have q':0 < (T.length:Int):=by lia
      have hat:=hat q
      generalize (ws.getD 0 (1,1)).1=p1 at*
      generalize (ws.getD 0 (1,1)).2=p2 at*
      generalize ws.map dF=WW at*
      generalize (T.length:Int)=L at*
      simp? [bM,dG,ql,tf,q',hat,ge,hv,ga]
    · have q':¬0 < (T.length:Int):=by lia
      generalize ws.map dF=WW at*
      generalize (T.length:Int)=L at*
      simp? [bM,dG,ql,tf,q',hv,ga]
theorem CW{ws:List Fr}:SeqAt.shaped (.tuple (ws.map dF))=true∧True:=⟨Sh.ok (n:=6) (Sh.tup (n:=4) fun d hd=>by
  obtain⟨f,_,rfl⟩:=List.mem_map.mp hd
  exact Sh.ints (ns:=[f.1,f.2])) (by decide),trivial⟩
def ET(ws:List Fr)(f:Fr):PyData→Bool
  | .tuple [.int l,.tuple [.int p,.int q]]=>l== -1 || ((ws.getD l.toNat (1,1)).1==(tm f (p,q)).1&&(ws.getD l.toNat (1,1)).2==(tm f (p,q)).2)
  | _=>false
theorem zt{W:aM}{ws:List Fr}{f:Fr}{nd:Nd}:[dm nd.yes (ch W nd.tie true),dm nd.no (ch W nd.tie false)].all (ET ws f)=(fB W ws (.tuple [a8 nd,dF f])).all id:=by
  have e:∀(l:Int) (c:Fr),ET ws f (dm l c)=(l== -1 || qB ws f (dm l c)):=fun l c=>rfl
  rw [show fB W ws (.tuple [a8 nd,dF f])=(iY W nd).map (qB ws f) from rfl]
  unfold iY
  simp only [List.all_cons,List.all_nil,Bool.and_true,e]
  rw [show ∀l:Int,(l== -1)=decide (l= -1) from fun _=>rfl,show(nd.no== -1)=decide (nd.no= -1) from rfl]
  by_cases a:nd.yes= -1<;>by_cases b:nd.no= -1<;>simp [a,b]
inductive FK (W:aM) (T:List Nd) (ws:List Fr) (nd:Nd) (f:Fr):En→Prop
  | mk {v9 v10}:FK W T ws nd f (cM W T ws (some (.d (a8 nd))) (some (.d (dF f))) (some (.d (.int nd.tie))) (some (.d (.int nd.yes))) (some (.d (.int nd.no))) (some (.d (dF (ch W nd.tie true)))) v9 v10)
theorem C4{W:aM}(ok:W.Ok){T:List Nd}{S:Nat→fJ}(h:jd W T S)(hT:T.length≤65535){ws:List Fr}(hl:ws.length=T.length)(pf:∀f∈ws,PF f):
    bU [.d (br W),.d (.tuple (T.map a8)),.d (.tuple (ws.map dF))]=some (.d (.bool (zB ws&&(bV (T.map a8) (ws.map dF)).all fun x=>(fB W ws x).all id)),[.d (br W),.d (.tuple (T.map a8)),.d (.tuple (ws.map dF))]):=by
  have fb:∀f∈ws,FB 200 f:=fun f hf=>(pf f hf).b.mono (by decide)
  have gw:∀e,bE e (.d (br W)) (.d (.int 1))=some (.d (.tuple (W.ties.map cZ))):=fun e=>by rw [dH,gQ,dB];rfl
  obtain⟨k1,k2⟩:=jT (own:=[]) (g:=aN (ai (af 3) (ai (af 4) aK))) (f:=bQ) (Z:=.d (.bool false)) (fun x=>(fB W ws x).all id) (FJ W T ws) (FJ W T ws) (bV (T.map a8) (ws.map dF)) (cM W T ws none none none none none none none none) (fun x hx e hI=>by
    obtain⟨i,nd,f,h1,h2,rfl⟩:=lH x hx
    obtain⟨⟩:=hI
    rename_i v3 v4 v5 v6 v7 v8 v9 v10
    have o:=h i nd h1
    have ha:=dC o.tie
    have lr:=qG (W:=W) (k:=nd.tie)
    rw [←iK] at lr
    have ff:=fb f (List.mem_of_getElem? h2)
    have ht:cZ (W.tie nd.tie)=.tuple [.int (W.tie nd.tie).one,.int (W.tie nd.tie).other,dF (ch W nd.tie true),.int (W.tie nd.tie).worth]:=rfl
    have hn:a8 nd=.tuple [.int nd.tie,.int nd.yes,.int nd.no]:=rfl
    obtain⟨j1,j2⟩:=jT (own:=[]) (g:=aN (ai (af 9) (ai (af 10) aK))) (f:=bP) (Z:=.d (.bool false)) (ET ws f) (FK W T ws nd f) (FK W T ws nd f) [dm nd.yes (ch W nd.tie true),dm nd.no (ch W nd.tie false)] (cM W T ws (some (.d (a8 nd))) (some (.d (dF f))) (some (.d (.int nd.tie))) (some (.d (.int nd.yes))) (some (.d (.int nd.no))) (some (.d (dF (ch W nd.tie true)))) v9 v10) (fun y hy e hI=>by
      obtain⟨b,rfl⟩:∃b,y=dm (i9 nd b) (ch W nd.tie b):=by
        simp only [List.mem_cons,List.not_mem_nil,or_false] at hy
        rcases hy with rfl | rfl
        · exact⟨true,rfl⟩
        · exact⟨false,rfl⟩
      obtain⟨⟩:=hI
      rename_i v9 v10
      have cb:=FB.ch ok o.tie b
      have rg: -1≤i9 nd b∧i9 nd b < (T.length:Int):=by
        cases b
        · exact o.no.rng
        · exact o.yes.rng
      have hat:i9 nd b≠ -1→_:=fun q=>iC (rs:=ws) (k:=i9 nd b) (z:=(1,1)) (by lia) (by rw [hl];exact rg.2)
      have tt:=j3 (a:=f) (b:=ch W nd.tie b) (n:=200) ff.pos cb.pos ff.top ff.bot (cb.top.mono (by decide)) (cb.bot.mono (by decide)) (by decide)
      rw [show ET ws f (dm (i9 nd b) (ch W nd.tie b))=(i9 nd b== -1 || ((ws.getD (i9 nd b).toNat (1,1)).1==(tm f (ch W nd.tie b)).1&&(ws.getD (i9 nd b).toNat (1,1)).2==(tm f (ch W nd.tie b)).2)) from rfl]
      have ge:=fun e=>nv (e:=e) (a:=(ws.getD (i9 nd b).toNat (1,1)).1) (b:=(ws.getD (i9 nd b).toNat (1,1)).2) (c:=(tm f (ch W nd.tie b)).1) (d:=(tm f (ch W nd.tie b)).2)
      generalize ws.getD (i9 nd b).toNat (1,1)=g at*
      rw [←show dF g=.tuple [.int g.1,.int g.2] from rfl,←show dF (tm f (ch W nd.tie b))=.tuple [.int (tm f (ch W nd.tie b)).1,.int (tm f (ch W nd.tie b)).2] from rfl] at ge
      generalize (g.1==(tm f (ch W nd.tie b)).1&&g.2==(tm f (ch W nd.tie b)).2)=bb at*
      have gn:∀e,bR true e (.d (.int (i9 nd b))) (.d (.int (-1)))=some (.d (.bool (!(i9 nd b== -1)))):=fun e=>by rw [fL];rfl
      refine⟨cM W T ws (some (.d (a8 nd))) (some (.d (dF f))) (some (.d (.int nd.tie))) (some (.d (.int nd.yes))) (some (.d (.int nd.no))) (some (.d (dF (ch W nd.tie true)))) (some (.d (.int (i9 nd b)))) (some (.d (dF (ch W nd.tie b)))),?_,fun hv=>⟨cM W T ws (some (.d (a8 nd))) (some (.d (dF f))) (some (.d (.int nd.tie))) (some (.d (.int nd.yes))) (some (.d (.int nd.no))) (some (.d (dF (ch W nd.tie true)))) (some (.d (.int (i9 nd b)))) (some (.d (dF (ch W nd.tie b)))),?_,bu,.mk⟩,fun hv=>⟨cM W T ws (some (.d (a8 nd))) (some (.d (dF f))) (some (.d (.int nd.tie))) (some (.d (.int nd.yes))) (some (.d (.int nd.no))) (some (.d (dF (ch W nd.tie true)))) (some (.d (.int (i9 nd b)))) (some (.d (dF (ch W nd.tie b)))),?_,.mk⟩⟩
      · unfold cM dm
        generalize dF (ch W nd.tie b)=B at*
        generalize dF (ch W nd.tie true)=B' at*
        generalize dF f=D at*
        generalize a8 nd=N at*
        simp? [List.replicate]
      · unfold cM
        generalize dF (tm f (ch W nd.tie b))=A at*
        generalize dF (ch W nd.tie b)=B at*
        generalize dF (ch W nd.tie true)=B' at*
        generalize dF g=C at*
        generalize dF f=D at*
        generalize ws.map dF=WW at*
        generalize a8 nd=N at*
        generalize i9 nd b=l at*
        by_cases q:l= -1
        · subst q
          simp? [bP,gn]
        · have hat:=hat q
          have q2:(l== -1)=false:=by simpa using q
          rw [q2] at hv gn
          rw [Bool.false_or] at hv
          rw [hv] at ge
          simp? [bP,gn,hat,tt,ge]
      · unfold cM
        generalize dF (tm f (ch W nd.tie b))=A at*
        generalize dF (ch W nd.tie b)=B at*
        generalize dF (ch W nd.tie true)=B' at*
        generalize dF g=C at*
        generalize dF f=D at*
        generalize ws.map dF=WW at*
        generalize a8 nd=N at*
        generalize i9 nd b=l at*
        rw [Bool.or_eq_false_iff] at hv
        have q:l≠ -1:=by simpa using hv.1
        have hat:=hat q
        rw [hv.1] at gn
        rw [hv.2] at ge
        simp? [bP,gn,hat,tt,ge]) .mk
    rw [zt] at j1 j2
    have hi:∀v9 v10,eY (cM W T ws (some (.d (a8 nd))) (some (.d (dF f))) (some (.d (.int nd.tie))) (some (.d (.int nd.yes))) (some (.d (.int nd.no))) (some (.d (dF (ch W nd.tie true)))) v9 v10)=some ([dm nd.yes (ch W nd.tie true),dm nd.no (ch W nd.tie false)],[],cM W T ws (some (.d (a8 nd))) (some (.d (dF f))) (some (.d (.int nd.tie))) (some (.d (.int nd.yes))) (some (.d (.int nd.no))) (some (.d (dF (ch W nd.tie true)))) v9 v10):=fun v9 v10=>by
      unfold eY
      refine sJ ?_
      unfold cM dm
      generalize dF (ch W nd.tie false)=B at*
      generalize dF (ch W nd.tie true)=B' at*
      generalize dF f=D at*
      generalize a8 nd=N at*
      simp? [lr]
    have hgo:=fun Wl=>cV (W:=Wl) (g:=aN (ai (af 9) (ai (af 10) aK))) (f:=bP) (hi v9 v10)
    refine⟨cM W T ws (some (.d (a8 nd))) (some (.d (dF f))) v5 v6 v7 v8 v9 v10,?_,fun hv=>?_,fun hv=>?_⟩
    · unfold cM
      generalize a8 nd=N at*
      generalize dF f=F at*
      simp? [List.replicate]
    · obtain⟨e',h5,hI⟩:=j1 hv
      obtain⟨⟩:=hI
      rename_i u9 u10
      rw [h5] at hgo
      refine⟨cM W T ws (some (.d (a8 nd))) (some (.d (dF f))) (some (.d (.int nd.tie))) (some (.d (.int nd.yes))) (some (.d (.int nd.no))) (some (.d (dF (ch W nd.tie true)))) u9 u10,?_,bu,.mk⟩
      clear j1 j2 hi h5 hv
      unfold cM at*
      generalize dF (ch W nd.tie true)=B' at*
      generalize dF f=F at*
      generalize ws.map dF=WW at*
      rw [hn] at*
      simp? [bQ,gw,ha,ht,hgo]
    · obtain⟨e',h5,hI⟩:=j2 hv
      obtain⟨⟩:=hI
      rename_i u9 u10
      rw [h5] at hgo
      refine⟨cM W T ws (some (.d (a8 nd))) (some (.d (dF f))) (some (.d (.int nd.tie))) (some (.d (.int nd.yes))) (some (.d (.int nd.no))) (some (.d (dF (ch W nd.tie true)))) u9 u10,?_,.mk⟩
      clear j1 j2 hi h5 hv
      unfold cM at*
      generalize dF (ch W nd.tie true)=B' at*
      generalize dF f=F at*
      generalize ws.map dF=WW at*
      rw [hn] at*
      simp? [bQ,gw,ha,ht,hgo]) .mk
  have hg:∀Wl,de Wl eZ (aN (ai (af 3) (ai (af 4) aK))) bQ (cM W T ws none none none none none none none none)=gD [] (aN (ai (af 3) (ai (af 4) aK))) bQ (bV (T.map a8) (ws.map dF)) (cM W T ws none none none none none none none none):=fun Wl=>cV (by simp? [cM,eZ,mx,rY])
  have z1:∀e:En,bR false e (.d (.tuple (ws.map dF))) (.d (.tuple []))=some (.d (.bool (ws.map dF).isEmpty)):=fun e=>wQ (neg:=false) CW.1
  have hat:ws≠[]→atI (ws.map dF) 0=some (.tuple [.int (ws.getD 0 (1,1)).1,.int (ws.getD 0 (1,1)).2]):=fun q=>by
    have:=List.length_pos_iff.mpr q
    have:=iC (rs:=ws) (k:=0) (z:=(1,1)) (by lia) (by lia)
    rw [show(0:Int).toNat=0 from rfl] at this
    exact this
  have ge:=fun e=>kQ (e:=e) (a:=(ws.getD 0 (1,1)).1) (b:=(ws.getD 0 (1,1)).2) (c:=1) (d:=1)
  rw [show((ws.getD 0 (1,1)).1==1&&(ws.getD 0 (1,1)).2==1)=zB ws from rfl] at ge
  cases c:(bV (T.map a8) (ws.map dF)).all fun x=>(fB W ws x).all id with
  | true=>
    obtain⟨e',h1,hI⟩:=k1 c
    obtain⟨⟩:=hI
    rw [h1] at hg
    unfold cM at hg
    clear k1 k2 c h1
    rw [Bool.and_true]
    by_cases q:ws=[]
    · subst q
      rw [show zB []=true from rfl]
      rw [show(List.map dF ([]:List Fr)).isEmpty=true from rfl] at z1
      generalize T.map a8=TT at*
      generalize List.map dF ([]:List Fr)=WW at*
      simp? [bU,en,hg,z1]
    · have hat:=hat q
      rw [show(ws.map dF).isEmpty=false by cases ws with | nil=>exact absurd rfl q | cons a r=>rfl] at z1
      generalize (ws.getD 0 (1,1)).1=p1 at*
      generalize (ws.getD 0 (1,1)).2=p2 at*
      generalize zB ws=zb at*
      generalize ws.map dF=WW at*
      generalize T.map a8=TT at*
      simp? [bU,en,hg,z1,hat,ge]
  | false=>
    obtain⟨e',h1,hI⟩:=k2 c
    obtain⟨⟩:=hI
    rw [h1] at hg
    unfold cM at hg
    clear k1 k2 c h1
    rw [Bool.and_false]
    generalize ws.map dF=WW at*
    generalize T.map a8=TT at*
    simp? [bU,en,hg]
def uW(n:Nat)(d:PyData):Prop:=∃ws:List Fr,d=.tuple (ws.map dF)∧ws.length=n∧∀f∈ws,PF f
inductive MI (rs:Sv) (i:Nat):En→Prop
  | mk {ds} {ws:List Fr} {v3 v4 v5} (hd:ii ds) (hw:ws.length=i) (pf:∀f∈ws,PF f):MI rs i [some (.l (ds.map .int)),some rs,some (.l (ws.map dF)),v3,v4,v5]
theorem zN{a b:Int}(h1:0 < b)(h2:a.natAbs < 16)(h3:b.natAbs < 16)(h4:Int.gcd a b=1):PF (a,b):=⟨⟨h1,Bt.mono (m:=4) h2 (by decide),Bt.mono (m:=4) h3 (by decide)⟩,h4⟩
theorem k9{ws:List Fr}(h:∀f∈ws,PF f)(i:Nat):PF (ws.getD i (0,1)):=by
  rw [List.getD_eq_getElem?_getD]
  cases q:ws[i]? with
  | none=>exact zN (by decide) (by decide) (by decide) rfl
  | some f=>exact h f (List.mem_of_getElem? q)
theorem pM{ds:List Int}{A B:List Fr}{rs:Sv}(hr:rs=.l [.tuple (A.map dF),.tuple (B.map dF)]∨rs=.d (.list [.tuple (A.map dF),.tuple (B.map dF)]))(hd:ii ds)(hl:B.length=A.length)(hs:A.length≤1000)(ha:∀f∈A,PF f)(hb:∀f∈B,PF f):
    ∃(ds':List Int) (d:PyData),fX [.l (ds.map .int),rs]=some (.d d,[.l (ds'.map .int),rs])∧ii ds'∧uW A.length d:=by
  obtain⟨e2,h1,hI⟩:=c_ (own:=[]) (g:=af 3) (f:=gH) (MI rs) (be 0 A.length) 0 [some (.l (ds.map .int)),some rs,some (.l []),none,none,none] (fun i x e hx hI=>by
    obtain⟨hd,hw,pf⟩:=hI
    rename_i ds ws v3 v4 v5
    obtain⟨rfl,hi⟩:=dk hx
    rw [Int.zero_add]
    obtain⟨n,d1,t1,n0, -,hd1⟩:=j6 hd
    have lp:0 < (A.length:Int):=by lia
    have gm:∀e:En,a9 e (.d (.int n)) (.d (.int 7))=some (.d (.int (n % 7))):=fun e=>aT (by decide)
    have gd:∀e:En,dt e (.d (.int n)) (.d (.int 7))=some (.d (.int (n / 7))):=fun e=>ee (by decide) (ke (by decide) (by decide))
    have gx:∀e:En,a9 e (.d (.int (n / 7))) (.d (.int A.length))=some (.d (.int (n / 7 % A.length))):=fun e=>aT lp
    have x0:0≤n / 7 % (A.length:Int):=Int.emod_nonneg _ (by lia)
    have x1:n / 7 % (A.length:Int) < A.length:=Int.emod_lt_of_pos _ lp
    have r0:0≤n % 7:=Int.emod_nonneg _ (by decide)
    have r1:n % 7 < 7:=Int.emod_lt_of_pos _ (by decide)
    have h2:=pX (rs:=A) (i:=i) (z:=(0,1)) hi
    have h3:=pX (rs:=B) (i:=i) (z:=(0,1)) (by lia)
    have h4:=iC (rs:=A) (k:=n / 7 % (A.length:Int)) (z:=(0,1)) x0 x1
    have h5:=iC (rs:=[A.getD i (0,1),A.getD i (0,1),B.getD i (0,1),(0,1),(1,1),(1,2),A.getD (n / 7 % (A.length:Int)).toNat (0,1)]) (k:=n % 7) (z:=(0,1)) r0 (by simpa using r1)
    have p5:PF ([A.getD i (0,1),A.getD i (0,1),B.getD i (0,1),(0,1),(1,1),(1,2),A.getD (n / 7 % (A.length:Int)).toNat (0,1)].getD (n % 7).toNat (0,1)):=k9 (fun f hf=>by
      simp only [List.mem_cons,List.not_mem_nil,or_false] at hf
      rcases hf with rfl | rfl | rfl | rfl | rfl | rfl | rfl
      · exact k9 ha _
      · exact k9 ha _
      · exact k9 hb _
      · exact zN (by decide) (by decide) (by decide) rfl
      · exact zN (by decide) (by decide) (by decide) rfl
      · exact zN (by decide) (by decide) (by decide) rfl
      · exact k9 ha _) _
    generalize [A.getD i (0,1),A.getD i (0,1),B.getD i (0,1),(0,1),(1,1),(1,2),A.getD (n / 7 % (A.length:Int)).toNat (0,1)].getD (n % 7).toNat (0,1)=g at*
    have h5:atI [dF (A.getD i (0,1)),dF (A.getD i (0,1)),dF (B.getD i (0,1)),.tuple [.int 0,.int 1],.tuple [.int 1,.int 1],.tuple [.int 1,.int 2],dF (A.getD (n / 7 % (A.length:Int)).toNat (0,1))] (n % 7)=some (dF g):=h5
    have la:((A.map dF).length:Int)=(A.length:Int):=by simp
    have lw:(ws.map dF).length < 1000000:=by simp;lia
    refine⟨[some (.l (ds.map .int)),some rs,some (.l (ws.map dF)),some (.d (.int i)),v4,v5],[some (.l (d1.map .int)),some rs,some (.l ((ws++[g]).map dF)),some (.d (.int i)),some (.d (.int n)),some (.l [dF (A.getD i (0,1)),dF (A.getD i (0,1)),dF (B.getD i (0,1)),.tuple [.int 0,.int 1],.tuple [.int 1,.int 1],.tuple [.int 1,.int 2],dF (A.getD (n / 7 % (A.length:Int)).toNat (0,1))])],?_,?_,bu,.mk hd1 (by simp [hw]) (fun f hf=>by
      rcases List.mem_append.mp hf with hf | hf
      · exact pf f hf
      · rw [List.mem_singleton.mp hf];exact p5)⟩
    · rfl
    · rw [List.map_append]
      clear ha hb pf p5
      generalize dF (A.getD i (0,1))=a1 at*
      generalize dF (B.getD i (0,1))=b1 at*
      generalize dF (A.getD (n / 7 % (A.length:Int)).toNat (0,1))=a2 at*
      rw [show List.map dF [g]=[dF g] from rfl]
      generalize dF g=G at*
      generalize A.map dF=AA at*
      generalize B.map dF=BB at*
      generalize ws.map dF=WW at*
      rcases hr with rfl | rfl<;>simp? [gH,t1,h2,h3,h4,h5,la,gm,gd,gx,lw]) (MI.mk (ws:=[]) hd rfl (fun _ h=>by cases h))
  obtain⟨hd',hw,pf⟩:=hI
  rename_i ds' ws v3 v4 v5
  rw [Nat.zero_add,cw] at hw
  have hi:mv [some (.l (ds.map .int)),some rs,some (.l []),none,none,none]=some (be 0 ((A.length:Int)).toNat,[],[some (.l (ds.map .int)),some rs,some (.l []),none,none,none]):=ef (n:=(A.length:Int)) (by
    have la:((A.map dF).length:Int)=(A.length:Int):=by simp
    generalize A.map dF=AA at*
    rcases hr with rfl | rfl<;>simp? [la]) (by lia) (by lia)
  rw [Int.toNat_natCast] at hi
  have hg:=fun Wl=>cV (W:=Wl) (g:=af 3) (f:=gH) hi
  rw [h1] at hg
  refine⟨ds',.tuple (ws.map dF),?_,hd',ws,rfl,hw,pf⟩
  clear h1 hi
  generalize A.map dF=AA at*
  generalize B.map dF=BB at*
  generalize ws.map dF=WW at*
  rcases hr with rfl | rfl<;>simp? [fX,oR,hg]
abbrev iO(ns ds:List Int)(q:Int)(W:aM)(T:List Nd)(A B:List Fr)(v6 v7:Option Sv):En:=[some (.d (.list (ns.map .int))),some (.l (ds.map .int)),some (.d (.int q)),some (.d (br W)),some (.d (.tuple (T.map a8))),some (.l [.tuple (A.map dF),.tuple (B.map dF)]),v6,v7]
theorem yX{ns ds:List Int}{q:Int}{W:aM}{T:List Nd}{A B:List Fr}{v6 v7:Option Sv}(hd:ii ds)(hl:B.length=A.length)(hs:A.length≤1000)(ha:∀f∈A,PF f)(hb:∀f∈B,PF f):
    ∃(ds':List Int) (out:List PyData),ed [(1,"_law_drawn"),(5,"_law_papers")] 1 Fj (af 2) cz EQ (iO ns ds q W T A B v6 v7)=some (.l out,iO ns ds' q W T A B v6 v7)∧ii ds'∧out.length=5∧∀d∈out,uW A.length d:=by
  obtain⟨out,e',h1,h2,h3,⟨ds',v,he,hd'⟩⟩:=lM (g:=af 2) (ft:=cz) (fe:=EQ) (fun i e=>∃ds v,e=[some (.l (ds.map .int)),some (.l [.tuple (A.map dF),.tuple (B.map dF)]),v]∧ii ds) (uW A.length) (be 0 5) 0 [some (.l (ds.map .int)),some (.l [.tuple (A.map dF),.tuple (B.map dF)]),none] [] (fun i x e hx ⟨ds,v,he,hd⟩=>by
    subst he
    obtain⟨ds',d,tb,hd',sz⟩:=pM (.inl rfl) hd hl hs ha hb
    refine⟨_,.d d,d,_,rfl,rfl,?_,rfl,sz,ds',some (.d x),rfl,hd'⟩
    generalize A.map dF=O at*
    generalize B.map dF=O2 at*
    simp? [EQ,tb]) ⟨ds,none,rfl,hd⟩ (by rw [cw];simp)
  subst he
  refine⟨ds',out,?_,hd',by rw [h2,cw],h3⟩
  rw [List.nil_append] at h1
  rw [pP (cp:=[(1,"_law_drawn"),(5,"_law_papers")]) (nT:=1) (fi:=Fj) (e:=iO ns ds q W T A B v6 v7) (e1:=iO ns ds q W T A B v6 v7) (items:=be 0 5) rfl h1 rfl]
  refine congrArg (fun z=>some (Rv.l out,z)) ?_
  rcases v6 with _ | (_ | _ | _)<;>rcases v7 with _ | (_ | _ | _)<;>rfl
theorem yY{ns ds:List Int}{q:Int}{W:aM}{T:List Nd}{A B:List Fr}{v6 v7:Option Sv}(hd:ii ds)(hl:B.length=A.length)(hs:A.length≤1000)(ha:∀f∈A,PF f)(hb:∀f∈B,PF f):
    ∃(ds':List Int) (out:List PyData),ed [(1,"_law_drawn"),(5,"_law_papers")] 1 Fi (af 2) cz EO (iO ns ds q W T A B v6 v7)=some (.l out,iO ns ds' q W T A B v6 v7)∧ii ds'∧out.length=5∧∀d∈out,uW A.length d:=by
  obtain⟨out,e',h1,h2,h3,⟨ds',v,he,hd'⟩⟩:=lM (g:=af 2) (ft:=cz) (fe:=EO) (fun i e=>∃ds v,e=[some (.l (ds.map .int)),some (.l [.tuple (A.map dF),.tuple (B.map dF)]),v]∧ii ds) (uW A.length) (be 0 5) 0 [some (.l (ds.map .int)),some (.l [.tuple (A.map dF),.tuple (B.map dF)]),none] [] (fun i x e hx ⟨ds,v,he,hd⟩=>by
    subst he
    obtain⟨ds',d,tb,hd',sz⟩:=pM (.inr rfl) hd hl.symm (by lia) hb ha
    rw [hl] at sz
    refine⟨_,.d d,d,_,rfl,rfl,?_,rfl,sz,ds',some (.d x),rfl,hd'⟩
    have gr:∀(e:En),e[1]?=some (some (.l [.tuple (A.map dF),.tuple (B.map dF)]))→ES e (.s 1) (.d (.int (-1)))=some (.l [.tuple (B.map dF),.tuple (A.map dF)]):=fun e h=>by simp [ES,el,h]
    generalize A.map dF=O at*
    generalize B.map dF=O2 at*
    simp? [EO,EH,gr,tb]) ⟨ds,none,rfl,hd⟩ (by rw [cw];simp)
  subst he
  refine⟨ds',out,?_,hd',by rw [h2,cw],h3⟩
  rw [List.nil_append] at h1
  rw [pP (cp:=[(1,"_law_drawn"),(5,"_law_papers")]) (nT:=1) (fi:=Fi) (e:=iO ns ds q W T A B v6 v7) (e1:=iO ns ds q W T A B v6 v7) (items:=be 0 5) rfl h1 rfl]
  refine congrArg (fun z=>some (Rv.l out,z)) ?_
  rcases v6 with _ | (_ | _ | _)<;>rcases v7 with _ | (_ | _ | _)<;>rfl
inductive LI (ns:List Int):En→Prop
  | mk {ds v2 v3 v4 v5 v6 v7} (hd:ii ds):LI ns [some (.d (.list (ns.map .int))),some (.l (ds.map .int)),v2,v3,v4,v5,v6,v7]
theorem xf(ns:List Int)(hl:ns.length≤63):∃as',nF [.d (.list (ns.map .int))]=some (.d (.bool true),as'):=by
  obtain⟨ds,td,hd⟩:=Ar ns hl
  obtain⟨e2,h1,hI⟩:=c_ (own:=[]) (g:=af 2) (f:=EN) (fun _=>LI ns) (be 0 6) 0 [some (.d (.list (ns.map .int))),some (.l (ds.map .int)),none,none,none,none,none,none] (fun i x e hx hI=>by
    obtain⟨hd⟩:=hI
    rename_i ds v2 v3 v4 v5 v6 v7
    obtain⟨rfl,hi⟩:=dk hx
    generalize (0+(i:Int))=q at*
    have gq:∀e:En,a9 e (.d (.int q)) (.d (.int 2))=some (.d (.int (q % 2))):=fun e=>aT (by decide)
    have q0:0≤q % 2:=Int.emod_nonneg _ (by decide)
    have q1:q % 2 < 2:=Int.emod_lt_of_pos _ (by decide)
    obtain⟨z,hz,ha⟩:=jh (xs:=[PyData.int 2,.int 6]) (i:=q % 2) q0 (by simpa using q1)
    obtain⟨c,rfl,c0,c1⟩:∃c:Int,z=.int c∧0≤c∧c≤12:=by
      simp only [List.mem_cons,List.not_mem_nil,or_false] at hz
      rcases hz with rfl | rfl<;>exact⟨_,rfl,by decide,by decide⟩
    obtain⟨z,hz,hb⟩:=jh (xs:=[PyData.int 2,.int 5]) (i:=q % 2) q0 (by simpa using q1)
    obtain⟨k,rfl,k0,k1⟩:∃c:Int,z=.int c∧0≤c∧c≤16:=by
      simp only [List.mem_cons,List.not_mem_nil,or_false] at hz
      rcases hz with rfl | rfl<;>exact⟨_,rfl,by decide,by decide⟩
    obtain⟨W,d1,tw,hd1,ok,_,_⟩:=EE ds c k hd c0 c1 k0 k1
    obtain⟨n,d2,u1,n0,_,hd2⟩:=j6 hd1
    have gn:∀e:En,a9 e (.d (.int n)) (.d (.int 7))=some (.d (.int (n % 7))):=fun e=>aT (by decide)
    have r0:0≤n % 7:=Int.emod_nonneg _ (by decide)
    have r1:n % 7 < 7:=Int.emod_lt_of_pos _ (by decide)
    obtain⟨d3,T,S,tg,hd3,hT,lT,_⟩:=As ok (most:=1+n % 7) hd2 (by lia) (by lia)
    have lT:T.length≤400:=by lia
    have p1:=yr ok hT (by lia)
    have p2:=vR ok hT (by lia)
    have f1:=Dh ok hT (by lia)
    have f2:=CS ok hT
    have l1:(iZ W T T.length).length=T.length:=qM _
    have l2:(fg W T T.length).length=T.length:=li _
    generalize iZ W T T.length=A at*
    generalize fg W T T.length=B at*
    obtain⟨d4,o1,c1',hd4,s1,m1⟩:=yX (ns:=ns) (q:=q) (W:=W) (T:=T) (A:=A) (B:=B) (v6:=v6) (v7:=v7) hd3 (by lia) (by lia) f1 f2
    obtain⟨d5,o2,c2',hd5,s2,m2⟩:=yY (ns:=ns) (q:=q) (W:=W) (T:=T) (A:=A) (B:=B) (v6:=some (.l ([.tuple (A.map dF),.tuple (B.map dF)]++o1))) (v7:=v7) hd4 (by lia) (by lia) f1 f2
    have sall:∀d∈[.tuple (A.map dF),.tuple (B.map dF)]++o1++o2,uW T.length d:=fun d h=>by
      rw [l1] at m1 m2
      rcases List.mem_append.mp h with h | h
      · rcases List.mem_append.mp h with h | h
        · simp only [List.mem_cons,List.not_mem_nil,or_false] at h
          rcases h with rfl | rfl
          · exact⟨A,rfl,l1,f1⟩
          · exact⟨B,rfl,l2,f2⟩
        · exact m1 d h
      · exact m2 d h
    have ca5:∀(e:En) (xs ys:List PyData),e[5]?=some (some (.l xs))→xs.length+ys.length≤1000000→cy e (.s 5) (.l ys)=some (.l (xs++ys)):=fun e xs ys he h=>ui he h
    have ca6:∀(e:En) (xs ys:List PyData),e[6]?=some (some (.l xs))→xs.length+ys.length≤1000000→cy e (.s 6) (.l ys)=some (.l (xs++ys)):=fun e xs ys he h=>ui he h
    have lo0:[PyData.tuple (A.map dF),.tuple (B.map dF)].length≤1000:=by simp
    have lo1:[PyData.tuple (A.map dF),.tuple (B.map dF)].length+o1.length≤1000000:=by simp;lia
    have lo2:([PyData.tuple (A.map dF),.tuple (B.map dF)]++o1).length+o2.length≤1000000:=by simp;lia
    generalize hT2:[PyData.tuple (A.map dF),.tuple (B.map dF)]++o1++o2=T2 at*
    obtain⟨e3,h3,⟨w7,he3⟩⟩:=c_ (own:=[(6,T2)]) (g:=af 7) (f:=EM) (fun i e=>∃v7,e=iO ns d5 q W T A B (some (.l T2)) v7) T2 0 (iO ns d5 q W T A B (some (.l T2)) v7) (fun i x e hx ⟨v7,he⟩=>by
      subst he
      obtain⟨ws,rfl,wl,pf⟩:=sall x (List.mem_of_getElem? hx)
      have r1:=C9 ok hT (by lia) wl pf
      have r2:=C8 ok hT (by lia) wl pf
      have r3:=C5 ok hT (by lia) wl pf
      have r4:=C4 ok hT (by lia) wl pf
      have y1:=yx ((bV (T.map a8) (ws.map dF)).all (vB W ws)) ((bV (T.map a8) (ws.map dF)).all (vB W ws))
      have y2:=yx (zB ws&&(bV (T.map a8) (ws.map dF)).all fun x=>(fB W ws x).all id) (zB ws&&(bV (T.map a8) (ws.map dF)).all fun x=>(fB W ws x).all id)
      rw [beq_self_eq_true] at y1 y2
      generalize (bV (T.map a8) (ws.map dF)).all (vB W ws)=b1 at*
      generalize (zB ws&&(bV (T.map a8) (ws.map dF)).all fun x=>(fB W ws x).all id)=b2 at*
      refine⟨iO ns d5 q W T A B (some (.l T2)) (some (.d (.tuple (ws.map dF)))),iO ns d5 q W T A B (some (.l T2)) (some (.d (.tuple (ws.map dF)))),rfl,?_,fun p hp=>by simp at hp;subst hp;rfl,_,rfl⟩
      simp only [iO]
      generalize T.map a8=TT at*
      generalize ws.map dF=PP at*
      simp? [EM,r1,r2,r3,r4,y1,y2]) ⟨v7,rfl⟩
    subst he3
    have hf:de [7] Fh (af 7) EM (iO ns d5 q W T A B (some (.l T2)) v7)=some (.nx (iO ns d5 q W T A B (some (.l T2)) w7)):=by
      unfold de
      rw [show Fh (iO ns d5 q W T A B (some (.l T2)) v7)=some (T2,[(6,T2)],iO ns d5 q W T A B (some (.l T2)) v7) from rfl]
      exact h3
    refine⟨[some (.d (.list (ns.map .int))),some (.l (ds.map .int)),some (.d (.int q)),v3,v4,v5,v6,v7],iO ns d5 q W T A B (some (.l T2)) w7,rfl,?_,bu,.mk hd5⟩
    simp only [iO] at c1' c2' hf ⊢
    clear sall f1 f2 m1 m2
    generalize T.map a8=TT at*
    generalize A.map dF=AA at*
    generalize B.map dF=BB at*
    generalize hP:[PyData.tuple AA,PyData.tuple BB]=PP at*
    generalize hP1:PP++o1=P1 at*
    simp? [EN,tw,u1,gn,gq,ha,hb,tg,p1,p2,hP,lo0,c1',ca5,lo1,hP1,c2',ca6,lo2,hT2,hf]) (.mk hd)
  obtain⟨hd2⟩:=hI
  rename_i ds2 v2 v3 v4 v5 v6 v7
  have hfor:∀Wl,de Wl Gb (af 2) EN [some (.d (.list (ns.map .int))),some (.l (ds.map .int)),none,none,none,none,none,none]=some (.nx [some (.d (.list (ns.map .int))),some (.l (ds2.map .int)),v2,v3,v4,v5,v6,v7]):=fun Wl=>by
    rw [cV (items:=be 0 6) (e1:=[some (.d (.list (ns.map .int))),some (.l (ds.map .int)),none,none,none,none,none,none]) rfl]
    exact h1
  simp? [nF,AS,td,hfor]
def kE(P:Params)(k:Str)(t:Tok)(v:Value):DictEntry:=⟨PyData.keyHash P k,.str k t,v⟩
def kF(n:Str)(s:Stmt)(doc pm:Value)(c:Addr):Obj:=⟨.type "function",none,.func (W.fnOf n n (dM s) (cR s) (am s) .none .none doc pm none (.ref c) .none),#[]⟩
def kI(n:Int):Value:=.int n 0
def kC(n:Str)(a:Nat)(l:List Value)(z:Nat):Obj:=⟨.type "code",none,.fields (Value.str n a::Value.str n (a+1)::Value.str "/claim/cut.py" (a+2)::l++[Value.str "/claim/cut.py" z]).toArray,#[]⟩
def kT(l:List Value)(n:Nat):Obj:=⟨.type "tuple",none,.seq l.toArray n,#[]⟩
def yO:Value:=.str "askedpairs.fractions" 187
def A7:Value:=.str "askedpairs.forms" 235
def we:Value:=.str "askedpairs.worthpaper" 270
def e_:Value:=.str "law_askedpairs_k19_papers_made_up" 321
def kK(P:Params):W.Frag:=[(3,⟨.type "dict",none,.dict (List.toArray [kE P "__name__" 165 (.str "law_askedpairs_k19_papers_made_up" 321),kE P "__doc__" 166 (.none),kE P "__package__" 167 (.none),kE P "__loader__" 168 (.builtin "__main__.__loader__#opaque"),kE P "__spec__" 169 (.none),kE P "__annotations__" 170 (.ref 6),kE P "__builtins__" 171 (.ref 4),kE P "__file__" 173 (.str "/claim/cut.py" 172),kE P "__cached__" 174 (.none),kE P "ZERO" 191 (.ref 15),kE P "ONE" 194 (.ref 16),kE P "common_divisor" 202 (.ref 23),kE P "lowest" 211 (.ref 30),kE P "plus" 219 (.ref 37),kE P "times" 227 (.ref 44),kE P "one_less" 234 (.ref 51),kE P "is_number" 243 (.ref 58),kE P "is_row_of" 251 (.ref 65),kE P "is_fraction" 260 (.ref 72),kE P "is_fraction_row" 266 (.ref 77),kE P "END" 269 (.int (-1) 268),kE P "ask_worth" 282 (.ref 84),kE P "link_worth" 290 (.ref 91),kE P "node_worth" 302 (.ref 98),kE P "ways_on" 308 (.ref 103),kE P "worths_hold" 314 (.ref 108),kE P "reaches_hold" 320 (.ref 113),kE P "_law_mixed" 331 (.ref 120),kE P "_law_draws" 342 (.ref 127),kE P "_law_next" 349 (.ref 134),kE P "_law_gcd" 357 (.ref 141),kE P "_law_low" 366 (.ref 148),kE P "_law_plus" 374 (.ref 155),kE P "_law_times" 382 (.ref 162),kE P "_law_rest" 389 (.ref 169),kE P "_law_says" 397 (.ref 176),kE P "_law_chance" 406 (.ref 183),kE P "_law_worth" 414 (.ref 190),kE P "_law_ties" 433 (.ref 197),kE P "_law_web" 449 (.ref 204),kE P "_law_asks_of" 455 (.ref 209),kE P "_law_may" 467 (.ref 216),kE P "_law_behind" 480 (.ref 223),kE P "_law_askable" 486 (.ref 228),kE P "_law_grown" 492 (.ref 233),kE P "_law_worths" 508 (.ref 240),kE P "_law_reaches" 525 (.ref 247),kE P "_law_made_up" 537 (.ref 254),kE P "_law_told_at" 545 (.ref 261),kE P "_law_worths_fit" 562 (.ref 268),kE P "_law_reaches_fit" 579 (.ref 275),kE P "law" 585 (.ref 280)]) 52,#[]⟩),
  (23,kF "common_divisor" ce (.none) yO 22),
  (22,kC "common_divisor" 195 [kI 4,kI 2,kI 0,kI 0,kI 3,.ref 17,.bool true,kI 181,.ref 18,.none,.ref 19,.ref 20,.ref 21,kI 200,kI 4] 201),
  (30,kF "lowest" eW (.none) yO 29),
  (29,kC "lowest" 203 [kI 8,kI 2,kI 0,kI 0,kI 3,.ref 24,.bool true,kI 181,.ref 25,.none,.ref 26,.ref 27,.ref 28,kI 209,kI 8] 210),
  (37,kF "plus" nW (.none) yO 36),
  (36,kC "plus" 212 [kI 13,kI 2,kI 0,kI 0,kI 3,.ref 31,.bool true,kI 181,.ref 32,.none,.ref 33,.ref 34,.ref 35,kI 217,kI 13] 218),
  (44,kF "times" jZ (.none) yO 43),
  (43,kC "times" 220 [kI 15,kI 2,kI 0,kI 0,kI 3,.ref 38,.bool true,kI 181,.ref 39,.none,.ref 40,.ref 41,.ref 42,kI 225,kI 15] 226),
  (51,kF "one_less" ek (.none) yO 50),
  (50,kC "one_less" 228 [kI 17,kI 1,kI 0,kI 0,kI 3,.ref 45,.bool true,kI 181,.ref 46,.none,.ref 47,.ref 48,.ref 49,kI 232,kI 17] 233),
  (58,kF "is_number" eV (.none) A7 57),
  (57,kC "is_number" 237 [kI 20,kI 1,kI 0,kI 0,kI 3,.ref 52,.bool true,kI 181,.ref 53,.none,.ref 54,.ref 55,.ref 56,kI 241,kI 20] 242),
  (65,kF "is_row_of" dA (.none) A7 64),
  (64,kC "is_row_of" 244 [kI 22,kI 2,kI 0,kI 0,kI 3,.ref 59,.bool true,kI 181,.ref 60,.none,.ref 61,.ref 62,.ref 63,kI 249,kI 22] 250),
  (72,kF "is_fraction" dg (.none) A7 71),
  (71,kC "is_fraction" 252 [kI 24,kI 1,kI 0,kI 0,kI 3,.ref 66,.bool true,kI 181,.ref 67,.none,.ref 68,.ref 69,.ref 70,kI 258,kI 24] 259),
  (77,kF "is_fraction_row" bi (.none) A7 76),
  (76,kC "is_fraction_row" 261 [kI 31,kI 2,kI 0,kI 0,kI 3,.ref 73,.bool true,kI 181,.ref 74,.none,.none,.none,.ref 75,kI 264,kI 31] 265),
  (84,kF "ask_worth" eU (.none) we 83),
  (83,kC "ask_worth" 272 [kI 35,kI 3,kI 0,kI 0,kI 3,.ref 78,.bool true,kI 181,.ref 79,.none,.ref 80,.ref 81,.ref 82,kI 280,kI 35] 281),
  (91,kF "link_worth" dW (.none) we 90),
  (90,kC "link_worth" 283 [kI 38,kI 2,kI 0,kI 0,kI 3,.ref 85,.bool true,kI 181,.ref 86,.none,.ref 87,.ref 88,.ref 89,kI 288,kI 38] 289),
  (98,kF "node_worth" dX (.none) we 97),
  (97,kC "node_worth" 291 [kI 40,kI 3,kI 0,kI 0,kI 3,.ref 92,.bool true,kI 181,.ref 93,.none,.ref 94,.ref 95,.ref 96,kI 300,kI 40] 301),
  (103,kF "ways_on" gc (.none) we 102),
  (102,kC "ways_on" 303 [kI 43,kI 2,kI 0,kI 0,kI 3,.ref 99,.bool true,kI 181,.ref 100,.none,.none,.none,.ref 101,kI 306,kI 43] 307),
  (108,kF "worths_hold" cC (.none) we 107),
  (107,kC "worths_hold" 309 [kI 47,kI 3,kI 0,kI 0,kI 3,.ref 104,.bool true,kI 181,.ref 105,.none,.none,.none,.ref 106,kI 312,kI 47] 313),
  (113,kF "reaches_hold" cf (.none) we 112),
  (112,kC "reaches_hold" 315 [kI 51,kI 3,kI 0,kI 0,kI 3,.ref 109,.bool true,kI 181,.ref 110,.none,.none,.none,.ref 111,kI 318,kI 51] 319),
  (120,kF "_law_mixed" lq (.none) e_ 119),
  (119,kC "_law_mixed" 323 [kI 58,kI 2,kI 0,kI 0,kI 3,.ref 114,.bool true,kI 181,.ref 115,.none,.ref 116,.ref 117,.ref 118,kI 329,kI 58] 330),
  (127,kF "_law_draws" lm (.none) e_ 126),
  (126,kC "_law_draws" 332 [kI 61,kI 1,kI 0,kI 0,kI 3,.ref 121,.bool true,kI 181,.ref 122,.none,.ref 123,.ref 124,.ref 125,kI 340,kI 61] 341),
  (134,kF "_law_next" iU (.none) e_ 133),
  (133,kC "_law_next" 343 [kI 74,kI 1,kI 0,kI 0,kI 3,.ref 128,.bool true,kI 181,.ref 129,.none,.ref 130,.ref 131,.ref 132,kI 347,kI 74] 348),
  (141,kF "_law_gcd" rM (.none) e_ 140),
  (140,kC "_law_gcd" 350 [kI 78,kI 2,kI 0,kI 0,kI 3,.ref 135,.bool true,kI 181,.ref 136,.none,.ref 137,.ref 138,.ref 139,kI 355,kI 78] 356),
  (148,kF "_law_low" nS (.none) e_ 147),
  (147,kC "_law_low" 358 [kI 82,kI 2,kI 0,kI 0,kI 3,.ref 142,.bool true,kI 181,.ref 143,.none,.ref 144,.ref 145,.ref 146,kI 364,kI 82] 365),
  (155,kF "_law_plus" lX (.none) e_ 154),
  (154,kC "_law_plus" 367 [kI 85,kI 2,kI 0,kI 0,kI 3,.ref 149,.bool true,kI 181,.ref 150,.none,.ref 151,.ref 152,.ref 153,kI 372,kI 85] 373),
  (162,kF "_law_times" gX (.none) e_ 161),
  (161,kC "_law_times" 375 [kI 87,kI 2,kI 0,kI 0,kI 3,.ref 156,.bool true,kI 181,.ref 157,.none,.ref 158,.ref 159,.ref 160,kI 380,kI 87] 381),
  (169,kF "_law_rest" jD (.none) e_ 168),
  (168,kC "_law_rest" 383 [kI 89,kI 1,kI 0,kI 0,kI 3,.ref 163,.bool true,kI 181,.ref 164,.none,.ref 165,.ref 166,.ref 167,kI 387,kI 89] 388),
  (176,kF "_law_says" nU (.none) e_ 175),
  (175,kC "_law_says" 390 [kI 91,kI 2,kI 0,kI 0,kI 3,.ref 170,.bool true,kI 181,.ref 171,.none,.ref 172,.ref 173,.ref 174,kI 395,kI 91] 396),
  (183,kF "_law_chance" jC (.none) e_ 182),
  (182,kC "_law_chance" 398 [kI 95,kI 2,kI 0,kI 0,kI 3,.ref 177,.bool true,kI 181,.ref 178,.none,.ref 179,.ref 180,.ref 181,kI 404,kI 95] 405),
  (190,kF "_law_worth" ls (.none) e_ 189),
  (189,kC "_law_worth" 407 [kI 105,kI 2,kI 0,kI 0,kI 3,.ref 184,.bool true,kI 181,.ref 185,.none,.ref 186,.ref 187,.ref 188,kI 412,kI 105] 413),
  (197,kF "_law_ties" nV (.none) e_ 196),
  (196,kC "_law_ties" 415 [kI 107,kI 3,kI 0,kI 0,kI 3,.ref 191,.bool true,kI 181,.ref 192,.none,.ref 193,.ref 194,.ref 195,kI 431,kI 107] 432),
  (204,kF "_law_web" rO (.none) e_ 203),
  (203,kC "_law_web" 434 [kI 122,kI 3,kI 0,kI 0,kI 3,.ref 198,.bool true,kI 181,.ref 199,.none,.ref 200,.ref 201,.ref 202,kI 447,kI 122] 448),
  (209,kF "_law_asks_of" gb (.none) e_ 208),
  (208,kC "_law_asks_of" 450 [kI 132,kI 3,kI 0,kI 0,kI 3,.ref 205,.bool true,kI 181,.ref 206,.none,.none,.none,.ref 207,kI 453,kI 132] 454),
  (216,kF "_law_may" rN (.none) e_ 215),
  (215,kC "_law_may" 456 [kI 134,kI 3,kI 0,kI 0,kI 3,.ref 210,.bool true,kI 181,.ref 211,.none,.ref 212,.ref 213,.ref 214,kI 465,kI 134] 466),
  (223,kF "_law_behind" jB (.none) e_ 222),
  (222,kC "_law_behind" 468 [kI 142,kI 4,kI 0,kI 0,kI 3,.ref 217,.bool true,kI 181,.ref 218,.none,.ref 219,.ref 220,.ref 221,kI 478,kI 142] 479),
  (228,kF "_law_askable" f_ (.none) e_ 227),
  (227,kC "_law_askable" 481 [kI 148,kI 2,kI 0,kI 0,kI 3,.ref 224,.bool true,kI 181,.ref 225,.none,.none,.none,.ref 226,kI 484,kI 148] 485),
  (233,kF "_law_grown" jY (.none) e_ 232),
  (232,kC "_law_grown" 487 [kI 150,kI 3,kI 0,kI 0,kI 3,.ref 229,.bool true,kI 181,.ref 230,.none,.none,.none,.ref 231,kI 490,kI 150] 491),
  (240,kF "_law_worths" jE (.none) e_ 239),
  (239,kC "_law_worths" 493 [kI 165,kI 2,kI 0,kI 0,kI 3,.ref 234,.bool true,kI 181,.ref 235,.none,.ref 236,.ref 237,.ref 238,kI 506,kI 165] 507),
  (247,kF "_law_reaches" iw (.none) e_ 246),
  (246,kC "_law_reaches" 509 [kI 173,kI 2,kI 0,kI 0,kI 3,.ref 241,.bool true,kI 181,.ref 242,.none,.ref 243,.ref 244,.ref 245,kI 523,kI 173] 524),
  (254,kF "_law_made_up" iu (.none) e_ 253),
  (253,kC "_law_made_up" 526 [kI 182,kI 2,kI 0,kI 0,kI 3,.ref 248,.bool true,kI 181,.ref 249,.none,.ref 250,.ref 251,.ref 252,kI 535,kI 182] 536),
  (261,kF "_law_told_at" ix (.none) e_ 260),
  (260,kC "_law_told_at" 538 [kI 189,kI 2,kI 0,kI 0,kI 3,.ref 255,.bool true,kI 181,.ref 256,.none,.ref 257,.ref 258,.ref 259,kI 543,kI 189] 544),
  (268,kF "_law_worths_fit" dU (.none) e_ 267),
  (267,kC "_law_worths_fit" 546 [kI 191,kI 3,kI 0,kI 0,kI 3,.ref 262,.bool true,kI 181,.ref 263,.none,.ref 264,.ref 265,.ref 266,kI 560,kI 191] 561),
  (275,kF "_law_reaches_fit" df (.none) e_ 274),
  (274,kC "_law_reaches_fit" 563 [kI 199,kI 3,kI 0,kI 0,kI 3,.ref 269,.bool true,kI 181,.ref 270,.none,.ref 271,.ref 272,.ref 273,kI 577,kI 199] 578),
  (280,kF "law" lu (.none) e_ 279),
  (279,kC "law" 580 [kI 207,kI 1,kI 0,kI 0,kI 3,.ref 276,.bool true,kI 181,.ref 277,.none,.none,.none,.ref 278,kI 583,kI 207] 584),
  (15,kT [.int (0) 189,.int (1) 190] 0),
  (16,kT [.int (1) 192,.int (1) 193] 0)]
def kA:List Addr:=[3,23,22,30,29,37,36,44,43,51,50,58,57,65,64,72,71,77,76,84,83,91,90,98,97,103,102,108,107,113,112,120,119,127,126,134,133,141,140,148,147,155,154,162,161,169,168,176,175,183,182,190,189,197,196,204,203,209,208,216,215,223,222,228,227,233,232,240,239,247,246,254,253,261,260,268,267,275,274,280,279,15,16]
def kq:Program:={PySem.Challenge.pw_askedpairs_k19_papers_made_up with main:={PySem.Challenge.pw_askedpairs_k19_papers_made_up.main with body:=[top 1,top 2,top 3,top 4,top 5,top 6,top 7,top 9,top 10,top 11,top 12,top 13,top 15,top 16,top 17,top 18,top 19,top 20,top 22,top 23,top 24,top 25,top 26,top 27,top 28,top 29,top 30,top 31,top 32,top 33,top 34,top 35,top 36,top 37,top 38,top 39,top 40,top 41,top 42,top 43,top 44,top 45,top 46]}}
def kH:W.Hook:=W.kHook kK kA (fun _=>by kernel_rfl)
theorem left:W.LeftO PySem.Challenge.pw_askedpairs_k19_papers_made_up kq [] (fun s=>W.xlAt kq [] s&&W.recOk (W.RowW.records (W.OpenRow.toRowW (W.OpenLaw.row PySem.Challenge.rw_askedpairs_k19_papers_made_up))) s) (W.Hook.obs kH) (W.Hook.val kH) 2766:=fun w=>by kernel_rfl
theorem BX{P:List Value→Prop}(h:∀a0,P [a0]):∀us:List Value,us.length=1→P us:=fun us e=>match us,e with | [a0],_=>h a0
theorem oG{P:List Value→Prop}(h:∀a0 a1,P [a0,a1]):∀us:List Value,us.length=2→P us:=fun us e=>match us,e with | [a0,a1],_=>h a0 a1
theorem xj{P:List Value→Prop}(h:∀a0 a1 a2,P [a0,a1,a2]):∀us:List Value,us.length=3→P us:=fun us e=>match us,e with | [a0,a1,a2],_=>h a0 a1 a2
theorem Gp{P:List Value→Prop}(h:∀a0 a1 a2 a3,P [a0,a1,a2,a3]):∀us:List Value,us.length=4→P us:=fun us e=>match us,e with | [a0,a1,a2,a3],_=>h a0 a1 a2 a3
theorem hm{w:World}{h:Heap}{mg:Str→Option Value}{n:Str}{s:Stmt}{a:Addr}{ps:List Str}(c:Addr)(d p:Value)(X:(kK w.params).In h)(G:h.Ns mainGlobals mg)
    (e:(W.nsIn (kK w.params) mainGlobals n,List.lookup a (kK w.params),W.codeIn (kK w.params) (.ref c) n,W.keepIn (kK w.params) (.ref a))=(some (some (.ref a)),some (kF n s d p c),true,true))
    (b:∀(kV doc pm:Value) (an:Option Addr) (cdv ct:Value) (us:List Value),us.length=ps.length→bindArgs (W.fnOf n n (dM s) (cR s) (am s) .none kV doc pm an cdv ct) ⟨us,[]⟩=pure (ps.zip us)):
    aV (kK w.params) mg n s a (W.fnOf n n (dM s) (cR s) (am s) .none .none d p none (.ref c) .none) ps:=BH X G (congrArg (·.1) e) (congrArg (·.2.1) e) (congrArg (·.2.2.1) e) (congrArg (·.2.2.2) e) b
theorem all_mk{l:W.OpenLaw}{w:World}{h:Heap}{mg:Str→Option Value}{fa:Addr}(X:(kK w.params).In h)(G:h.Ns mainGlobals mg)(hfa:mg "law"=some (.ref fa)):
    ∃fd:FuncData,(∀(s:Shared) (v:Value),BindsTo s fd ⟨[v],[]⟩ [("_law_script",v)])∧∀base:Heap,(kK w.params).In base→base.Ns mainGlobals mg→aC l.prog w (kK w.params) mg base bv 7 fa fd ["_law_script"] (bA (kK w.params) 1 nF):=by
  have e:=hfa.symm.trans (W.mg_of X G (show W.nsIn (kK w.params) mainGlobals "law"=some (some (.ref 280)) by kernel_rfl))
  cases e
  have T:h_ mg:=⟨W.mg_none_of X G (show W.nsIn (kK w.params) mainGlobals "abs"=some none by kernel_rfl),W.mg_none_of X G (show W.nsIn (kK w.params) mainGlobals "len"=some none by kernel_rfl),W.mg_none_of X G (show W.nsIn (kK w.params) mainGlobals "min"=some none by kernel_rfl),W.mg_none_of X G (show W.nsIn (kK w.params) mainGlobals "max"=some none by kernel_rfl),W.mg_none_of X G (show W.nsIn (kK w.params) mainGlobals "range"=some none by kernel_rfl),W.mg_none_of X G (show W.nsIn (kK w.params) mainGlobals "tuple"=some none by kernel_rfl),W.mg_none_of X G (show W.nsIn (kK w.params) mainGlobals "int"=some none by kernel_rfl),W.mg_none_of X G (show W.nsIn (kK w.params) mainGlobals "sorted"=some none by kernel_rfl),W.mg_none_of X G (show W.nsIn (kK w.params) mainGlobals "zip"=some none by kernel_rfl),W.mg_none_of X G (show W.nsIn (kK w.params) mainGlobals "enumerate"=some none by kernel_rfl),W.mg_none_of X G (show W.nsIn (kK w.params) mainGlobals "isinstance"=some none by kernel_rfl),W.mg_none_of X G (show W.nsIn (kK w.params) mainGlobals "bool"=some none by kernel_rfl),W.mg_none_of X G (show W.nsIn (kK w.params) mainGlobals "all"=some none by kernel_rfl)⟩
  have h_common_divisor:aV (kK w.params) mg "common_divisor" ce 23 _ ["one","other"]:=hm 22 (.none) yO X G (by kernel_rfl) fun _ _ _ _ _ _=>oG fun _ _=>rfl
  have h_lowest:aV (kK w.params) mg "lowest" eW 30 _ ["top","bottom"]:=hm 29 (.none) yO X G (by kernel_rfl) fun _ _ _ _ _ _=>oG fun _ _=>rfl
  have h_plus:aV (kK w.params) mg "plus" nW 37 _ ["one","other"]:=hm 36 (.none) yO X G (by kernel_rfl) fun _ _ _ _ _ _=>oG fun _ _=>rfl
  have h_times:aV (kK w.params) mg "times" jZ 44 _ ["one","other"]:=hm 43 (.none) yO X G (by kernel_rfl) fun _ _ _ _ _ _=>oG fun _ _=>rfl
  have h_one_less:aV (kK w.params) mg "one_less" ek 51 _ ["chance"]:=hm 50 (.none) yO X G (by kernel_rfl) fun _ _ _ _ _ _=>BX fun _=>rfl
  have h_is_number:aV (kK w.params) mg "is_number" eV 58 _ ["thing"]:=hm 57 (.none) A7 X G (by kernel_rfl) fun _ _ _ _ _ _=>BX fun _=>rfl
  have h_is_row_of:aV (kK w.params) mg "is_row_of" dA 65 _ ["thing","many"]:=hm 64 (.none) A7 X G (by kernel_rfl) fun _ _ _ _ _ _=>oG fun _ _=>rfl
  have h_is_fraction:aV (kK w.params) mg "is_fraction" dg 72 _ ["thing"]:=hm 71 (.none) A7 X G (by kernel_rfl) fun _ _ _ _ _ _=>BX fun _=>rfl
  have h_is_fraction_row:aV (kK w.params) mg "is_fraction_row" bi 77 _ ["thing","many"]:=hm 76 (.none) A7 X G (by kernel_rfl) fun _ _ _ _ _ _=>oG fun _ _=>rfl
  have h_ask_worth:aV (kK w.params) mg "ask_worth" eU 84 _ ["tie","yes","no"]:=hm 83 (.none) we X G (by kernel_rfl) fun _ _ _ _ _ _=>xj fun _ _ _=>rfl
  have h_link_worth:aV (kK w.params) mg "link_worth" dW 91 _ ["worths","link"]:=hm 90 (.none) we X G (by kernel_rfl) fun _ _ _ _ _ _=>oG fun _ _=>rfl
  have h_node_worth:aV (kK w.params) mg "node_worth" dX 98 _ ["web","node","worths"]:=hm 97 (.none) we X G (by kernel_rfl) fun _ _ _ _ _ _=>xj fun _ _ _=>rfl
  have h_ways_on:aV (kK w.params) mg "ways_on" gc 103 _ ["web","node"]:=hm 102 (.none) we X G (by kernel_rfl) fun _ _ _ _ _ _=>oG fun _ _=>rfl
  have h_worths_hold:aV (kK w.params) mg "worths_hold" cC 108 _ ["web","tree","thing"]:=hm 107 (.none) we X G (by kernel_rfl) fun _ _ _ _ _ _=>xj fun _ _ _=>rfl
  have h_reaches_hold:aV (kK w.params) mg "reaches_hold" cf 113 _ ["web","tree","thing"]:=hm 112 (.none) we X G (by kernel_rfl) fun _ _ _ _ _ _=>xj fun _ _ _=>rfl
  have hLmixed:aV (kK w.params) mg "_law_mixed" lq 120 _ ["_law_cell","_law_k"]:=hm 119 (.none) e_ X G (by kernel_rfl) fun _ _ _ _ _ _=>oG fun _ _=>rfl
  have hLdraws:aV (kK w.params) mg "_law_draws" lm 127 _ ["_law_script"]:=hm 126 (.none) e_ X G (by kernel_rfl) fun _ _ _ _ _ _=>BX fun _=>rfl
  have hLnext:aV (kK w.params) mg "_law_next" iU 134 _ ["_law_drawn"]:=hm 133 (.none) e_ X G (by kernel_rfl) fun _ _ _ _ _ _=>BX fun _=>rfl
  have hLgcd:aV (kK w.params) mg "_law_gcd" rM 141 _ ["_law_one","_law_other"]:=hm 140 (.none) e_ X G (by kernel_rfl) fun _ _ _ _ _ _=>oG fun _ _=>rfl
  have hLlow:aV (kK w.params) mg "_law_low" nS 148 _ ["_law_top","_law_bottom"]:=hm 147 (.none) e_ X G (by kernel_rfl) fun _ _ _ _ _ _=>oG fun _ _=>rfl
  have hLplus:aV (kK w.params) mg "_law_plus" lX 155 _ ["_law_one","_law_other"]:=hm 154 (.none) e_ X G (by kernel_rfl) fun _ _ _ _ _ _=>oG fun _ _=>rfl
  have hLtimes:aV (kK w.params) mg "_law_times" gX 162 _ ["_law_one","_law_other"]:=hm 161 (.none) e_ X G (by kernel_rfl) fun _ _ _ _ _ _=>oG fun _ _=>rfl
  have hLrest:aV (kK w.params) mg "_law_rest" jD 169 _ ["_law_one"]:=hm 168 (.none) e_ X G (by kernel_rfl) fun _ _ _ _ _ _=>BX fun _=>rfl
  have hLsays:aV (kK w.params) mg "_law_says" nU 176 _ ["_law_found","_law_due"]:=hm 175 (.none) e_ X G (by kernel_rfl) fun _ _ _ _ _ _=>oG fun _ _=>rfl
  have hLchance:aV (kK w.params) mg "_law_chance" jC 183 _ ["_law_number","_law_kind"]:=hm 182 (.none) e_ X G (by kernel_rfl) fun _ _ _ _ _ _=>oG fun _ _=>rfl
  have hLworth:aV (kK w.params) mg "_law_worth" ls 190 _ ["_law_number","_law_kind"]:=hm 189 (.none) e_ X G (by kernel_rfl) fun _ _ _ _ _ _=>oG fun _ _=>rfl
  have hLties:aV (kK w.params) mg "_law_ties" nV 197 _ ["_law_drawn","_law_things","_law_many"]:=hm 196 (.none) e_ X G (by kernel_rfl) fun _ _ _ _ _ _=>xj fun _ _ _=>rfl
  have hLweb:aV (kK w.params) mg "_law_web" rO 204 _ ["_law_drawn","_law_most","_law_ties_here"]:=hm 203 (.none) e_ X G (by kernel_rfl) fun _ _ _ _ _ _=>xj fun _ _ _=>rfl
  have hLasks_of:aV (kK w.params) mg "_law_asks_of" gb 209 _ ["_law_web_here","_law_asked","_law_thing"]:=hm 208 (.none) e_ X G (by kernel_rfl) fun _ _ _ _ _ _=>xj fun _ _ _=>rfl
  have hLmay:aV (kK w.params) mg "_law_may" rN 216 _ ["_law_web_here","_law_stand","_law_tie"]:=hm 215 (.none) e_ X G (by kernel_rfl) fun _ _ _ _ _ _=>xj fun _ _ _=>rfl
  have hLbehind:aV (kK w.params) mg "_law_behind" jB 223 _ ["_law_web_here","_law_stand","_law_tie","_law_truth"]:=hm 222 (.none) e_ X G (by kernel_rfl) fun _ _ _ _ _ _=>Gp fun _ _ _ _=>rfl
  have hLaskable:aV (kK w.params) mg "_law_askable" f_ 228 _ ["_law_web_here","_law_stand"]:=hm 227 (.none) e_ X G (by kernel_rfl) fun _ _ _ _ _ _=>oG fun _ _=>rfl
  have hLgrown:aV (kK w.params) mg "_law_grown" jY 233 _ ["_law_drawn","_law_web_here","_law_most"]:=hm 232 (.none) e_ X G (by kernel_rfl) fun _ _ _ _ _ _=>xj fun _ _ _=>rfl
  have hLworths:aV (kK w.params) mg "_law_worths" jE 240 _ ["_law_web_here","_law_tree"]:=hm 239 (.none) e_ X G (by kernel_rfl) fun _ _ _ _ _ _=>oG fun _ _=>rfl
  have hLreaches:aV (kK w.params) mg "_law_reaches" iw 247 _ ["_law_web_here","_law_tree"]:=hm 246 (.none) e_ X G (by kernel_rfl) fun _ _ _ _ _ _=>oG fun _ _=>rfl
  have hLmade_up:aV (kK w.params) mg "_law_made_up" iu 254 _ ["_law_drawn","_law_rows"]:=hm 253 (.none) e_ X G (by kernel_rfl) fun _ _ _ _ _ _=>oG fun _ _=>rfl
  have hLtold_at:aV (kK w.params) mg "_law_told_at" ix 261 _ ["_law_row","_law_at"]:=hm 260 (.none) e_ X G (by kernel_rfl) fun _ _ _ _ _ _=>oG fun _ _=>rfl
  have hLworths_fit:aV (kK w.params) mg "_law_worths_fit" dU 268 _ ["_law_web_here","_law_tree","_law_row"]:=hm 267 (.none) e_ X G (by kernel_rfl) fun _ _ _ _ _ _=>xj fun _ _ _=>rfl
  have hLreaches_fit:aV (kK w.params) mg "_law_reaches_fit" df 275 _ ["_law_web_here","_law_tree","_law_row"]:=hm 274 (.none) e_ X G (by kernel_rfl) fun _ _ _ _ _ _=>xj fun _ _ _=>rfl
  have h_law:aV (kK w.params) mg "law" lu 280 _ ["_law_script"]:=hm 279 (.none) e_ X G (by kernel_rfl) fun _ _ _ _ _ _=>BX fun _=>rfl
  have lG_15:List.lookup 15 (kK w.params)=some (kT [.int (0) 189,.int (1) 190] 0):=by kernel_rfl
  have m_ZERO:=W.mg_of X G (show W.nsIn (kK w.params) mainGlobals "ZERO"=some (some (.ref 15)) by kernel_rfl)
  have c_ZERO:∀F,DA (kK w.params) F (.tuple [.int (0),.int (1)]) (.ref 15):=fun F=>by simp only [DA,aL];exact⟨15,[V.int (0),V.int (1)],rfl,.inr ⟨_,_,_,lG_15,rfl,rfl,(by show 2≤sizeLine;decide),(.cons ⟨_,rfl⟩ (.cons ⟨_,rfl⟩ .nil))⟩,⟨_,_,rfl,rfl,⟨_,_,rfl,rfl,rfl⟩⟩⟩
  have lG_16:List.lookup 16 (kK w.params)=some (kT [.int (1) 192,.int (1) 193] 0):=by kernel_rfl
  have m_ONE:=W.mg_of X G (show W.nsIn (kK w.params) mainGlobals "ONE"=some (some (.ref 16)) by kernel_rfl)
  have c_ONE:∀F,DA (kK w.params) F (.tuple [.int (1),.int (1)]) (.ref 16):=fun F=>by simp only [DA,aL];exact⟨16,[V.int (1),V.int (1)],rfl,.inr ⟨_,_,_,lG_16,rfl,rfl,(by show 2≤sizeLine;decide),(.cons ⟨_,rfl⟩ (.cons ⟨_,rfl⟩ .nil))⟩,⟨_,_,rfl,rfl,⟨_,_,rfl,rfl,rfl⟩⟩⟩
  have m_END:=W.mg_of X G (show W.nsIn (kK w.params) mainGlobals "END"=some (some (.int (-1) 268)) by kernel_rfl)
  refine⟨W.fnOf "law" "law" (dM lu) (cR lu) (am lu) .none .none (.none) e_ none (.ref 279) .none,fun s v=>.of_eq rfl,fun base _ _=>?_⟩
  have G_common_divisor:=k8 (P:=l.prog) (w:=w) (base:=base) h_common_divisor T
  have G_lowest:=vz (P:=l.prog) (w:=w) (base:=base) h_lowest T h_common_divisor G_common_divisor
  have G_plus:=zz (P:=l.prog) (w:=w) (base:=base) h_plus T h_lowest G_lowest
  have G_times:=xB (P:=l.prog) (w:=w) (base:=base) h_times T h_lowest G_lowest
  have G_one_less:=rF (P:=l.prog) (w:=w) (base:=base) h_one_less T h_lowest G_lowest
  have G_is_number:=qq (P:=l.prog) (w:=w) (base:=base) h_is_number T
  have G_is_row_of:=qr (P:=l.prog) (w:=w) (base:=base) h_is_row_of T
  have G_is_fraction:=nK (P:=l.prog) (w:=w) (base:=base) h_is_fraction T h_is_row_of G_is_row_of h_lowest G_lowest h_is_number G_is_number
  have G_is_fraction_row:=kr (P:=l.prog) (w:=w) (base:=base) h_is_fraction_row T h_is_row_of G_is_row_of h_is_fraction G_is_fraction
  have G_ask_worth:=qp (P:=l.prog) (w:=w) (base:=base) h_ask_worth T h_plus G_plus h_times G_times h_one_less G_one_less
  have G_link_worth:=oI (P:=l.prog) (w:=w) (base:=base) h_link_worth T m_ZERO c_ZERO m_END
  have G_node_worth:=oJ (P:=l.prog) (w:=w) (base:=base) h_node_worth T h_ask_worth G_ask_worth h_link_worth G_link_worth
  have G_ways_on:=sX (P:=l.prog) (w:=w) (base:=base) h_ways_on T h_one_less G_one_less m_END
  have G_worths_hold:=nL (P:=l.prog) (w:=w) (base:=base) h_worths_hold T h_is_fraction_row G_is_fraction_row h_node_worth G_node_worth
  have G_reaches_hold:=mH (P:=l.prog) (w:=w) (base:=base) h_reaches_hold T h_is_fraction_row G_is_fraction_row h_times G_times h_ways_on G_ways_on m_ONE c_ONE
  have GLmixed:=xw (P:=l.prog) (w:=w) (base:=base) hLmixed T
  have GLdraws:=xt (P:=l.prog) (w:=w) (base:=base) hLdraws T hLmixed GLmixed
  have GLnext:=zu (P:=l.prog) (w:=w) (base:=base) hLnext T
  have GLgcd:=B0 (P:=l.prog) (w:=w) (base:=base) hLgcd T
  have GLlow:=B1 (P:=l.prog) (w:=w) (base:=base) hLlow T hLgcd GLgcd
  have GLplus:=zv (P:=l.prog) (w:=w) (base:=base) hLplus T hLlow GLlow
  have GLtimes:=xx (P:=l.prog) (w:=w) (base:=base) hLtimes T hLlow GLlow
  have GLrest:=zw (P:=l.prog) (w:=w) (base:=base) hLrest T
  have GLsays:=zx (P:=l.prog) (w:=w) (base:=base) hLsays T
  have GLchance:=vx (P:=l.prog) (w:=w) (base:=base) hLchance T hLlow GLlow
  have GLworth:=xA (P:=l.prog) (w:=w) (base:=base) hLworth T
  have GLties:=zy (P:=l.prog) (w:=w) (base:=base) hLties T hLnext GLnext hLchance GLchance hLworth GLworth
  have GLweb:=B3 (P:=l.prog) (w:=w) (base:=base) hLweb T hLties GLties hLnext GLnext
  have GLasks_of:=sT (P:=l.prog) (w:=w) (base:=base) hLasks_of T
  have GLmay:=B2 (P:=l.prog) (w:=w) (base:=base) hLmay T hLasks_of GLasks_of
  have GLbehind:=vw (P:=l.prog) (w:=w) (base:=base) hLbehind T
  have GLaskable:=sS (P:=l.prog) (w:=w) (base:=base) hLaskable T hLmay GLmay
  have GLgrown:=xu (P:=l.prog) (w:=w) (base:=base) hLgrown T hLaskable GLaskable hLnext GLnext hLbehind GLbehind
  have GLworths:=vy (P:=l.prog) (w:=w) (base:=base) hLworths T hLtimes GLtimes hLplus GLplus hLrest GLrest
  have GLreaches:=sV (P:=l.prog) (w:=w) (base:=base) hLreaches T hLrest GLrest hLtimes GLtimes
  have GLmade_up:=sU (P:=l.prog) (w:=w) (base:=base) hLmade_up T hLnext GLnext
  have GLtold_at:=sW (P:=l.prog) (w:=w) (base:=base) hLtold_at T
  have GLworths_fit:=oH (P:=l.prog) (w:=w) (base:=base) hLworths_fit T hLtimes GLtimes hLplus GLplus hLtold_at GLtold_at hLrest GLrest
  have GLreaches_fit:=nJ (P:=l.prog) (w:=w) (base:=base) hLreaches_fit T hLrest GLrest hLtimes GLtimes
  have G_law:=B4 (P:=l.prog) (w:=w) (base:=base) h_law T hLdraws GLdraws hLweb GLweb hLgrown GLgrown hLworths GLworths hLreaches GLreaches hLmade_up GLmade_up hLsays GLsays hLnext GLnext h_worths_hold G_worths_hold hLworths_fit GLworths_fit h_reaches_hold G_reaches_hold hLreaches_fit GLreaches_fit
  exact G_law
def Ek(K:W.Frag):Sp:=fun vs H Q _=>∃(a:Addr) (ns:List Int),vs=[.ref a]∧cX K H a (ns.map V.int)∧ns.length≤63∧∀H',Q (.bl true) H'
theorem BW{K:W.Frag}{vs:List V}{H:Hp}{Q:VK}{E:XK}(h:Ek K vs H Q E):bA K 1 nF vs H Q E:=by
  obtain⟨a,ns,rfl,hS,hl,q⟩:=h
  obtain⟨as',hm⟩:=xf ns hl
  exact tG hS hm q
theorem walk{l:W.OpenLaw}{q:Program}{loose:List Str}{XP:(Str→Option Value)→Heap→Prop}{YP:World→Heap→Prop}{d:DefRec}{K:Params→W.Frag}(hn:l.most=some 63)(hdf:d.params.defaults=[])
    (hY:∀(w:World) (h:Heap),YP w h→(K w.params).In h)
    (F:∀(w:World) (mg:Str→Option Value) (fa:Addr) (h:Heap),(K w.params).In h→h.Ns mainGlobals mg→mg d.name=some (.ref fa)→
      ∃fd:FuncData,(∀(s:Shared) (u:Value),BindsTo s fd ⟨[u],[]⟩ [("_law_script",u)])∧∀base:Heap,(K w.params).In base→base.Ns mainGlobals mg→aC l.prog w (K w.params) mg base bv 7 fa fd ["_law_script"] (bA (K w.params) 1 nF)):
    W.WalkO q loose XP YP l.row.toRowW d [] (fun f vs=>PySem.call f vs):=
  L2.walk_of (n:=63) (k:=7) (x:="_law_script") (CX:=fun _=>bv) (sp:=fun w=>bA (K w.params) 1 nF) hn (by decide) hdf ⟨rfl,by decide,by decide,rfl⟩ hY F (fun _ _ a ns hl _ hS=>BW ⟨a,ns,rfl,hS,hl,fun _=>rfl⟩) fun _ _ _ _ _ z=>z
end V19
open PySem PySem.W PyProof.Rows
set_option maxRecDepth 100000 in
set_option maxHeartbeats 0 in
theorem PySem.Challenge.cw_askedpairs_k19_papers_made_up_holds : PySem.Challenge.rw_askedpairs_k19_papers_made_up.Holds := by
  w_on;o_law
  refine holds_open (q:=V19.kq) (loose:=[]) (Xt:=fun s=>xlAt V19.kq [] s&&recOk (RowW.records (OpenRow.toRowW (OpenLaw.row PySem.Challenge.rw_askedpairs_k19_papers_made_up))) s) (XP:=XL V19.kq []) (Yf:=Hook.obs V19.kH) (Ya:=Hook.val V19.kH) (YP:=Hook.says V19.kH) (N:=2766) V19.left (Hook.of V19.kH) (Hook.keeps V19.kH) (fun s e=>xl_of s (Bool.and_eq_true_iff.mp e).1) XL.keeps (by rfl) (by rfl) (by rfl) (fun s e=>recFacts_of (Bool.and_eq_true_iff.mp e).2) (by rfl) (by assumption) (by decide+kernel) ⟨rfl,rfl,rfl,rfl,rfl,by decide+kernel⟩ ?hw ?hc
  case hw=>w_witness2
  case hc=>exact V19.walk (l:=PySem.Challenge.rw_askedpairs_k19_papers_made_up) rfl rfl (fun w h Y=>kIn_of Y) (fun w mg fa h KX G hmg=>V19.all_mk KX G hmg)
