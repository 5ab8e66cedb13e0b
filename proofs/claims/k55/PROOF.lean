import PyProof.Rows.All
import Wide.All
import OpenK.AllK
import Wide.FinOn
import Lean
import PyProof.EqAt
import PyProof.EqKinds
import PyProof.TupleCall
import PyProof.ReprRoads
import PyProof.IsInstance
import PyProof.IsInstanceH
import PyProof.FitsBits
import PyProof.CompFree
import PyProof.Rows.SumAny
import PyProof.Rows.SortShell
import PyProof.Rows.TupAdd
import PyProof.NeKinds
import PyProof.ConsumeWalk
import PyProof.ZipIter
import PyProof.TupleIter
import PyProof.LayNew
import PyProof.CollectWalk
import PyProof.ListNew
import PyProof.Draws
import PyProof.EnumFor
import PyProof.EnumMake
import PyProof.ListRange
import PyProof.CollectIter
import KE.KRevIter
import PyProof.ListMulRoad
import PyProof.TupleOps
import PyProof.TupleOfStr
import PyProof.WalksMore
import PyProof.FactsAll.range_iterator
import PyProof.IsRules
import PyProof.CompUse
import PyProof.P3In
import PyProof.EqLayable
import KE.KIsAll
import PyProof.Rows.FactsN_isinstance
import PyProof.CallStr
import PyProof.Rows.StrWeight2
import PyProof.Rows.FStr
import PyProof.StrLawsRepr
import PyProof.Rows.SetFrom
import KE.KIntText
import KE.KRevSl
import PyProof.Rows.SeqMore2
import PySem.Challenge.RW_askedpairs_k55_orders_by_measures
set_option Elab.async false
set_option linter.all false
set_option maxRecDepth 100000
namespace L2
open PySem PySem.Spec PyProof.Rows
abbrev jD:=Sum Int Str
def rK:jD→Value→Bool
  | .inl k,v=>Value.isInt k v
  | .inr x,v=>Value.isStrOf x v
def Aw(w:World):jD→Int
  | .inl k=>hashInt k
  | .inr x=>hashStr w x
theorem a9:∀{k:jD} {v:Value},rK k v=true→(∃i t,k=Sum.inl i∧v=Value.int i t)∨(∃x t,k=Sum.inr x∧v=Value.str x t)
  | .inl i,v,h=>by
    obtain⟨t,e⟩:=Value.isInt_shape (k:=i) (v:=v) h
    exact .inl ⟨i,t,rfl,e⟩
  | .inr x,v,h=>by
    obtain⟨t,e⟩:=Value.isStrOf_shape (x:=x) (v:=v) h
    exact .inr ⟨x,t,rfl,e⟩
theorem wZ(a b:Int):decide ((Sum.inl a:jD)=Sum.inl b)=(a==b):=by
  by_cases e:a=b
  · subst e;simp
  · have h:¬(Sum.inl a:jD)=Sum.inl b:=fun q=>e (Sum.inl.inj q)
    rw [decide_eq_false h]
    exact(beq_eq_false_iff_ne.mpr e).symm
theorem xa(a b:Str):decide ((Sum.inr a:jD)=Sum.inr b)=decide (a=b):=by
  by_cases e:a=b
  · subst e;simp
  · have h:¬(Sum.inr a:jD)=Sum.inr b:=fun q=>e (Sum.inr.inj q)
    rw [decide_eq_false h,decide_eq_false e]
theorem w6(a:Int)(b:Str):decide ((Sum.inl a:jD)=Sum.inr b)=false:=decide_eq_false (fun q=>nomatch q)
theorem w_(a:Str)(b:Int):decide ((Sum.inr a:jD)=Sum.inl b)=false:=decide_eq_false (fun q=>nomatch q)
def l5(prog:Program)(w:World):PySem.KeyKind prog w jD where
  is:=rK
  hash:=Aw w
  inj:=fun v a b ha hb=>by
    rcases a9 ha with ⟨i,t,rfl,rfl⟩ | ⟨x,t,rfl,rfl⟩
    · rcases a9 hb with ⟨j,u,rfl,e⟩ | ⟨y,u,rfl,e⟩
      · injection e with e1 _;rw [e1]
      · exact nomatch e
    · rcases a9 hb with ⟨j,u,rfl,e⟩ | ⟨y,u,rfl,e⟩
      · exact nomatch e
      · injection e with e1 _;rw [e1]
  byValue:=fun k v h=>by
    rcases a9 h with ⟨i,t,rfl,rfl⟩ | ⟨x,t,rfl,rfl⟩<;>rfl
  pyHash:=fun hv h=>by
    rcases a9 hv with ⟨i,t,rfl,rfl⟩ | ⟨x,t,rfl,rfl⟩
    · exact wpAny_pyHash_int h
    · exact wpAny_pyHash_str h
  eqBool:=fun hu hv h=>by
    rcases a9 hu with ⟨i,t,rfl,rfl⟩ | ⟨x,t,rfl,rfl⟩
    · rcases a9 hv with ⟨j,u,rfl,rfl⟩ | ⟨y,u,rfl,rfl⟩
      · rw [wZ] at h;exact wpAny_eqBool_int h
      · rw [w6] at h;exact SeqAt.EqAt.int_str i t y u _ _ _ _ h
    · rcases a9 hv with ⟨j,u,rfl,rfl⟩ | ⟨y,u,rfl,rfl⟩
      · rw [w_] at h;exact SeqAt.EqAt.str_int x t j u _ _ _ _ h
      · rw [xa] at h;exact wpAny_eqBool_str h
  «strs»:=fun k x t v h=>by
    rcases a9 h with ⟨i,u,rfl,e⟩ | ⟨y,u,rfl,e⟩
    · exact nomatch e
    · injection e with e1 _
      subst e1
      cases v<;>rfl
end L2
namespace L2
open PySem PySem.Spec PyProof.Rows
inductive V where
  | non | bl (b:Bool) | int (i:Int) | str (x:Str) | byt (b:Array UInt8) | flt (b:UInt64) | ref (a:Addr) | ty (n:String)
  deriving DecidableEq
def bo:V→Value→Prop
  | .non,u=>u=Value.none
  | .bl b,u=>u=Value.bool b
  | .int i,u=>∃t,u=Value.int i t
  | .str x,u=>∃t,u=Value.str x t
  | .byt b,u=>∃t,u=Value.bytes b t
  | .flt b,u=>∃t,u=Value.float b t
  | .ref a,u=>u=Value.ref a
  | .ty n,u=>u=Value.type n
abbrev aE:List V→List Value→Prop:=Paired bo
theorem aE.length{xs:List V}{us:List Value}(r:aE xs us):xs.length=us.length:=Paired.length r
theorem aE.get:∀{xs:List V} {us:List Value} {i:Nat} {x:V},aE xs us→xs[i]?=some x→∃u,us[i]?=some u∧bo x u
  | _,_,_,_,.nil,e=>by simp at e
  | _,_,0,_,.cons r _,e=>by simp at e;subst e;exact⟨_,rfl,r⟩
  | _,_,i+1,x,.cons _ t,e=>by
    obtain⟨u,h1,h2⟩:=aE.get (i:=i) (x:=x) t (by simpa using e)
    exact⟨u,by simpa using h1,h2⟩
theorem aE.append:∀{xs ys:List V} {us ws:List Value},aE xs us→aE ys ws→aE (xs++ys) (us++ws)
  | _,_,_,_,.nil,s=>s
  | _,_,_,_,.cons r t,s=>.cons r (aE.append t s)
theorem aE.take:∀{xs:List V} {us:List Value} (n:Nat),aE xs us→aE (xs.take n) (us.take n)
  | _,_,0,_=>.nil
  | _,_,_+1,.nil=>.nil
  | _,_,n+1,.cons r t=>.cons r (aE.take n t)
theorem aE.drop:∀{xs:List V} {us:List Value} (n:Nat),aE xs us→aE (xs.drop n) (us.drop n)
  | _,_,0,r=>r
  | _,_,_+1,.nil=>.nil
  | _,_,n+1,.cons _ t=>aE.drop n t
def yI:Option V→Option Value→Prop
  | some v,some u=>bo v u
  | none,none=>True
  | _,_=>False
def KV{κ:Type}:List (κ × V)→List (κ × Value)→Prop:=Paired fun(p:κ × V) (q:κ × Value)=>p.1=q.1∧bo p.2 q.2
def kV:jD→V
  | .inl i=>.int i
  | .inr x=>.str x
inductive HO where
  /-- a list -/
  | lst (xs:List V)
  /-- a tuple (never changes) -/
  | tup (xs:List V)
  /-- a dict whose keys are ints and texts; one whose keys are tuples of ints and texts (the empty one is both) -/
  | dK (kvs:List (jD × V)) | dT (kvs:List (List jD × V))
  /-- a set of ints: its members, its size -/
  | set (S:Int→Bool) (n:Nat)
  /-- an instance of the class at C, its dict at dx, its attributes -/
  | ins (C dx:Addr) (fs:List (Str × V))
  /-- the dict of the instance at x -/
  | own (x:Addr)
  /-- the dict of an exception -/
  | xd (fs:List (Str × V))
  /-- a bound method, f of x -/
  | met (f x:Addr)
  /-- a range object lo, lo + 1, .. below hi -/
  | rng (lo hi:Int)
  /-- a thing that is known to the object (the script; a dict while a loop walks it): read, never written while it is so -/
  | frz (o:Obj) (u:HO)
  /-- a code object's table -/
  | tbl (ps:Array Value)
  /-- any other thing, by what is true of its one object (a def of one's own: SetO a S n := HO.ext fun h => ..) -/
  | ext (φ:Heap→Prop)
abbrev Hp:=Addr→Option HO
def a_(H:Hp)(a:Addr)(o:HO):Hp:=fun b=>if b=a then some o else H b
theorem au{H:Hp}{a:Addr}{o:HO}:a_ H a o a=some o:=by unfold a_;rw [if_pos rfl]
theorem aC{H:Hp}{a b:Addr}{o:HO}(h:b≠a):a_ H a o b=H b:=by unfold a_;rw [if_neg h]
theorem cT{H:Hp}{a b:Addr}{o:HO}(h:H a=some o)(h':H b=none):a≠b:=by
  intro e;subst e;rw [h] at h';cases h'
def jC(h:Heap)(a:Addr)(items:Array Value):Prop:=∃o,h.get? a=some o∧o.cls=.type "tuple"∧∃n,o.data=.seq items n∧o.dict=none
theorem jC.tup{h:Heap}{a:Addr}{items:Array Value}(x:jC h a items):IsTup h a items:=let ⟨o,ho,hc,n,hd,_⟩:=x;⟨o,ho,hc,n,hd⟩
theorem jC.new(h:Heap)(items:Array Value):jC (h.push {cls:=.type "tuple",data:=.seq items}) h.objs.size items:=⟨_,Heap.get?_push_size _ rfl,rfl,_,rfl,rfl⟩
section
variable(P:Program)(w:World)
def dW(H:Hp)(h:Heap)(a:Addr):HO→Prop
  | .lst xs=>xs.length≤sizeLine∧∃(its:List Value) (n:Nat),aE xs its∧h.get? a=some {cls:=.type "list",data:=.seq its.toArray n}
  | .tup xs=>xs.length≤sizeLine∧∃its:List Value,aE xs its∧jC h a its.toArray
  | .dK kvs=>kvs.length≤sizeLine∧(a==sysModules)=false∧∃vs,KV kvs vs∧h.DictOf (l5 P w) a vs
  | .dT kvs=>kvs.length≤sizeLine∧(a==sysModules)=false∧∃xs:List (List jD × Addr × Value),
      Paired (fun(p:List jD × V) (q:List jD × Addr × Value)=>p.1=q.1∧H q.2.1=some (.tup (p.1.map kV))∧bo p.2 q.2.2) kvs xs∧
      ∃o es ep,h.get? a=some o∧o.ExactDict∧o.data=.dict es ep∧es.toList=xs.map (entryOfKey (tupleKind (l5 P w)))∧(xs.map (·.1)).Nodup
  | .set S n=>h.SetOf (intKind P w) a S n
  | .ins C dx fs=>H dx=some (.own a)∧fs.length≤1000∧dx≠a∧h.get? a=some (PySem.W.instObj C dx)∧
      ∃mA,h.Ns1 dx mA∧(∀f,yI (fs.lookup f) (mA f))∧PySem.Within mA (fs.map (·.1))
  | .own _=>∃o,h.get? a=some o
  | .xd fs=>∃mA,h.Ns1 a mA∧∀f,yI (fs.lookup f) (mA f)
  | .rng lo hi=>∃t u v,h.get? a=some {cls:=.type "range",data:=.fields #[.int lo t,.int hi u,.int 1 v]}
  | .frz o u=>h.get? a=some o∧dW H h a u
  | .tbl ps=>h.get? a=some {cls:=.none,data:=.fields ps}
  | .met f x=>h.get? a=some (PySem.W.methodObj (.ref f) (.ref x))
  | .ext φ=>φ h∧(∃o,h.get? a=some o)∧∀h1 h2:Heap,φ h1→(∀o,h1.get? a=some o→h2.get? a=some o)→φ h2
def jB(H:Hp)(h:Heap):Prop:=∀a o,H a=some o→dW P w H h a o
end
section
variable{P:Program}{w:World}{H H':Hp}{h h':Heap}{a:Addr}{o:HO}
theorem dW.lt(x:dW P w H h a o):a < h.objs.size:=by
  cases o with
  | lst xs=>obtain⟨_,_,_,_,e⟩:=x;exact Heap.lt_size e
  | tup xs=>obtain⟨_,_,_,p⟩:=x;exact p.tup.lt
  | dK kvs=>obtain⟨_,_,_,_,o,_,_,e,_⟩:=x;exact Heap.lt_size e
  | dT kvs=>obtain⟨_,_,_,_,o,_,_,e,_⟩:=x;exact Heap.lt_size e
  | set S n=>obtain⟨o,_,_,_,e,_⟩:=x;exact Heap.lt_size e
  | ins C dx fs=>obtain⟨_,_,_,e,_⟩:=x;exact Heap.lt_size e
  | own y=>obtain⟨_,e⟩:=x;exact Heap.lt_size e
  | xd fs=>obtain⟨_,⟨_,_,_,e,_⟩,_⟩:=x;exact Heap.lt_size e
  | rng lo hi=>obtain⟨_,_,_,e⟩:=x;exact Heap.lt_size e
  | frz ob u=>obtain⟨e,_⟩:=x;exact Heap.lt_size e
  | tbl ps=>exact Heap.lt_size (show h.get? a=some _ from x)
  | met f y=>exact Heap.lt_size (show h.get? a=some _ from x)
  | ext φ=>obtain⟨_,⟨_,e⟩,_⟩:=x;exact Heap.lt_size e
theorem Paired.mapP{α β:Type}{F G:α→β→Prop}:∀{l₁:List α} {l₂:List β},Paired F l₁ l₂→(∀a b,F a b→G a b)→Paired G l₁ l₂
  | _,_,.nil,_=>.nil
  | _,_,.cons r t,f=>.cons (f _ _ r) (Paired.mapP t f)
theorem dW.stay(x:dW P w H h a o)(k:∀b u,(b=a∨H b=some (.own a))→h.get? b=some u→h'.get? b=some u)
    (ho:∀b,H b=some (.own a)→H' b=some (.own a))(ht:∀b xs,H b=some (.tup xs)→H' b=some (.tup xs)):dW P w H' h' a o:=by
  induction o with
  | lst xs=>obtain⟨z,its,n,r,e⟩:=x;exact⟨z,its,n,r,k _ _ (.inl rfl) e⟩
  | tup xs=>obtain⟨z,its,r,ob,e,c⟩:=x;exact⟨z,its,r,ob,k _ _ (.inl rfl) e,c⟩
  | dK kvs=>obtain⟨z,y,vs,r,ob,es,ep,e,c⟩:=x;exact⟨z,y,vs,r,ob,es,ep,k _ _ (.inl rfl) e,c⟩
  | dT kvs=>
    obtain⟨z,y,xs,r,ob,es,ep,e,c⟩:=x
    exact⟨z,y,xs,Paired.mapP r fun p q z=>⟨z.1,ht _ _ z.2.1,z.2.2⟩,ob,es,ep,k _ _ (.inl rfl) e,c⟩
  | set S n=>obtain⟨ob,es,ep,t,e,c⟩:=x;exact⟨ob,es,ep,t,k _ _ (.inl rfl) e,c⟩
  | ins C dx fs=>
    obtain⟨d,z,ne,e,mA,⟨od,es,ep,e2,c⟩,r⟩:=x
    exact⟨ho _ d,z,ne,k _ _ (.inl rfl) e,mA,⟨od,es,ep,k _ _ (.inr d) e2,c⟩,r⟩
  | own y=>obtain⟨ob,e⟩:=x;exact⟨ob,k _ _ (.inl rfl) e⟩
  | xd fs=>obtain⟨mA,⟨od,es,ep,e,c⟩,r⟩:=x;exact⟨mA,⟨od,es,ep,k _ _ (.inl rfl) e,c⟩,r⟩
  | rng lo hi=>obtain⟨t,u,v,e⟩:=x;exact⟨t,u,v,k _ _ (.inl rfl) e⟩
  | frz ob u ih=>obtain⟨e,q⟩:=x;exact⟨k _ _ (.inl rfl) e,ih q⟩
  | tbl ps=>
    have e:h.get? a=some {cls:=.none,data:=.fields ps}:=x
    show h'.get? a=some {cls:=.none,data:=.fields ps}
    exact k a _ (.inl rfl) e
  | met f y=>
    have e:h.get? a=some (PySem.W.methodObj (.ref f) (.ref y)):=x
    show h'.get? a=some (PySem.W.methodObj (.ref f) (.ref y))
    exact k a _ (.inl rfl) e
  | ext φ=>obtain⟨p,⟨o,e⟩,st⟩:=x;exact⟨st _ _ p fun o q=>k _ _ (.inl rfl) q,⟨o,k _ _ (.inl rfl) e⟩,st⟩
theorem jB.lt(x:jB P w H h)(e:H a=some o):a < h.objs.size:=(x a o e).lt
theorem jB.fresh(x:jB P w H h)(e:h.objs.size≤a):H a=none:=by
  cases q:H a with
  | none=>rfl
  | some u=>exact absurd (Nat.lt_of_lt_of_le (x.lt q) e) (Nat.lt_irrefl _)
theorem jB.kept(x:jB P w H h)(k:∀b u,h.get? b=some u→h'.get? b=some u):jB P w H h':=fun a o e=>
  (x a o e).stay (fun b u _ q=>k b u q) (fun _ q=>q) fun _ _ q=>q
theorem jB.laid(x:jB P w H h)(k:∀b u,h.get? b=some u→h'.get? b=some u)(hp:h.objs.size≤a)(new:dW P w (a_ H a o) h' a o):jB P w (a_ H a o) h':=fun b u e=>by
  have hn:=x.fresh hp
  by_cases hb:b=a
  · subst hb;rw [au] at e;cases e;exact new
  · rw [aC hb] at e
    exact(x b u e).stay (fun c v _ q=>k c v q) (fun c q=>by rw [aC (cT q hn)];exact q) fun c xs q=>by rw [aC (cT q hn)];exact q
end
def Rd(H:Hp)(a:Addr)(u:HO):Prop:=H a=some u∨∃o,H a=some (.frz o u)
theorem Rd.ok{P:Program}{w:World}{H:Hp}{h:Heap}{a:Addr}{u:HO}(r:Rd H a u)(x:jB P w H h):dW P w H h a u:=by
  rcases r with r | ⟨o,r⟩
  · exact x a u r
  · obtain⟨_,q⟩:=x a _ r
    exact q
def z0:Option HO→Prop
  | some (.lst _)=>True
  | some (.dK _)=>True
  | some (.dT _)=>True
  | some (.set _ _)=>True
  | some (.ins _ _ _)=>True
  | some (.ext _)=>True
  | _=>False
section
variable{P:Program}{w:World}{H:Hp}{h h':Heap}{x e:Addr}{o':HO}
theorem jB.write(ok:jB P w H h)(mu:z0 (H x))(he:e=x∨H e=some (.own x))(k:∀b u,b≠e→h.get? b=some u→h'.get? b=some u)(heo:∃u,h'.get? e=some u)
    (new:dW P w (a_ H x o') h' x o'):jB P w (a_ H x o') h':=fun b u q=>by
  have nown:∀c y,H c=some (.own y)→c≠x:=fun c y r z=>by subst z;rw [r] at mu;exact mu
  have ntup:∀c xs,H c=some (.tup xs)→c≠x:=fun c xs r z=>by subst z;rw [r] at mu;exact mu
  by_cases hb:b=x
  · subst hb;rw [au] at q;cases q;exact new
  · rw [aC hb] at q
    by_cases hbe:b=e
    · have q':H b=some (.own x):=by
        rcases he with z | z
        · exact absurd (hbe.trans z) hb
        · rw [hbe];exact z
      rw [q] at q';cases q'
      obtain⟨v,hv⟩:=heo
      exact⟨v,by rw [hbe];exact hv⟩
    · refine(ok b u q).stay (fun c v hc r=>k c v ?_ r) (fun c r=>by rw [aC (nown c b r)];exact r) fun c xs r=>by rw [aC (ntup c xs r)];exact r
      rcases hc with rfl | hc
      · exact hbe
      · rintro rfl
        rcases he with z | z
        · exact nown c b hc z
        · rw [hc] at z;cases z;exact hb rfl
end
structure Un (fs ex:List Addr) (H H':Hp) (h h':Heap):Prop where
  keep:∀b o,h.get? b=some o→H b=none→b∉fs→b∉ex→h'.get? b=some o
  slot:∀b o,h.get? b=some o→H b=none→b∈fs→b∉ex→∃sl,h'.get? b=some {o with slots:=sl}
  free:∀b o,h.get? b=some o→H b=none→b∉ex→H' b=none
  there:∀b o,h.get? b=some o→b∉ex→∃o',h'.get? b=some o'
  tups:∀b xs,H b=some (.tup xs)→H' b=some (.tup xs)
  frzs:∀b o u,H b=some (.frz o u)→H' b=some (.frz o u)
  tbls:∀b ps,H b=some (.tbl ps)→∃more,H' b=some (.tbl (ps++more))
section
variable{fs fs' ex ex':List Addr}{H H1 H2:Hp}{h h1 h2 h':Heap}{a x e:Addr}{o:HO}
theorem Un.any(u:Un fs ex H H1 h h1){b:Addr}{ob:Obj}(q:h.get? b=some ob)(n:H b=none)(hx:b∉ex):∃sl,h1.get? b=some {ob with slots:=sl}:=by
  by_cases hb:b∈fs
  · exact u.slot b ob q n hb hx
  · exact⟨ob.slots,u.keep b ob q n hb hx⟩
theorem Un.kept(k:∀b u,h.get? b=some u→h'.get? b=some u):Un fs ex H H h h':=
  ⟨fun b ob q _ _ _=>k b ob q,fun b ob q _ _ _=>⟨ob.slots,k b ob q⟩,fun _ _ _ n _=>n,fun b ob q _=>⟨ob,k b ob q⟩,fun _ _ q=>q,fun _ _ _ q=>q,fun _ ps q=>⟨#[],by rw [q];simp⟩⟩
theorem Un.refl:Un fs ex H H h h:=Un.kept fun _ _ q=>q
theorem Un.laid(k:∀b u,h.get? b=some u→h'.get? b=some u)(hp:h.objs.size≤a)(hn:H a=none):Un fs ex H (a_ H a o) h h' where
  keep:=fun b u q _ _ _=>k b u q
  slot:=fun b u q _ _ _=>⟨u.slots,k b u q⟩
  free:=fun b u q n _=>by rw [aC (Nat.ne_of_lt (Nat.lt_of_lt_of_le (Heap.lt_size q) hp))];exact n
  there:=fun b u q _=>⟨u,k b u q⟩
  tups:=fun b xs q=>by rw [aC (cT q hn)];exact q
  frzs:=fun b u xs q=>by rw [aC (cT q hn)];exact q
  tbls:=fun b ps q=>⟨#[],by rw [aC (cT q hn),q];simp⟩
theorem Un.write(mu:z0 (H x))(he:e=x∨H e=some (.own x))(k:∀b u,b≠e→h.get? b=some u→h'.get? b=some u)(heo:∃u,h'.get? e=some u):Un fs ex H (a_ H x o) h h':=by
  have hx:∀b,H b=none→b≠x:=fun b n z=>by subst z;rw [n] at mu;exact mu
  have hb:∀b,H b=none→b≠e:=fun b n z=>by
    subst z
    rcases he with r | r
    · exact hx b n r
    · rw [n] at r;cases r
  have hm:∀b u,H b=some u→¬z0 (some u)→b≠x:=fun b u q nm z=>by subst z;rw [q] at mu;exact nm mu
  refine⟨fun b u q n _ _=>k b u (hb b n) q,fun b u q n _ _=>⟨u.slots,k b u (hb b n) q⟩,fun b u q n _=>by rw [aC (hx b n)];exact n,fun b u q _=>?_,
    fun b xs q=>by rw [aC (hm b _ q fun z=>z)];exact q,fun b u xs q=>by rw [aC (hm b _ q fun z=>z)];exact q,fun b ps q=>⟨#[],by rw [aC (hm b _ q fun z=>z),q];simp⟩⟩
  by_cases hbe:b=e
  · subst hbe;exact heo
  · exact⟨u,k b u hbe q⟩
end
def z_(h:Heap)(H:Hp):List Addr:=(List.range h.objs.size).filter fun a=>(H a).isSome
def lY(h:Heap)(H:Hp):Heap:=PySem.W.hideAll h (z_ h H)
theorem p9(h:Heap)(H:Hp):(lY h H).objs.size=h.objs.size:=PySem.W.hideAll_size _ _
theorem rF{h:Heap}{H:Hp}{b:Addr}{o:Obj}(e:h.get? b=some o)(n:H b=none):(lY h H).get? b=some o:=
  PySem.W.hideAll_get _ e fun hm=>by
    have q:(H b).isSome=true:=(List.mem_filter.mp hm).2
    rw [n] at q;simp at q
theorem uI{h:Heap}{H:Hp}{b:Addr}{o:Obj}(e:(lY h H).get? b=some o):h.get? b=some o∧H b=none:=by
  have e':h.get? b=some o:=PySem.W.of_hideAll (z_ h H) e
  refine⟨e',?_⟩
  cases q:H b with
  | none=>rfl
  | some x=>
    have hm:b∈z_ h H:=List.mem_filter.mpr ⟨List.mem_range.mpr (Heap.lt_size e'),by simp [q]⟩
    have z:(lY h H).get? b=none:=PySem.W.hideAll_none (z_ h H) hm
    rw [z] at e;cases e
def lC(g h:Heap)(L:Addr):List (Addr × Obj):=(List.range h.objs.size).filterMap fun a=>if a=L∨(g.get? a).isSome=true then none else(h.get? a).map fun o=>(a,o)
theorem j7{g h:Heap}{L:Addr}{p:Addr × Obj}(hp:p∈lC g h L):p.1≠L∧g.get? p.1=none∧h.get? p.1=some p.2:=by
  obtain⟨b,_,e⟩:=List.mem_filterMap.mp hp
  split at e
  · cases e
  · rename_i hn
    cases q:h.get? b with
    | none=>rw [q] at e;simp at e
    | some u=>
      rw [q] at e
      simp only [Option.map_some,Option.some.injEq] at e
      subst e
      refine⟨fun z=>hn (.inl z),?_,q⟩
      show g.get? b=none
      cases r:g.get? b with
      | none=>rfl
      | some v=>exact(hn (.inr (by simp [r]))).elim
def dS(g h:Heap)(L d:Addr):List (Addr × Obj):=(lC g h L).filter fun p=>decide (p.1≠d)
theorem rX{g h:Heap}{L:Addr}:News g L h (lC g h L):=fun p hp=>let ⟨a,b,c⟩:=j7 hp;⟨c,a,b⟩
end L2
namespace L2
open PySem PySem.Spec PyProof.Rows
structure Mod (K:PySem.W.Frag) (mg:Str→Option Value) (base:Heap):Prop where
  kin:K.In base
  glob:base.Ns mainGlobals mg
  blt:∃mb,base.Ns builtinsNs mb∧∀x:Str,x≠"__name__"→mb x=bootBuiltins x
  nolimit:base.NoLimit
structure Cx where
  prog:Program
  w:World
  K:PySem.W.Frag
  mg:Str→Option Value
  base:Heap
  A:Around
  N:List Str
  s₀:Shared
  H₀:Hp
  env:Env
  outer:List Env
  stack:List Env
  ex:List Addr
  fn:Str→Bool
  calm:Bool
  pn:List (Addr × Obj)
  xe:Value→Shared→Prop
def qZ(l:List Env):List Addr:=l.filterMap (·.frame)
abbrev Cx.fs(X:Cx):List Addr:=qZ X.outer
def yM(sc:Scope)(x:Str):Prop:=sc.names.lookup x=some .local∨sc.names.lookup x=some .cell∨sc.names.lookup x=some .free
def yA(sc:Scope)(x:Str):Prop:=sc.names.lookup x=some .local∨sc.names.lookup x=some .cell
def Af(env:Env)(h:Heap)(m:Str→Option Value)(x:Str)(u:Value):Prop:=
  (env.kindOf x=some .local∧m x=some u)∨((env.kindOf x=some .cell∨env.kindOf x=some .free)∧∃c,env.cells.lookup x=some c∧h.IsCell c (some u))
structure Cx.Ok (X:Cx):Prop where
  mod:Mod X.K X.mg X.base
  kind:X.env.scope.kind=.function
  glob:X.env.globals=mainGlobals
  blt:X.env.builtins=builtinsNs
  above:X.s₀.heap.objs.size≤X.env.locals
  inj:∀x y c,X.env.cells.lookup x=some c→X.env.cells.lookup y=some c→x=y
  has:∀x,(X.env.kindOf x=some .cell∨X.env.kindOf x=some .free)→∃c,X.env.cells.lookup x=some c
  cab:∀x c,X.fn x=true→X.env.cells.lookup x=some c→X.s₀.heap.objs.size≤c
  hd:X.calm=true→X.A.handled=none
  frames:X.A.frames=some X.stack
  stk:X.stack=X.outer∨(X.stack=X.env::X.outer∧X.env.frame=some X.env.locals)
  exf:∀b∈X.ex,b≠X.env.locals∧∀x c,X.env.cells.lookup x=some c→c≠b
  bs:∀b o,X.base.get? b=some o→X.s₀.heap.get? b=some o∧X.H₀ b=none
  bsz:X.base.objs.size≤X.s₀.heap.objs.size
  noex:∀b o,X.base.get? b=some o→b∉X.ex
  exfs:∀b∈X.ex,b∉X.fs
  funs:X.s₀.heap.FunFrames X.base X.outer
  frf:∀b∈X.fs,X.H₀ b=none
structure ao (X:Cx) (pins:List (Addr × Obj)) (σ:List (Option V)) (H:Hp) (s:Shared):Prop where
  ok:X.Ok
  os:s.os=X.s₀.os
  bare:AllBare s.gens
  base:Un X.fs X.ex X.H₀ H X.s₀.heap s.heap
  loc:∃m,s.heap.Ns X.env.locals m∧∀(i:Nat) (x:Str) (v:V),X.N[i]?=some x→σ[i]?=some (some v)→yM X.env.scope x→∃u,bo v u∧Af X.env s.heap m x u
  cell:∀x c,X.env.cells.lookup x=some c→∃v,s.heap.IsCell c v
  free:H X.env.locals=none
  freeC:∀x c,X.env.cells.lookup x=some c→H c=none
  pin:∀p∈X.pn++pins,s.heap.get? p.1=some p.2∧H p.1=none∧p.1≠X.env.locals∧p.1∉X.fs∧∀v,p.2.data≠.cell v
  hok:jB X.prog X.w H s.heap
  len:σ.length=X.N.length
section
variable{X:Cx}{pins:List (Addr × Obj)}{σ:List (Option V)}{H H':Hp}{s:Shared}{h':Heap}
theorem Cx.Ok.nofr(ok:X.Ok){b:Addr}{o:Obj}(e:X.base.get? b=some o):b∉X.fs:=fun hb=>by
  have:=(ok.funs.mem hb).1
  rw [e] at this;cases this
theorem ao.bs(I:ao X pins σ H s):∀b o,X.base.get? b=some o→s.heap.get? b=some o∧H b=none:=fun b o e=>
  ⟨I.base.keep b o (I.ok.bs b o e).1 (I.ok.bs b o e).2 (I.ok.nofr e) (I.ok.noex b o e),I.base.free b o (I.ok.bs b o e).1 (I.ok.bs b o e).2 (I.ok.noex b o e)⟩
theorem ao.bk(I:ao X pins σ H s):∀b o,X.base.get? b=some o→s.heap.get? b=some o:=fun b o e=>(I.bs b o e).1
theorem ao.mod(I:ao X pins σ H s):Mod X.K X.mg X.base:=I.ok.mod
theorem ao.kIn(I:ao X pins σ H s):X.K.In s.heap:=I.ok.mod.kin.keeps I.bk
theorem ao.fr(I:ao X pins σ H s):∃m,Fr X.base X.env.locals s.heap m:=
  let ⟨m,hn,_⟩:=I.loc
  ⟨m,hn,I.bk,Nat.le_trans I.ok.bsz I.ok.above⟩
theorem ao.lt(I:ao X pins σ H s):X.env.locals < s.heap.objs.size:=let ⟨_,hn,_⟩:=I.loc;hn.lt
theorem ao.sz(I:ao X pins σ H s):X.s₀.heap.objs.size≤s.heap.objs.size:=Nat.le_trans I.ok.above (Nat.le_of_lt I.lt)
theorem ao.nofs(I:ao X pins σ H s){a:Addr}(h:s.heap.objs.size≤a):a∉X.fs:=fun hb=>by
  obtain⟨_,o,ho,_⟩:=I.ok.funs.mem hb
  exact absurd (Nat.lt_of_lt_of_le (Heap.lt_size ho) (Nat.le_trans I.sz h)) (Nat.lt_irrefl _)
theorem ao.cne(I:ao X pins σ H s):∀x c,X.env.cells.lookup x=some c→c≠X.env.locals:=fun x c e z=>by
  obtain⟨v,o,ho,hd⟩:=I.cell x c e
  obtain⟨m,⟨o',es,ep,ho',hd',_⟩,_⟩:=I.loc
  rw [z,ho'] at ho;cases ho;rw [hd'] at hd;cases hd
theorem ao.funs(I:ao X pins σ H s):s.heap.FunFrames X.base X.outer:=by
  have all:∀(l:List Env),(∀b∈qZ l,b∈X.fs)→X.s₀.heap.FunFrames X.base l→s.heap.FunFrames X.base l:=by
    intro l
    induction l with
    | nil=>intro _ _;trivial
    | cons env r ih=>
      intro hs hl
      obtain⟨hk,⟨L,o,hf,hn,ho,hd⟩,hr⟩:=hl
      have hL:L∈X.fs:=hs L (by unfold qZ;rw [List.filterMap_cons,hf];exact List.mem_cons_self)
      obtain⟨sl,e⟩:=I.base.slot L o ho (I.ok.frf L hL) hL fun z=>I.ok.exfs L z hL
      exact⟨hk,⟨L,_,hf,hn,e,hd⟩,ih (fun b hb=>hs b (by unfold qZ;rw [List.filterMap_cons,hf];exact List.mem_cons_of_mem _ hb)) hr⟩
  exact all X.outer (fun _ hb=>hb) I.ok.funs
theorem ao.stack(I:ao X pins σ H s):s.heap.FunFrames X.base X.stack:=by
  rcases I.ok.stk with e | ⟨e,hf⟩
  · rw [e];exact I.funs
  · rw [e]
    obtain⟨m,hn,_⟩:=I.loc
    refine .cons (by rw [I.ok.kind];decide) hf hn ?_ I.funs
    exact Heap.get?_none_of_le (Nat.le_trans I.ok.bsz I.ok.above)
theorem ao.stkSub(I:ao X pins σ H s):∀b∈qZ X.stack,b∈X.env.locals::X.fs:=fun b hb=>by
  rcases I.ok.stk with e | ⟨e,hf⟩
  · rw [e] at hb;exact List.mem_cons_of_mem _ hb
  · rw [e] at hb
    unfold qZ at hb
    rw [List.filterMap_cons,hf] at hb
    exact hb
theorem ao.stkFree(I:ao X pins σ H s):∀b∈qZ X.stack,H b=none:=fun b hb=>by
  rcases List.mem_cons.mp (I.stkSub b hb) with e | hb
  · rw [e];exact I.free
  · obtain⟨_,o,ho,_⟩:=I.ok.funs.mem hb
    exact I.base.free b o ho (I.ok.frf b hb) fun z=>I.ok.exfs b z hb
theorem ao.step{g':Array GenState}{t':Nat}{d':Drawn}{ch:List Addr}(I:ao X pins σ H s)
    (hch:∀b∈ch,(b∈X.ex∨X.s₀.heap.objs.size≤b)∧b≠X.env.locals∧(∀x c,X.env.cells.lookup x=some c→c≠b)∧∀p∈X.pn++pins,p.1≠b)
    (keep:∀b o,b≠X.env.locals→b∉X.fs→b∉ch→s.heap.get? b=some o→H b=none→h'.get? b=some o)
    (slot:∀b o,b≠X.env.locals→b∈X.fs→b∉ch→s.heap.get? b=some o→H b=none→∃sl,h'.get? b=some {o with slots:=sl})(free:∀b o,b∉ch→s.heap.get? b=some o→H b=none→H' b=none)
    (there:∀b o,b∉ch→s.heap.get? b=some o→∃o',h'.get? b=some o')
    (tups:∀b xs,H b=some (.tup xs)→H' b=some (.tup xs))(frzs:∀b o u,H b=some (.frz o u)→H' b=some (.frz o u))(tbls:∀b ps,H b=some (.tbl ps)→∃more,H' b=some (.tbl (ps++more)))
    (ns:∀m,s.heap.Ns X.env.locals m→h'.Ns X.env.locals m)(hok:jB X.prog X.w H' h')(hg:AllBare g'):
    ao X pins σ H' {s with heap:=h',gens:=g',drawn:=d',toks:=t'}:=by
  have neL:∀b o,X.s₀.heap.get? b=some o→b≠X.env.locals:=fun b o e=>Nat.ne_of_lt (Nat.lt_of_lt_of_le (Heap.lt_size e) I.ok.above)
  have neC:∀b o,X.s₀.heap.get? b=some o→b∉X.ex→b∉ch:=fun b o e hx hb=>by
    rcases(hch b hb).1 with z | z
    · exact hx z
    · exact absurd (Nat.lt_of_lt_of_le (Heap.lt_size e) z) (Nat.lt_irrefl _)
  have cellK:∀x c,X.env.cells.lookup x=some c→∀v,s.heap.IsCell c v→h'.IsCell c v:=fun x c e v ⟨o,ho,hd⟩=>by
    have nch:c∉ch:=fun z=>(hch c z).2.2.1 x c e rfl
    by_cases hc:c∈X.fs
    · obtain⟨sl,q⟩:=slot c o (I.cne x c e) hc nch ho (I.freeC x c e)
      exact⟨_,q,hd⟩
    · exact⟨o,keep c o (I.cne x c e) hc nch ho (I.freeC x c e),hd⟩
  refine⟨I.ok,I.os,hg,⟨fun b o e n hb hx=>?_,fun b o e n hb hx=>?_,fun b o e n hx=>?_,fun b o e hx=>?_,fun b xs e=>tups b xs (I.base.tups b xs e),fun b o xs e=>frzs b o xs (I.base.frzs b o xs e),fun b ps e=>?_⟩,?_,fun x c e=>?_,?_,fun x c e=>?_,fun p hp=>?_,hok,I.len⟩
  · exact keep b o (neL b o e) hb (neC b o e hx) (I.base.keep b o e n hb hx) (I.base.free b o e n hx)
  · obtain⟨sl,e1⟩:=I.base.slot b o e n hb hx
    obtain⟨sl',e2⟩:=slot b _ (neL b o e) hb (neC b o e hx) e1 (I.base.free b o e n hx)
    exact⟨sl',e2⟩
  · obtain⟨o',e1⟩:=I.base.there b o e hx
    exact free b o' (neC b o e hx) e1 (I.base.free b o e n hx)
  · obtain⟨o',e1⟩:=I.base.there b o e hx
    exact there b o' (neC b o e hx) e1
  · obtain⟨m1,e1⟩:=I.base.tbls b ps e
    obtain⟨m2,e2⟩:=tbls b _ e1
    exact⟨m1++m2,by rw [e2,Array.append_assoc]⟩
  · obtain⟨m,hn,hl⟩:=I.loc
    refine⟨m,ns m hn,fun i x v e1 e2 e3=>?_⟩
    obtain⟨u,r,l⟩:=hl i x v e1 e2 e3
    refine⟨u,r,?_⟩
    rcases l with l | ⟨k,c,e,z⟩
    · exact .inl l
    · exact .inr ⟨k,c,e,cellK x c e _ z⟩
  · obtain⟨v,z⟩:=I.cell x c e
    exact⟨v,cellK x c e v z⟩
  · obtain⟨m,⟨o,_,_,ho,_⟩,_⟩:=I.loc
    exact free _ o (fun z=>(hch _ z).2.1 rfl) ho I.free
  · obtain⟨v,o,ho,hd⟩:=I.cell x c e
    exact free c o (fun z=>(hch c z).2.2.1 x c e rfl) ho (I.freeC x c e)
  · obtain⟨e,n,ne,nf,d⟩:=I.pin p hp
    have nch:p.1∉ch:=fun z=>(hch p.1 z).2.2.2 p hp rfl
    exact⟨keep p.1 p.2 ne nf nch e n,free p.1 p.2 nch e n,ne,nf,d⟩
theorem ao.un{t':Nat}(I:ao X pins σ H s)(u:Un X.fs [] H H' s.heap h')(hok:jB X.prog X.w H' h'):ao X pins σ H' {s with heap:=h',toks:=t'}:=by
  obtain⟨m,⟨o,es,ep,ho,r⟩,_⟩:=id I.loc
  obtain⟨sl,hL⟩:=u.any ho I.free (by simp)
  exact I.step (g':=s.gens) (d':=s.drawn) (ch:=[]) (fun _ z=>nomatch z) (fun b o _ hb _ e n=>u.keep b o e n hb (by simp)) (fun b o _ hb _ e n=>u.slot b o e n hb (by simp)) (fun b o _ e n=>u.free b o e n (by simp)) (fun b o _ e=>u.there b o e (by simp)) u.tups u.frzs u.tbls (fun m' hm=>by
    obtain⟨o',es',ep',ho',r'⟩:=hm
    rw [ho] at ho';cases ho'
    exact⟨_,es',ep',hL,r'⟩) hok I.bare
theorem ao.call{g':Array GenState}{t':Nat}{d':Drawn}{ch:List Addr}(I:ao X pins σ H s)(u:Un (qZ X.stack) ch H H' s.heap h')(hok:jB X.prog X.w H' h')(hg:AllBare g')
    (hch:∀b∈ch,(b∈X.ex∨X.s₀.heap.objs.size≤b)∧b≠X.env.locals∧(∀x c,X.env.cells.lookup x=some c→c≠b)∧∀p∈X.pn++pins,p.1≠b):
    ao X pins σ H' {s with heap:=h',gens:=g',drawn:=d',toks:=t'}:=by
  obtain⟨m,⟨o,es,ep,ho,r⟩,_⟩:=id I.loc
  obtain⟨sl,hL⟩:=u.any ho I.free fun z=>(hch _ z).2.1 rfl
  exact I.step (ch:=ch) hch (fun b o hL hb hc e n=>u.keep b o e n (fun z=>(List.mem_cons.mp (I.stkSub b z)).elim hL hb) hc) (fun b o _ _ hc e n=>u.any e n hc) (fun b o hc e n=>u.free b o e n hc) (fun b o hc e=>u.there b o e hc) u.tups u.frzs u.tbls (fun m' hm=>by
    obtain⟨o',es',ep',ho',r'⟩:=hm
    rw [ho] at ho';cases ho'
    exact⟨_,es',ep',hL,r'⟩) hok hg
theorem ao.turned{t':Nat}{it:Addr}(I:ao X pins σ H s)(k:∀b o,b≠it→s.heap.get? b=some o→h'.get? b=some o)(hn:H it=none)(hL:it≠X.env.locals)
    (h1:it∈X.ex∨X.s₀.heap.objs.size≤it)(h2:∀x c,X.env.cells.lookup x=some c→c≠it)(h3:∀p∈X.pn++pins,p.1≠it):ao X pins σ H {s with heap:=h',toks:=t'}:=by
  have nit:∀b u,H b=some u→b≠it:=fun b u e z=>by rw [z,hn] at e;cases e
  refine I.step (g':=s.gens) (d':=s.drawn) (ch:=[it]) (fun b hb=>?_) (fun b o _ _ hc e _=>k b o (fun z=>hc (by simp [z])) e) (fun b o _ _ hc e _=>⟨o.slots,k b o (fun z=>hc (by simp [z])) e⟩) (fun _ _ _ _ n=>n)
    (fun b o hc e=>⟨o,k b o (fun z=>hc (by simp [z])) e⟩) (fun _ _ e=>e) (fun _ _ _ e=>e) (fun b ps e=>⟨#[],by rw [e];simp⟩) (fun m hm=>?_) (fun b u e=>?_) I.bare
  · have e:b=it:=by simpa using hb
    subst e
    exact⟨h1,hL,h2,h3⟩
  · obtain⟨o,es,ep,ho,r⟩:=hm
    exact⟨o,es,ep,k _ o (Ne.symm hL) ho,r⟩
  · refine(I.hok b u e).stay (fun c v hc q=>k c v ?_ q) (fun _ q=>q) fun _ _ q=>q
    rcases hc with z | z
    · rw [z];exact nit b u e
    · exact nit c _ z
theorem ao.tok(I:ao X pins σ H s)(t:Nat):ao X pins σ H {s with toks:=t}:=I.un (h':=s.heap) (t':=t) Un.refl I.hok
theorem ao.kept{t':Nat}(I:ao X pins σ H s)(k:∀b u,s.heap.get? b=some u→h'.get? b=some u):ao X pins σ H {s with heap:=h',toks:=t'}:=I.un (Un.kept k) (I.hok.kept k)
theorem ao.laid{a:Addr}{o:HO}{t':Nat}(I:ao X pins σ H s)(k:∀b u,s.heap.get? b=some u→h'.get? b=some u)(hp:s.heap.objs.size≤a)(new:dW X.prog X.w (a_ H a o) h' a o):
    ao X pins σ (a_ H a o) {s with heap:=h',toks:=t'}:=I.un (Un.laid k hp (I.hok.fresh hp)) (I.hok.laid k hp new)
theorem ao.write{x e:Addr}{o:HO}{t':Nat}(I:ao X pins σ H s)(mu:z0 (H x))(he:e=x∨H e=some (.own x))(k:∀b u,b≠e→s.heap.get? b=some u→h'.get? b=some u)(heo:∃u,h'.get? e=some u)
    (new:dW X.prog X.w (a_ H x o) h' x o):ao X pins σ (a_ H x o) {s with heap:=h',toks:=t'}:=I.un (Un.write mu he k heo) (I.hok.write mu he k heo new)
theorem ao.pins_of{pins':List (Addr × Obj)}(I:ao X pins σ H s)(h:∀p∈pins',s.heap.get? p.1=some p.2∧H p.1=none∧p.1≠X.env.locals∧p.1∉X.fs∧∀v,p.2.data≠.cell v):ao X pins' σ H s:=
  ⟨I.ok,I.os,I.bare,I.base,I.loc,I.cell,I.free,I.freeC,fun p hp=>(List.mem_append.mp hp).elim (fun z=>I.pin p (List.mem_append_left _ z)) (h p),I.hok,I.len⟩
theorem mO{N:List Str}(hN:N.Nodup){i j:Nat}{x:Str}(a:N[i]?=some x)(b:N[j]?=some x):i=j:=by
  obtain⟨h1,e1⟩:=List.getElem?_eq_some_iff.mp a
  obtain⟨h2,e2⟩:=List.getElem?_eq_some_iff.mp b
  exact(List.getElem_inj hN).mp (e1.trans e2.symm)
theorem lu{M:Model}{A:Around}{E:Value→Shared→Prop}{i:Nat}{x:Str}{v:V}{u:Value}{Q:Unit→Shared→Prop}(I:ao X pins σ H s)(hN:X.N.Nodup)(hi:X.N[i]?=some x)(hx:yA X.env.scope x)(r:bo v u)
    (h:∀s',ao X pins (σ.set i (some v)) H s'→(∃a,Heap.SameBut a s.heap s'.heap∧(a=X.env.locals∨X.env.cells.lookup x=some a))→Q () s')(hf:X.fn x=true∨X.env.scope.names.lookup x=some .local:=by first | exact .inl rfl | exact .inr rfl | assumption):wpAny M A (storeName X.env x u) Q E s:=by
  obtain⟨m,hn,hl⟩:=id I.loc
  have hcls:(X.env.scope.kind==.class || (X.env.scope.kind==.module&&X.env.locals != X.env.globals))=false:=by rw [I.ok.kind];rfl
  have hiσ:i < σ.length:=by rw [I.len];exact(List.getElem?_eq_some_iff.mp hi).1
  have cne:=I.cne
  have tracked:∀{a:Addr} {h':Heap},(∃o,s.heap.get? a=some o∧H a=none)→Heap.SameBut a s.heap h'→jB X.prog X.w H h':=fun{a h'} ha hs b ob e=>by
    obtain⟨_,_,hfree⟩:=ha
    refine(I.hok b ob e).stay (fun c w' hc q=>(hs.2 c ?_).trans q) (fun _ q=>q) fun _ _ q=>q
    rintro rfl
    rcases hc with rfl | hc
    · rw [hfree] at e;cases e
    · rw [hfree] at hc;cases hc
  rcases hx with hk | hk
  · refine wpAny_storeName_local hk hn (fun h' hn' hs=>?_) hcls
    obtain⟨oL,_,_,hoL,_⟩:=id hn
    refine h _ ⟨I.ok,I.os,I.bare,⟨fun b o e n hb hx=>?_,fun b o e n hb hx=>?_,I.base.free,fun b o e hx=>?_,I.base.tups,I.base.frzs,I.base.tbls⟩,⟨_,hn',fun j y v' e1 e2 e3=>?_⟩,fun y c e=>?_,I.free,I.freeC,fun p hp=>?_,tracked ⟨oL,hoL,I.free⟩ hs,by simpa using I.len⟩ ⟨_,hs,.inl rfl⟩
    · exact(hs.2 b (Nat.ne_of_lt (Nat.lt_of_lt_of_le (Heap.lt_size e) I.ok.above))).trans (I.base.keep b o e n hb hx)
    · obtain⟨sl,e1⟩:=I.base.slot b o e n hb hx
      exact⟨sl,(hs.2 b (Nat.ne_of_lt (Nat.lt_of_lt_of_le (Heap.lt_size e) I.ok.above))).trans e1⟩
    · obtain⟨o',e1⟩:=I.base.there b o e hx
      exact⟨o',(hs.2 b (Nat.ne_of_lt (Nat.lt_of_lt_of_le (Heap.lt_size e) I.ok.above))).trans e1⟩
    · by_cases hj:j=i
      · subst hj
        rw [hi] at e1;cases e1
        rw [List.getElem?_set_self hiσ] at e2
        cases e2
        exact⟨u,r,.inl ⟨hk,by simp⟩⟩
      · rw [List.getElem?_set_ne (Ne.symm hj)] at e2
        obtain⟨u',r',q⟩:=hl j y v' e1 e2 e3
        refine⟨u',r',?_⟩
        rcases q with ⟨k,e⟩ | ⟨k,c,e,z⟩
        · refine .inl ⟨k,?_⟩
          have:y≠x:=fun e=>hj (mO hN e1 (e ▸ hi))
          simp [this,e]
        · exact .inr ⟨k,c,e,z.sameBut hs (cne y c e)⟩
    · obtain⟨w',z⟩:=I.cell y c e
      exact⟨w',z.sameBut hs (cne y c e)⟩
    · obtain⟨e,n,ne,nf,d⟩:=I.pin p hp
      exact⟨(hs.2 p.1 ne).trans e,n,ne,nf,d⟩
  · have hfn:X.fn x=true:=by
      rcases hf with z | z
      · exact z
      · rw [z] at hk;cases hk
    obtain⟨c,hc⟩:=I.ok.has x (.inl hk)
    obtain⟨w',z⟩:=I.cell x c hc
    refine wpAny_storeName_cell I.ok.kind hk hc z (fun h' hc' hs=>?_)
    obtain⟨oc,hoc,hocd⟩:=id z
    refine h {s with heap:=h'} ⟨I.ok,I.os,I.bare,⟨fun b o e n hb hx=>?_,fun b o e n hb hx=>?_,I.base.free,fun b o e hx=>?_,I.base.tups,I.base.frzs,I.base.tbls⟩,⟨m,hn.sameBut hs (Ne.symm (cne x c hc)),fun j y v' e1 e2 e3=>?_⟩,fun y c' e=>?_,I.free,I.freeC,fun p hp=>?_,tracked ⟨oc,hoc,I.freeC x c hc⟩ hs,by simpa using I.len⟩ ⟨c,hs,.inr hc⟩
    · exact(hs.2 b (Nat.ne_of_lt (Nat.lt_of_lt_of_le (Heap.lt_size e) (I.ok.cab x c hfn hc)))).trans (I.base.keep b o e n hb hx)
    · obtain⟨sl,e1⟩:=I.base.slot b o e n hb hx
      exact⟨sl,(hs.2 b (Nat.ne_of_lt (Nat.lt_of_lt_of_le (Heap.lt_size e) (I.ok.cab x c hfn hc)))).trans e1⟩
    · obtain⟨o',e1⟩:=I.base.there b o e hx
      exact⟨o',(hs.2 b (Nat.ne_of_lt (Nat.lt_of_lt_of_le (Heap.lt_size e) (I.ok.cab x c hfn hc)))).trans e1⟩
    · by_cases hj:j=i
      · subst hj
        rw [hi] at e1;cases e1
        rw [List.getElem?_set_self hiσ] at e2
        cases e2
        exact⟨u,r,.inr ⟨.inl hk,c,hc,hc'⟩⟩
      · rw [List.getElem?_set_ne (Ne.symm hj)] at e2
        obtain⟨u',r',q⟩:=hl j y v' e1 e2 e3
        refine⟨u',r',?_⟩
        rcases q with q | ⟨k,c',e,z'⟩
        · exact .inl q
        · refine .inr ⟨k,c',e,z'.sameBut hs ?_⟩
          rintro rfl
          exact hj (mO hN e1 (I.ok.inj _ _ _ e hc ▸ hi))
    · by_cases hcc:c'=c
      · subst hcc;exact⟨_,hc'⟩
      · obtain⟨w2,z2⟩:=I.cell y c' e
        exact⟨w2,z2.sameBut hs hcc⟩
    · obtain⟨e,n,ne,nf,d⟩:=I.pin p hp
      refine⟨(hs.2 p.1 ?_).trans e,n,ne,nf,d⟩
      intro q
      rw [q,hoc] at e
      have q':oc=p.2:=Option.some.inj e
      exact d w' (by rw [←q'];exact hocd)
theorem iG{M:Model}{A:Around}{E:Value→Shared→Prop}{i:Nat}{x:Str}{v:V}{u:Value}{Q:Unit→Shared→Prop}(I:ao X pins σ H s)(hN:X.N.Nodup)(hi:X.N[i]?=some x)(hx:yA X.env.scope x)(r:bo v u)
    (h:∀s',ao X pins (σ.set i (some v)) H s'→Q () s')(hf:X.fn x=true∨X.env.scope.names.lookup x=some .local:=by first | exact .inl rfl | exact .inr rfl | assumption):wpAny M A (storeName X.env x u) Q E s:=
  lu I hN hi hx r (fun s' I' _=>h s' I') hf
theorem ao.call'{s':Shared}{ch:List Addr}(I:ao X pins σ H s)(ho:s'.os=s.os)(u:Un (qZ X.stack) ch H H' s.heap s'.heap)(hok:jB X.prog X.w H' s'.heap)(hg:AllBare s'.gens)
    (hch:∀b∈ch,(b∈X.ex∨X.s₀.heap.objs.size≤b)∧b≠X.env.locals∧(∀x c,X.env.cells.lookup x=some c→c≠b)∧∀p∈X.pn++pins,p.1≠b):ao X pins σ H' s':=by
  obtain⟨h',g',d',t',o'⟩:=s'
  have e:o'=s.os:=ho
  subst e
  exact I.call (g':=g') (t':=t') (d':=d') u hok hg hch
end
abbrev XK:=Value→Option Addr→Hp→Prop
abbrev St:=List (Option V)
abbrev VK:=V→Hp→Prop
abbrev TE:=St→Hp→VK→Prop
abbrev TT:=St→Hp→(Bool→Hp→Prop)→Prop
abbrev TA:=St→Hp→(List V→Hp→Prop)→Prop
structure nI where
  nx:St→Hp→Prop
  rt:VK
  bk:St→Hp→Prop:=fun _ _=>False
  ct:St→Hp→Prop:=fun _ _=>False
abbrev TS:=nI→St→Hp→Prop
def EP(X:Cx)(pins:List (Addr × Obj))(σ:St)(Q:VK)(u:Value)(s':Shared):Prop:=∃v H',ao X pins σ H' s'∧bo v u∧Q v H'
def TP(X:Cx)(pins:List (Addr × Obj))(σ:St)(Q:Bool→Hp→Prop)(b:Bool)(s':Shared):Prop:=∃H',ao X pins σ H' s'∧Q b H'
def AP(X:Cx)(pins:List (Addr × Obj))(σ:St)(Q:List V→Hp→Prop)(us:List Value)(s':Shared):Prop:=∃vs H',ao X pins σ H' s'∧aE vs us∧Q vs H'
def SP(X:Cx)(pins:List (Addr × Obj))(D:nI)(f:Flow)(s':Shared):Prop:=
  match f with
  | .next=>∃σ' H',ao X pins σ' H' s'∧D.nx σ' H'
  | .brk=>∃σ' H',ao X pins σ' H' s'∧D.bk σ' H'
  | .cont=>∃σ' H',ao X pins σ' H' s'∧D.ct σ' H'
  | .ret u=>∃v σ' H',ao X pins σ' H' s'∧bo v u∧D.rt v H'
def PE(X:Cx)(e:Expr)(t:TE):Prop:=
  ∀(pins:List (Addr × Obj)) (s:Shared) (σ:St) (H:Hp) (Q:VK),ao X pins σ H s→t σ H Q→wpAny (model X.prog X.w) X.A (eval e X.env) (EP X pins σ Q) X.xe s
def PT(X:Cx)(e:Expr)(t:TT):Prop:=
  ∀(pins:List (Addr × Obj)) (s:Shared) (σ:St) (H:Hp) (Q:Bool→Hp→Prop),ao X pins σ H s→t σ H Q→wpAny (model X.prog X.w) X.A (isTrue e X.env (eval e X.env)) (TP X pins σ Q) X.xe s
def PW(X:Cx)(e:Expr)(t:TT):Prop:=
  ∀(whole:Sem Value) (pins:List (Addr × Obj)) (s:Shared) (σ:St) (H:Hp) (Q:Bool→Hp→Prop),ao X pins σ H s→t σ H Q→wpAny (model X.prog X.w) X.A (isTrue e X.env whole) (TP X pins σ Q) X.xe s
theorem PW.pt{X:Cx}{e:Expr}{t:TT}(h:PW X e t):PT X e t:=h _
def PA(X:Cx)(es:List Expr)(t:TA):Prop:=
  ∀(pos:Pos) (pins:List (Addr × Obj)) (s:Shared) (σ:St) (H:Hp) (Q:List V→Hp→Prop),ao X pins σ H s→t σ H Q→wpAny (model X.prog X.w) X.A (spliced (backTo pos (starEach es X.env))) (AP X pins σ Q) X.xe s
def PS(X:Cx)(st:Stmt)(t:TS):Prop:=
  ∀(pins:List (Addr × Obj)) (s:Shared) (σ:St) (H:Hp) (D:nI),ao X pins σ H s→t D σ H→wpAny (model X.prog X.w) X.A (exec st X.env) (SP X pins D) X.xe s
def jp(X:Cx)(st:List Stmt)(t:TS):Prop:=
  ∀(pins:List (Addr × Obj)) (s:Shared) (σ:St) (H:Hp) (D:nI),ao X pins σ H s→t D σ H→wpAny (model X.prog X.w) X.A (execs st X.env) (SP X pins D) X.xe s
theorem cv{α:Type}{t:Sem α}{Q Q':α→Shared→Prop}{M:Model}{A:Around}{E:Value→Shared→Prop}{s:Shared}(h:wpAny M A t Q E s)(hQ:∀a s,Q a s→Q' a s):wpAny M A t Q' E s:=wpAny_mono h hQ fun _ _ x=>x
end L2
namespace L2
open PySem PySem.Spec PyProof.Rows
section
variable{X:Cx}
def zR(i:Nat):TE:=fun σ H Q=>∃v,σ[i]?=some (some v)∧Q v H
def tC(v:V):TE:=fun _ H Q=>Q v H
theorem xG{i:Nat}{x:Str}{pos:Pos}(hN:X.N[i]?=some x)(hv:yM X.env.scope x)(hd:(x==("__debug__":Str))=false:=by decide)(hcd:(x==("__classdict__":Str))=false:=by decide):PE X (.Name x pos) (zR i):=by
  intro pins s σ H Q I h
  obtain⟨v,e,h⟩:=h
  obtain⟨m,hn,hl⟩:=I.loc
  obtain⟨u,r,l⟩:=hl i x v hN e hv
  have fin:EP X pins σ Q u s:=⟨v,H,I,r,h⟩
  rcases l with ⟨hk,hm⟩ | ⟨hk,c,hc,hcell⟩
  · exact wpAny_Name (wpAny_loadName_local I.ok.kind hk hn hm fin) hd
  · rcases hk with hk | hk
    · exact wpAny_Name (wpAny_loadName_cell I.ok.kind hk hc hcell fin) hd
    · exact wpAny_Name (wpAny_loadName_free I.ok.kind hk hc hcell fin hcd) hd
theorem xC{i j pos}:PE X (.Constant (.int i) j pos) (tC (.int i)):=fun _ _ _ H _ I h=>wpAny_Constant_int ⟨.int i,H,I.tok _,⟨_,rfl⟩,h⟩
theorem zi{b j pos}:PE X (.Constant (.bool b) j pos) (tC (.bl b)):=fun _ _ _ H _ I h=>Constant_bool ⟨.bl b,H,I,rfl,h⟩
def Gl(X:Cx)(x:Str):Prop:=X.env.kindOf x=some .globalImplicit
theorem uC{E:Value→Shared→Prop}{pins:List (Addr × Obj)}{s:Shared}{σ:St}{H:Hp}{x:Str}{u:Value}{pos:Pos}{Q:Value→Shared→Prop}(I:ao X pins σ H s)(hg:Gl X x)(hm:X.mg x=some u)(h:Q u s)
    (hd:(x==("__debug__":Str))=false:=by decide):wpAny (model X.prog X.w) X.A (eval (.Name x pos) X.env) Q E s:=
  Calls.Name_function_global I.ok.kind hg (Calls.loadGlobal_global (by rw [I.ok.glob];exact I.mod.glob.keeps I.bk) hm h) hd
theorem jZ{E:Value→Shared→Prop}{pins:List (Addr × Obj)}{s:Shared}{σ:St}{H:Hp}{x:Str}{u:Value}{pos:Pos}{Q:Value→Shared→Prop}(I:ao X pins σ H s)(hg:Gl X x)(hm:X.mg x=none)(hv:bootBuiltins x=some u)(h:Q u s)
    (hn:x≠"__name__":=by decide)(hd:(x==("__debug__":Str))=false:=by decide):wpAny (model X.prog X.w) X.A (eval (.Name x pos) X.env) Q E s:=by
  obtain⟨mb,h1,h2⟩:=I.mod.blt
  exact Calls.Name_function_global I.ok.kind hg (Calls.loadGlobal_builtin (by rw [I.ok.glob];exact I.mod.glob.keeps I.bk) hm (by rw [I.ok.blt];exact h1.keeps I.bk) ((h2 x hn).trans hv) h) hd
variable{a b:Expr}{ta tb:TE}{pos:Pos}
def tB(t:TE):TT:=fun σ H Q=>t σ H fun x H1=>∃c,x=.bl c∧Q c H1
theorem xQ{e:Expr}{t:TE}(h:PE X e t)(he:∀whole,isTrue e X.env whole=(do let v ←whole;standAt e.pos;holding [v] (truthy v)):=by intro _;rfl):PT X e (tB t):=by
  intro pins s σ H Q I hw
  refine isTrue_plain (cv (h pins s σ H _ I hw) fun v s1 ⟨x,H1,I1,r1,q1⟩=>?_) (he _)
  obtain⟨d,rfl,q⟩:=q1
  cases r1
  exact wpAny_truthy_bool ⟨H1,I1,q⟩
variable{tA tB':TT}{dS:List Expr}
def zI(t u:TT):TT:=fun σ H Q=>t σ H fun c H1=>if c=true then u σ H1 Q else Q false H1
def Ba(t u:TT):TT:=fun σ H Q=>t σ H fun c H1=>if c=true then Q true H1 else u σ H1 Q
def zM(t:TT):TT:=fun σ H Q=>t σ H fun c H1=>Q (!c) H1
theorem vq(ha:PT X a tA):PW X (.BoolOp .And [a] pos) tA:=by
  intro wh pins s σ H Q I h
  refine isTrue_and (cv (ha pins s σ H Q I h) fun c s1 e=>?_)
  cases c with
  | true=>exact isTrue_and_nil e
  | false=>exact e
theorem xS(ha:PT X a tA):PW X (.BoolOp .Or [a] pos) tA:=by
  intro wh pins s σ H Q I h
  refine isTrue_or (cv (ha pins s σ H Q I h) fun c s1 e=>?_)
  cases c with
  | false=>exact isTrue_or_nil e
  | true=>exact e
theorem xR(ha:PT X a tA)(hb:PW X (.BoolOp .And (b::dS) pos) tB'):PW X (.BoolOp .And (a::b::dS) pos) (zI tA tB'):=by
  intro wh pins s σ H Q I h
  refine isTrue_and (cv (ha pins s σ H _ I h) fun c s1 ⟨H1,I1,q1⟩=>?_)
  cases c with
  | true=>exact hb wh pins s1 σ H1 Q I1 q1
  | false=>exact⟨H1,I1,q1⟩
theorem zt(ha:PT X a tA)(hb:PW X (.BoolOp .Or (b::dS) pos) tB'):PW X (.BoolOp .Or (a::b::dS) pos) (Ba tA tB'):=by
  intro wh pins s σ H Q I h
  refine isTrue_or (cv (ha pins s σ H _ I h) fun c s1 ⟨H1,I1,q1⟩=>?_)
  cases c with
  | true=>exact⟨H1,I1,q1⟩
  | false=>exact hb wh pins s1 σ H1 Q I1 q1
theorem xP(ha:PT X a tA):PT X (.UnaryOp .Not a pos) (zM tA):=by
  intro pins s σ H Q I h
  exact isTrue_not (ha pins s σ H (fun c H1=>Q (!c) H1) I h)
def zJ(ta tb:TE):TE:=fun σ H Q=>ta σ H fun x H1=>∃c,x=.bl c∧if c=true then tb σ H1 Q else Q (.bl false) H1
theorem xE{op}{t:TE}(h:PE X a t):PE X (.BoolOp op [a] pos) t:=fun pins s σ H Q I hw=>BoolOp_one (h pins s σ H Q I hw)
theorem xB(ha:PE X a ta)(hb:PE X (.BoolOp .And (b::dS) pos) tb):PE X (.BoolOp .And (a::b::dS) pos) (zJ ta tb):=by
  intro pins s σ H Q I h
  refine BoolOp_and (cv (ha pins s σ H _ I h) fun v s1 ⟨x,H1,I1,r1,q1⟩=>?_)
  obtain⟨c,rfl,q1⟩:=q1
  cases r1
  refine wpAny_truthy_bool ?_
  cases c with
  | true=>exact hb pins s1 σ H1 Q I1 q1
  | false=>exact⟨.bl false,H1,I1,rfl,q1⟩
end
end L2
namespace L2
open PySem PySem.Spec PyProof.Rows
def fx(K:PySem.W.Frag)(H:Hp)(a:Addr)(xs:List V):Prop:=
  Rd H a (.lst xs)∨
    ∃(o:Obj) (its:Array Value) (n:Nat),K.lookup a=some o∧o.cls=.type "list"∧o.dict=none∧o.data=.seq its n∧its.size≤sizeLine∧aE xs its.toList
def cH(K:PySem.W.Frag)(H:Hp)(a:Addr)(xs:List V):Prop:=
  Rd H a (.tup xs)∨
    ∃(o:Obj) (its:Array Value) (n:Nat),K.lookup a=some o∧o.cls=.type "tuple"∧o.dict=none∧o.data=.seq its n∧its.size≤sizeLine∧aE xs its.toList
def Aj:Value→Option V
  | .none=>some .non
  | .bool b=>some (.bl b)
  | .int i _=>some (.int i)
  | .str x _=>some (.str x)
  | .bytes b _=>some (.byt b)
  | .float b _=>some (.flt b)
  | .ref a=>some (.ref a)
  | .type n=>some (.ty n)
  | _=>none
theorem bo.abs{x:V}{u:Value}(r:bo x u):Aj u=some x:=by
  cases x with
  | non=>cases r;rfl
  | bl _=>cases r;rfl
  | int _=>obtain⟨t,rfl⟩:=r;rfl
  | str _=>obtain⟨t,rfl⟩:=r;rfl
  | byt _=>obtain⟨t,rfl⟩:=r;rfl
  | flt _=>obtain⟨t,rfl⟩:=r;rfl
  | ref _=>cases r;rfl
  | ty _=>cases r;rfl
theorem bo.inj{x y:V}{u:Value}(r:bo x u)(q:bo y u):x=y:=Option.some.inj (r.abs.symm.trans q.abs)
theorem aE.inj:∀{xs ys:List V} {us:List Value},aE xs us→aE ys us→xs=ys
  | _,_,_,.nil,.nil=>rfl
  | _,_,_,.cons r t,.cons r' t'=>by rw [r.inj r',aE.inj t t']
section
variable{X:Cx}{pins:List (Addr × Obj)}{σ:St}{H:Hp}{s:Shared}{a:Addr}{xs ys:List V}
theorem cH.of{K:PySem.W.Frag}(h:H a=some (.tup xs)):cH K H a xs:=.inl (.inl h)
theorem ao.list(I:ao X pins σ H s)(h:fx X.K H a xs):∃its:List Value,aE xs its∧PlainL s.heap a its.toArray∧xs.length≤sizeLine:=by
  rcases h with h | ⟨o,its,n,hk,hc,hd,hs,hz,r⟩
  · obtain⟨z,its,n,r,e⟩:=h.ok I.hok
    exact⟨its,r,⟨_,n,e,rfl,rfl,rfl⟩,z⟩
  · refine⟨its.toList,r,⟨o,n,I.kIn a o hk,hc,hd,by simpa using hs⟩,?_⟩
    have e:=r.length
    simp only [Array.length_toList] at e
    lia
theorem ao.tuple(I:ao X pins σ H s)(h:cH X.K H a xs):∃its:List Value,aE xs its∧IsTup s.heap a its.toArray∧xs.length≤sizeLine:=by
  rcases h with h | ⟨o,its,n,hk,hc,_,hs,hz,r⟩
  · obtain⟨z,its,r,p⟩:=h.ok I.hok
    exact⟨its,r,p.tup,z⟩
  · refine⟨its.toList,r,⟨o,I.kIn a o hk,hc,n,by simpa using hs⟩,?_⟩
    have e:=r.length
    simp only [Array.length_toList] at e
    lia
theorem ao.list_inj(I:ao X pins σ H s)(h:fx X.K H a xs)(h':fx X.K H a ys):xs=ys:=by
  obtain⟨its,r,⟨o,n,e,_,_,d⟩,_⟩:=I.list h
  obtain⟨its',r',⟨o',n',e',_,_,d'⟩,_⟩:=I.list h'
  rw [e] at e';cases e'
  rw [d] at d'
  injection d' with d1 _
  have:its=its':=by simpa using congrArg Array.toList d1
  subst this
  exact r.inj r'
theorem ao.tuple_inj(I:ao X pins σ H s)(h:cH X.K H a xs)(h':cH X.K H a ys):xs=ys:=by
  obtain⟨its,r,⟨o,e,_,n,d⟩,_⟩:=I.tuple h
  obtain⟨its',r',⟨o',e',_,n',d'⟩,_⟩:=I.tuple h'
  rw [e] at e';cases e'
  rw [d] at d'
  injection d' with d1 _
  have:its=its':=by simpa using congrArg Array.toList d1
  subst this
  exact r.inj r'
end
abbrev Cx.wish(X:Cx)(E:Value→Shared→Prop):Cx:={X with xe:=E}
abbrev Cx.nox(X:Cx):Cx:=X.wish fun _ _=>False
theorem Cx.Ok.wish{X:Cx}(ok:X.Ok)(E:Value→Shared→Prop):(X.wish E).Ok:=
  ⟨ok.mod,ok.kind,ok.glob,ok.blt,ok.above,ok.inj,ok.has,ok.cab,ok.hd,ok.frames,ok.stk,ok.exf,ok.bs,ok.bsz,ok.noex,ok.exfs,ok.funs,ok.frf⟩
theorem Cx.Ok.unwish{X:Cx}{E:Value→Shared→Prop}(ok:(X.wish E).Ok):X.Ok:=
  ⟨ok.mod,ok.kind,ok.glob,ok.blt,ok.above,ok.inj,ok.has,ok.cab,ok.hd,ok.frames,ok.stk,ok.exf,ok.bs,ok.bsz,ok.noex,ok.exfs,ok.funs,ok.frf⟩
section
variable{X:Cx}{pins:List (Addr × Obj)}{σ:St}{H:Hp}{s:Shared}{E:Value→Shared→Prop}
theorem ao.wish(I:ao X pins σ H s)(E:Value→Shared→Prop):ao (X.wish E) pins σ H s:=⟨I.ok.wish E,I.os,I.bare,I.base,I.loc,I.cell,I.free,I.freeC,I.pin,I.hok,I.len⟩
theorem ao.unwish(I:ao (X.wish E) pins σ H s):ao X pins σ H s:=⟨I.ok.unwish,I.os,I.bare,I.base,I.loc,I.cell,I.free,I.freeC,I.pin,I.hok,I.len⟩
theorem SP.unwish{D:nI}{f:Flow}{s':Shared}(h:SP (X.wish E) pins D f s'):SP X pins D f s':=by
  cases f with
  | next=>obtain⟨σ',H',I,q⟩:=h;exact⟨σ',H',I.unwish,q⟩
  | brk=>obtain⟨σ',H',I,q⟩:=h;exact⟨σ',H',I.unwish,q⟩
  | cont=>obtain⟨σ',H',I,q⟩:=h;exact⟨σ',H',I.unwish,q⟩
  | ret u=>obtain⟨v,σ',H',I,r,q⟩:=h;exact⟨v,σ',H',I.unwish,r,q⟩
theorem jp.nox{st:List Stmt}{t:TS}(h:jp X.nox st t):jp X st t:=fun pins s σ H D I hw=>
  wpAny_mono (h pins s σ H D (I.wish _) hw) (fun _ _ q=>q.unwish) fun _ _ z=>False.elim z
end
section
variable{X:Cx}{st:Stmt}{dS:List Stmt}{t u:TS}{e:Expr}{te:TE}{pos:Pos}
def zL:TS:=fun D σ H=>D.nx σ H
def AM(t u:TS):TS:=fun D σ H=>t {D with nx:=u D} σ H
theorem vk:jp X [] zL:=fun _ _ σ H _ I h=>wpAny_execs_nil ⟨σ,H,I,h⟩
theorem sG(h1:PS X st t)(h2:jp X dS u):jp X (st::dS) (AM t u):=by
  intro pins s σ H D I h
  refine wpAny_execs_cons (cv (h1 pins s σ H {D with nx:=u D} I h) fun f s1 q=>?_)
  cases f with
  | next=>
    obtain⟨σ',H',I',q⟩:=q
    exact h2 pins s1 σ' H' D I' q
  | ret v=>exact q
  | brk=>exact q
  | cont=>exact q
theorem vm(h1:PS X st t):jp X [st] t:=by
  intro pins s σ H D I h
  refine wpAny_execs_cons (cv (h1 pins s σ H D I h) fun f s1 q=>?_)
  cases f with
  | next=>exact wpAny_execs_nil q
  | ret v=>exact q
  | brk=>exact q
  | cont=>exact q
theorem ao.quiet{pins:List (Addr × Obj)}{σ:St}{H:Hp}{s:Shared}(I:ao X pins σ H s):interactive X.env=false:=by simp [interactive,I.ok.kind]
def zK(te:TE):TS:=fun D σ H=>te σ H fun _ H1=>D.nx σ H1
theorem vj(he:PE X e te)(hs:swapsWith e none pos.line X.env=pure false:=by rfl):PS X (.Expr e pos) (zK te):=by
  intro pins s σ H D I h
  exact wpAny_Expr_any (cv (he pins s σ H _ I h) fun v s1 ⟨x,H1,I1,r1,q1⟩=>⟨σ,H1,I1,q1⟩) I.quiet hs
def AL(te:TE):TS:=fun D σ H=>te σ H D.rt
theorem xN(he:PE X e te):PS X (.Return (some e) pos) (AL te):=by
  intro pins s σ H D I h
  exact wpAny_Return_some (cv (he pins s σ H _ I h) fun v s1 ⟨x,H1,I1,r1,q1⟩=>⟨x,σ,H1,I1,r1,q1⟩)
def AH(c:TT)(t u:TS):TS:=fun D σ H=>c σ H fun b H1=>if b=true then t D σ H1 else u D σ H1
theorem zr{c:Expr}{a b:List Stmt}{tc:TT}(hc:PT X c tc)(ha:jp X a t)(hb:jp X b u):PS X (.If c a b pos) (AH tc t u):=by
  intro pins s σ H D I h
  refine wpAny_If (cv (hc pins s σ H _ I h) fun d s1 ⟨H1,I1,q1⟩=>?_)
  cases d with
  | true=>exact ha pins s1 σ H1 D I1 q1
  | false=>exact hb pins s1 σ H1 D I1 q1
end
abbrev TG:=V→St→Hp→(St→Hp→Prop)→Prop
abbrev tZ:=List V→St→Hp→(St→Hp→Prop)→Prop
def PG(X:Cx)(target:Expr)(t:TG):Prop:=
  ∀(pins:List (Addr × Obj)) (s:Shared) (σ:St) (H:Hp) (v:V) (u:Value) (Q:St→Hp→Prop),ao X pins σ H s→bo v u→t v σ H Q→
    wpAny (model X.prog X.w) X.A (assign target X.env u) (fun _ s'=>∃σ' H',ao X pins σ' H' s'∧Q σ' H') X.xe s
def qt(X:Cx)(ts:List Expr)(t:tZ):Prop:=
  ∀(pins:List (Addr × Obj)) (s:Shared) (σ:St) (H:Hp) (vs:List V) (us:List Value) (Q:St→Hp→Prop),ao X pins σ H s→aE vs us→t vs σ H Q→
    wpAny (model X.prog X.w) X.A (assignInOrder ((assignEach ts X.env).map (·.2)) us) (fun _ s'=>∃σ' H',ao X pins σ' H' s'∧Q σ' H') X.xe s
section
variable{X:Cx}{pos:Pos}
def rk(i:Nat):TG:=fun v σ H Q=>Q (σ.set i (some v)) H
theorem va{i:Nat}{x:Str}(hN:X.N.Nodup)(hi:X.N[i]?=some x)(hx:yA X.env.scope x)(hf:X.fn x=true∨X.env.scope.names.lookup x=some .local:=by first | exact .inl rfl | exact .inr rfl | assumption):PG X (.Name x pos) (rk i):=by
  intro pins s σ H v u Q I r h
  exact wpAny_assign_Name (iG I hN hi hx r (fun s' I'=>⟨_,H,I',h⟩) hf)
def Am:tZ:=fun vs σ H Q=>vs=[]∧Q σ H
def yU(t:TG)(u:tZ):tZ:=fun vs σ H Q=>∃v r,vs=v::r∧t v σ H fun σ' H'=>u r σ' H' Q
theorem vc:qt X [] Am:=by
  intro pins s σ H vs us Q I r h
  obtain⟨e,h⟩:=h
  subst e
  cases r
  exact assignInOrder_nil ⟨σ,H,I,h⟩
theorem sk{e:Expr}{es:List Expr}{t:TG}{u:tZ}(h1:PG X e t)(h2:qt X es u)
    (hs:(assignEach (e::es) X.env).map (·.2)=assign e X.env::(assignEach es X.env).map (·.2):=by rfl):qt X (e::es) (yU t u):=by
  intro pins s σ H vs us Q I r h
  obtain⟨v,vr,e1,h⟩:=h
  subst e1
  cases r with
  | cons r rr=>
    rw [hs]
    refine assignInOrder_cons (cv (h1 pins s σ H _ _ _ I r h) fun _ s1 ⟨σ1,H1,I1,q1⟩=>?_)
    exact h2 pins s1 σ1 H1 _ _ Q I1 rr q1
def yW(K:PySem.W.Frag)(n:Nat)(t:tZ):TG:=fun v σ H Q=>∃a xs,v=.ref a∧cH K H a xs∧xs.length=n∧t xs σ H Q
theorem xH{es:List Expr}{k:Nat}{t:tZ}{n:Nat}(hc:X.calm=true)(h:qt X es t)
    (hn:(assignEach es X.env).length=n:=by rfl)(hst:(assignEach es X.env).findIdx? (·.1)=none:=by rfl):PG X (.Tuple es k pos) (yW X.K n t):=by
  intro pins s σ H v u Q I r hw
  obtain⟨a,xs,e1,hq,hl,hw⟩:=hw
  subst e1
  cases r
  obtain⟨its,rv,ht,hz⟩:=I.tuple hq
  refine assign_Tuple_tuple (I.ok.hd hc) ht (by simp [hn,←hl,rv.length]) hst fun h' hx=>?_
  have I1:ao X pins σ H {s with heap:=h'}:=I.kept (t':=s.toks) fun b o e=>hx b o (Nat.ne_of_lt (Heap.lt_size e)) e
  exact h pins _ σ H xs _ Q I1 (by simpa using rv) hw
def yf(te:TE)(g:TG):TS:=fun D σ H=>te σ H fun x H1=>g x σ H1 D.nx
theorem xJ{tg e:Expr}{te:TE}{g:TG}(he:PE X e te)(hg:PG X tg g)(hs:swapsWithSole [tg] e pos.line X.env=pure false:=by rfl)(hw:swappedStores [tg] e X.env=pure none:=by rfl)
    (h1:(assignEach [tg] X.env).map (·.2)=[assign tg X.env]:=by rfl):PS X (.Assign [tg] e pos) (yf te g):=by
  intro pins s σ H D I h
  refine wpAny_Assign_stores (cv (he pins s σ H _ I h) fun v s1 ⟨x,H1,I1,r1,q1⟩=>?_) hs hw
  rw [h1]
  exact cv (hg pins s1 σ H1 x v _ I1 r1 q1) fun _ s2 q=>q
theorem xO{i:Nat}{x:Str}{e:Expr}{te:TE}{pos':Pos}(hN:X.N.Nodup)(hi:X.N[i]?=some x)(hx:yA X.env.scope x)(he:PE X e te)(hs:swapsWith e (some (.Name x pos')) pos.line X.env=pure false:=by rfl)(hf:X.fn x=true∨X.env.scope.names.lookup x=some .local:=by first | exact .inl rfl | exact .inr rfl | assumption):
    PS X (.Assign [.Name x pos'] e pos) (yf te (rk i)):=by
  intro pins s σ H D I h
  refine wpAny_Assign_Name (cv (he pins s σ H _ I h) fun v s1 ⟨y,H1,I1,r1,q1⟩=>?_) hs
  exact iG I1 hN hi hx r1 (fun s2 I2=>⟨_,H1,I2,q1⟩) hf
def AK(i j:Nat)(ta:TA):TS:=fun D σ H=>ta σ H fun vs H1=>∃v w,vs=[v,w]∧D.nx ((σ.set i (some v)).set j (some w)) H1
theorem xM{i j:Nat}{x y:Str}{a b:Expr}{ta:TA}{px py pt:Pos}{kt k2 pt2}(hc:X.calm=true)(hN:X.N.Nodup)(hi:X.N[i]?=some x)(hj:X.N[j]?=some y)(hij:i≠j)
    (hx:X.env.scope.names.lookup x=some .local)(hy:X.env.scope.names.lookup y=some .local)(ha:PA X [a,b] ta)
    (hw:swappedStores [.Tuple [.Name x px,.Name y py] kt pt] (.Tuple [a,b] k2 pt2) X.env=pure (some [x,y]))
    (hs:swapsWithSole [.Tuple [.Name x px,.Name y py] kt pt] (.Tuple [a,b] k2 pt2) pos.line X.env=pure false:=by rfl):
    PS X (.Assign [.Tuple [.Name x px,.Name y py] kt pt] (.Tuple [a,b] k2 pt2) pos) (AK i j ta):=by
  intro pins s σ H D I h
  rw [exec_Assign_arm]
  refine wpAny_bind (wpAny_standAt ?_)
  rw [hs]
  refine wpAny_bind (wpAny_pure ?_)
  rw [if_neg (by decide)]
  refine wpAny_bind (Tuple_ (cv (ha _ pins s σ H _ I h) fun us s1 ⟨vs,H1,I1,r1,q1⟩=>?_))
  obtain⟨v,w,e1,q1⟩:=q1
  subst e1
  obtain⟨u1,u2,rfl,rv,rw'⟩:∃u1 u2,us=[u1,u2]∧bo v u1∧bo w u2:=by
    cases r1 with
    | cons p q=>
      cases q with
      | cons p' q'=>
        cases q'
        exact⟨_,_,rfl,p,p'⟩
  refine wpAny_newObj_type ?_ (by show 2≤sizeLine;decide)
  have I2:ao X pins σ H1 {s1 with heap:=s1.heap.push {cls:=.type "tuple",data:=.seq [u1,u2].toArray}}:=I1.kept (t':=s1.toks) fun b o e=>Heap.get?_push_of_some _ e
  rw [hw]
  refine wpAny_bind (wpAny_pure ?_)
  show wpAny (model X.prog X.w) X.A (do rule "assign.swapped-stores";let items ←unpackItems (.ref s1.heap.objs.size) 2 none;assignInOrder [fun v=>bindName X.env y v,fun v=>bindName X.env x v] items.reverse;pure Flow.next) _ _ _
  refine wpAny_bind (wpAny_rule (wpAny_bind (unpackItems_tuple (items:=#[u1,u2]) (I.ok.hd hc) (IsTup.new s1.heap _) fun h' hx'=>?_)))
  have I3:=I2.kept (h':=h') (t':=s1.toks) fun b o e=>hx' b o (Nat.ne_of_lt (Heap.lt_size e)) e
  show wpAny _ _ (assignInOrder [fun v=>bindName X.env y v,fun v=>bindName X.env x v] [u2,u1] >>= fun _=>pure Flow.next) _ _ _
  refine wpAny_bind (assignInOrder_cons (wpAny_bindName (iG I3 hN hj (.inl hy) rw' (fun s2 I4=>?_) (.inr hy))))
  refine assignInOrder_cons (wpAny_bindName (iG I4 hN hi (.inl hx) rv (fun s3 I5=>assignInOrder_nil (wpAny_pure ?_)) (.inr hx)))
  rw [List.set_comm _ _ (Ne.symm hij)] at I5
  exact⟨_,H1,I5,q1⟩
end
section
variable{X:Cx}{pos:Pos}
def yj(c:TT)(tb:TS):TS:=fun D σ H=>∃W:Nat→St→Hp→Prop,(∃m,W m σ H)∧∀m σ H,W m σ H→
  c σ H fun b H1=>if b=true then ∃N:St→Hp→Prop,(∀σ' H',N σ' H'→∃m',m' < m∧W m' σ' H')∧tb {D with nx:=N,ct:=N,bk:=D.nx} σ H1 else D.nx σ H1
theorem sE{c:Expr}{body:List Stmt}{tc:TT}{tb:TS}(hp:PassesOwn (model X.prog X.w) X.A X.env X.xe)(hc:PT X c tc)(hb:jp X body tb):PS X (.While c body [] pos) (yj tc tb):=by
  intro pins s σ H D I h
  obtain⟨W,⟨m0,w0⟩,turn⟩:=h
  refine wpAny_While (codeAny_whileLoop (fun n s'=>∃σ' H',ao X pins σ' H' s'∧W n σ' H') ?_ m0 ⟨σ,H,I,w0⟩)
  rintro n s1 ⟨σ1,H1,I1,w1⟩
  refine wpAny_passesOwn hp (cv (hc pins s1 σ1 H1 _ I1 (turn n σ1 H1 w1)) fun b s2 ⟨H2,I2,q2⟩=>?_)
  cases b with
  | true=>
    obtain⟨N,hN,q2⟩:=q2
    rw [if_pos rfl]
    refine wpAny_passesOwn hp (cv (hb pins s2 σ1 H2 _ I2 q2) fun f s3 q3=>?_)
    cases f with
    | next=>
      obtain⟨σ3,H3,I3,n3⟩:=q3
      obtain⟨m',hm,w3⟩:=hN σ3 H3 n3
      exact⟨m',hm,σ3,H3,I3,w3⟩
    | cont=>
      obtain⟨σ3,H3,I3,n3⟩:=q3
      obtain⟨m',hm,w3⟩:=hN σ3 H3 n3
      exact⟨m',hm,σ3,H3,I3,w3⟩
    | brk=>exact q3
    | ret v=>exact q3
  | false=>
    rw [if_neg Bool.false_ne_true]
    exact wpAny_execs_nil ⟨σ1,H2,I2,q2⟩
end
structure It where
  go:Nat→Hp→Prop
  yld:Nat→Hp→V→Hp→Prop
  stop:Nat→Hp→Prop
def gF(X:Cx)(pins:List (Addr × Obj))(H:Hp)(b:Addr):Prop:=
  H b=none∧b≠X.env.locals∧b∉X.fs∧(b∈X.ex∨X.s₀.heap.objs.size≤b)∧(∀x c,X.env.cells.lookup x=some c→c≠b)∧∀p∈X.pn++pins,p.1≠b
theorem ao.fpOk{X:Cx}{pins:List (Addr × Obj)}{σ:St}{H H':Hp}{s:Shared}{b:Addr}(I:ao X pins σ H s)(hb:s.heap.objs.size≤b)(hn:H' b=none):gF X pins H' b:=by
  refine⟨hn,Nat.ne_of_gt (Nat.lt_of_lt_of_le I.lt hb),I.nofs hb,.inr (Nat.le_trans I.sz hb),fun x c e z=>?_,fun p hp z=>?_⟩
  · obtain⟨v,q⟩:=I.cell x c e
    exact absurd (Nat.lt_of_lt_of_le q.lt (by rw [z];exact hb)) (Nat.lt_irrefl _)
  · exact absurd (Nat.lt_of_lt_of_le (Heap.lt_size (I.pin p hp).1) (by rw [z];exact hb)) (Nat.lt_irrefl _)
structure pS (P:Program) (w:World) (K:PySem.W.Frag) (tg:Expr) (J:It) (fp:List Addr) (it:Addr) (tn:Nat→Heap→Prop):Prop where
  mem:it∈fp
  obj:∀i h,tn i h→∀b∈fp,∃o,h.get? b=some o∧∀v,o.data≠.cell v
  keep:∀i h h',tn i h→(∀b∈fp,∀o,h.get? b=some o→h'.get? b=some o)→tn i h'
  item:∀(X:Cx),X.prog=P→X.w=w→X.K=K→X.calm=true→∀(i:Nat) (pins:List (Addr × Obj)) (s:Shared) (σ:St) (H:Hp) (E:Value→Shared→Prop),ao X pins σ H s→(∀b∈fp,gF X pins H b)→tn i s.heap→J.go i H→
    wpAny (model P w) X.A (pyNext (.ref it)) (fun r s1=>∃u,r=some u∧
      wpAny (model P w) X.A (letOwnedTupleGo tg (.ref it) u) (fun _ s2=>∃x H',ao X pins σ H' s2∧bo x u∧J.yld i H x H'∧tn (i+1) s2.heap∧∀b∈fp,H' b=none) E s1) E s
  done:∀(X:Cx),X.prog=P→X.w=w→X.K=K→X.calm=true→∀(i:Nat) (pins:List (Addr × Obj)) (s:Shared) (σ:St) (H:Hp) (E:Value→Shared→Prop),ao X pins σ H s→(∀b∈fp,gF X pins H b)→tn i s.heap→J.stop i H→
    wpAny (model P w) X.A (pyNext (.ref it)) (fun r s1=>r=none∧ao X pins σ H s1) E s
  self:∀(A:Around) (i:Nat) (s:Shared) (Q:Value→Shared→Prop) (E:Value→Shared→Prop),tn i s.heap→Q (.ref it) s→wpAny (model P w) A (pyIter (.ref it)) Q E s
abbrev TI:=St→Hp→(It→Hp→Prop)→Prop
def AW(X:Cx)(pins:List (Addr × Obj))(σ:St)(tg:Expr)(R:It→Hp→Prop)(itv:Value)(s2:Shared):Prop:=
  ∃(it:Addr) (fp:List Addr) (tn:Nat→Heap→Prop) (J:It) (H':Hp),itv=.ref it∧ao X pins σ H' s2∧pS X.prog X.w X.K tg J fp it tn∧tn 0 s2.heap∧(∀b∈fp,gF X pins H' b)∧R J H'
def PI(X:Cx)(tg iter:Expr)(wi:TI):Prop:=
  ∀(pins:List (Addr × Obj)) (s:Shared) (σ:St) (H:Hp) (R:It→Hp→Prop),ao X pins σ H s→wi σ H R→
    wpAny (model X.prog X.w) X.A (eval iter X.env) (fun v s1=>wpAny (model X.prog X.w) X.A (pyIter v) (AW X pins σ tg R) X.xe s1) X.xe s
theorem rE{M:Model}{A:Around}{E:Value→Shared→Prop}{s:Shared}{tg:Expr}{it:Addr}{u:Value}{o:Obj}{n:String}{vs:Array Value}{Q:Unit→Shared→Prop}(ho:s.heap.get? it=some o)(hc:o.cls=.type n)(hd:o.data=.fields vs)
    (hn:["enumerate","zip","dict_itemiterator","dict_reverseitemiterator","odict_iterator","itertools.zip_longest","itertools.pairwise"].contains n=false)(hQ:Q () s):wpAny M A (letOwnedTupleGo tg (.ref it) u) Q E s:=by
  unfold letOwnedTupleGo
  cases tg<;>first
    | exact wpAny_pure hQ
    | (cases u<;>first
        | exact wpAny_pure hQ
        | (refine wpAny_bind (wpAny_load ho ?_)
           rw [hc,hd]
           show wpAny M A (if (["enumerate","zip","dict_itemiterator","dict_reverseitemiterator","odict_iterator","itertools.zip_longest","itertools.pairwise"].contains n&&vs[0]?==some (rawInt _))=true then _ else _) Q E s
           rw [if_neg (by intro h;rw [hn,Bool.false_and] at h;cases h)]
           exact wpAny_pure hQ))
def Ac(K:PySem.W.Frag)(a:Addr):It:=
  ⟨fun i H=>∃xs x,fx K H a xs∧xs[i]?=some x,fun i H x H'=>H'=H∧∀xs,fx K H a xs→xs[i]?=some x,fun i H=>∃xs,fx K H a xs∧xs.length≤i⟩
def Ad(K:PySem.W.Frag)(a:Addr):It:=
  ⟨fun i H=>∃xs x,cH K H a xs∧xs[i]?=some x,fun i H x H'=>H'=H∧∀xs,cH K H a xs→xs[i]?=some x,fun i H=>∃xs,cH K H a xs∧xs.length≤i⟩
def zY(lo:Int)(n:Nat):It:=⟨fun i _=>i < n,fun i H x H'=>H'=H∧x=.int (lo+i),fun i _=>n≤i⟩
theorem qs{P:Program}{w:World}{K:PySem.W.Frag}{tg:Expr}(a it:Addr):pS P w K tg (Ac K a) [it] it (fun i h=>h.IsListIter it a i) where
  mem:=by simp
  obj:=fun i h st b hb=>by
    have e:b=it:=by simpa using hb
    subst e
    obtain⟨o,e,c,d⟩:=st
    exact⟨o,e,fun v z=>by rw [d] at z;cases z⟩
  keep:=fun i h h' st k=>st.at fun o e=>k it (by simp) o e
  item:=by
    intro X hP hw hK hc i pins s σ H E I hf st hg
    subst hP hw hK
    obtain⟨xs,x,hq,hx⟩:=hg
    obtain⟨its,rv,p,hz⟩:=I.list hq
    obtain⟨u,hu,ru⟩:=rv.get hx
    obtain⟨f0,f1,f2,f3,f4,f5⟩:=hf it (by simp)
    refine wpAny_pyNext_list_item st p.isList (x:=u) (by simpa using hu) fun h' st' sb=>?_
    have I1:ao X pins σ H {s with heap:=h'}:=I.turned (t':=s.toks) (fun b o hb e=>(sb.2 b hb).trans e) f0 f1 f3 f4 f5
    obtain⟨o,e,c,d⟩:=id st'
    exact⟨u,rfl,rE (s:={s with heap:=h'}) e c d (by decide) ⟨x,H,I1,ru,⟨rfl,fun ys hy=>by rw [I.list_inj hy hq];exact hx⟩,st',fun b hb=>(hf b hb).1⟩⟩
  done:=by
    intro X hP hw hK hc i pins s σ H E I hf st hg
    subst hP hw hK
    obtain⟨xs,hq,hx⟩:=hg
    obtain⟨its,rv,p,hz⟩:=I.list hq
    obtain⟨f0,f1,f2,f3,f4,f5⟩:=hf it (by simp)
    have hl:=rv.length
    exact wpAny_pyNext_list_end (I.ok.hd hc) st p.isList (by simp;lia) fun h' eb=>⟨rfl,I.turned (t':=s.toks) (fun b o hb e=>eb b o hb e) f0 f1 f3 f4 f5⟩
  self:=fun _ _ _ _ _ st h=>wpAny_pyIter_listiter st h
theorem oQ{P:Program}{w:World}{K:PySem.W.Frag}{tg:Expr}(a it:Addr):pS P w K tg (Ad K a) [it] it (fun i h=>h.IsTupleIter it a i) where
  mem:=by simp
  obj:=fun i h st b hb=>by
    have e:b=it:=by simpa using hb
    subst e
    obtain⟨o,e,c,d⟩:=st
    exact⟨o,e,fun v z=>by rw [d] at z;cases z⟩
  keep:=fun i h h' st k=>st.at fun o e=>k it (by simp) o e
  item:=by
    intro X hP hw hK hc i pins s σ H E I hf st hg
    subst hP hw hK
    obtain⟨xs,x,hq,hx⟩:=hg
    obtain⟨its,rv,p,hz⟩:=I.tuple hq
    obtain⟨u,hu,ru⟩:=rv.get hx
    obtain⟨f0,f1,f2,f3,f4,f5⟩:=hf it (by simp)
    refine wpAny_pyNext_tuple_item st (show s.heap.IsTuple a its.toArray from p) (x:=u) (by simpa using hu) fun h' st' sb=>?_
    have I1:ao X pins σ H {s with heap:=h'}:=I.turned (t':=s.toks) (fun b o hb e=>(sb.2 b hb).trans e) f0 f1 f3 f4 f5
    obtain⟨o,e,c,d⟩:=id st'
    exact⟨u,rfl,rE (s:={s with heap:=h'}) e c d (by decide) ⟨x,H,I1,ru,⟨rfl,fun ys hy=>by rw [I.tuple_inj hy hq];exact hx⟩,st',fun b hb=>(hf b hb).1⟩⟩
  done:=by
    intro X hP hw hK hc i pins s σ H E I hf st hg
    subst hP hw hK
    obtain⟨xs,hq,hx⟩:=hg
    obtain⟨its,rv,p,hz⟩:=I.tuple hq
    obtain⟨f0,f1,f2,f3,f4,f5⟩:=hf it (by simp)
    have hl:=rv.length
    exact wpAny_pyNext_tuple_end (I.ok.hd hc) st (show s.heap.IsTuple a its.toArray from p) (by simp;lia) fun h' eb=>⟨rfl,I.turned (t':=s.toks) (fun b o hb e=>eb b o hb e) f0 f1 f3 f4 f5⟩
  self:=fun _ _ _ _ _ st h=>wpAny_pyIter_tupleiter st h
theorem oP{P:Program}{w:World}{K:PySem.W.Frag}{tg:Expr}(it:Addr)(lo:Int)(n:Nat):pS P w K tg (zY lo n) [it] it (fun i h=>IsRangeIter h it (lo+(i:Nat)*1) ((n:Int) - (i:Nat)) 1) where
  mem:=by simp
  obj:=fun i h st b hb=>by
    have e:b=it:=by simpa using hb
    subst e
    exact⟨_,st,fun v z=>by
      have z':Data.fields _=Data.cell v:=z
      cases z'⟩
  keep:=fun i h h' st k=>k it (by simp) _ st
  item:=by
    intro X hP hw hK hc i pins s σ H E I hf st hg
    subst hP hw hK
    obtain⟨f0,f1,f2,f3,f4,f5⟩:=hf it (by simp)
    have W:=Walks.range (prog:=X.prog) (w:=X.w) (I.ok.hd hc) it lo 1 n
    refine W.item i s _ _ hg st fun v h' tk hv st' kk=>?_
    obtain⟨t,rfl⟩:=hv
    have I1:ao X pins σ H {s with heap:=h',toks:=tk}:=I.turned (fun b o hb e=>kk b o (by simpa using hb) e) f0 f1 f3 f4 f5
    refine⟨_,rfl,rE (s:={s with heap:=h',toks:=tk}) (n:="range_iterator") st' rfl rfl (by decide) ⟨.int (lo+i),H,I1,⟨t,?_⟩,⟨rfl,rfl⟩,st',fun b hb=>(hf b hb).1⟩⟩
    rw [Int.mul_one]
  done:=by
    intro X hP hw hK hc i pins s σ H E I hf st hg
    subst hP hw hK
    obtain⟨f0,f1,f2,f3,f4,f5⟩:=hf it (by simp)
    exact wpAny_pyNext_range_end (I.ok.hd hc) st (by have:n≤i:=hg;lia) fun h' eb=>⟨rfl,I.turned (t':=s.toks) (fun b o hb e=>eb b o hb e) f0 f1 f3 f4 f5⟩
  self:=fun _ _ _ _ _ st h=>wpAny_pyIter_rangeiter st h
end L2
namespace L2
open PySem PySem.Spec PyProof.Rows
section
variable{X:Cx}{tg:Expr}
def we(K:PySem.W.Frag)(tl:TE):TI:=fun σ H R=>tl σ H fun x H1=>∃a,x=.ref a∧(∃xs,fx K H1 a xs)∧R (Ac K a) H1
def yZ(K:PySem.W.Frag)(tl:TE):TI:=fun σ H R=>tl σ H fun x H1=>∃a,x=.ref a∧(∃xs,cH K H1 a xs)∧R (Ad K a) H1
theorem vd{l:Expr}{tl:TE}(hl:PE X l tl):PI X tg l (we X.K tl):=by
  intro pins s σ H R I h
  refine cv (hl pins s σ H _ I h) fun v s1 ⟨x,H1,I1,r1,q1⟩=>?_
  obtain⟨a,e,⟨xs,hq⟩,q⟩:=q1
  subst e
  cases r1
  obtain⟨its,rv,p,hz⟩:=I1.list hq
  refine wpAny_pyIter_list p.isList ?_
  refine⟨s1.heap.objs.size,[s1.heap.objs.size],_,_,H1,rfl,I1.kept (t':=s1.toks) fun b o e=>Heap.get?_push_of_some _ e,qs a _,⟨_,Heap.get?_push_size _ rfl,rfl,rfl⟩,fun b hb=>?_,q⟩
  have e:b=s1.heap.objs.size:=by simpa using hb
  subst e
  exact I1.fpOk (Nat.le_refl _) (I1.hok.fresh (Nat.le_refl _))
theorem xI{l:Expr}{tl:TE}(hl:PE X l tl):PI X tg l (yZ X.K tl):=by
  intro pins s σ H R I h
  refine cv (hl pins s σ H _ I h) fun v s1 ⟨x,H1,I1,r1,q1⟩=>?_
  obtain⟨a,e,⟨xs,hq⟩,q⟩:=q1
  subst e
  cases r1
  obtain⟨its,rv,p,hz⟩:=I1.tuple hq
  refine wpAny_pyIter_tuple (show s1.heap.IsTuple a its.toArray from p) ?_
  refine⟨s1.heap.objs.size,[s1.heap.objs.size],_,_,H1,rfl,I1.kept (t':=s1.toks) fun b o e=>Heap.get?_push_of_some _ e,oQ a _,⟨_,Heap.get?_push_size _ rfl,rfl,rfl⟩,fun b hb=>?_,q⟩
  have e:b=s1.heap.objs.size:=by simpa using hb
  subst e
  exact I1.fpOk (Nat.le_refl _) (I1.hok.fresh (Nat.le_refl _))
theorem sX{pins:List (Addr × Obj)}{σ:St}{H:Hp}{s:Shared}{R:It→Hp→Prop}{E:Value→Shared→Prop}{lo hi:Int}{t u v:Tok}{tk:Nat}(I:ao X pins σ H s)(h1: -(2 ^ 62)≤lo)(h2:lo < 2 ^ 62)(h3: -(2 ^ 62)≤hi)(h4:hi < 2 ^ 62)
    (q:R (zY lo (hi - lo).toNat) H):wpAny (model X.prog X.w) X.A (pyIter (.ref s.heap.objs.size)) (AW X pins σ tg R) E {s with heap:=s.heap.push {cls:=.type "range",data:=.fields #[.int lo t,.int hi u,.int 1 v]},toks:=tk}:=by
  refine wpAny_pyIter_range (IsRange.new ..) (small_one h1 h2 h3 h4) ?_
  have I1:ao X pins σ H {s with heap:=s.heap.push {cls:=.type "range",data:=.fields #[.int lo t,.int hi u,.int 1 v]},toks:=tk}:=I.kept fun b o e=>Heap.get?_push_of_some _ e
  refine⟨(s.heap.push {cls:=.type "range",data:=.fields #[.int lo t,.int hi u,.int 1 v]}).objs.size,[(s.heap.push {cls:=.type "range",data:=.fields #[.int lo t,.int hi u,.int 1 v]}).objs.size],_,_,H,rfl,
    I1.kept (t':=tk) fun b o e=>Heap.get?_push_of_some _ e,oP _ lo (hi - lo).toNat,?_,fun b hb=>?_,q⟩
  · have e1:lo+((0:Nat):Int)*1=lo:=by simp
    have e2:(((hi - lo).toNat:Nat):Int) - ((0:Nat):Int)=Builtin.Range.rangeSize lo hi 1:=by rw [rangeSize_one];split<;>lia
    show IsRangeIter _ _ (lo+((0:Nat):Int)*1) ((((hi - lo).toNat:Nat):Int) - ((0:Nat):Int)) 1
    rw [e1,e2]
    exact Heap.get?_push_size _ rfl
  · have e:b=(s.heap.push {cls:=.type "range",data:=.fields #[.int lo t,.int hi u,.int 1 v]}).objs.size:=by simpa using hb
    subst e
    exact I1.fpOk (Nat.le_refl _) (I1.hok.fresh (Nat.le_refl _))
def yY(ta:TA):TI:=fun σ H R=>ta σ H fun vs H1=>∃j:Int,vs=[.int j]∧ -(2 ^ 62)≤j∧j < 2 ^ 62∧R (zY 0 j.toNat) H1
theorem qh{a:Expr}{ta:TA}{p pos:Pos}(hg:Gl X "range")(hm:X.mg "range"=none)(ha:PA X [a] ta)(hs:starEach [a] X.env=[(false,eval a X.env)]:=by rfl):PI X tg (.Call (.Name "range" p) [a] [] pos) (yY ta):=by
  intro pins s σ H R I h
  refine Call_ (jZ I hg hm boot_range (PyProof.Rows.callWith_type1 (cv (ha pos pins s σ H _ I h) fun us s1 ⟨vs,H1,I1,r1,q1⟩=>?_) hs rfl))
  obtain⟨j,e,q1,q2,q⟩:=q1
  subst e
  cases r1 with
  | cons r rr=>
    cases rr
    obtain⟨t,rfl⟩:=r
    exact call_range_1 (sX I1 (by lia) (by lia) q1 q2 (by simpa using q))
def AG(wi:TI)(g:TG)(tb:TS):TS:=fun D σ H=>wi σ H fun J H1=>∃W:Nat→Nat→St→Hp→Prop,(∃m,W 0 m σ H1)∧∀i m σ H,W i m σ H→
  (J.stop i H∧D.nx σ H)∨(J.go i H∧∃N:St→Hp→Prop,(∀σ' H',N σ' H'→∃m',m' < m∧W (i+1) m' σ' H')∧∀x H',J.yld i H x H'→g x σ H' fun σ2 H2=>tb {D with nx:=N,ct:=N,bk:=D.nx} σ2 H2)
def i4(fp:List Addr)(h:Heap):List (Addr × Obj):=fp.filterMap fun b=>(h.get? b).map fun o=>(b,o)
theorem cS{fp:List Addr}{h:Heap}{b:Addr}{o:Obj}(hb:b∈fp)(e:h.get? b=some o):(b,o)∈i4 fp h:=List.mem_filterMap.mpr ⟨b,hb,by rw [e];rfl⟩
theorem qd{fp:List Addr}{h:Heap}{p:Addr × Obj}(hp:p∈i4 fp h):p.1∈fp∧h.get? p.1=some p.2:=by
  obtain⟨b,hb,e⟩:=List.mem_filterMap.mp hp
  cases q:h.get? b with
  | none=>rw [q] at e;cases e
  | some o=>
    rw [q] at e
    have e':(b,o)=p:=Option.some.inj e
    subst e'
    exact⟨hb,q⟩
theorem ao.pinned{pins:List (Addr × Obj)}{σ:St}{H:Hp}{s:Shared}{fp:List Addr}(I:ao X pins σ H s)(hf:∀b∈fp,gF X pins H b)(ho:∀b∈fp,∃o,s.heap.get? b=some o∧∀v,o.data≠.cell v):ao X (pins++i4 fp s.heap) σ H s:=
  I.pins_of fun p hp=>(List.mem_append.mp hp).elim (fun z=>I.pin p (List.mem_append_right _ z)) fun z=>by
    obtain⟨hb,e⟩:=qd z
    obtain⟨f0,f1,f2,_⟩:=hf p.1 hb
    obtain⟨o,e',d⟩:=ho p.1 hb
    rw [e] at e';cases e'
    exact⟨e,f0,f1,f2,d⟩
theorem ao.unpinned{pins pl:List (Addr × Obj)}{σ:St}{H:Hp}{s:Shared}(I:ao X (pins++pl) σ H s):ao X pins σ H s:=I.pins_of fun p hp=>I.pin p (List.mem_append_right _ (List.mem_append_left _ hp))
theorem xK{iter:Expr}{body:List Stmt}{wi:TI}{g:TG}{tb:TS}{pos:Pos}(hp:PassesOwn (model X.prog X.w) X.A X.env X.xe)(hc:X.calm=true)(hi:PI X tg iter wi)(hg:PG X tg g)(hb:jp X body tb)
    (hs:∀x,foldedSetIterable iter X.env x=pure x:=by intro _;rfl):PS X (.For tg iter body [] pos) (AG wi g tb):=by
  intro pins s σ H D I h
  refine wpAny_For (cv (hi pins s σ H _ I h) fun v s1 h1=>cv h1 fun itv s2 h2=>?_) hs
  obtain⟨it,fp,tn,J,H2,e,I2,T,st2,f2,W,⟨m0,w0⟩,turn⟩:=h2
  subst e
  have stat:∀{H':Hp},(∀b∈fp,H' b=none)→∀b∈fp,gF X pins H' b:=fun hn b hb=>⟨hn b hb,(f2 b hb).2⟩
  refine codeAny_forLoop_any (fun n s'=>∃i σ' H',ao X pins σ' H' s'∧tn i s'.heap∧(∀b∈fp,H' b=none)∧W i n σ' H') ?_ m0 ⟨0,σ,H2,I2,st2,fun b hb=>(f2 b hb).1,w0⟩
  rintro n s3 ⟨i,σ3,H3,I3,st3,fr3,w3⟩
  rcases turn i n σ3 H3 w3 with ⟨stop,qn⟩ | ⟨go,N,hN,step⟩
  · refine wpAny_passesOwn hp (cv (T.done X rfl rfl rfl hc i pins s3 σ3 H3 X.xe I3 (stat fr3) st3 stop) fun r s4 ⟨hr,I4⟩=>?_)
    subst hr
    exact wpAny_execs_nil ⟨σ3,H3,I4,qn⟩
  · refine wpAny_passesOwn hp (cv (T.item X rfl rfl rfl hc i pins s3 σ3 H3 X.xe I3 (stat fr3) st3 go) fun r s4 ⟨u,hr,h4⟩=>?_)
    subst hr
    refine wpAny_passesOwn hp (cv h4 fun _ s5 ⟨x,H5,I5,r5,y5,st5,fr5⟩=>?_)
    have I5':=I5.pinned (stat fr5) (T.obj _ _ st5)
    refine wpAny_passesOwn hp (cv (hg _ s5 σ3 H5 x u _ I5' r5 (step x H5 y5)) fun _ s6 ⟨σ6,H6,I6,q6⟩=>?_)
    refine wpAny_passesOwn hp (cv (hb _ s6 σ6 H6 _ I6 q6) fun f s7 q7=>?_)
    have again:∀{σ7:St} {H7:Hp},ao X (pins++i4 fp s5.heap) σ7 H7 s7→N σ7 H7→∃m,m < n∧∃i σ' H',ao X pins σ' H' s7∧tn i s7.heap∧(∀b∈fp,H' b=none)∧W i m σ' H':=fun{σ7 H7} I7 n7=>by
      obtain⟨m',hm,w7⟩:=hN σ7 H7 n7
      refine⟨m',hm,i+1,σ7,H7,I7.unpinned,T.keep _ _ _ st5 fun b hb o e=>(I7.pin (b,o) (List.mem_append_right _ (List.mem_append_right _ (cS hb e)))).1,fun b hb=>?_,w7⟩
      obtain⟨o,e,d⟩:=T.obj _ _ st5 b hb
      exact(I7.pin (b,o) (List.mem_append_right _ (List.mem_append_right _ (cS hb e)))).2.1
    cases f with
    | next=>obtain⟨σ7,H7,I7,n7⟩:=q7;exact again I7 n7
    | cont=>obtain⟨σ7,H7,I7,n7⟩:=q7;exact again I7 n7
    | brk=>obtain⟨σ7,H7,I7,q7⟩:=q7;exact⟨σ7,H7,I7.unpinned,q7⟩
    | ret v=>obtain⟨x7,σ7,H7,I7,r7,q7⟩:=q7;exact⟨x7,σ7,H7,I7.unpinned,r7,q7⟩
end
end L2
namespace L2
open PySem PySem.Spec PyProof.Rows
abbrev R2:=V→V→Hp→VK→Prop
def fY(X:Cx)(f:Value→Value→Sem Value)(r:R2):Prop:=
  ∀(pins:List (Addr × Obj)) (s:Shared) (σ:St) (H:Hp) (x y:V) (v u:Value) (Q:VK),ao X pins σ H s→bo x v→bo y u→r x y H Q→
    wpAny (model X.prog X.w) X.A (f v u) (EP X pins σ Q) X.xe s
def z6(X:Cx)(f:Value→Sem Value)(r:V→Hp→VK→Prop):Prop:=
  ∀(pins:List (Addr × Obj)) (s:Shared) (σ:St) (H:Hp) (x:V) (v:Value) (Q:VK),ao X pins σ H s→bo x v→r x H Q→
    wpAny (model X.prog X.w) X.A (f v) (EP X pins σ Q) X.xe s
def cB(X:Cx)(f:Value)(r:List V→Hp→VK→Prop):Prop:=
  ∀(pins:List (Addr × Obj)) (s:Shared) (σ:St) (H:Hp) (xs:List V) (us:List Value) (Q:VK),ao X pins σ H s→aE xs us→r xs H Q→
    wpAny (model X.prog X.w) X.A (call f us) (EP X pins σ Q) X.xe s
def zN(r:R2)(ta tb:TE):TE:=fun σ H Q=>ta σ H fun x H1=>tb σ H1 fun y H2=>r x y H2 Q
def Bb(r:V→Hp→VK→Prop)(ta:TE):TE:=fun σ H Q=>ta σ H fun x H1=>r x H1 Q
def rI(C:Int→Int→Prop)(g:Int→Int→V):R2:=fun x y H Q=>∃i j,x=.int i∧y=.int j∧C i j∧Q (g i j) H
def qk(g:Int→Int→V):R2:=fun x y H Q=>∃i j,x=.int i∧y=.int j∧Q (g i j) H
def rU(g:Int→V):V→Hp→VK→Prop:=fun x H Q=>∃i,x=.int i∧Q (g i) H
section
variable{X:Cx}{a b c:Expr}{ta tb tc:TE}{pos:Pos}
theorem wK(ha:PE X a ta)(hb:PE X b tb){pins:List (Addr × Obj)}{s:Shared}{σ:St}{H:Hp}{R:V→V→Hp→Prop}(I:ao X pins σ H s)
    (h:ta σ H fun x H1=>tb σ H1 fun y H2=>R x y H2){Q:Value→Shared→Prop}{f:Value→Value→Sem Value}
    (hf:∀v u s2 x y H2,ao X pins σ H2 s2→bo x v→bo y u→R x y H2→wpAny (model X.prog X.w) X.A (f v u) Q X.xe s2):
    wpAny (model X.prog X.w) X.A (eval a X.env) (fun v s₁=>wpAny (model X.prog X.w) X.A (eval b X.env) (fun u s₂=>wpAny (model X.prog X.w) X.A (f v u) Q X.xe s₂) X.xe s₁) X.xe s:=by
  refine cv (ha pins s σ H _ I h) fun v s1 ⟨x,H1,I1,r1,q1⟩=>?_
  refine cv (hb pins s1 σ H1 _ I1 q1) fun u s2 ⟨y,H2,I2,r2,q2⟩=>?_
  exact hf v u s2 x y H2 I2 r1 r2 q2
theorem zo{op:Operator}{r:R2}(ho:fY X (binaryOp op) r)(ha:PE X a ta)(hb:PE X b tb):PE X (.BinOp a op b pos) (zN r ta tb):=by
  intro pins s σ H Q I h
  exact wpAny_BinOp (wK ha hb I h fun v u s2 x y H2 I2 rx ry q=>ho pins s2 σ H2 x y v u Q I2 rx ry q)
theorem zp{op:UnaryOp}{r:V→Hp→VK→Prop}(ho:z6 X (unaryOp op) r)(ha:PE X a ta):PE X (.UnaryOp op a pos) (Bb r ta):=by
  intro pins s σ H Q I h
  exact UnaryOp_ (cv (ha pins s σ H _ I h) fun v s1 ⟨x,H1,I1,r1,q1⟩=>ho pins s1 σ H1 x v Q I1 r1 q1)
theorem za{f:Value→Value→Sem Value}{C:Int→Int→Prop}{g:Int→Int→Int}
    (rule:∀(i j:Int) (t u:Tok) (s:Shared) (Q:Value→Shared→Prop) (E:Value→Shared→Prop),C i j→Q (.int (g i j) s.toks) {s with toks:=s.toks+1}→wpAny (model X.prog X.w) X.A (f (.int i t) (.int j u)) Q E s):
    fY X f (rI C fun i j=>.int (g i j)):=by
  intro pins s σ H x y v u Q I rx ry h
  obtain⟨i,j,rfl,rfl,hc,q⟩:=h
  obtain⟨t,rfl⟩:=rx
  obtain⟨t',rfl⟩:=ry
  exact rule i j t t' s _ _ hc ⟨.int (g i j),H,I.tok _,⟨_,rfl⟩,q⟩
theorem zb{f:Value→Value→Sem Value}{g:Int→Int→Int}
    (rule:∀(i j:Int) (t u:Tok) (s:Shared) (Q:Value→Shared→Prop) (E:Value→Shared→Prop),Q (.int (g i j) s.toks) {s with toks:=s.toks+1}→wpAny (model X.prog X.w) X.A (f (.int i t) (.int j u)) Q E s):
    fY X f (qk fun i j=>.int (g i j)):=by
  intro pins s σ H x y v u Q I rx ry h
  obtain⟨i,j,rfl,rfl,q⟩:=h
  obtain⟨t,rfl⟩:=rx
  obtain⟨t',rfl⟩:=ry
  exact rule i j t t' s _ _ ⟨.int (g i j),H,I.tok _,⟨_,rfl⟩,q⟩
theorem xm{f:Value→Value→Sem Value}{g:Int→Int→Bool}
    (rule:∀(i j:Int) (t u:Tok) (s:Shared) (Q:Value→Shared→Prop) (E:Value→Shared→Prop),Q (.bool (g i j)) s→wpAny (model X.prog X.w) X.A (f (.int i t) (.int j u)) Q E s):
    fY X f (qk fun i j=>.bl (g i j)):=by
  intro pins s σ H x y v u Q I rx ry h
  obtain⟨i,j,rfl,rfl,q⟩:=h
  obtain⟨t,rfl⟩:=rx
  obtain⟨t',rfl⟩:=ry
  exact rule i j t t' s _ _ ⟨.bl (g i j),H,I,rfl,q⟩
def wC(i j:Int):Prop:=0≤j∧j≤1000000∧i.natAbs < 2 ^ 64
def ua(i j:Int):Prop:=(-(2 ^ 64) < i∧i < 2 ^ 64)∨(-(2 ^ 64) < j∧j < 2 ^ 64)
theorem ua.ok{i j:Int}(h:ua i j):IntMulOk i j:=by
  rcases h with ⟨h1,h2⟩ | ⟨h1,h2⟩
  · exact .of_left (intBits_le_64 h1 h2)
  · exact .of_right (intBits_le_64 h1 h2)
theorem xn:fY X (binaryOp .Add) (qk fun i j=>.int (i+j)):=zb fun _ _ _ _ _ _ _ q=>add_int q
theorem xx:fY X (binaryOp .Sub) (qk fun i j=>.int (i - j)):=zb fun _ _ _ _ _ _ _ q=>sub_int q
theorem xr:fY X (binaryOp .Mult) (rI ua fun i j=>.int (i*j)):=za fun _ _ _ _ _ _ _ hc q=>mul_int q hc.ok
theorem uU:fY X (binaryOp .Mod) (rI (fun _ j=>j≠0) fun i j=>.int (i.fmod j)):=za fun _ _ _ _ _ _ _ hc q=>mod_int' hc q
theorem xu:fY X (binaryOp .Pow) (rI wC fun i j=>.int (i ^ j.toNat)):=za fun _ _ _ _ _ _ _ hc q=>pow_int_small hc.1 hc.2.1 hc.2.2 q
theorem Bs{f:Value→Sem Value}{g:Int→Int}
    (rule:∀(i:Int) (t:Tok) (s:Shared) (Q:Value→Shared→Prop) (E:Value→Shared→Prop),Q (.int (g i) s.toks) {s with toks:=s.toks+1}→wpAny (model X.prog X.w) X.A (f (.int i t)) Q E s):
    z6 X f (rU fun i=>.int (g i)):=by
  intro pins s σ H x v Q I rx h
  obtain⟨i,rfl,q⟩:=h
  obtain⟨t,rfl⟩:=rx
  exact rule i t s _ _ ⟨.int (g i),H,I.tok _,⟨_,rfl⟩,q⟩
theorem yq:z6 X (unaryOp .USub) (rU fun i=>.int (-i)):=Bs fun _ _ _ _ _ q=>neg_int q
end
section
variable{X:Cx}{a b c:Expr}{ta tb tc:TE}{pos:Pos}
theorem zg:fY X (compareOp .Lt) (qk fun i j=>.bl (decide (i < j))):=xm fun _ _ _ _ _ _ _ q=>lt_int q
theorem ze:fY X (compareOp .Gt) (qk fun i j=>.bl (decide (j < i))):=xm fun _ _ _ _ _ _ _ q=>gt_int q
theorem zc:fY X (compareOp .GtE) (qk fun i j=>.bl (decide (j≤i))):=xm fun _ _ _ _ _ _ _ q=>ge_int q
theorem fY.or{f:Value→Value→Sem Value}{r r':R2}(h:fY X f r)(h':fY X f r'):fY X f (fun x y H Q=>r x y H Q∨r' x y H Q):=by
  intro pins s σ H x y v u Q I rx ry q
  rcases q with q | q
  · exact h pins s σ H x y v u Q I rx ry q
  · exact h' pins s σ H x y v u Q I rx ry q
theorem bV(b:Expr){op:CmpOp}(h:op≠.In:=by decide)(h2:op≠.NotIn:=by decide):behindInMarks op b=false:=by
  have e1:(op==CmpOp.In)=false:=by cases op<;>first | rfl | exact absurd rfl h
  have e2:(op==CmpOp.NotIn)=false:=by cases op<;>first | rfl | exact absurd rfl h2
  cases b<;>simp [behindInMarks,e1,e2]
theorem u9{op:CmpOp}{r:R2}(ho:fY X (compareOp op) r)(ha:PE X a ta)(hb:PE X b tb)(hm:behindInMarks op b=false):PE X (.Compare a [op] [b] pos) (zN r ta tb):=by
  intro pins s σ H Q I h
  exact wpAny_Compare1 (wK ha hb I h fun v u s2 x y H2 I2 rx ry q=>ho pins s2 σ H2 x y v u Q I2 rx ry q) hm
def zP(t:TE):TT:=fun σ H Q=>t σ H fun x H'=>∃k,x=.bl k∧Q k H'
theorem vn{op:CmpOp}{r:R2}(ho:fY X (compareOp op) r)(ha:PE X a ta)(hb:PE X b tb)(hm:behindInMarks op b=false):PT X (.Compare a [op] [b] pos) (zP (zN r ta tb)):=by
  intro pins s σ H Q I h
  refine wpAny_isTrue_Compare1 (cv (ha pins s σ H _ I h) fun v s1 ⟨x,H1,I1,r1,q1⟩=>cv (hb pins s1 σ H1 _ I1 q1) fun u s2 ⟨y,H2,I2,r2,q2⟩=>
    cv (ho pins s2 σ H2 x y v u _ I2 r1 r2 q2) fun c s3 ⟨z,H3,I3,r3,k,e,q3⟩=>?_) hm
  subst e
  cases r3
  exact wpAny_truthy_bool ⟨H3,I3,q3⟩
theorem ov:(sizeLine:Nat) < 2 ^ 63:=by rw [sizeLine_eq];decide
theorem nD{x:V}{us:List Value}(r:aE [x] us):∃u,us=[u]∧bo x u:=by
  cases r with
  | cons r1 r2=>cases r2;exact⟨_,rfl,r1⟩
theorem wB{x y:V}{us:List Value}(r:aE [x,y] us):∃u w',us=[u,w']∧bo x u∧bo y w':=by
  cases r with
  | cons r1 r2=>
    cases r2 with
    | cons r3 r4=>cases r4;exact⟨_,_,rfl,r1,r3⟩
theorem qI:cB X (.builtin "abs") (fun xs H Q=>∃i,xs=[.int i]∧Q (.int (if i < 0 then -i else i)) H):=by
  intro pins s σ H xs us Q I r h
  obtain⟨i,rfl,q⟩:=h
  obtain⟨u,rfl,t,rfl⟩:=nD r
  exact call_abs_int fun u tk=>⟨.int (if i < 0 then -i else i),H,I.tok _,⟨_,rfl⟩,q⟩
theorem pV(hc:X.calm=true):cB X (.builtin "max") (fun xs H Q=>∃i j,xs=[.int i,.int j]∧Q (.int (if j > i then j else i)) H):=by
  intro pins s σ H xs us Q I r h
  obtain⟨i,j,rfl,q⟩:=h
  obtain⟨u,w',rfl,⟨t,rfl⟩,⟨t',rfl⟩⟩:=wB r
  refine max_two_ints (I.ok.hd hc) fun h' tk k=>⟨_,H,I.kept k,?_,q⟩
  by_cases hj:j > i
  · rw [if_pos hj,if_pos hj];exact⟨_,rfl⟩
  · rw [if_neg hj,if_neg hj];exact⟨_,rfl⟩
theorem pW(hc:X.calm=true):cB X (.builtin "min") (fun xs H Q=>∃i j,xs=[.int i,.int j]∧Q (.int (if j < i then j else i)) H):=by
  intro pins s σ H xs us Q I r h
  obtain⟨i,j,rfl,q⟩:=h
  obtain⟨u,w',rfl,⟨t,rfl⟩,⟨t',rfl⟩⟩:=wB r
  refine min_two_ints (I.ok.hd hc) fun h' tk k=>⟨_,H,I.kept k,?_,q⟩
  by_cases hj:j < i
  · rw [if_pos hj,if_pos hj];exact⟨_,rfl⟩
  · rw [if_neg hj,if_neg hj];exact⟨_,rfl⟩
theorem pU:cB X (.type "int") (fun xs H Q=>(∃i,xs=[.int i]∧Q (.int i) H)∨∃k,xs=[.bl k]∧Q (.int (if k then 1 else 0)) H):=by
  intro pins s σ H xs us Q I r h
  rcases h with ⟨i,rfl,q⟩ | ⟨k,rfl,q⟩
  · obtain⟨u,rfl,t,rfl⟩:=nD r
    exact call_int_int ⟨.int i,H,I,⟨_,rfl⟩,q⟩
  · obtain⟨u,rfl,r1⟩:=nD r
    cases r1
    exact call_int_bool ⟨.int (if k then 1 else 0),H,I.tok _,⟨_,rfl⟩,q⟩
end
end L2
namespace L2
open PySem PySem.Spec PyProof.Rows
structure Bi (h:Heap) (x dx C:Addr) (mA:Str→Option Value):Prop where
  obj:h.get? x=some (PySem.W.instObj C dx)
  ns:h.Ns1 dx mA
  ne:dx≠x
section
variable{prog:Program}{w:World}{A:Around}{E:Value→Shared→Prop}{s:Shared}{K:PySem.W.Frag}{x dx C f:Addr}{mA:Str→Option Value}{name:Str}{v:Value}
end
section
variable{P:Program}{w:World}{H H':Hp}{h h':Heap}{a C dx:Addr}{fs fs':List (Str × V)}
end
structure Be (K:PySem.W.Frag) (C:Addr):Prop where
  pg:PySem.W.plainGet K C Str.empty=true
  hd:PySem.W.hasDictIn K C=true
  po:PySem.W.plainOver K C=true
  sa:PySem.W.findIn K (.ref C) "__setattr__"=some (some (.builtin "object.__setattr__"))
structure Bu (K:PySem.W.Frag) (C:Addr) (f:Str) (v:V) (u:Value):Prop where
  at_:PySem.W.findIn K (.ref C) f=some (some u)
  rel:bo v u
  get:PySem.W.specialIn K u "__get__"=some none
  cp:PySem.W.copiedNames.contains f=false
structure Bh (K:PySem.W.Frag) (C:Addr) (m:Str) (f:Addr):Prop where
  at_:PySem.W.findIn K (.ref C) m=some (some (.ref f))
  fn:PySem.W.isFn K (.ref f)=true
  kp:PySem.W.keepIn K (.ref f)=true
section
variable{X:Cx}{pins:List (Addr × Obj)}{σ:St}{H:Hp}{s:Shared}{a C dx:Addr}{fs:List (Str × V)}{f:Str}{v:V}{A:Around}{E:Value→Shared→Prop}
end
section
variable{X:Cx}{o e value:Expr}{f:Str}{pos pos' tpos:Pos}{ta tv:TE}
end
section
variable{X:Cx}{pins:List (Addr × Obj)}{σ:St}{H:Hp}{s:Shared}{A:Around}{E:Value→Shared→Prop}{Q:Value→Shared→Prop}{c:Value}{b:Bool}
inductive jE (K:PySem.W.Frag) (H:Hp):V→Value→Prop where
  | non:jE K H .non (.type "NoneType")
  | bl (x:Bool):jE K H (.bl x) (.type "bool")
  | int (i:Int):jE K H (.int i) (.type "int")
  | str (x:Str):jE K H (.str x) (.type "str")
  | flt (x:UInt64):jE K H (.flt x) (.type "float")
  | lst {a:Addr} {xs:List V} (e:H a=some (.lst xs)):jE K H (.ref a) (.type "list")
  | frz {a:Addr} {o:Obj} {xs:List V} (e:H a=some (.frz o (.lst xs))):jE K H (.ref a) (.type "list")
  | tup {a:Addr} {xs:List V} (e:H a=some (.tup xs)):jE K H (.ref a) (.type "tuple")
  | dK {a:Addr} {kvs:List (jD × V)} (e:H a=some (.dK kvs)):jE K H (.ref a) (.type "dict")
  | dT {a:Addr} {kvs:List (List jD × V)} (e:H a=some (.dT kvs)):jE K H (.ref a) (.type "dict")
  | ins {a C dx:Addr} {fs:List (Str × V)} (e:H a=some (.ins C dx fs)) (cl:Be K C) (ha:PySem.W.findIn K (.ref C) "__class__"=some (some (.builtin "object.__class__")))
      (hn:PySem.W.specialIn K (.builtin "object.__class__") "__get__"=some (some (.builtin "getset_descriptor.__get__"))) (htk:PySem.W.takesIn K (.builtin "object.__class__")=some true)
      (hm:PySem.W.mroIn K C (.type "object")=some true):jE K H (.ref a) (.ref C)
end
end L2
namespace L2
open PySem PySem.Spec PyProof.Rows
structure c7 (k:Nat) (A:Around):Prop where
  hd:A.handled=none
  dp:A.depth+3*k+5 < recursionLimit
  un:A.units+16*k+200 < cLine
  gd:A.guards=some []
theorem c7.mono{j k:Nat}{A:Around}(r:c7 k A)(h:j≤k):c7 j A:=⟨r.hd,by have:=r.dp;lia,by have:=r.un;lia,r.gd⟩
theorem c7.deeper{k:Nat}{A:Around}(r:c7 (k+1) A)(env:Env):c7 k (A.deeper env):=
  ⟨r.hd,by have:=r.dp;show A.depth+1+3*k+5 < _;lia,by have:=r.un;show A.units+3+16*k+200 < _;lia,r.gd⟩
theorem c7.depth{k:Nat}{A:Around}(r:c7 k A):A.depth < recursionLimit:=by have:=r.dp;lia
theorem c7.units{k:Nat}{A:Around}(r:c7 k A):A.units+64 < cLine:=by have:=r.un;lia
def yi:TA:=fun _ H Q=>Q [] H
def nq(ta:TE)(tr:TA):TA:=fun σ H Q=>ta σ H fun x H1=>tr σ H1 fun xs H2=>Q (x::xs) H2
section
variable{X:Cx}{e:Expr}{es:List Expr}{te:TE}{t:TA}{pos:Pos}
theorem xA:PA X [] yi:=fun _ _ _ _ H Q I h=>Calls.spliced_nil ⟨[],H,I,.nil,h⟩
theorem uZ(ha:PE X e te)(hr:PA X es t)(hs:starEach (e::es) X.env=(false,eval e X.env)::starEach es X.env:=by rfl):PA X (e::es) (nq te t):=by
  intro pos pins s σ H Q I h
  rw [hs]
  show wpAny _ _ (spliced ((false,eval e X.env)::backTo pos (starEach es X.env))) _ _ s
  refine Calls.spliced_cons (cv (ha pins s σ H _ I h) fun u s1 ⟨x,H1,I1,r1,q1⟩=>?_)
  exact cv (hr pos pins s1 σ H1 _ I1 q1) fun us s2 ⟨xs,H2,I2,r2,q2⟩=>⟨x::xs,H2,I2,.cons r1 r2,q2⟩
def zQ(t:TA):TE:=fun σ H Q=>t σ H fun xs H1=>xs.length≤sizeLine∧∀p,H1 p=none→Q (.ref p) (a_ H1 p (.tup xs))
def AI(t:TA):TE:=fun σ H Q=>t σ H fun xs H1=>xs.length≤sizeLine∧∀p,H1 p=none→Q (.ref p) (a_ H1 p (.lst xs))
theorem xF{x1}(h:PA X es t):PE X (.Tuple es x1 pos) (zQ t):=by
  intro pins s σ H Q I hq
  refine wpAny_Tuple_spliced (cv (h pos pins s σ H _ I hq) fun us s1 ⟨xs,H1,I1,r,z,q⟩=>⟨by rw [←r.length];exact z,?_⟩)
  have hf:H1 s1.heap.objs.size=none:=I1.hok.fresh (Nat.le_refl _)
  refine⟨.ref s1.heap.objs.size,a_ H1 s1.heap.objs.size (.tup xs),I1.laid (t':=s1.toks) (fun b u e=>Heap.get?_push_of_some _ e) (Nat.le_refl _) ?_,rfl,q _ hf⟩
  exact⟨z,us,r,⟨_,Heap.get?_push_size _ rfl,rfl,_,rfl,rfl⟩⟩
theorem xD(h:PA X es t):PE X (.List es pos) (AI t):=by
  intro pins s σ H Q I hq
  refine wpAny_List_spliced (cv (h pos pins s σ H _ I hq) fun us s1 ⟨xs,H1,I1,r,z,q⟩=>⟨by rw [←r.length];exact z,?_⟩)
  have hf:H1 s1.heap.objs.size=none:=I1.hok.fresh (Nat.le_refl _)
  refine⟨.ref s1.heap.objs.size,a_ H1 s1.heap.objs.size (.lst xs),I1.laid (t':=s1.toks) (fun b u e=>Heap.get?_push_of_some _ e) (Nat.le_refl _) ?_,rfl,q _ hf⟩
  exact⟨z,us,0,r,Heap.get?_push_size _ rfl⟩
end
abbrev Sp:=List V→Hp→VK→XK→Prop
abbrev pQ:=List Env→Hp→Shared→XK→Value→Shared→Prop
structure uc (P:Program) (w:World) (K:PySem.W.Frag) (mg:Str→Option Value) (base:Heap) (A:Around) (outer:List Env) (s:Shared) (H:Hp):Prop where
  frames:A.frames=some outer
  mod:Mod K mg base
  bs:∀b o,base.get? b=some o→s.heap.get? b=some o∧H b=none
  bsz:base.objs.size≤s.heap.objs.size
  funs:s.heap.FunFrames base outer
  frf:∀b∈qZ outer,H b=none
  hok:jB P w H s.heap
  bare:AllBare s.gens
def CE(outer:List Env)(P:Program)(w:World)(H:Hp)(s:Shared)(Q:VK)(u:Value)(s':Shared):Prop:=
  ∃v H',s'.os=s.os∧AllBare s'.gens∧Un (qZ outer) [] H H' s.heap s'.heap∧jB P w H' s'.heap∧bo v u∧Q v H'
def CR(CX:pQ)(outer:List Env)(P:Program)(w:World)(H:Hp)(s:Shared)(Q:VK)(E:XK)(r:Result)(s':Shared):Prop:=
  match r with
  | .ok (.ret u)=>CE outer P w H s Q u s'
  | .ok _=>False
  | .error e=>CX outer H s E e s'
structure aF (P:Program) (w:World) (K:PySem.W.Frag) (mg:Str→Option Value) (base:Heap) (CX:pQ) (k:Nat) (f:Addr) (fd:FuncData) (ps:List Str) (sp:Sp):Prop where
  len:∀vs H Q E,sp vs H Q E→vs.length=ps.length
  run:∀(A:Around) (outer:List Env) (s:Shared) (H:Hp) (args:Args) (us:List Value) (vs:List V) (Q:VK) (E:XK),c7 k A→uc P w K mg base A outer s H→BindsTo s fd args (ps.zip us)→aE vs us→sp vs H Q E→
    codeAny (model P w) A (.call (.ref f) args) (CR CX outer P w H s Q E) s
section
variable{X:Cx}{pins:List (Addr × Obj)}{σ:St}{H:Hp}{s s':Shared}
theorem ao.env0(I:ao X pins σ H s):uc X.prog X.w X.K X.mg X.base X.A X.stack s H:=
  ⟨I.ok.frames,I.ok.mod,I.bs,Nat.le_trans I.ok.bsz I.sz,I.stack,I.stkFree,I.hok,I.bare⟩
theorem ao.after{Q:VK}{u:Value}(I:ao X pins σ H s)(h:CE X.stack X.prog X.w H s Q u s'):EP X pins σ Q u s':=by
  obtain⟨v,H',os,bare,un,hok,r,q⟩:=h
  obtain⟨hh,g,d,t,os'⟩:=s'
  obtain rfl:os'=s.os:=os
  exact⟨v,H',I.call (h':=hh) (g':=g) (d':=d) (t':=t) (ch:=[]) un hok bare (fun b z=>absurd z (by simp)),r,q⟩
end
def tL(sp:Sp)(dvs:List V)(E:XK)(t:TA):TE:=fun σ H Q=>t σ H fun vs H1=>sp (vs++dvs) H1 Q E
def kQ(K:PySem.W.Frag)(fd:FuncData)(ps:List Str)(ds:List Value):Prop:=
  ∀(s:Shared) (us:List Value),K.In s.heap→(us++ds).length=ps.length→BindsTo s fd ⟨us,[]⟩ (ps.zip (us++ds))
theorem kQ.all{K:PySem.W.Frag}{fd:FuncData}{ps:List Str}(h:∀us:List Value,us.length=ps.length→bindArgs fd ⟨us,[]⟩=pure (ps.zip us)):kQ K fd ps []:=fun s us _ hl=>by
  rw [List.append_nil] at hl ⊢
  exact .of_eq (h us hl)
def nK(CX:pQ)(X:Cx)(E:XK):Prop:=∀(pins:List (Addr × Obj)) (σ:St) (H:Hp) (s:Shared) (e:Value) (s':Shared),ao X pins σ H s→CX X.stack H s E e s'→X.xe e s'
section
variable{X:Cx}{CX:pQ}{k:Nat}{f C:Addr}{fd:FuncData}{ps:List Str}{sp:Sp}{dvs:List V}{ds:List Value}{E:XK}{x m:Str}{p pos apos:Pos}{e o:Expr}{es:List Expr}{ta:TE}{t:TA}
theorem yc{pins:List (Addr × Obj)}{σ:St}{H:Hp}{s:Shared}{Q:VK}{us:List Value}{vs:List V}(F:aF X.prog X.w X.K X.mg X.base CX k f fd ps sp)(hr:c7 k X.A)(hb:kQ X.K fd ps ds)(hd:aE dvs ds)(hx:nK CX X E)
    (I:ao X pins σ H s)(r:aE vs us)(h:sp (vs++dvs) H Q E):wpAny (model X.prog X.w) X.A (call (.ref f) us) (EP X pins σ Q) X.xe s:=by
  have r2:aE (vs++dvs) (us++ds):=r.append hd
  have hl:(us++ds).length=ps.length:=by rw [←r2.length];exact F.len _ _ _ _ h
  refine wpAny_call (codeAny_mono (F.run X.A X.stack s H ⟨us,[]⟩ (us++ds) (vs++dvs) Q E hr I.env0 (hb s us I.kIn hl) r2 h) fun r s' hq=>?_)
  cases r with
  | error e=>exact hx pins σ H s e s' I hq
  | ok fl=>
    cases fl with
    | ret u=>exact I.after hq
    | next=>exact False.elim hq
    | brk=>exact False.elim hq
    | cont=>exact False.elim hq
theorem u7(F:aF X.prog X.w X.K X.mg X.base CX k f fd ps sp)(hr:c7 k X.A)(hg:Gl X x)(hm:X.mg x=some (.ref f))(hk:PySem.W.keepIn X.K (.ref f)=true)(hb:kQ X.K fd ps ds)(hd:aE dvs ds)(hx:nK CX X E)
    (ha:PA X (e::es) t)(hdb:(x==("__debug__":Str))=false:=by decide)(he:starEach (e::es) X.env=(false,eval e X.env)::starEach es X.env:=by rfl)(hpl:(backTo pos (starEach es X.env)).any (·.1)=false:=by rfl):
    PE X (.Call (.Name x p) (e::es) [] pos) (tL sp dvs E t):=by
  intro pins s σ H Q I h
  refine wpAny_Call_Name_kw (uC I hg hm ?_ hdb)
  refine PySem.W.callWith_K (h₀:=X.base) I.ok.mod.kin hk (cv (ha pos pins s σ H _ I h) fun us s1 ⟨vs,H1,I1,r,q⟩=>⟨I1.kIn,?_⟩) he hpl
  exact yc F hr hb hd hx I1 r q
structure Mk (K:PySem.W.Frag) (C f:Addr):Prop where
  makes:PySem.W.makesIn K C=true
  init:PySem.W.findIn K (.ref C) "__init__"=some (some (.ref f))
  fn:PySem.W.isFn K (.ref f)=true
  kp:PySem.W.keepIn K (.ref C)=true
end
section
variable{X:Cx}{CX:pQ}{k:Nat}{f C:Addr}{fd:FuncData}{ps ks:List Str}{sp:Sp}{E:XK}{x m:Str}{p pos apos kpos:Pos}{e o:Expr}{es:List Expr}{kws:List Keyword}{te ta:TE}{t tk:TA}{nm:Option Str}
structure Ae (K:PySem.W.Frag) (fd:FuncData) (ps ks:List Str) (g:List Value→List Value→List Value) (gV:List V→List V→List V):Prop where
  to:∀(s:Shared) (us ws:List Value),K.In s.heap→(g us ws).length=ps.length→BindsTo s fd ⟨us,ks.zip ws⟩ (ps.zip (g us ws))
  rel:∀{vs:List V} {us:List Value} {zs:List V} {ws:List Value},aE vs us→aE zs ws→aE (gV vs zs) (g us ws)
variable{g:List Value→List Value→List Value}{gV:List V→List V→List V}
end
structure ay (N P:List Str) (sc:Scope):Prop where
  kind:sc.kind=.function
  co:sc.isCoroutine=false
  gen:sc.isGenerator=false
  nd:N.Nodup
  pre:N.take P.length=P
  par:∀x∈P,sc.names.lookup x=some .local∨sc.names.lookup x=some .cell
  nofree:∀y∈sc.names,y.2≠.free
theorem kY{kindOf:Str→Option NameKind}{x:Str}:∀{binds:List (Str × Value)} {m:Str→Option Value},(∀v,(x,v)∉binds)→bindL kindOf binds m x=m x
  | [],_,_=>rfl
  | (n,v)::r,m,h=>by
    unfold bindL
    rw [kY fun w hw=>h w (List.mem_cons_of_mem _ hw)]
    split
    · have:x≠n:=by rintro rfl;exact h v List.mem_cons_self
      simp [this]
    · rfl
theorem kW{kindOf:Str→Option NameKind}{x:Str}:∀{binds:List (Str × Value)} {m:Str→Option Value},(∀v,(x,v)∉binds)→bindC kindOf binds m x=m x
  | [],_,_=>rfl
  | (n,v)::r,m,h=>by
    unfold bindC
    rw [kW fun w hw=>h w (List.mem_cons_of_mem _ hw)]
    split
    · rfl
    · have:x≠n:=by rintro rfl;exact h v List.mem_cons_self
      simp [this]
theorem kX{kindOf:Str→Option NameKind}{x:Str}{v:Value}:∀{P:List Str} {vs:List Value} {i:Nat} {m:Str→Option Value},P.Nodup→P[i]?=some x→vs[i]?=some v→kindOf x=some .local→
    bindL kindOf (P.zip vs) m x=some v
  | [],_,_,_,_,h,_,_=>by simp at h
  | _::_,[],_,_,_,_,h,_=>by simp at h
  | p::P,w::vs,0,m,nd,h1,h2,hk=>by
    simp at h1 h2;subst h1;subst h2
    show bindL kindOf ((p,w)::P.zip vs) m p=_
    unfold bindL
    rw [kY fun v hv=>(List.nodup_cons.mp nd).1 (List.of_mem_zip hv).1,if_pos hk]
    simp
  | p::P,w::vs,i+1,m,nd,h1,h2,hk=>by
    show bindL kindOf ((p,w)::P.zip vs) m x=_
    unfold bindL
    exact kX (i:=i) (List.nodup_cons.mp nd).2 (by simpa using h1) (by simpa using h2) hk
theorem kU{kindOf:Str→Option NameKind}{x:Str}{v:Value}:∀{P:List Str} {vs:List Value} {i:Nat} {m:Str→Option Value},P.Nodup→P[i]?=some x→vs[i]?=some v→kindOf x≠some .local→
    bindC kindOf (P.zip vs) m x=some v
  | [],_,_,_,_,h,_,_=>by simp at h
  | _::_,[],_,_,_,_,h,_=>by simp at h
  | p::P,w::vs,0,m,nd,h1,h2,hk=>by
    simp at h1 h2;subst h1;subst h2
    show bindC kindOf ((p,w)::P.zip vs) m p=_
    unfold bindC
    rw [kW fun v hv=>(List.nodup_cons.mp nd).1 (List.of_mem_zip hv).1,if_neg hk]
    simp
  | p::P,w::vs,i+1,m,nd,h1,h2,hk=>by
    show bindC kindOf ((p,w)::P.zip vs) m x=_
    unfold bindC
    exact kU (i:=i) (List.nodup_cons.mp nd).2 (by simpa using h1) (by simpa using h2) hk
def fm(N:List Str)(vs:List V):St:=vs.map some++List.replicate (N.length - vs.length) none
def nW(CX:pQ)(P:Program)(w:World)(K:PySem.W.Frag)(mg:Str→Option Value)(base:Heap)(N:List Str)(qual:Str)(scope:Scope)(f:Addr)(cd:Value)(A:Around)(outer:List Env)(s:Shared)(H:Hp)(E:XK):Cx where
  prog:=P
  w:=w
  K:=K
  mg:=mg
  base:=base
  A:=A.deeper (envOfC qual scope s.heap.objs.size f cd)
  N:=N
  s₀:=s
  H₀:=H
  env:=envOfC qual scope s.heap.objs.size f cd
  outer:=outer
  stack:=envOfC qual scope s.heap.objs.size f cd::outer
  ex:=[]
  calm:=true
  fn:=fun _=>true
  pn:=[]
  xe:=fun e s'=>wpAny (model P w) (A.deeper (envOfC qual scope s.heap.objs.size f cd)) (leaving (envOfC qual scope s.heap.objs.size f cd) e) (fun _ s''=>CX outer H s E e s'') (fun e' s''=>CX outer H s E e' s'') s'
theorem mx{sc:Scope}{n:Nat}{x:Str}(h:sc.names.lookup x=some .cell):∃c,(cellsFrom n sc.names []).lookup x=some c:=by
  have q:=PySem.W.cellsFrom_some sc.names n [] (.inl h)
  exact Option.isSome_iff_exists.mp q
theorem p_{CX:pQ}{P:Program}{w:World}{K:PySem.W.Frag}{mg:Str→Option Value}{base:Heap}{N ps:List Str}{qual:Str}{scope:Scope}{f:Addr}{cd:Value}{A:Around}{outer:List Env}{s s1:Shared}{H:Hp}{E:XK}{us:List Value}{vs:List V}
    (S:ay N ps scope)(hd:A.handled=none)(e0:uc P w K mg base A outer s H)(hl:vs.length=ps.length)(r:aE vs us)
    (x:InCallC s s.heap.objs.size (bindL (envOfC qual scope s.heap.objs.size f cd).kindOf (ps.zip us) fun _=>none) (cellsFrom (s.heap.objs.size+1) scope.names []) (bindC (envOfC qual scope s.heap.objs.size f cd).kindOf (ps.zip us) fun _=>none) s1):
    ao (nW CX P w K mg base N qual scope f cd A outer s H E) [] (fm N vs) H s1:=by
  have hpl:ps.length≤N.length:=by have:=congrArg List.length S.pre;rw [List.length_take] at this;lia
  obtain⟨h1,tk,rfl,hk⟩:=x.done
  have noA:∀b:Addr,b∉(nW CX P w K mg base N qual scope f cd A outer s H E).ex:=fun b z=>absurd (show b∈([]:List Addr) from z) (by simp)
  refine⟨⟨e0.mod,S.kind,rfl,rfl,Nat.le_refl _,fun y z c h1 h2=>?_,fun y hy=>?_,fun y c _ h=>?_,fun _=>hd,Around.frames_deeper e0.frames,.inr ⟨rfl,rfl⟩,fun b z=>absurd z (noA b),e0.bs,e0.bsz,fun b _ _=>noA b,fun b z=>absurd z (noA b),e0.funs,e0.frf⟩,
    rfl,e0.bare,Un.kept hk,⟨_,x.toInCall.ns,fun i y v h1 h2 h3=>?_⟩,fun y c h=>⟨_,x.cell y c h⟩,e0.hok.fresh (Nat.le_refl _),fun y c h=>?_,fun p hp=>absurd (show p∈([]:List (Addr × Obj)) from hp) (by simp),e0.hok.kept hk,?_⟩
  · exact name_of_addr x.apart (PySem.mem_of_lookup h1) (PySem.mem_of_lookup h2)
  · have hy:scope.names.lookup y=some .cell∨scope.names.lookup y=some .free:=hy
    rcases hy with hy | hy
    · exact mx hy
    · exact absurd rfl (S.nofree _ (PySem.mem_of_lookup hy))
  · exact Nat.le_of_lt (x.above y c (PySem.mem_of_lookup h))
  · have hi:i < vs.length:=by
      unfold fm at h2
      by_cases hi:i < vs.length
      · exact hi
      · rw [List.getElem?_append_right (by simpa using hi)] at h2
        rw [List.getElem?_replicate] at h2
        split at h2<;>cases h2
    have ha:vs[i]?=some v:=by
      unfold fm at h2
      rw [List.getElem?_append_left (by simpa using hi),List.getElem?_map] at h2
      cases e:vs[i]? with
      | none=>rw [e] at h2;cases h2
      | some a=>rw [e] at h2;cases h2;rfl
    obtain⟨u,hu,rv⟩:=r.get ha
    have hp:ps[i]?=some y:=by
      rw [←S.pre,List.getElem?_take_of_lt (by lia)];exact h1
    have ndP:ps.Nodup:=by rw [←S.pre];exact S.nd.sublist (List.take_sublist _ _)
    refine⟨u,rv,?_⟩
    rcases S.par y (List.mem_of_getElem? hp) with k | k
    · exact .inl ⟨k,kX ndP hp hu k⟩
    · obtain⟨c,e⟩:=mx (n:=s.heap.objs.size+1) k
      refine .inr ⟨.inl k,c,e,?_⟩
      have q:=x.cell y c e
      rw [kU ndP hp hu (by show scope.names.lookup y≠_;rw [k];decide)] at q
      exact q
  · exact e0.hok.fresh (Nat.le_of_lt (x.above y c (PySem.mem_of_lookup h)))
  · unfold fm
    show _=N.length
    rw [List.length_append,List.length_map,List.length_replicate]
    lia
theorem yT{CX:pQ}{P:Program}{w:World}{K:PySem.W.Frag}{mg:Str→Option Value}{base:Heap}{k:Nat}{f:Addr}{name qual:Str}{params:Arguments}{body:List Stmt}{scope:Scope}{dV kV doc pm cdv ct oc:Value}{an od:Option Addr}
    {osl:Array (Option Value)}{N ps:List Str}{sp:Sp}(lk:K.lookup f=some ⟨oc,od,.func (PySem.W.fnOf name qual params body scope dV kV doc pm an cdv ct),osl⟩)(hcd:PySem.W.codeIn K cdv qual=true)(S:ay N ps scope)
    (len:∀vs H Q E,sp vs H Q E→vs.length=ps.length)
    (hbody:∀(A:Around) (outer:List Env) (s:Shared) (H:Hp) (vs:List V) (Q:VK) (E:XK),c7 k (A.deeper (envOfC qual scope s.heap.objs.size f cdv))→sp vs H Q E→
      ∃t,jp (nW CX P w K mg base N qual scope f cdv A outer s H E) body t∧t {nx:=fun _ H'=>Q .non H',rt:=Q} (fm N vs) H):
    aF P w K mg base CX (k+1) f (PySem.W.fnOf name qual params body scope dV kV doc pm an cdv ct) ps sp:=by
  refine⟨len,fun A outer s H args us vs Q E hr e0 hb r hsp=>?_⟩
  have hl:=len _ _ _ _ hsp
  have KX:K.In s.heap:=e0.mod.kin.keeps fun b o e=>(e0.bs b o e).1
  have lim:s.heap.NoLimit:=e0.mod.nolimit.keeps fun b o e=>(e0.bs b o e).1
  have hkind:∀y∈ps.zip us,scope.names.lookup y.1=some .local∨(scope.names.lookup y.1=some .cell∧((cellsFrom (s.heap.objs.size+1) scope.names []).lookup y.1).isSome=true):=fun⟨n,v⟩ hy=>by
    rcases S.par n (List.of_mem_zip hy).1 with q | q
    · exact .inl q
    · exact .inr ⟨q,PySem.W.cellsFrom_some _ _ _ (.inl q)⟩
  refine codeAny_call_function hr.depth (KX _ _ lk) rfl S.co S.gen rfl (PySem.W.codeRec_of KX hcd) (hb _ _ _ _ ?_)
  refine wpAny_newFunctionEnv_cells S.kind hkind fun env he s1 x=>?_
  subst he
  refine⟨lim.keeps x.toInCall.keep,codeAny_func ?_⟩
  obtain⟨t,ht,hq⟩:=hbody A outer s H vs Q E (hr.deeper _) hsp
  have I:ao (nW CX P w K mg base N qual scope f cdv A outer s H E) [] (fm N vs) H s1:=p_ S hr.hd e0 hl r x
  refine wpAny_mono (ht [] s1 (fm N vs) H _ I hq) (fun fl s' hs=>?_) fun e s' hs=>hs
  have fin:∀{σ':St} {H':Hp} {v:V} {u:Value},ao (nW CX P w K mg base N qual scope f cdv A outer s H E) [] σ' H' s'→bo v u→Q v H'→CE outer P w H s Q u s':=
    fun{σ' H' v u} J rv q=>⟨v,H',J.os,J.bare,J.base,J.hok,rv,q⟩
  cases fl with
  | ret u=>
    obtain⟨v,σ',H',J,rv,q⟩:=hs
    exact fin J rv q
  | next=>
    obtain⟨σ',H',J,q⟩:=hs
    exact fin (v:=V.non) (u:=Value.none) J rfl q
  | brk=>
    obtain⟨_,_,_,q⟩:=hs
    exact False.elim q
  | cont=>
    obtain⟨_,_,_,q⟩:=hs
    exact False.elim q
end L2
namespace L2
open PySem PySem.Spec PyProof.Rows
section
variable{X:Cx}{x:Str}{p pos:Pos}{e:Expr}{es:List Expr}{t:TA}{id T:String}{r:List V→Hp→VK→Prop}
def AE(r:List V→Hp→VK→Prop)(t:TA):TE:=fun σ H Q=>t σ H fun vs H1=>r vs H1 Q
theorem si(hc:cB X (.builtin id) r)(hg:Gl X x)(hm:X.mg x=none)(hv:bootBuiltins x=some (.builtin id))(ha:PA X (e::es) t)(hn:x≠"__name__":=by decide)(hdb:(x==("__debug__":Str))=false:=by decide)
    (he:starEach (e::es) X.env=(false,eval e X.env)::starEach es X.env:=by rfl)(hpl:(backTo pos (starEach es X.env)).any (·.1)=false:=by rfl):PE X (.Call (.Name x p) (e::es) [] pos) (AE r t):=by
  intro pins s σ H Q I h
  refine wpAny_Call_Name_kw (jZ I hg hm hv ?_ hn hdb)
  exact PyProof.Rows.callWith_builtin1 (cv (ha pos pins s σ H _ I h) fun us s1 ⟨vs,H1,I1,r1,q1⟩=>hc pins s1 σ H1 vs us Q I1 r1 q1) he hpl
theorem qg(hc:cB X (.type T) r)(hg:Gl X x)(hm:X.mg x=none)(hv:bootBuiltins x=some (.type T))(ha:PA X (e::es) t)(hn:x≠"__name__":=by decide)(hdb:(x==("__debug__":Str))=false:=by decide)
    (he:starEach (e::es) X.env=(false,eval e X.env)::starEach es X.env:=by rfl)(hpl:(backTo pos (starEach es X.env)).any (·.1)=false:=by rfl):PE X (.Call (.Name x p) (e::es) [] pos) (AE r t):=by
  intro pins s σ H Q I h
  refine wpAny_Call_Name_kw (jZ I hg hm hv ?_ hn hdb)
  exact PyProof.Rows.callWith_type1 (cv (ha pos pins s σ H _ I h) fun us s1 ⟨vs,H1,I1,r1,q1⟩=>hc pins s1 σ H1 vs us Q I1 r1 q1) he hpl
end
end L2
namespace HT
open PySem PyProof.Rows
section
open PySem.SeqAt
open PySem.AutoSeq1 (wpAny_loadPart')
open PySem.MeetsSeq PySem.MeetsSeq2 PySem.MeetsSeq3
end
section
variable{prog:Program}{w:World}{A:Around}{E:Value→Shared→Prop}{s:Shared}
theorem cat_tup{t b:Addr}{vs ws:List Value}{Q:Value→Shared→Prop}(ht:IsTup s.heap t vs.toArray)(hb:IsTup s.heap b ws.toArray)(hv:vs≠[])
    (h1:ws=[]→Q (.ref t) s)(h2:ws≠[]→Q (.ref s.heap.objs.size) {s with heap:=s.heap.push {cls:=.type "tuple",data:=.seq (vs++ws).toArray}})
    (hsz:vs.length+ws.length≤sizeLine):wpAny (model prog w) A (binaryOp .Add (.ref t) (.ref b)) Q E s:=by
  obtain⟨⟨cls,dd,data,sl⟩,ho,hc,n,hd⟩:=id ht
  obtain⟨⟨cls2,dd2,data2,sl2⟩,ho2,hc2,n2,hd2⟩:=id hb
  simp only at hc hd hc2 hd2
  subst hc hd hc2 hd2
  have e:vs.toArray++ws.toArray=(vs++ws).toArray:=by simp
  by_cases hw:ws=[]
  · exact concat_meets ⟨_,ho,rfl⟩ ⟨_,ho2,rfl⟩ noFill_tuple_add seq_tuple_add PySem.F.slot_tuple_add PySem.F.entry_tuple_add (PySem.F.args_tuple_add_2 _ _)
      (tuple_addW1 t b vs.toArray ws.toArray n n2 dd dd2 sl sl2 (by simpa using hv) (by simp [hw])) ⟨ho,ho2,h1 hw⟩
  · refine concat_meets ⟨_,ho,rfl⟩ ⟨_,ho2,rfl⟩ noFill_tuple_add seq_tuple_add PySem.F.slot_tuple_add PySem.F.entry_tuple_add (PySem.F.args_tuple_add_2 _ _)
      (tuple_addW2 t b vs.toArray ws.toArray n n2 dd dd2 sl sl2 (by simpa using hv) (by simpa using hw) (by rw [List.size_toArray,List.size_toArray];exact hsz)) ⟨ho,ho2,?_⟩
    rw [e]
    exact h2 hw
def sIx(n d:Nat):Option Int→Nat
  | none=>d
  | some v=>if v < 0 then(v+(n:Int)).toNat else min v.toNat n
theorem yd(n d:Nat)(hd:d≤n)(o:Option Int):sIx n d o≤n:=by
  cases o with
  | none=>exact hd
  | some v=>
    show(if v < 0 then(v+(n:Int)).toNat else min v.toNat n)≤n
    by_cases hv:v < 0
    · rw [if_pos hv];lia
    · rw [if_neg hv];exact Nat.min_le_right _ _
theorem o_(v:Int)(n d:Nat):(if v < 0 then max (v+(n:Int)) 0 else min v (n:Int))=((sIx n d (some v):Nat):Int):=by
  show(if v < 0 then max (v+(n:Int)) 0 else min v (n:Int))=(((if v < 0 then(v+(n:Int)).toNat else min v.toNat n):Nat):Int)
  by_cases hv:v < 0
  · simp only [if_pos hv];lia
  · simp only [if_neg hv];lia
theorem nL(lo hi:Option Int)(n:Nat):Builtin.Slice.sliceAdjust lo hi 1 (n:Int)=(((sIx n 0 lo:Nat):Int),((sIx n n hi:Nat):Int)):=by
  have h1:¬((1:Int) < 0):=by lia
  unfold Builtin.Slice.sliceAdjust
  simp only [h1,if_false]
  refine Prod.ext ?_ ?_
  · cases lo with
    | none=>rfl
    | some v=>exact o_ v n 0
  · cases hi with
    | none=>rfl
    | some v=>exact o_ v n n
theorem oC(i j:Nat):Builtin.Slice.slicePlaces (i:Int) (j:Int) 1=j - i:=by
  unfold Builtin.Slice.slicePlaces
  have h1:(1:Int) > 0:=by lia
  simp only [h1,if_true,Int.ediv_one]
  split<;>lia
theorem ko{v:Value}{o:Option Int}{Q:Option Int→Shared→Prop}(p:IsPart v o)(h:Q o s):wpAny (model prog w) A (Builtin.Slice.slicePartIndex v) Q E s:=by
  cases p with
  | none=>exact slicePart_none h
  | int i t=>exact slicePart_int h
theorem eO{sl:Addr}{vl vu:Value}{lo hi:Option Int}{n:Nat}{Q:Int × Int × Nat→Shared→Prop}(hs:s.heap.IsSliceOf sl vl vu .none)(pl:IsPart vl lo)(pu:IsPart vu hi)
    (h:Q (((sIx n 0 lo:Nat):Int),1,sIx n n hi - sIx n 0 lo) s):wpAny (model prog w) A (Builtin.Slice.sliceApplied (.ref sl) (pure (n:Int))) Q E s:=by
  obtain⟨os,hos,hcs,hds⟩:=id hs
  unfold Builtin.Slice.sliceApplied Builtin.Slice.sliceFields
  refine wpAny_bind (wpAny_bind (wpAny_field hos hds (x:=vl) rfl (wpAny_bind (wpAny_field hos hds (x:=vu) rfl (wpAny_bind (wpAny_field hos hds (x:=.none) rfl (wpAny_pure ?_)))))))
  refine wpAny_bind (slicePart_none ?_)
  show wpAny _ _ (if ((1:Int)==0)=true then _ else _) _ _ s
  rw [if_neg (by decide)]
  refine wpAny_bind (ko pl (wpAny_bind (ko pu (wpAny_bind (wpAny_pure ?_)))))
  show wpAny _ _ (match Builtin.Slice.sliceAdjust lo hi 1 (n:Int) with | (lo,hi)=>pure (lo,(1:Int),Builtin.Slice.slicePlaces lo hi 1)) _ _ s
  rw [nL lo hi n]
  show wpAny _ _ (pure (((sIx n 0 lo:Nat):Int),(1:Int),Builtin.Slice.slicePlaces ((sIx n 0 lo:Nat):Int) ((sIx n n hi:Nat):Int) 1)) _ _ s
  rw [oC]
  exact wpAny_pure h
theorem sx(xs:Array Value)(i k:Nat):((List.range k).filterMap fun(m:Nat)=>xs[((i:Int)+(m:Int)*1).toNat]?).toArray=((xs.toList.drop i).take k).toArray:=by
  have e:(fun(m:Nat)=>xs[((i:Int)+(m:Int)*1).toNat]?)=fun m=>xs[i+m]?:=by
    funext m
    have:((i:Int)+(m:Int)*1).toNat=i+m:=by lia
    rw [this]
  rw [e]
  have:=pick_run xs i k
  rw [List.filterMap_map] at this
  have e2:((fun x=>xs[x]?) ∘ fun x=>i+x)=fun m=>xs[i+m]?:=rfl
  rw [e2] at this
  rw [this]
theorem getItem_tuple_cut{t sl:Addr}{items:Array Value}{vl vu:Value}{lo hi:Option Int}{Q:Value→Shared→Prop}(ht:IsTup s.heap t items)(hs:s.heap.IsSliceOf sl vl vu .none)(pl:IsPart vl lo)(pu:IsPart vu hi)
    (hw:¬(sIx items.size 0 lo=0∧sIx items.size items.size hi=items.size))
    (h:Q (.ref s.heap.objs.size) {s with heap:=s.heap.push {cls:=.type "tuple",data:=.seq ((items.toList.drop (sIx items.size 0 lo)).take (sIx items.size items.size hi - sIx items.size 0 lo)).toArray}})
    (hsz:items.size≤sizeLine):wpAny (model prog w) A (getItem (.ref t) (.ref sl)) Q E s:=by
  have htake:sizeOk (.seq ((items.toList.drop (sIx items.size 0 lo)).take (sIx items.size items.size hi - sIx items.size 0 lo)).toArray):=by
    show((items.toList.drop (sIx items.size 0 lo)).take (sIx items.size items.size hi - sIx items.size 0 lo)).toArray.size≤sizeLine
    rw [List.size_toArray,List.length_take,List.length_drop,Array.length_toList]
    lia
  have hj:sIx items.size items.size hi≤items.size:=yd _ _ (Nat.le_refl _) hi
  obtain⟨os,hos,hcs,hds⟩:=id hs
  have hTs:s.TypeIs (.ref sl) "slice":=⟨os,hos,hcs⟩
  unfold getItem
  try with_reducible refine wpAny_holding ?_
  first | refine wpAny_bind (wpAny_pure ?_) | skip
  refine wpAny_bind (wpAny_sequenceKey ht.typeIs (by decide) ?_)
  refine wpAny_bind (wpAny_callSpecial?_slot (name:=Str.ofString "__getitem__") ht.typeIs PyProof.Rows.slot_tuple_getitem
    (wpAny_call_entry PyProof.Rows.slot_tuple_getitem ht.typeIs entry_tuple_getitem ?_ (args_tuple_getitem _ _)))
  show wpAny _ _ (Builtin.Tuple.tupleItemsOf (.ref t) >>= _) _ _ s
  refine wpAny_bind (tupleItemsOf_ ht ?_)
  refine wpAny_bind (wpAny_typeOf hTs ?_)
  rw [if_pos (by decide)]
  refine wpAny_bind (eO hs pl pu ?_)
  have hno:¬((((sIx items.size 0 lo:Nat):Int)==0&&(1:Int)==1&&(sIx items.size items.size hi - sIx items.size 0 lo)==items.size)=true):=by
    intro q
    rw [Bool.and_eq_true,Bool.and_eq_true] at q
    have q1:((sIx items.size 0 lo:Nat):Int)=0:=eq_of_beq q.1.1
    have q2:sIx items.size items.size hi - sIx items.size 0 lo=items.size:=eq_of_beq q.2
    exact hw ⟨by lia,by lia⟩
  show wpAny _ _ (if (((sIx items.size 0 lo:Nat):Int)==0&&(1:Int)==1&&(sIx items.size items.size hi - sIx items.size 0 lo)==items.size)=true then _ else _) _ _ s
  rw [if_neg hno,sx]
  first
    | exact wpAny_bind (m:=Builtin.Tuple.tupleExact _) (wpAny_newObj_type (wpAny_pure ⟨_,rfl,wpAny_pure h⟩) htake)
    | exact wpAny_bind (m:=Builtin.Tuple.tupleExact _) (wpAny_newObj_type (wpAny_bind (wpAny_pure (wpAny_pure ⟨_,rfl,wpAny_pure h⟩))) htake)
    | exact wpAny_bind (wpAny_bind (m:=Builtin.Tuple.tupleExact _) (wpAny_newObj_type (wpAny_pure (wpAny_pure ⟨_,rfl,wpAny_pure h⟩)) htake))
    | exact wpAny_bind (wpAny_bind (m:=Builtin.Tuple.tupleExact _) (wpAny_newObj_type (wpAny_pure ⟨_,rfl,wpAny_pure h⟩) htake))
end
end HT
namespace L2
open PySem PySem.Spec PyProof.Rows
abbrev TO:=St→Hp→(Option Int→Hp→Prop)→Prop
def PO(X:Cx)(e:Option Expr)(t:TO):Prop:=
  ∀(pins:List (Addr × Obj)) (s:Shared) (σ:St) (H:Hp) (Q:Option Int→Hp→Prop),ao X pins σ H s→t σ H Q→
    wpAny (model X.prog X.w) X.A (evalPart e X.env) (fun u s'=>∃o H',ao X pins σ H' s'∧IsPart u o∧Q o H') X.xe s
def vK:TO:=fun _ H Q=>Q none H
def zO(t:TE):TO:=fun σ H Q=>t σ H fun x H1=>∃i,x=.int i∧Q (some i) H1
theorem gT{ns:List Int}:∀{us:List Value},aE (ns.map V.int) us→IntsAre us ns:=by
  induction ns with
  | nil=>intro us r;rw [List.map_nil] at r;cases r;exact .nil
  | cons n ns ih=>
    intro us r
    rw [List.map_cons] at r
    cases r with
    | cons r1 r2=>
      obtain⟨t,e⟩:=r1
      subst e
      exact .cons n t (ih r2)
section
variable{X:Cx}{e:Expr}{te:TE}{lo hi:Option Expr}{tl th:TO}{pos p2:Pos}
theorem vf:PO X none vK:=by
  intro pins s σ H Q I h
  rw [evalPart_none]
  exact wpAny_pure ⟨none,H,I,.none,h⟩
theorem vg(h:PE X e te):PO X (some e) (zO te):=by
  intro pins s σ H Q I hw
  rw [evalPart_some]
  refine cv (h pins s σ H _ I hw) fun u s1 ⟨x,H1,I1,r1,q1⟩=>?_
  obtain⟨i,rfl,q⟩:=q1
  obtain⟨t,rfl⟩:=r1
  exact⟨some i,H1,I1,.int i t,q⟩
def uf(X:Cx)(r:V→Option Int→Option Int→Hp→VK→Prop):Prop:=
  ∀(pins:List (Addr × Obj)) (s:Shared) (σ:St) (H:Hp) (x:V) (v vl vu:Value) (lo hi:Option Int) (sl:Addr) (Q:VK),ao X pins σ H s→bo x v→s.heap.IsSliceOf sl vl vu .none→IsPart vl lo→IsPart vu hi→r x lo hi H Q→
    ∃T id,typeLookup (.type T) "__getitem__"=pure (some (.builtin id))∧s.TypeIs v T∧wpAny (model X.prog X.w) X.A (getItem v (.ref sl)) (EP X pins σ Q) X.xe s
theorem uf.or{r r':V→Option Int→Option Int→Hp→VK→Prop}(h:uf X r)(h':uf X r'):uf X (fun x lo hi H Q=>r x lo hi H Q∨r' x lo hi H Q):=by
  intro pins s σ H x v vl vu lo hi sl Q I rx hs pl pu q
  rcases q with q | q
  · exact h pins s σ H x v vl vu lo hi sl Q I rx hs pl pu q
  · exact h' pins s σ H x v vl vu lo hi sl Q I rx hs pl pu q
def Br(r:V→Option Int→Option Int→Hp→VK→Prop)(te:TE)(tl th:TO):TE:=fun σ H Q=>te σ H fun x H1=>tl σ H1 fun l H2=>th σ H2 fun u H3=>r x l u H3 Q
theorem sj{r:V→Option Int→Option Int→Hp→VK→Prop}(hr:uf X r)(he:PE X e te)(hl:PO X lo tl)(hu:PO X hi th):PE X (.Subscript e (.Slice lo hi none p2) pos) (Br r te tl th):=by
  intro pins s σ H Q I h
  refine Subscript_ (cv (he pins s σ H _ I h) fun v s1 ⟨x,H1,I1,r1,q1⟩=>?_)
  refine wpAny_Slice (cv (hl pins s1 σ H1 _ I1 q1) fun vl s2 ⟨l,H2,I2,pl,q2⟩=>cv (hu pins s2 σ H2 _ I2 q2) fun vu s3 ⟨u,H3,I3,pu,q3⟩=>?_)
  rw [evalPart_none]
  refine wpAny_pure ?_
  have I4:ao X pins σ H3 {s3 with heap:=s3.heap.push {cls:=.type "slice",data:=.fields #[vl,vu,.none]}}:=I3.kept (t':=s3.toks) fun b ob q=>Heap.get?_push_of_some _ q
  obtain⟨T,id,hT,ht,hg⟩:=hr pins {s3 with heap:=s3.heap.push {cls:=.type "slice",data:=.fields #[vl,vu,.none]}} σ H3 x v vl vu l u s3.heap.objs.size Q I4 r1 (Heap.IsSliceOf.new ..) pl pu q3
  show wpAny (model X.prog X.w) X.A (subscriptTail e (.Slice lo hi none p2) v (.ref s3.heap.objs.size)) (EP X pins σ Q) X.xe {s3 with heap:=s3.heap.push {cls:=.type "slice",data:=.fields #[vl,vu,.none]}}
  exact tail_any (ops:=[.ref s3.heap.objs.size,v]) ht hT hg (by with_unfolding_all rfl)
def kM(xs:List V)(lo hi:Option Int):List V:=(xs.drop (HT.sIx xs.length 0 lo)).take (HT.sIx xs.length xs.length hi - HT.sIx xs.length 0 lo)
theorem jh(xs:List V)(lo hi:Option Int):(kM xs lo hi).length≤xs.length:=by
  unfold kM
  rw [List.length_take,List.length_drop]
  lia
def zB(K:PySem.W.Frag):V→Option Int→Option Int→Hp→VK→Prop:=fun x lo hi H Q=>∃a xs,x=.ref a∧cH K H a xs∧
  ¬(HT.sIx xs.length 0 lo=0∧HT.sIx xs.length xs.length hi=xs.length)∧∀p,H p=none→Q (.ref p) (a_ H p (.tup (kM xs lo hi)))
theorem ye:uf X (zB X.K):=by
  intro pins s σ H x v vl vu lo hi sl Q I rx hs pl pu h
  obtain⟨a,xs,rfl,hx,hw,q⟩:=h
  cases rx
  obtain⟨its,r,ht,hz⟩:=I.tuple hx
  have hlen:its.toArray.size=xs.length:=by rw [List.size_toArray];exact r.length.symm
  refine⟨"tuple",_,PyProof.Rows.slot_tuple_getitem.lookup,ht.typeIs,?_⟩
  refine HT.getItem_tuple_cut ht hs pl pu (by rw [hlen];exact hw) ?_ (by rw [hlen];exact hz)
  rw [hlen]
  refine⟨.ref s.heap.objs.size,_,I.laid (t':=s.toks) (o:=.tup (kM xs lo hi)) (fun b ob q=>Heap.get?_push_of_some _ q) (Nat.le_refl _) ?_,rfl,q _ (I.hok.fresh (Nat.le_refl _))⟩
  exact⟨Nat.le_trans (jh xs lo hi) hz,_,(r.drop (HT.sIx xs.length 0 lo)).take (HT.sIx xs.length xs.length hi - HT.sIx xs.length 0 lo),jC.new _ _⟩
def zw(K:PySem.W.Frag):R2:=fun x y H Q=>∃a b xs ys,x=.ref a∧y=.ref b∧cH K H a xs∧cH K H b ys∧xs≠[]∧xs.length+ys.length≤sizeLine∧
  (ys=[]→Q (.ref a) H)∧(ys≠[]→∀p,H p=none→Q (.ref p) (a_ H p (.tup (xs++ys))))
theorem aE.nil_iff{xs:List V}{us:List Value}(r:aE xs us):us=[]↔ xs=[]:=by
  cases r with
  | nil=>simp
  | cons _ _=>simp
theorem uT:fY X (binaryOp .Add) (zw X.K):=by
  intro pins s σ H x y v u Q I rx ry h
  obtain⟨a,b,xs,ys,rfl,rfl,ha,hb,hx,hz,q1,q2⟩:=h
  cases rx
  cases ry
  obtain⟨its,r1,p1,_⟩:=I.tuple ha
  obtain⟨its2,r2,p2,_⟩:=I.tuple hb
  refine HT.cat_tup p1 p2 (fun z=>hx (r1.nil_iff.mp z)) (fun z=>⟨.ref a,H,I,rfl,q1 (r2.nil_iff.mp z)⟩) (fun z=>?_) (by rw [←r1.length,←r2.length];exact hz)
  refine⟨.ref s.heap.objs.size,_,I.laid (t':=s.toks) (o:=.tup (xs++ys)) (fun b ob q=>Heap.get?_push_of_some _ q) (Nat.le_refl _) ?_,rfl,q2 (fun w=>z (r2.nil_iff.mpr w)) _ (I.hok.fresh (Nat.le_refl _))⟩
  exact⟨by rw [List.length_append];exact hz,_,r1.append r2,jC.new _ _⟩
end
end L2
namespace L2
open PySem PySem.Spec PyProof.Rows
def yB(n:Nat)(i:Int):Option Nat:=if 0≤i then(if i < n then some i.toNat else none) else if -(n:Int)≤i then some (i+n).toNat else none
def atI{α:Type}(xs:List α)(i:Int):Option α:=(yB xs.length i).bind fun j=>xs[j]?
theorem uA{n:Nat}{i:Int}{j:Nat}(h:yB n i=some j):seqIndex? i n=some j∧j < n∧ -(n:Int)≤i∧i < n:=by
  unfold yB at h
  by_cases h0:0≤i
  · rw [if_pos h0] at h
    by_cases h1:i < n
    · rw [if_pos h1] at h
      have e:i.toNat=j:=Option.some.inj h
      exact⟨by rw [seqIndex_of h0 h1,e],by lia,by lia,h1⟩
    · rw [if_neg h1] at h;cases h
  · rw [if_neg h0] at h
    by_cases h1: -(n:Int)≤i
    · rw [if_pos h1] at h
      have e:(i+n).toNat=j:=Option.some.inj h
      exact⟨by rw [seqIndex_neg (by lia) h1,e],by lia,h1,by lia⟩
    · rw [if_neg h1] at h;cases h
theorem oU{α:Type}{xs:List α}{i:Int}{v:α}(h:atI xs i=some v):∃j,seqIndex? i xs.length=some j∧xs[j]?=some v∧j < xs.length∧ -(xs.length:Int)≤i∧i < xs.length:=by
  unfold atI at h
  cases e:yB xs.length i with
  | none=>rw [e] at h;cases h
  | some j=>
    rw [e] at h
    obtain⟨h1,h2,h3,h4⟩:=uA e
    exact⟨j,h1,h,h2,h3,h4⟩
def lA(b:Expr):Prop:=∀o i,subscripted b false o i=operate [o,i] (getItem o i)
def ud(X:Cx)(r:R2):Prop:=
  ∀(value slice:Expr) (pins:List (Addr × Obj)) (s:Shared) (σ:St) (H:Hp) (x y:V) (v u:Value) (Q:VK),ao X pins σ H s→bo x v→bo y u→r x y H Q→
    subscripted slice false v u=operate [v,u] (getItem v u)→wpAny (model X.prog X.w) X.A (subscriptTail value slice v u) (EP X pins σ Q) X.xe s
def AU(X:Cx)(id:String)(r:V→List V→Hp→VK→Prop):Prop:=
  ∀(pins:List (Addr × Obj)) (s:Shared) (σ:St) (H:Hp) (x:V) (xs:List V) (v:Value) (us:List Value) (Q:VK),ao X pins σ H s→bo x v→aE xs us→r x xs H Q→
    wpAny (model X.prog X.w) X.A (call (.builtin id) (v::us)) (EP X pins σ Q) X.xe s
section
variable{X:Cx}{a b:Expr}{ta tb:TE}{pos:Pos}
theorem ud.or{r r':R2}(h:ud X r)(h':ud X r'):ud X (fun x y H Q=>r x y H Q∨r' x y H Q):=by
  intro value slice pins s σ H x y v u Q I rx ry q hs
  rcases q with q | q
  · exact h value slice pins s σ H x y v u Q I rx ry q hs
  · exact h' value slice pins s σ H x y v u Q I rx ry q hs
theorem zm{r:R2}(hr:ud X r)(ha:PE X a ta)(hb:PE X b tb)(hs:lA b):PE X (.Subscript a b pos) (zN r ta tb):=by
  intro pins s σ H Q I h
  exact Subscript_ (wK ha hb I h fun v u s2 x y H2 I2 rx ry q=>hr a b pins s2 σ H2 x y v u Q I2 rx ry q (hs _ _))
def zy(K:PySem.W.Frag):R2:=fun x y H Q=>∃p xs i v,x=.ref p∧y=.int i∧fx K H p xs∧atI xs i=some v∧Q v H
def zz(K:PySem.W.Frag):R2:=fun x y H Q=>∃p xs i v,x=.ref p∧y=.int i∧cH K H p xs∧atI xs i=some v∧Q v H
theorem uB:ud X (zy X.K):=by
  intro value slice pins s σ H x y v u Q I rx ry h hs
  obtain⟨p,xs,i,z,rfl,rfl,hq,he,q⟩:=h
  cases rx
  obtain⟨t,rfl⟩:=ry
  obtain⟨its,r,pl,hz⟩:=I.list hq
  obtain⟨j,h1,h2,h3,h4,h5⟩:=oU he
  obtain⟨w,ew,rw'⟩:=r.get h2
  have hl:=r.length
  have hn:=ov
  have fin:EP X pins σ Q w s:=⟨z,H,I,rw',q⟩
  by_cases h0:0≤i
  · have hj:i.toNat=j:=by
      rw [seqIndex_of h0 h5] at h1
      exact Option.some.inj h1
    exact item_listR pl.isList h0 (by lia) (by rw [hj];simpa using ew) fin hs
  · have hj:(i+(its.toArray.size:Int)).toNat=j:=by
      rw [seqIndex_neg (by lia) h4] at h1
      rw [List.size_toArray,←hl]
      exact Option.some.inj h1
    exact subscriptTail_builtinR (x:=w) pl.isList.typeIs slot_list_getitem.lookup
      (wpAny_getItem_list_neg (Q:=fun r s'=>r=w∧EP X pins σ Q r s') pl.isList (by lia) (by rw [List.size_toArray]<;>lia) (by lia) (by rw [hj];simpa using ew) ⟨rfl,fin⟩) hs
theorem wY:ud X (zz X.K):=by
  intro value slice pins s σ H x y v u Q I rx ry h hs
  obtain⟨p,xs,i,z,rfl,rfl,hq,he,q⟩:=h
  cases rx
  obtain⟨t,rfl⟩:=ry
  obtain⟨its,r,pl,hz⟩:=I.tuple hq
  obtain⟨j,h1,h2,h3,h4,h5⟩:=oU he
  obtain⟨w,ew,rw'⟩:=r.get h2
  have hl:=r.length
  have hn:=ov
  have fin:EP X pins σ Q w s:=⟨z,H,I,rw',q⟩
  exact subscriptTail_builtinR (x:=w) pl.typeIs slot_tuple_getitem.lookup
    (getItem_tuple (j:=j) (Q:=fun r s'=>r=w∧EP X pins σ Q r s') pl (by lia) (by lia) (by rw [List.size_toArray,←hl];exact h1) (by simpa using ew) ⟨rfl,fin⟩) hs
theorem mf(lo hi:Option Int)(n:Nat):(sliceBounds lo hi none n).1=((HT.sIx n 0 lo:Nat):Int)∧(sliceBounds lo hi none n).2.1=((HT.sIx n n hi:Nat):Int)∧(sliceBounds lo hi none n).2.2=1:=by
  refine⟨?_,?_,rfl⟩
  · cases lo with
    | none=>simp [sliceBounds,HT.sIx]
    | some i=>
      simp only [sliceBounds,HT.sIx,Option.getD_none,show(1:Int) > 0 by decide,if_true]
      by_cases h:i < 0
      · simp only [h,if_true]<;>lia
      · simp only [h,if_false]<;>lia
  · cases hi with
    | none=>simp [sliceBounds,HT.sIx]
    | some i=>
      simp only [sliceBounds,HT.sIx,Option.getD_none,show(1:Int) > 0 by decide,if_true]
      by_cases h:i < 0
      · simp only [h,if_true]<;>lia
      · simp only [h,if_false]<;>lia
theorem kP(its:List Value)(lo hi:Option Int):slicePick its.toArray lo hi none=((its.drop (HT.sIx its.length 0 lo)).take (HT.sIx its.length its.length hi - HT.sIx its.length 0 lo)).toArray:=by
  obtain⟨h1,h2,h3⟩:=mf lo hi its.toArray.size
  unfold slicePick
  rw [h1,h2,h3]
  simp only [sliceRange_one,pick_run,List.size_toArray]<;>rfl
def zA(K:PySem.W.Frag):V→Option Int→Option Int→Hp→VK→Prop:=fun x lo hi H Q=>∃a xs,x=.ref a∧fx K H a xs∧∀p,H p=none→Q (.ref p) (a_ H p (.lst (kM xs lo hi)))
theorem vD:uf X (zA X.K):=by
  intro pins s σ H x v vl vu lo hi sl Q I rx hs pl pu h
  obtain⟨a,xs,rfl,hx,q⟩:=h
  cases rx
  obtain⟨its,r,ht,hz⟩:=I.list hx
  have hlen:=r.length
  refine⟨"list",_,slot_list_getitem.lookup,ht.isList.typeIs,?_⟩
  refine wpAny_getItem_list_slice ht.isList hs pl pu .none (by simp) ?_ (by rw [List.size_toArray]<;>lia)
  rw [kP,←hlen]
  refine⟨.ref s.heap.objs.size,_,I.laid (t':=s.toks) (o:=.lst (kM xs lo hi)) (fun b ob q=>Heap.get?_push_of_some _ q) (Nat.le_refl _) ?_,rfl,q _ (I.hok.fresh (Nat.le_refl _))⟩
  exact⟨Nat.le_trans (jh xs lo hi) hz,_,0,(r.drop (HT.sIx xs.length 0 lo)).take (HT.sIx xs.length xs.length hi - HT.sIx xs.length 0 lo),Heap.get?_push_size _ rfl⟩
theorem lJ:cB X (.builtin "len") (fun xs H Q=>∃p ys,xs=[.ref p]∧(fx X.K H p ys∨cH X.K H p ys)∧Q (.int ys.length) H):=by
  intro pins s σ H xs us Q I r h
  obtain⟨p,ys,rfl,hq,q⟩:=h
  obtain⟨u,rfl,rx⟩:=nD r
  cases rx
  have hn:=ov
  rcases hq with hq | hq
  · obtain⟨its,r',pl,hz⟩:=I.list hq
    have hlen:=r'.length
    exact Calls.call_len_list pl.isList (by simp only [List.size_toArray]<;>lia) ⟨.int ys.length,H,I.tok _,⟨s.toks+1,by rw [List.size_toArray,hlen]⟩,q⟩
  · obtain⟨its,r',pl,hz⟩:=I.tuple hq
    have hlen:=r'.length
    exact len_tuple pl (by simp only [List.size_toArray]<;>lia) ⟨.int ys.length,H,I.tok _,⟨s.toks+1,by rw [List.size_toArray,hlen]⟩,q⟩
theorem kJ:cB X (.type "tuple") (fun xs H Q=>∃p ys,xs=[.ref p]∧((fx X.K H p ys∧∀l,H l=none→Q (.ref l) (a_ H l (.tup ys)))∨(cH X.K H p ys∧Q (.ref p) H))):=by
  intro pins s σ H xs us Q I r h
  obtain⟨p,ys,rfl,h⟩:=h
  obtain⟨u,rfl,rx⟩:=nD r
  cases rx
  rcases h with ⟨hq,q⟩ | ⟨hq,q⟩
  · obtain⟨its,r',pl,hz⟩:=I.list hq
    have hlen:=r'.length
    refine call_tuple_list pl.isList (fun h' kp=>?_) (by simp only [List.size_toArray]<;>lia)
    have I1:ao X pins σ H {s with heap:=h'}:=I.kept (t':=s.toks) kp
    have I2:ao X pins σ (a_ H h'.objs.size (.tup ys)) {s with heap:=h'.push {cls:=.type "tuple",data:=.seq its.toArray}}:=
      I1.laid (t':=s.toks) (fun b o e=>Heap.get?_push_of_some _ e) (Nat.le_refl _) (show dW X.prog X.w _ _ _ (.tup ys) from⟨hz,its,r',jC.new _ _⟩)
    exact⟨.ref h'.objs.size,_,I2,rfl,q _ (I1.hok.fresh (Nat.le_refl _))⟩
  · obtain⟨its,r',pl,hz⟩:=I.tuple hq
    exact call_tuple_same pl ⟨.ref p,H,I,rfl,q⟩
def Bc(K:PySem.W.Frag)(T:String)(x:V)(H:Hp):Prop:=match x with
  | .str _=>T="str"
  | .int _=>T="int"
  | .ref p=>(T="list"∧∃xs,fx K H p xs)∨(T="tuple"∧∃o,K.lookup p=some o∧o.cls=.type "tuple"∧o.dict=none)∨
      (T="dict"∧((∃kvs,H p=some (.dK kvs))∨∃kvs,H p=some (.dT kvs)))∨(T="set"∧∃S n,H p=some (.set S n))
  | _=>False
theorem yp{pins:List (Addr × Obj)}{σ:St}{H:Hp}{s:Shared}{T:String}{x:V}{v:Value}(I:ao X pins σ H s)(r:bo x v)(ty:Bc X.K T x H):
    s.TypeIs v T∧∀a,v=.ref a→∃ob,s.heap.get? a=some ob∧ob.dict=none:=by
  cases x with
  | str z=>
    obtain⟨t,rfl⟩:=r
    cases (show T="str" from ty)
    exact⟨typeIs_str s z t,fun _ e=>nomatch e⟩
  | int i=>
    obtain⟨t,rfl⟩:=r
    cases (show T="int" from ty)
    exact⟨typeIs_int s i t,fun _ e=>nomatch e⟩
  | ref p=>
    cases r
    rcases ty with ⟨rfl,xs,hq⟩ | ⟨rfl,o,hk,hc,hd⟩ | ⟨rfl,hk⟩ | ⟨rfl,S,n,hk⟩
    · obtain⟨its,_,pl,_⟩:=I.list hq
      refine⟨pl.isList.typeIs,fun a e=>?_⟩
      cases e
      obtain⟨o,n,e,c,hd,_⟩:=pl
      exact⟨o,e,hd⟩
    · refine⟨⟨o,I.kIn p o hk,hc⟩,fun a e=>?_⟩
      cases e
      exact⟨o,I.kIn _ o hk,hd⟩
    · have z:∃o,s.heap.get? p=some o∧o.ExactDict:=by
        rcases hk with ⟨kvs,hk⟩ | ⟨kvs,hk⟩
        · obtain⟨_,_,_,_,o,_,_,e,ex,_⟩:=I.hok p _ hk
          exact⟨o,e,ex⟩
        · obtain⟨_,_,_,_,o,_,_,e,ex,_⟩:=I.hok p _ hk
          exact⟨o,e,ex⟩
      obtain⟨o,e,ex⟩:=z
      refine⟨⟨o,e,ex.1⟩,fun a e2=>?_⟩
      cases e2
      exact⟨o,e,ex.2.1⟩
    · obtain⟨o,_,_,_,e,ex,_⟩:=I.hok p _ hk
      refine⟨⟨o,e,ex.1⟩,fun a e2=>?_⟩
      cases e2
      exact⟨o,e,ex.2.1⟩
  | _=>exact False.elim ty
def A_(K:PySem.W.Frag)(T:String)(r:V→List V→Hp→VK→Prop)(to:TE)(t:TA):TE:=fun σ H Q=>to σ H fun x H1=>Bc K T x H1∧t σ H1 fun xs H2=>r x xs H2 Q
variable{o e:Expr}{es:List Expr}{to:TE}{t:TA}{name:Str}{apos cpos:Pos}{T id:String}{r:V→List V→Hp→VK→Prop}
theorem zl(pa:PlainAttrs T)(slot:Slot T name id)(hty:typeOf (.builtin id)=pure (.type "method_descriptor"))(hm:AU X id r)(ho:PE X o to)(ha:PA X (e::es) t)
    (hbase:attributeBase o name X.env (eval o X.env)=eval o X.env:=by rfl)
    (hfew:((backTo cpos (starEach (e::es) X.env)).all (fun x=> !x.1)&&(backToKw cpos (keywordEach [] X.env)).all (fun x=>x.1.isSome)
      &&decide ((e::es).length+([]:List Keyword).length+(if ([]:List Keyword).isEmpty then 0 else 1) < 30))=true:=by rfl)
    (hline:(apos.endLine==cpos.line)=true:=by rfl)(hs:starEach (e::es) X.env=(false,eval e X.env)::starEach es X.env:=by rfl)(hplain:(backTo cpos (starEach es X.env)).any (·.1)=false:=by rfl):
    PE X (.Call (.Attribute o name apos) (e::es) [] cpos) (A_ X.K T r to t):=by
  intro pins s σ H Q I h
  refine wpAny_Call_method_late hbase hfew hline rfl (cv (ho pins s σ H _ I h) fun v s1 ⟨x,H1,I1,r1,ty,q1⟩=>?_)
  obtain⟨h1,h2⟩:=yp I1 r1 ty
  refine⟨T,id,pa,slot,hty,h1,h2,?_⟩
  have hA:=ha cpos pins s1 σ H1 _ I1 q1
  rw [hs] at hA ⊢
  refine Calls.callWith_builtin (by show(false || (backTo cpos (starEach es X.env)).any (·.1))=false;rw [hplain]<;>rfl) (Calls.evalArgs_plain ?_)
  exact cv hA fun us s2 ⟨vs,H2,I2,r2,q2⟩=>hm pins s2 σ H2 x vs v us Q I2 r1 r2 q2
end
end L2
namespace L2
open PySem PySem.Spec PyProof.Rows
def AS(X:Cx)(id:String)(r:V→List V→Hp→VK→Prop):Prop:=
  ∀(pins:List (Addr × Obj)) (s:Shared) (σ:St) (H:Hp) (x:V) (xs:List V) (v:Value) (us:List Value) (Q:VK),ao X pins σ H s→bo x v→aE xs us→r x xs H Q→
    wpAny (model X.prog X.w) X.A (call (.builtin id) (v::us)) (EP X pins σ Q) X.xe s
theorem aE.one:∀{x:V} {us:List Value},aE [x] us→∃u,us=[u]∧bo x u
  | _,_,.cons r .nil=>⟨_,rfl,r⟩
theorem aE.eraseIdx:∀{xs:List V} {us:List Value} (i:Nat),aE xs us→aE (xs.eraseIdx i) (us.eraseIdx i)
  | _,_,_,.nil=>.nil
  | _,_,0,.cons _ t=>t
  | _,_,i+1,.cons r t=>.cons r (aE.eraseIdx i t)
theorem aE.rep{xs:List V}{us:List Value}(h:aE xs us):∀k:Nat,aE (List.replicate k xs).flatten (List.replicate k us).flatten
  | 0=>.nil
  | k+1=>by
    rw [List.replicate_succ,List.replicate_succ,List.flatten_cons,List.flatten_cons]
    exact aE.append h (aE.rep h k)
theorem k_{α:Type}:∀(l:List α) (i:Nat),(l.eraseIdx i).length≤l.length
  | [],_=>Nat.le_refl _
  | _::_,0=>Nat.le_succ _
  | _::r,i+1=>Nat.succ_le_succ (k_ r i)
theorem k8(its:List Value):∀(k:Nat) (acc:List Value),
    List.foldl (fun x1 x2=>x1++x2) acc.toArray (List.replicate k its.toArray)=(acc++(List.replicate k its).flatten).toArray
  | 0,acc=>by simp
  | k+1,acc=>by
    have e:acc.toArray++its.toArray=(acc++its).toArray:=by simp
    have e2:(acc++its)++(List.replicate k its).flatten=acc++(List.replicate (k+1) its).flatten:=by
      rw [List.replicate_succ,List.flatten_cons,List.append_assoc]
    rw [←e2,←k8 its k (acc++its),←e,List.replicate_succ,List.foldl_cons]
section
variable{X:Cx}{pins:List (Addr × Obj)}{σ:St}{H:Hp}{s:Shared}{l b:Addr}{xs ys zs:List V}
theorem ao.lset{its its':List Value}{n:Nat}{f:Array Value→Array Value}{t':Nat}(I:ao X pins σ H s)(hH:H l=some (.lst xs))
    (e:s.heap.get? l=some {cls:=.type "list",data:=.seq its.toArray n})(hf:f its.toArray=its'.toArray)(hv:aE ys its')(hz:ys.length≤sizeLine):
    ao X pins σ (a_ H l (.lst ys)) {s with heap:=s.heap.update l (Obj.mapSeq f),toks:=t'}:=by
  have q:=PySem.IsL.update e f
  rw [hf] at q
  refine I.write (x:=l) (e:=l) (by rw [hH];exact trivial) (.inl rfl) (fun b' u hb hu=>(Heap.get?_update_other s.heap (Obj.mapSeq f) (Ne.symm hb)).trans hu) ⟨_,q⟩ ?_
  exact⟨hz,its',_,hv,q⟩
theorem ao.lnew{its:List Value}{t':Nat}(I:ao X pins σ H s)(hv:aE ys its)(hz:ys.length≤sizeLine):
    ao X pins σ (a_ H s.heap.objs.size (.lst ys)) {s with heap:=s.heap.push {cls:=.type "list",data:=.seq its.toArray},toks:=t'}:=
  I.laid (fun _ _ q=>Heap.get?_push_of_some _ q) (Nat.le_refl _) ⟨hz,its,0,hv,Heap.get?_push_size _ rfl⟩
theorem ao.fresh(I:ao X pins σ H s):H s.heap.objs.size=none:=I.hok.fresh (Nat.le_refl _)
theorem ao.lstM(I:ao X pins σ H s)(hH:H l=some (.lst xs)):xs.length≤sizeLine∧∃(its:List Value) (n:Nat),aE xs its∧xs.length=its.length∧s.heap.get? l=some {cls:=.type "list",data:=.seq its.toArray n}:=by
  obtain⟨z,its,n,r,e⟩:=I.hok l _ hH
  exact⟨z,its,n,r,r.length,e⟩
theorem rY{n:Nat}(h:n≤sizeLine):Builtin.List.listTooLong n=false:=by
  unfold Builtin.List.listTooLong
  exact decide_eq_false (by lia)
end
section
variable{X:Cx}
def pB:V→List V→Hp→VK→Prop:=fun x vs H Q=>∃l xs y,x=.ref l∧vs=[y]∧H l=some (.lst xs)∧xs.length < sizeLine∧Q .non (a_ H l (.lst (xs++[y])))
theorem iZ:AS X "list.append" pB:=by
  intro pins s σ H x vs v us Q I rx rv h
  obtain⟨l,xs,y,rfl,rfl,hH,hz,q⟩:=h
  cases rx
  obtain⟨u,rfl,ru⟩:=rv.one
  obtain⟨z,its,n,r,hl,e⟩:=I.lstM hH
  refine call_meets F.slot_list_append ⟨_,e,rfl⟩ F.entry_list_append (F.args_list_append_2 _ _) (PySem.list_append l its.toArray n u (by rw [List.size_toArray];lia)) ⟨e,?_⟩
  refine⟨.non,_,I.lset (its':=its++[u]) hH e (by simp) (r.append (.cons ru .nil)) ?_,rfl,q⟩
  rw [List.length_append,List.length_singleton]
  lia
def sT:V→List V→Hp→VK→Prop:=fun x vs H Q=>∃l xs i k y,x=.ref l∧vs=[.int i]∧H l=some (.lst xs)∧ -(2 ^ 63)≤i∧i < 2 ^ 63∧seqIndex? i xs.length=some k∧xs[k]?=some y∧Q y (a_ H l (.lst (xs.eraseIdx k)))
theorem rV:AS X "list.pop" sT:=by
  intro pins s σ H x vs v us Q I rx rv h
  obtain⟨l,xs,i,k,y,rfl,rfl,hH,h1,h2,hk,hy,q⟩:=h
  cases rx
  obtain⟨u,rfl,ru⟩:=rv.one
  obtain⟨t,rfl⟩:=ru
  obtain⟨z,its,n,r,hl,e⟩:=I.lstM hH
  obtain⟨w,hw,rw'⟩:=r.get hy
  refine call_meets F.slot_list_pop ⟨_,e,rfl⟩ F.entry_list_pop (F.args_list_pop_2 _ _)
    (MeetsSeq.list_pop_at l its.toArray n i t k w (fitsIndex_both h1 h2) (by rw [List.size_toArray,←hl];exact hk) (by rw [←Array.getElem?_toList];exact hw) (by rw [List.size_toArray];lia)) ⟨e,?_⟩
  refine⟨y,_,I.lset (its':=its.eraseIdx k) hH e ?_ (r.eraseIdx k) ?_,rw',q⟩
  · show its.toArray.eraseIdxIfInBounds k=(its.eraseIdx k).toArray
    rw [List.eraseIdxIfInBounds_toArray]
  · have:=k_ xs k
    lia
def xY:R2:=fun x y H Q=>∃l b xs zs,x=.ref l∧y=.ref b∧H l=some (.lst xs)∧H b=some (.lst zs)∧xs.length+zs.length≤sizeLine∧∀p,H p=none→Q (.ref p) (a_ H p (.lst (xs++zs)))
theorem xo:fY X (binaryOp .Add) xY:=by
  intro pins s σ H x y v u Q I rx ry h
  obtain⟨l,b,xs,zs,rfl,rfl,hH,hB,hz,q⟩:=h
  cases rx
  cases ry
  obtain⟨z,its,n,r,hl,e⟩:=I.lstM hH
  obtain⟨z2,its2,n2,r2,hl2,e2⟩:=I.lstM hB
  refine PySem.P.add_list e e2 ?_ (by rw [List.size_toArray,List.size_toArray];lia)
  have ea:its.toArray++its2.toArray=(its++its2).toArray:=by simp
  rw [ea]
  exact⟨.ref _,_,I.lnew (t':=s.toks) (r.append r2) (by rw [List.length_append];lia),rfl,q _ I.fresh⟩
def x4:R2:=fun x y H Q=>∃l k xs,x=.ref l∧y=.int k∧H l=some (.lst xs)∧ -(2 ^ 63)≤k∧k < 2 ^ 63∧xs.length*k.toNat≤sizeLine∧
  ∀p,H p=none→Q (.ref p) (a_ H p (.lst (List.replicate k.toNat xs).flatten))
theorem uD{α:Type}(xs:List α)(k:Nat):(List.replicate k xs).flatten.length=k*xs.length:=by
  induction k with
  | zero=>simp
  | succ k ih=>rw [List.replicate_succ,List.flatten_cons,List.length_append,ih,Nat.succ_mul,Nat.add_comm]
theorem xw:fY X (binaryOp .Mult) x4:=by
  intro pins s σ H x y v u Q I rx ry h
  obtain⟨l,k,xs,rfl,rfl,hH,h1,h2,hz,q⟩:=h
  cases rx
  obtain⟨t,rfl⟩:=ry
  obtain⟨z,its,n,r,hl,e⟩:=I.lstM hH
  have hlen:its.toArray.size*k.toNat≤sizeLine:=by rw [List.size_toArray,←hl];exact hz
  have hcap:¬its.toArray.size*k.toNat > (2 ^ 63 - 1) / 8:=by
    have:(sizeLine:Nat)≤(2 ^ 63 - 1) / 8:=by decide
    lia
  have hfit:¬(!Builtin.List.listFitsIndex k)=true:=by
    rw [fitsIndex_both h1 h2]
    exact Bool.false_ne_true
  have hlong:¬Builtin.List.listTooLong (its.toArray.size*k.toNat)=true:=by
    rw [rY hlen]
    exact Bool.false_ne_true
  have hnew:List.foldl (fun x1 x2=>x1++x2) #[] (List.replicate (if its.toArray.isEmpty=true then 0 else k.toNat) its.toArray)=(List.replicate k.toNat its).flatten.toArray:=by
    have f0:∀m:Nat,List.foldl (fun x1 x2=>x1++x2) #[] (List.replicate m its.toArray)=(List.replicate m its).flatten.toArray:=fun m=>by
      have:=k8 its m []
      rw [List.nil_append] at this
      exact this
    rw [f0]
    cases its with
    | nil=>simp
    | cons a r'=>rw [if_neg (by simp)]
  refine wpAny_binaryOp_repeat_ref (T:="list") (U:="int") (by decide) ⟨_,e,rfl⟩ (fun s'=>typeIs_int s' k t) noFill_list_mul F.fills_int_mul F.slot_int_rmul repeat_list F.slot_int_index.lookup
    (call_meets F.slot_int_rmul (typeIs_int s k t) F.entry_int_rmul (F.args_int_rmul_2 _ _) (int___rmul___int_list k t l its.toArray n)
      ⟨e,rfl,⟨_,e,rfl⟩,call_meets F.slot_list_mul ⟨_,e,rfl⟩ F.entry_list_mul (F.args_list_mul_2 _ _) (AutoListH.list___mul___list_int_3 l its.toArray n k t hfit hcap hlong) ⟨e,?_⟩⟩)
  rw [hnew]
  exact⟨.ref _,_,I.lnew (t':=s.toks) (r.rep k.toNat) (by rw [uD,Nat.mul_comm];exact hz),rfl,q _ I.fresh⟩
end
section
variable{prog:Program}{w:World}{A:Around}{E:Value→Shared→Prop}{s:Shared}
end
section
variable{X:Cx}
end
end L2
namespace Att
open PySem PySem.W PySem.Calls PyProof.Rows
theorem jq{P:Params}{h:Heap}:∀(ns:List Int) (vs:List Value),WellAll P h vs (ns.map WData.int)→IntsAre vs ns:=by
  intro ns
  induction ns with
  | nil=>
    intro vs w
    rw [List.map_nil] at w
    cases w
    exact .nil
  | cons n ns ih=>
    intro vs w
    rw [List.map_cons] at w
    cases w with
    | cons a b=>
      cases a
      exact .cons _ _ (ih _ b)
theorem qm{l:OpenLaw}{n:Nat}(hn:l.most=some n){P:Params}{h:Heap}{args:List WData}{vals:List Value}
    (hpre:l.row.toRowW.claim.pre args=true)(hwl:WellAll P h vals args):
    ∃a vs ns,vals=[Value.ref a]∧args=[WData.list (ns.map WData.int)]∧h.get? a=some {cls:=.type "list",data:=.seq vs.toArray}∧IntsAre vs ns∧ns.length≤n:=by
  have hsh:WShape.hasAll [] args [.list .int]=true:=(pre_splitW hpre).1
  have hc:l.pre.holds [] {args:=args}=true:=(pre_splitW hpre).2
  obtain⟨d,r,rfl,h1,h2⟩:=hasAllW_cons hsh
  obtain rfl:=hasAllW_nil h2
  obtain⟨xs,rfl,h3⟩:=hasW_list h1
  obtain⟨ns,rfl⟩:=items_int h3
  have hlen:ns.length≤n:=by
    unfold OpenLaw.pre at hc
    have h4:(WTm.not (.lt (.lit (.int (n:Int))) (.len (.arg 0)))).holds [] {args:=[.list (ns.map .int)]}=true:=by
      have h4:=(holds_andW hc).1
      rw [hn] at h4
      exact h4
    have h5:=condW_of h4 (w_not (w_lt w_lit (w_len_list (w_arg rfl))))
    rw [List.length_map] at h5
    refine Nat.le_of_not_lt fun q=>?_
    have q':(n:Int) < ((ns.length:Nat):Int):=by lia
    first
      | (rw [decide_eq_true q'] at h5;exact absurd h5 (by decide))
      | (simp at h5;lia)
  cases hwl with
  | cons w1 w2=>
    cases w2
    cases w1 with
    | list ho hall=>exact⟨_,_,ns,rfl,rfl,ho,jq ns _ hall,hlen⟩
theorem qi(l:OpenLaw)(args:List WData):l.row.toRowW.claim.post args (.bool true) args=true:=
  postW_of (r:=l.row.toRowW) (X:=(true==true))
    (show WShape.has [] (.bool true) .bool=true by first | rfl | decide | simp [WShape.has,WShape.arms,WShape.armsAll])
    (show(WTm.eq .res (.lit (.bool true))).value [] {args:=args,res:=some (.bool true),after:=args}=some (.bool (true==true)) from w_eq_bool (w_res rfl) w_lit) rfl
theorem attach_call{l:OpenLaw}{n:Nat}{q:Program}{loose:List Str}{XP:(Str→Option Value)→Heap→Prop}{YP:World→Heap→Prop}{d:DefRec}
    (hn:l.most=some n)(hdf:d.params.defaults=[])
    (call:∀(w:World) (s₀ s₁:Shared) (mg mb:Str→Option Value) (fa:Addr) (o:Obj) (pm cd doc:Value) (a:Addr) (vs:List Value) (ns:List Int),
      Ground q loose [] XP w s₀ mg mb s₁.heap→YP w s₁.heap→
      s₁.heap.get? fa=some o→o.data=.func (docDef d.name d.params d.body d.scope pm cd doc)→s₁.heap.CodeRec cd d.name→mg d.name=some (.ref fa)→
      s₁.heap.get? a=some {cls:=.type "list",data:=.seq vs.toArray}→IntsAre vs ns→ns.length≤n→s₁.gens=#[]→
      codeAny (model l.prog w) callerA (.call (.ref fa) ⟨[.ref a],[]⟩) (fun r s'=>r=.ok (.ret (.bool true))∧OldK s₁.heap s'.heap∧s'.os=s₁.os∧AllBare s'.gens) s₁):
    WalkO q loose XP YP l.row.toRowW d [] (fun f vs=>PySem.call f vs):=by
  intro w s₀ s₁ mg mb G Y fa o pm cd doc dV kV ho hd hcd hD hmg hg args vals as hpre hlay hrd hwl hlo
  obtain rfl:dV=.none:=Dflts.none hD hdf
  obtain rfl:kV=.none:=Dflts.noKw hD
  obtain⟨a,vs,ns,rfl,rfl,hobj,hints,hlen⟩:=qm hn hpre hwl
  refine enter_call (codeAny_mono (call w s₀ s₁ mg mb fa o pm cd doc a vs ns G Y ho (fd_plain hd) hcd hmg hobj hints hlen hg) fun r s' hq=>?_)
  obtain⟨rfl,h2,h3,h4⟩:=hq
  exact⟨.inl ⟨.bool true,.bool true,[],rfl,fun _=>rfl,.bool true,qi l _,fun _=>⟨List.Pairwise.nil,fun _ hm=>(nomatch hm)⟩⟩,h2,h3,h4⟩
section
variable{prog:Program}{w:World}{A:Around}{E:Value→Shared→Prop}{s:Shared}{K:Frag}
end
end Att
namespace L2
open PySem PySem.Spec PyProof.Rows
theorem gD:∀{vs:List Value} {ns:List Int},IntsAre vs ns→aE (ns.map V.int) vs
  | _,_,.nil=>.nil
  | _,_,.cons n t h=>.cons ⟨t,rfl⟩ (gD h)
def wH(H:Hp):Prop:=∀b,H b=none∨∃o xs,H b=some (.frz o (.lst xs))
theorem rL{P:Program}{w:World}{K:PySem.W.Frag}{mg mb:Str→Option Value}{CX:pQ}{k:Nat}{fa a:Addr}{fd:FuncData}{x:Str}{sp:Sp}{s₁:Shared}{vs:List Value}{ns:List Int}
    (KX:K.In s₁.heap)(hns:s₁.heap.Ns mainGlobals mg)(hb:s₁.heap.Ns builtinsNs mb)(hbb:∀x:Str,x≠"__name__"→mb x=bootBuiltins x)(hlim:s₁.heap.NoLimit)(hg:s₁.gens=#[])
    (ha:s₁.heap.get? a=some {cls:=.type "list",data:=.seq vs.toArray})(hi:IntsAre vs ns)(hl:ns.length≤sizeLine)(hr:c7 k callerA)
    (F:∀base:Heap,K.In base→base.Ns mainGlobals mg→aF P w K mg base CX k fa fd [x] sp)(hbind:∀(s:Shared) (u:Value),BindsTo s fd ⟨[u],[]⟩ [(x,u)])
    (hsp:∀H:Hp,wH H→fx K H a (ns.map V.int)→sp [.ref a] H (fun v _=>v=.bl true) fun _ _ _=>False)
    (hCX:∀H e s',CX [] H s₁ (fun _ _ _=>False) e s'→False):
    codeAny (model P w) callerA (.call (.ref fa) ⟨[.ref a],[]⟩) (fun r s'=>r=.ok (.ret (.bool true))∧OldK s₁.heap s'.heap∧s'.os=s₁.os∧AllBare s'.gens) s₁:=by
  have rv:=gD hi
  have lenV:=hi.length
  have core:∀H:Hp,wH H→fx K H a (ns.map V.int)→jB P w H s₁.heap→(∀b,H b≠none→b=a)→(H a≠none→K.lookup a=none)→
      codeAny (model P w) callerA (.call (.ref fa) ⟨[.ref a],[]⟩) (fun r s'=>r=.ok (.ret (.bool true))∧OldK s₁.heap s'.heap∧s'.os=s₁.os∧AllBare s'.gens) s₁:=by
    intro H hO hS hok hA hK
    have base_of:∀{b:Addr} {o:Obj},s₁.heap.get? b=some o→H b=none→(lY s₁.heap H).get? b=some o:=fun e n=>rF e n
    have noA:∀{b:Addr} {o:Obj} {es:Array DictEntry} {ep:Nat},s₁.heap.get? b=some o→o.data=.dict es ep→H b=none:=fun{b o es ep} e d=>by
      cases q:H b with
      | none=>rfl
      | some u=>
        have e':b=a:=hA b (by rw [q];simp)
        subst e'
        rw [ha] at e;cases e
        have d':Data.seq vs.toArray _=Data.dict es ep:=d
        cases d'
    have nsK:∀{b:Addr} {m:Str→Option Value},s₁.heap.Ns b m→(lY s₁.heap H).Ns b m:=fun{b m} ⟨o,es,ep,e,d,r⟩=>⟨o,es,ep,base_of e (noA e d),d,r⟩
    have hKb:K.In (lY s₁.heap H):=fun b o e=>base_of (KX b o e) (by
      cases q:H b with
      | none=>rfl
      | some u=>
        have e':b=a:=hA b (by rw [q];simp)
        subst e'
        rw [hK (by rw [q];simp)] at e;cases e)
    have hM:Mod K mg (lY s₁.heap H):=⟨hKb,nsK hns,⟨mb,nsK hb,hbb⟩,let ⟨mc,h1,h2⟩:=hlim;⟨mc,nsK h1,h2⟩⟩
    have e0:uc P w K mg (lY s₁.heap H) callerA [] s₁ H:=⟨rfl,hM,fun b o e=>uI e,Nat.le_of_eq (p9 _ _),trivial,fun b hb=>absurd (show b∈([]:List Addr) from hb) (by simp),hok,.of_eq hg⟩
    refine codeAny_mono ((F _ hKb (nsK hns)).run callerA [] s₁ H ⟨[.ref a],[]⟩ [.ref a] [.ref a] _ _ hr e0 (hbind s₁ (.ref a)) (.cons rfl .nil) (hsp H hO hS)) fun r s' h=>?_
    cases r with
    | error e=>exact(hCX H e s' h).elim
    | ok fl=>
      cases fl with
      | next=>exact False.elim h
      | brk=>exact False.elim h
      | cont=>exact False.elim h
      | ret u=>
        obtain⟨v,H',os,bare,un,hok',r',q⟩:=h
        have q':v=.bl true:=q
        subst q'
        obtain rfl:u=Value.bool true:=r'
        refine⟨rfl,OldK.of_keep fun b o e=>?_,os,bare⟩
        cases q:H b with
        | none=>exact un.keep b o e q (by intro z;exact absurd (show b∈([]:List Addr) from z) (by simp)) (by simp)
        | some u=>
          rcases hO b with z | ⟨ob,xs,z⟩
          · rw [q] at z;cases z
          · have z2:=un.frzs b ob _ z
            obtain⟨e1,_⟩:=hok b _ z
            obtain⟨e2,_⟩:=hok' b _ z2
            rw [e] at e1;cases e1
            exact e2
  cases hk:K.lookup a with
  | some o=>
    have e:=KX a o hk
    rw [ha] at e
    cases e
    refine core (fun _=>none) (fun _=>.inl rfl) (.inr ⟨_,vs.toArray,_,hk,rfl,rfl,rfl,by rw [List.size_toArray,lenV];exact hl,by simpa using rv⟩) (fun b u z=>by have z':(none:Option HO)=some u:=z;cases z') (fun b z=>absurd rfl z) fun z=>absurd rfl z
  | none=>
    refine core (fun b=>if b=a then some (.frz {cls:=.type "list",data:=.seq vs.toArray} (.lst (ns.map V.int))) else none) (fun b=>?_) (.inl (.inr ⟨{cls:=.type "list",data:=.seq vs.toArray},if_pos rfl⟩)) (fun b u z=>?_) (fun b z=>?_) fun _=>hk
    · by_cases hb:b=a
      · exact .inr ⟨_,_,if_pos hb⟩
      · exact .inl (if_neg hb)
    · by_cases hb:b=a
      · have z':=(if_pos hb).symm.trans z
        cases z'
        subst hb
        exact⟨ha,by rw [List.length_map];exact hl,vs,_,rv,ha⟩
      · have z':=(if_neg hb).symm.trans z
        cases z'
    · by_cases hb:b=a
      · exact hb
      · exact absurd (if_neg hb) z
end L2
namespace L2
open PySem PySem.Spec PyProof.Rows
theorem walk_of{l:PySem.W.OpenLaw}{n k:Nat}{q:Program}{loose:List Str}{XP:(Str→Option Value)→Heap→Prop}{YP:World→Heap→Prop}{d:DefRec}{K:Params→PySem.W.Frag}{CX:World→pQ}{sp:World→Sp}{x:Str}
    (hn:l.most=some n)(hn2:n≤sizeLine)(hdf:d.params.defaults=[])(hr:c7 k callerA)
    (hY:∀(w:World) (h:Heap),YP w h→(K w.params).In h)
    (F:∀(w:World) (mg:Str→Option Value) (fa:Addr) (h:Heap),(K w.params).In h→h.Ns mainGlobals mg→mg d.name=some (.ref fa)→
      ∃fd:FuncData,(∀(s:Shared) (u:Value),BindsTo s fd ⟨[u],[]⟩ [(x,u)])∧
        ∀base:Heap,(K w.params).In base→base.Ns mainGlobals mg→aF l.prog w (K w.params) mg base (CX w) k fa fd [x] (sp w))
    (hsp:∀(w:World) (H:Hp) (a:Addr) (ns:List Int),ns.length≤n→wH H→fx (K w.params) H a (ns.map V.int)→sp w [.ref a] H (fun v _=>v=.bl true) fun _ _ _=>False)
    (hCX:∀(w:World) (H:Hp) (s:Shared) (e:Value) (s':Shared),CX w [] H s (fun _ _ _=>False) e s'→False):
    PySem.W.WalkO q loose XP YP l.row.toRowW d [] (fun f vs=>PySem.call f vs):=by
  refine Att.attach_call hn hdf fun w s₀ s₁ mg mb fa o pm cd doc a vs ns G Y ho hd hcd hmg hobj hints hlen hg=>?_
  have KX:=hY w _ Y
  obtain⟨fd,hb,hF⟩:=F w mg fa _ KX G.T.g hmg
  exact rL KX G.T.g G.T.b G.T.builtins G.T.nolimit hg hobj hints (Nat.le_trans hlen hn2) hr hF hb (fun H hO hS=>hsp w H a ns hlen hO hS) fun H e s'=>hCX w H s₁ e s'
end L2
namespace L2
open PySem PySem.Spec PyProof.Rows
def cC(s:Stmt):Arguments:=match s with
  | .FunctionDef _ a _ _ _ _ _ _ _ _=>a
  | _=>{posonlyargs:=[],args:=[],vararg:=none,kwonlyargs:=[],kw_defaults:=[],kwarg:=none,defaults:=[]}
def bR(s:Stmt):List Stmt:=match s with
  | .FunctionDef _ _ b _ _ _ _ _ _ _=>b
  | _=>[]
def ah(s:Stmt):Scope:=match s with
  | .FunctionDef _ _ _ _ _ _ sc _ _ _=>sc
  | _=>{kind:=.function,names:=[],isGenerator:=false,isCoroutine:=false}
abbrev bU:pQ:=fun _ _ _ _ _ _=>False
abbrev E0:XK:=fun _ _ _=>False
theorem zh{X:Cx}:nK bU X E0:=fun _ _ _ _ _ _ _ h=>h.elim
structure yz (K:PySem.W.Frag) (x qual:Str) (st:Stmt) (f:Addr) (fd:FuncData):Prop where
  ex:∃(oc:Value) (od:Option Addr) (kV doc pm:Value) (an:Option Addr) (cdv ct:Value) (osl:Array (Option Value)),
    fd=PySem.W.fnOf x qual (cC st) (bR st) (ah st) .none kV doc pm an cdv ct∧K.lookup f=some ⟨oc,od,.func fd,osl⟩∧PySem.W.codeIn K cdv qual=true
  kp:PySem.W.keepIn K (.ref f)=true
section
variable{P:Program}{w:World}{K:PySem.W.Frag}{mg:Str→Option Value}{base:Heap}
theorem yz.ok{x qual:Str}{st:Stmt}{f:Addr}{fd:FuncData}{N ps:List Str}{k:Nat}{sp:Sp}(F:yz K x qual st f fd)(S:ay N ps (ah st))(len:∀vs H Q E,sp vs H Q E→vs.length=ps.length)
    (hbody:∀(cdv:Value) (A:Around) (outer:List Env) (s:Shared) (H:Hp) (vs:List V) (Q:VK) (E:XK),c7 k (A.deeper (envOfC qual (ah st) s.heap.objs.size f cdv))→sp vs H Q E→
      ∃t,jp (nW bU P w K mg base N qual (ah st) f cdv A outer s H E).nox (bR st) t∧t {nx:=fun _ H'=>Q .non H',rt:=Q} (fm N vs) H):aF P w K mg base bU (k+1) f fd ps sp:=by
  obtain⟨oc,od,kV,doc,pm,an,cdv,ct,osl,rfl,lk,hcd⟩:=F.ex
  refine yT lk hcd S len fun A outer s H vs Q E hr hsp=>?_
  obtain⟨t,h,q⟩:=hbody cdv A outer s H vs Q E hr hsp
  exact⟨t,h.nox,q⟩
theorem yz.binds{x qual:Str}{st:Stmt}{f:Addr}{fd:FuncData}{ps:List Str}(F:yz K x qual st f fd)
    (h:∀(kV doc pm:Value) (an:Option Addr) (cdv ct:Value) (us:List Value),us.length=ps.length→bindArgs (PySem.W.fnOf x qual (cC st) (bR st) (ah st) .none kV doc pm an cdv ct) ⟨us,[]⟩=pure (ps.zip us)):kQ K fd ps []:=by
  obtain⟨oc,od,kV,doc,pm,an,cdv,ct,osl,rfl,lk,hcd⟩:=F.ex
  exact .all (h kV doc pm an cdv ct)
theorem q4{x qual:Str}{st:Stmt}{f:Addr}{oc:Value}{od an:Option Addr}{osl:Array (Option Value)}{kV doc pm cdv ct:Value}(l:K.lookup f=some ⟨oc,od,.func (PySem.W.fnOf x qual (cC st) (bR st) (ah st) .none kV doc pm an cdv ct),osl⟩)
    (c:PySem.W.codeIn K cdv qual=true)(k:PySem.W.keepIn K (.ref f)=true):yz K x qual st f (PySem.W.fnOf x qual (cC st) (bR st) (ah st) .none kV doc pm an cdv ct):=⟨⟨oc,od,kV,doc,pm,an,cdv,ct,osl,rfl,l,c⟩,k⟩
end
theorem ls{n:Nat}(h:n≤1000):n < sizeLine:=Nat.lt_of_le_of_lt h (by decide)
section
variable{X:Cx}
end
theorem y1{A B:Prop}(h:B):if false=true then A else B:=by
  rw [if_neg Bool.false_ne_true]
  exact h
theorem y2{A B:Prop}(h:A):if true=true then A else B:=by
  rw [if_pos rfl]
  exact h
def am(H H':Hp):Prop:=∀b o,H b=some o→H' b=some o
theorem am.refl(H:Hp):am H H:=fun _ _ h=>h
theorem am.trans{H H1 H2:Hp}(a:am H H1)(b:am H1 H2):am H H2:=fun c o h=>b c o (a c o h)
theorem am.free{H H':Hp}(e:am H H'){l:Addr}(h:H' l=Option.none):H l=Option.none:=by
  cases q:H l with
  | none=>rfl
  | some o=>
    rw [e l o q] at h
    cases h
theorem am.seq{K:PySem.W.Frag}{H H':Hp}{a:Addr}{xs:List V}(e:am H H')(h:fx K H a xs):fx K H' a xs:=by
  rcases h with (h | ⟨o,h⟩) | h
  · exact .inl (.inl (e _ _ h))
  · exact .inl (.inr ⟨o,e _ _ h⟩)
  · exact .inr h
end L2
set_option maxHeartbeats 4000000
namespace L2
open PySem PySem.Spec PyProof.Rows
def Bt(n:Nat)(i:Int):Prop:=i.natAbs < 2 ^ n
theorem Bt.mono{m n:Nat}{i:Int}(h:Bt m i)(hm:m≤n):Bt n i:=Nat.lt_of_lt_of_le h (Nat.pow_le_pow_right (by decide) hm)
theorem Bt.mul{m n:Nat}{i j:Int}(h:Bt m i)(h':Bt n j):Bt (m+n) (i*j):=by
  unfold Bt at*
  rw [Int.natAbs_mul,Nat.pow_add]
  exact Nat.mul_lt_mul'' h h'
theorem Bt.log{m:Nat}{i:Int}(h:Bt m i)(hm:0 < m):i.natAbs.log2 < m:=by
  unfold Bt at h
  rcases Nat.eq_zero_or_pos i.natAbs with h0 | hp
  · rw [h0];exact hm
  · exact(Nat.log2_lt (by lia)).mpr h
theorem Bt.bits{m:Nat}{i:Int}(h:Bt m i)(hm:0 < m):Builtin.Int.intBits i≤m:=by
  unfold Builtin.Int.intBits
  split
  · exact Nat.zero_le _
  · exact h.log hm
theorem Bt.of_le{m:Nat}{i:Int}{j:Int}(h:Bt m j)(e:i.natAbs≤j.natAbs):Bt m i:=Nat.lt_of_le_of_lt e h
section
variable{X:Cx}
def vV(i j:Int):Prop:=Bt 4000 i∧Bt 4000 j
theorem uX:fY X (binaryOp .Mult) (rI vV fun i j=>.int (i*j)):=za fun _ _ _ _ _ _ _ hc q=>
  mul_int q (.of_bits (Nat.le_trans (hc.1.bits (by decide)) (by decide)) (Nat.le_trans (hc.2.bits (by decide)) (by decide)))
def vU(i j:Int):Prop:=j≠0∧Bt 8000 j
theorem se:fY X (binaryOp .FloorDiv) (rI vU fun i j=>.int (i.fdiv j)):=za fun _ _ _ _ _ _ _ hc q=>
  floordiv_int hc.1 q (.inl (PyProof.noPylong_of_log2 (Nat.lt_trans (hc.2.log (by decide)) (by decide))))
end
def jc(H H':Hp):Prop:=∀a o,H a=some o→(∀xs,o≠.lst xs)→(∀ob xs,o≠.frz ob (.lst xs))→H' a=some o
theorem jc.trans{H H1 H2:Hp}(a:jc H H1)(b:jc H1 H2):jc H H2:=fun c o h n m=>b c o (a c o h n m) n m
theorem am.ts{H H':Hp}(h:am H H'):jc H H':=fun a o e _ _=>h a o e
theorem jc.tup{K:PySem.W.Frag}{H H':Hp}(h:jc H H'){a:Addr}{xs:List V}(q:cH K H a xs):cH K H' a xs:=by
  rcases q with (q | ⟨o,q⟩) | q
  · exact .inl (.inl (h _ _ q (fun _ e=>nomatch e) (fun _ _ e=>nomatch e)))
  · exact .inl (.inr ⟨o,h _ _ q (fun _ e=>nomatch e) (fun _ _ e=>nomatch e)⟩)
  · exact .inr q
section
variable{X:Cx}
end
end L2
namespace L2
open PySem PySem.Spec PyProof.Rows
structure bi (K:PySem.W.Frag) (mg:Str→Option Value) (x:Str) (st:Stmt) (f:Addr) (fd:FuncData) (ps:List Str):Prop where
  F:yz K x x st f fd
  m:mg x=some (.ref f)
  b:kQ K fd ps []
theorem wW{K:PySem.W.Frag}{mg:Str→Option Value}{h:Heap}{x:Str}{st:Stmt}{f:Addr}{ps:List Str}{oc:Value}{od an:Option Addr}{osl:Array (Option Value)}{kV doc pm cdv ct:Value}(X:K.In h)(G:h.Ns mainGlobals mg)(a:PySem.W.nsIn K mainGlobals x=some (some (.ref f)))
    (l:K.lookup f=some ⟨oc,od,.func (PySem.W.fnOf x x (cC st) (bR st) (ah st) .none kV doc pm an cdv ct),osl⟩)(c:PySem.W.codeIn K cdv x=true)(k:PySem.W.keepIn K (.ref f)=true)
    (hb:∀(kV doc pm:Value) (an:Option Addr) (cdv ct:Value) (us:List Value),us.length=ps.length→bindArgs (PySem.W.fnOf x x (cC st) (bR st) (ah st) .none kV doc pm an cdv ct) ⟨us,[]⟩=pure (ps.zip us)):
    bi K mg x st f (PySem.W.fnOf x x (cC st) (bR st) (ah st) .none kV doc pm an cdv ct) ps:=⟨q4 l c k,PySem.W.mg_of X G a,(q4 l c k).binds hb⟩
theorem AA{X:Cx}{x:Str}{st:Stmt}{f:Addr}{fd:FuncData}{ps:List Str}{k:Nat}{sp:Sp}{e:Expr}{es:List Expr}{t:TA}{p pos:Pos}(h:bi X.K X.mg x st f fd ps)(G:aF X.prog X.w X.K X.mg X.base bU k f fd ps sp)(hr:c7 k X.A)(ha:PA X (e::es) t)
    (hg:Gl X x:=by rfl)(hdb:(x==("__debug__":Str))=false:=by decide)(he:starEach (e::es) X.env=(false,eval e X.env)::starEach es X.env:=by rfl)(hpl:(backTo pos (starEach es X.env)).any (·.1)=false:=by rfl):
    PE X (.Call (.Name x p) (e::es) [] pos) (tL sp [] E0 t):=u7 G hr hg h.m h.F.kp h.b .nil zh ha hdb he hpl
theorem am.new{H:Hp}{p:Addr}{o:HO}(h:H p=none):am H (a_ H p o):=fun b u e=>by
  rw [aC (cT e h)];exact e
theorem am.tup{K:PySem.W.Frag}{H H':Hp}{a:Addr}{xs:List V}(e:am H H')(h:cH K H a xs):cH K H' a xs:=e.ts.tup h
end L2
namespace L2
open PySem PySem.Spec PyProof.Rows
def lowM(t b:Int):Int × Int:=if b < 0 then(t.fdiv (-(Int.gcd t b:Int)),b.fdiv (-(Int.gcd t b:Int))) else(t.fdiv (Int.gcd t b:Int),b.fdiv (Int.gcd t b:Int))
theorem mI(x y:Int):Int.gcd y (x.fmod y)=Int.gcd x y:=by
  rw [Int.fmod_def,Int.gcd_sub_mul_left_right,Int.gcd_comm]
theorem ec(x:Int){y:Int}(h:y≠0):(x.fmod y).natAbs < y.natAbs:=by
  rcases Int.lt_or_gt_of_ne h with h | h
  · have h1:x.fmod y= -((-x).fmod (-y)):=by
      have:=Int.neg_fmod_neg x y
      lia
    have h2:=Int.fmod_nonneg_of_pos (-x) (b:= -y) (by lia)
    have h3:=Int.fmod_lt_of_pos (-x) (b:= -y) (by lia)
    lia
  · have h2:=Int.fmod_nonneg_of_pos x h
    have h3:=Int.fmod_lt_of_pos x h
    lia
theorem lX{t b:Int}(h:b≠0):(0:Int) < Int.gcd t b:=by
  have:=Int.gcd_pos_of_ne_zero_right t h
  lia
theorem gv{t b:Int}(h:b≠0):∃d:Int,d.natAbs=Int.gcd t b∧d≠0∧(lowM t b).1*d=t∧(lowM t b).2*d=b∧0 < (lowM t b).2:=by
  have hg:=lX (t:=t) h
  have d1:(Int.gcd t b:Int) ∣ t:=Int.gcd_dvd_left ..
  have d2:(Int.gcd t b:Int) ∣ b:=Int.gcd_dvd_right ..
  unfold lowM
  split
  · rename_i hb
    have e1:t.fdiv (-(Int.gcd t b:Int))*(-(Int.gcd t b:Int))=t:=Int.fdiv_mul_cancel (Int.neg_dvd.mpr d1)
    have e2:b.fdiv (-(Int.gcd t b:Int))*(-(Int.gcd t b:Int))=b:=Int.fdiv_mul_cancel (Int.neg_dvd.mpr d2)
    refine⟨-(Int.gcd t b:Int),by lia,by lia,e1,e2,?_⟩
    show 0 < b.fdiv (-(Int.gcd t b:Int))
    have h3:b.fdiv (-(Int.gcd t b:Int))*(Int.gcd t b:Int)= -b:=by rw [Int.mul_neg] at e2;lia
    exact Int.pos_of_mul_pos_left (by lia) (by lia) (b:=(Int.gcd t b:Int))
  · rename_i hb
    have e1:t.fdiv (Int.gcd t b:Int)*(Int.gcd t b:Int)=t:=Int.fdiv_mul_cancel d1
    have e2:b.fdiv (Int.gcd t b:Int)*(Int.gcd t b:Int)=b:=Int.fdiv_mul_cancel d2
    refine⟨(Int.gcd t b:Int),by lia,by lia,e1,e2,?_⟩
    show 0 < b.fdiv (Int.gcd t b:Int)
    exact Int.pos_of_mul_pos_left (by lia) (by lia) (b:=(Int.gcd t b:Int))
theorem mJ{t b:Int}(h:b≠0):Int.gcd (lowM t b).1 (lowM t b).2=1:=by
  obtain⟨d,h1,h2,h3,h4,h5⟩:=gv (t:=t) h
  have e:Int.gcd ((lowM t b).1*d) ((lowM t b).2*d)=Int.gcd (lowM t b).1 (lowM t b).2*d.natAbs:=Int.gcd_mul_right ..
  rw [h3,h4,←h1] at e
  have hd:0 < d.natAbs:=by lia
  exact(Nat.eq_of_mul_eq_mul_right hd (by rw [Nat.one_mul];exact e)).symm
theorem gO{x d:Int}(h:d≠0):x.natAbs≤(x*d).natAbs:=by
  rw [Int.natAbs_mul]
  exact Nat.le_mul_of_pos_right _ (by lia)
theorem pw{t b:Int}(h:b≠0){n:Nat}(ht:Bt n t)(hb:Bt n b):Bt n (lowM t b).1∧Bt n (lowM t b).2:=by
  obtain⟨d,h1,h2,h3,h4,h5⟩:=gv (t:=t) h
  refine⟨ht.of_le ?_,hb.of_le ?_⟩
  · conv=>rhs;rw [←h3]
    exact gO h2
  · conv=>rhs;rw [←h4]
    exact gO h2
theorem rD{t b:Int}(h:b≠0){n:Nat}(hb:Bt n b):Bt n (Int.gcd t b:Int):=by
  refine hb.of_le ?_
  have h1:=Nat.le_of_dvd (show 0 < b.natAbs by lia) (Int.ofNat_dvd.mp (by rw [Int.dvd_natAbs];exact Int.gcd_dvd_right t b))
  lia
mutual
def cnt:PyData→Nat
  | .tuple ds=>1+gR ds
  | .str _=>0
  | _=>1
def gR:List PyData→Nat
  | []=>0
  | d::ds=>cnt d+gR ds
end
mutual
def j6:PyData→Bool
  | .tuple ds=>eK ds
  | .str _=>false
  | .list _=>false
  | .dict _=>false
  | _=>true
def eK:List PyData→Bool
  | []=>true
  | d::ds=>j6 d&&eK ds
end
theorem kO{a:Int}(h:a.natAbs.log2 < 1920):(Str.ofString (toString a)).length≤1921:=by
  have e:=int_text_length_le (k:=1920) (by decide) h
  rw [PySem.ofString_length];lia
theorem dI(x:Str)(r:List Str):piled (x::r)=x.length+2+piled r:=by
  simp [piled]
theorem gC(ts:List Str):(tupleText ts).length≤piled ts+3:=by
  unfold tupleText
  rw [strLen_append,strLen_append]
  have h1:(("(":Str)).length=1:=by decide
  have h2:(Str.ofString (if (ts.length==1)=true then ",)" else ")")).length≤2:=by split<;>decide
  have h3:(Str.join ", " ts).length≤piled ts:=by
    cases ts with
    | nil=>show(Str.join ", " []).length≤0;decide
    | cons x r=>have:=join_length_add (x::r) (by simp);lia
  lia
mutual
theorem lq:∀{d:PyData},j6 d=true→d.showable=true→d.shown.length+2≤2000*cnt d
  | .none,_,_=>by show(Str.ofString "None").length+2≤2000*1;decide
  | .bool b,_,_=>by
    cases b
    · show(Str.ofString "False").length+2≤2000*1;decide
    · show(Str.ofString "True").length+2≤2000*1;decide
  | .int i,_,hs=>by
    simp only [PyData.showable,decide_eq_true_eq] at hs
    have:=kO hs
    show(Str.ofString (toString i)).length+2≤2000*1
    lia
  | .tuple ds,hn,hs=>by
    simp only [PyData.showable] at hs
    simp only [j6] at hn
    have h1:=iF hn hs
    have h2:=gC (PyData.shownAll ds)
    simp only [PyData.shown,cnt]
    lia
  | .str _,hn,_=>by simp [j6] at hn
  | .list _,hn,_=>by simp [j6] at hn
  | .dict _,hn,_=>by simp [j6] at hn
theorem iF:∀{ds:List PyData},eK ds=true→PyData.showableAll ds=true→piled (PyData.shownAll ds)≤2000*gR ds
  | [],_,_=>by simp [PyData.shownAll,piled]
  | d::ds,hn,hs=>by
    simp only [eK,Bool.and_eq_true] at hn
    simp only [PyData.showableAll,Bool.and_eq_true] at hs
    have h1:=lq hn.1 hs.1
    have h2:=iF hn.2 hs.2
    simp only [PyData.shownAll,gR,dI]
    lia
end
end L2
namespace L2
open PySem PySem.Spec PyProof.Rows
def fq(env:Env):List (Str × NameKind)→List (Str × Addr)→List (Str × Addr)
  | [],cs=>cs
  | (n,k)::r,cs=>fq env r (if k==.free then(n,(env.cells.lookup n).getD 0)::cs else cs)
theorem h_{env:Env}:∀(names:List (Str × NameKind)) (cs:List (Str × Addr)),(∀y∈names,y.2=.free→∃c,env.cells.lookup y.1=some c)→
    (forIn names cs (fun(x:Str × NameKind) (r:List (Str × Addr))=>(if (x.2==NameKind.free)=true then do let a ←cellOf env x.1;pure (ForInStep.yield ((x.1,a)::r)) else pure (ForInStep.yield r):Sem (ForInStep (List (Str × Addr))))):Sem (List (Str × Addr)))=pure (fq env names cs)
  | [],cs,_=>rfl
  | (n,k)::r,cs,h=>by
    rw [List.forIn_cons]
    have ih:=fun cs'=>h_ (env:=env) r cs' (fun y hy=>h y (List.mem_cons_of_mem _ hy))
    by_cases hk:(k==NameKind.free)=true
    · have hk':k=.free:=by simpa using hk
      obtain⟨c,hc⟩:=h (n,k) List.mem_cons_self hk'
      have e:cellOf env n=pure c:=by unfold cellOf;rw [hc]
      simp only [hk,if_true,e,pure_bind,fq,hc,Option.getD_some]
      exact ih _
    · have hk':(k==NameKind.free)=false:=by simpa using hk
      simp only [hk',Bool.false_eq_true,if_false,pure_bind,fq]
      exact ih _
theorem jI{scope:Scope}{env:Env}(h:∀y∈scope.names,y.2=.free→∃c,env.cells.lookup y.1=some c):closureFor scope env=pure (fq env scope.names []):=by
  have e:=h_ (env:=env) scope.names [] h
  unfold closureFor
  simp only [pure_bind,bind_pure] at e ⊢
  exact e
theorem gQ{env:Env}:∀(names:List (Str × NameKind)) (cs:List (Str × Addr)) (x:Str) (c:Addr),(∀y∈names,y.2=.free→∃c,env.cells.lookup y.1=some c)→(∀x c,cs.lookup x=some c→env.cells.lookup x=some c)→(fq env names cs).lookup x=some c→env.cells.lookup x=some c
  | [],cs,x,c,_,hs,h=>hs x c h
  | (n,k)::r,cs,x,c,hn,hs,h=>by
    refine gQ r _ x c (fun y hy=>hn y (List.mem_cons_of_mem _ hy)) (fun x' c' e=>?_) h
    by_cases hk:(k==NameKind.free)=true
    · rw [if_pos hk] at e
      obtain⟨c0,hc⟩:=hn (n,k) List.mem_cons_self (by simpa using hk)
      rw [List.lookup_cons] at e
      cases hx:x'==n with
      | true=>
        rw [hx] at e
        have e1:x'=n:=by simpa using hx
        subst e1
        simp only [hc,Option.getD_some,Option.some.injEq] at e
        rw [←e];exact hc
      | false=>rw [hx] at e;exact hs x' c' e
    · rw [if_neg hk] at e
      exact hs x' c' e
theorem jH{env:Env}:∀(names:List (Str × NameKind)) (cs:List (Str × Addr)) (x:Str),((∃y∈names,y.1=x∧y.2=.free)∨∃c,cs.lookup x=some c)→∃c,(fq env names cs).lookup x=some c
  | [],cs,x,h=>by
    rcases h with ⟨y,hy,_⟩ | h
    · cases hy
    · exact h
  | (n,k)::r,cs,x,h=>by
    refine jH r _ x ?_
    by_cases hk:(k==NameKind.free)=true
    · rw [if_pos hk,List.lookup_cons]
      cases hx:x==n with
      | true=>exact .inr ⟨_,rfl⟩
      | false=>
        rcases h with ⟨y,hy,e1,e2⟩ | h
        · rcases List.mem_cons.mp hy with z | z
          · subst z;subst e1;simp at hx
          · exact .inl ⟨y,z,e1,e2⟩
        · exact .inr h
    · rw [if_neg hk]
      rcases h with ⟨y,hy,e1,e2⟩ | h
      · rcases List.mem_cons.mp hy with z | z
        · subst z;exact absurd (by simpa using e2) hk
        · exact .inl ⟨y,z,e1,e2⟩
      · exact .inr h
theorem cG{env:Env}:∀{names:List (Str × NameKind)} {x:Str},(∀y∈names,y.2≠.cell)→(names.map fun(n,k)=>if (k==NameKind.free&&env.scope.kind==.function&&env.kindOf n==some .cell) then(n,NameKind.cell) else(n,k)).lookup x=some .cell∨
    (names.map fun(n,k)=>if (k==NameKind.free&&env.scope.kind==.function&&env.kindOf n==some .cell) then(n,NameKind.cell) else(n,k)).lookup x=some .free→∃y∈names,y.1=x∧y.2=.free
  | [],x,_,h=>by simp at h
  | (n,k)::r,x,hc,h=>by
    have ih:=@cG env r x (fun y hy=>hc y (List.mem_cons_of_mem _ hy))
    have nc:k≠.cell:=hc (n,k) List.mem_cons_self
    rw [List.map_cons] at h
    cases hx:x==n with
    | true=>
      have e1:x=n:=by simpa using hx
      subst e1
      refine⟨(x,k),List.mem_cons_self,rfl,?_⟩
      by_cases q:(k==NameKind.free&&env.scope.kind==.function&&env.kindOf x==some .cell)=true
      · simp only [Bool.and_eq_true,beq_iff_eq] at q;exact q.1.1
      · simp only [q,Bool.false_eq_true,if_false,List.lookup_cons,beq_self_eq_true,Option.some.injEq] at h
        rcases h with h | h
        · exact absurd h nc
        · exact h
    | false=>
      have e2:∀(l:List (Str × NameKind)),((if (k==NameKind.free&&env.scope.kind==.function&&env.kindOf n==some .cell)=true then(n,NameKind.cell) else(n,k))::l).lookup x=l.lookup x:=fun l=>by
        split<;>simp [List.lookup_cons,hx]
      simp only [e2] at h
      obtain⟨y,hy,z⟩:=ih h
      exact⟨y,List.mem_cons_of_mem _ hy,z⟩
theorem di{env:Env}:∀{names:List (Str × NameKind)} {x:Str},names.lookup x=some .free→
    (names.map fun(n,k)=>if (k==NameKind.free&&env.scope.kind==.function&&env.kindOf n==some .cell) then(n,NameKind.cell) else(n,k)).lookup x≠some .local
  | [],x,h=>by simp at h
  | (n,k)::r,x,h=>by
    rw [List.map_cons]
    cases hx:x==n with
    | true=>
      simp only [hx,List.lookup_cons] at h
      cases h
      show List.lookup x ((if (NameKind.free==NameKind.free&&env.scope.kind==.function&&env.kindOf n==some .cell)=true then(n,NameKind.cell) else(n,NameKind.free))::_)≠_
      split<;>simp [List.lookup_cons,hx]
    | false=>
      simp only [hx,List.lookup_cons] at h
      have ih:=@di env r x h
      have e2:∀(l:List (Str × NameKind)),((if (k==NameKind.free&&env.scope.kind==.function&&env.kindOf n==some .cell)=true then(n,NameKind.cell) else(n,k))::l).lookup x=l.lookup x:=fun l=>by
        split<;>simp [List.lookup_cons,hx]
      simp only [e2]
      exact ih
def aA(X:Cx)(scope:Scope)(cp:List (Nat × Str))(tgN:List Str)(C:Addr)(s0:Shared)(H0:Hp)(fp:List Addr):Cx where
  prog:=X.prog
  w:=X.w
  K:=X.K
  mg:=X.mg
  base:=X.base
  A:=X.A
  N:=cp.map (·.2)++tgN
  s₀:=s0
  H₀:=H0
  env:=compEnvC scope (fq X.env scope.names []) C X.env
  outer:=X.stack
  stack:=X.stack
  ex:=fp
  fn:=fun x=>scope.names.lookup x==some .local
  calm:=X.calm
  pn:=[]
  xe:=fun _ _=>False
def qy(X:Cx)(ifs:List Expr)(t:TT):Prop:=
  ∀(pins:List (Addr × Obj)) (s:Shared) (σ:L2.St) (H:Hp) (Q:Bool→Hp→Prop),ao X pins σ H s→t σ H Q→
    wpAny (model X.prog X.w) X.A (forIn ifs true fun c r=>if r=true then do let ok ←isTrue c X.env (eval c X.env);pure (ForInStep.yield ok) else pure (ForInStep.yield r)) (TP X pins σ Q) X.xe s
theorem vo{X:Cx}:qy X [] (fun _ H Q=>Q true H):=fun _ _ _ H _ I h=>wpAny_tests_nil ⟨H,I,h⟩
theorem vp{X:Cx}{c:Expr}{t:TT}(h:PT X c t):qy X [c] t:=fun pins s σ H Q I q=>wpAny_tests_one (h pins s σ H Q I q)
abbrev yE:Value→Shared→Prop:=fun _ _=>False
def wQ(prog:Program)(w:World)(A:Around)(elt tg:Expr)(ifs:List Expr)(env:Env)(it acc:Value)(onward:Shared→Prop)(v:Value)(u:Shared):Prop:=
  wpAny (model prog w) A (letOwnedTupleGo tg it v) (fun _ u1=>wpAny (model prog w) A (assign tg env v) (fun _ u2=>wpAny (model prog w) A
    (forIn ifs true fun c r=>if r=true then do let ok ←isTrue c env (eval c env);pure (ForInStep.yield ok) else pure (ForInStep.yield r)) (fun ok u3=>if ok=true then wpAny (model prog w) A (eval elt env) (fun x u4=>wpAny (model prog w) A (call (.builtin "list.append") [acc,x]) (fun _ u5=>onward u5) yE u4) yE u3 else onward u3) yE u2) yE u1) yE u
theorem ia{prog:Program}{w:World}{A:Around}{R:Result→Shared→Prop}{elt tg iter:Expr}{ifs:List Expr}{scope:Scope}{pos:Pos}{it acc:Value}{env:Env}(J:Nat→Shared→Prop)
    (turn:∀n u,J n u→wpAny (model prog w) A (pyNext it) (fun r u1=>(r=none→R (.ok .next) u1)∧∀v,r=some v→wQ prog w A elt tg ifs env it acc (fun u2=>∃m,m < n∧J m u2) v u1) yE u){n0:Nat}{u0:Shared}(fm:J n0 u0):
    codeAny (model prog w) A (.compLoop (.ListComp elt [⟨tg,iter,ifs,0⟩] scope pos) 0 it acc env) R u0:=by
  refine codeAny_loop rfl J (fun n u ju=>?_) n0 fm
  show wpAny _ A ((compTurn (.ListComp elt [⟨tg,iter,ifs,0⟩] scope pos) 0 it acc env).onRaise _) _ _ u;refine wpAny_noted ?_;rw [compTurn_list]
  refine wpAny_bind (wpAny_standAt (wpAny_bind (wpAny_mono (turn n u ju) (fun r u1 k1=>?_) fun _ _ z=>z.elim)))
  cases r with
  | none=>exact wpAny_pure (k1.1 rfl)
  | some v=>
    refine wpAny_bind (wpAny_mono (k1.2 v rfl) (fun _ u2 k2=>wpAny_bind (wpAny_mono k2 (fun _ u3 k3=>wpAny_bind (wpAny_mono k3 (fun ok u4 k4=>?_) fun _ _ z=>z.elim)) fun _ _ z=>z.elim)) fun _ _ z=>z.elim)
    cases ok with
    | false=>rw [if_neg Bool.false_ne_true] at k4;exact wpAny_pure ⟨rfl,k4⟩
    | true=>
      rw [if_pos rfl] at k4
      refine wpAny_bind (wpAny_bind (wpAny_mono k4 (fun x u5 k5=>wpAny_bind (wpAny_mono k5 (fun _ u6 k6=>?_) fun _ _ z=>z.elim)) fun _ _ z=>z.elim));exact wpAny_pure (wpAny_pure ⟨rfl,k6⟩)
def eN(cp:List (Nat × Str))(nT:Nat)(σ:L2.St):L2.St:=cp.map (fun p=>(σ[p.1]?).join)++List.replicate nT none
structure pM (cp:List (Nat × Str)) (nT:Nat) (wi:TI) (g:TG) (tc:TT) (te:TE) (σ:L2.St) (H:Hp) (Q:VK):Prop where
  go:wi σ H fun J H1=>∀l,H1 l=none→
  ∃W:Nat→Nat→L2.St→Hp→Prop,(∃m,W 0 m (eN cp nT σ) (a_ H1 l (.lst [])))∧∀i m σ' H',W i m σ' H'→
    (J.stop i H'∧Q (.ref l) H')∨(J.go i H'∧∃N:L2.St→Hp→Prop,(∀σ2 H2,N σ2 H2→∃m',m' < m∧W (i+1) m' σ2 H2)∧
      ∀x H2,J.yld i H' x H2→g x σ' H2 fun σ2 H3=>tc σ2 H3 fun b H4=>if b=true then te σ2 H4 fun v H5=>∃ys,H5 l=some (.lst ys)∧ys.length < sizeLine∧N σ2 (a_ H5 l (.lst (ys++[v]))) else N σ2 H4)
theorem u_{X:Cx}{elt iter tg:Expr}{ifs:List Expr}{scope:Scope}{pos:Pos}{wi:TI}{g:TG}{tc:TT}{te:TE}(sc0:Scope)(N0:List Str)(cp:List (Nat × Str))(tgN:List Str)
    (hc:X.calm=true)(hsc:X.env.scope=sc0)(hN0:X.N=N0)(hi:PI X tg iter wi)
    (hg:∀C s0 H0 fp,PG (aA X scope cp tgN C s0 H0 fp) tg g)
    (ht:∀C s0 H0 fp,qy (aA X scope cp tgN C s0 H0 fp) ifs tc)
    (he:∀C s0 H0 fp,PE (aA X scope cp tgN C s0 H0 fp) elt te)
    (hk:scope.kind=.function)(hcell:∀y∈scope.names,y.2≠.cell)(hnames:∀y∈scope.names,y.2=.local→scope.names.lookup y.1=some .local)
    (hfr:∀y∈scope.names,y.2=.free→scope.names.lookup y.1=some .free∧sc0.names.lookup y.1=some .cell)
    (hcp:∀p∈cp,N0[p.1]?=some p.2)(hcq:∀p∈cp,sc0.names.lookup p.2=some .cell∧scope.names.lookup p.2=some .free)
    (hs:∀x,foldedSetIterable iter X.env x=pure x:=by intro _;rfl):
    PE X (.ListComp elt [⟨tg,iter,ifs,0⟩] scope pos) (pM cp tgN.length wi g tc te):=by
  intro pins s σ H Q I h
  have hkind:∀x,X.env.kindOf x=sc0.names.lookup x:=fun x=>by unfold Env.kindOf;rw [hsc]
  have hfree:∀y∈scope.names,y.2=.free→∃c,X.env.cells.lookup y.1=some c:=fun y hy e=>I.ok.has y.1 (.inl (by rw [hkind];exact(hfr y hy e).2))
  rw [eval_ListComp]
  refine wpAny_comprehension_free (use:=none) rfl hs (jI hfree) hk hnames (wpAny_mono (hi pins s σ H _ I h.go) (fun xv s₁ h₁=>wpAny_mono h₁ (fun itv s₂ h₂=>?_) fun _ _ e=>e) fun _ _ e=>e)
  obtain⟨it,fp,tn,J,H2,rfl,I2,T,st2,f2,hq⟩:=h₂
  refine wpAny_newObj_type ?_
  have hlF:H2 s₂.heap.objs.size=none:=I2.hok.fresh (Nat.le_refl _)
  have I3:ao X pins σ (a_ H2 s₂.heap.objs.size (.lst [])) {s₂ with heap:=s₂.heap.push {cls:=.type "list",data:=.seq ([]:List Value).toArray}}:=I2.lnew (t':=s₂.toks) .nil (Nat.zero_le _)
  obtain⟨W,⟨m0,w0⟩,turn⟩:=hq _ hlF
  have f3:∀b∈fp,gF X pins (a_ H2 s₂.heap.objs.size (.lst [])) b:=fun b hb=>by
    obtain⟨f0,fr⟩:=f2 b hb
    obtain⟨o,ho,_⟩:=T.obj _ _ st2 b hb
    exact⟨by rw [aC (Nat.ne_of_lt (Heap.lt_size ho))];exact f0,fr⟩
  have st3:tn 0 (s₂.heap.push {cls:=.type "list",data:=.seq ([]:List Value).toArray}):=T.keep _ _ _ st2 fun b _ o e=>Heap.get?_push_of_some _ e
  generalize hD:s₂.heap.objs.size=D at*
  generalize hs3:({s₂ with heap:=s₂.heap.push {cls:=.type "list",data:=.seq ([]:List Value).toArray}}:Shared)=s₃ at*
  have hst3:tn 0 s₃.heap:=by rw [←hs3];exact st3
  refine wpAny_newFunctionEnv hcell (by intro y hy;simp at hy) (fun h₁ hns₁ hsb₁=>?_) hk
  generalize hC:s₃.heap.objs.size=C at*
  have old:∀b o,s₃.heap.get? b=some o→h₁.get? b=some o:=fun b o e=>hsb₁.extBut b o (by rw [←hC];exact Nat.ne_of_lt (Heap.lt_size e)) (Heap.get?_push_of_some _ e)
  have nC:∀b o,s₃.heap.get? b=some o→b≠C:=fun b o e=>by rw [←hC];exact Nat.ne_of_lt (Heap.lt_size e)
  have hHC:(a_ H2 D (.lst [])) C=none:=I3.hok.fresh (by rw [hC];exact Nat.le_refl _)
  have clS:∀x c,(fq X.env scope.names []).lookup x=some c→X.env.cells.lookup x=some c:=fun x c e=>gQ _ _ x c hfree (fun _ _ z=>by simp at z) e
  have clH:∀x,(∃y∈scope.names,y.1=x∧y.2=.free)→∃c,(fq X.env scope.names []).lookup x=some c:=fun x e=>jH _ _ x (.inl e)
  have ok':(aA X scope cp tgN C s₃ (a_ H2 D (.lst [])) fp).Ok:=by
    refine⟨I.ok.mod,hk,I.ok.glob,I.ok.blt,by rw [←hC];exact Nat.le_refl _,fun x y c e1 e2=>I.ok.inj x y c (clS _ _ e1) (clS _ _ e2),fun x e=>clH x (cG hcell e),fun x c e1 e2=>?_,I.ok.hd,I.ok.frames,.inl rfl,fun b hb=>?_,fun b o e=>I3.bs b o e,?_,fun b o e hb=>?_,fun b hb z=>?_,I3.stack,fun b hb=>I3.stkFree b hb⟩
    · exfalso
      have e1':scope.names.lookup x=some .local:=by simpa [aA] using e1
      have e2':=clS x c e2
      obtain⟨c',hc'⟩:∃y∈scope.names,y.1=x∧y.2=.free:=by
        by_cases q:∃y∈scope.names,y.1=x∧y.2=.free
        · exact q
        · exfalso
          have:∀(names:List (Str × NameKind)) (cs:List (Str × Addr)),(¬∃y∈names,y.1=x∧y.2=.free)→cs.lookup x=none→(fq X.env names cs).lookup x=none:=by
            intro names
            induction names with
            | nil=>intro cs _ h;exact h
            | cons y r ih=>
              intro cs hn hcs
              obtain⟨n,k⟩:=y
              refine ih _ (fun⟨y,hy,z⟩=>hn ⟨y,List.mem_cons_of_mem _ hy,z⟩) ?_
              by_cases hk:(k==NameKind.free)=true
              · rw [if_pos hk,List.lookup_cons]
                cases hx:x==n with
                | true=>exact absurd ⟨(n,k),List.mem_cons_self,(by simpa using hx:x=n).symm,by simpa using hk⟩ hn
                | false=>exact hcs
              · rw [if_neg hk];exact hcs
          have z:=this scope.names [] q rfl
          have e2'':(fq X.env scope.names []).lookup x=some c:=e2
          rw [z] at e2'';cases e2''
      have z:=(hfr c' hc'.1 hc'.2.2).1
      rw [hc'.2.1,e1'] at z;cases z
    · obtain⟨f0,f1,f4,f5,f6,f7⟩:=f3 b hb
      obtain⟨o,ho,_⟩:=T.obj _ _ hst3 b hb
      exact⟨nC b o ho,fun x c e=>f6 x c (clS x c e)⟩
    · exact Nat.le_trans I.ok.bsz I3.sz
    · obtain⟨f0,f1,f4,f5,f6,f7⟩:=f3 b hb
      rcases f5 with z | z
      · exact I.ok.noex b o e z
      · have:=(I.ok.bs b o e).1
        exact absurd (Nat.lt_of_lt_of_le (Heap.lt_size this) z) (Nat.lt_irrefl _)
    · obtain⟨f0,f1,f4,f5,f6,f7⟩:=f3 b hb
      rcases List.mem_cons.mp (I3.stkSub b z) with z | z
      · exact f1 z
      · exact f4 z
  have I4:ao (aA X scope cp tgN C s₃ (a_ H2 D (.lst [])) fp) [] (eN cp tgN.length σ) (a_ H2 D (.lst [])) {s₃ with heap:=h₁,toks:=s₃.toks+([]:List (Str × Value)).length}:=by
    refine⟨ok',rfl,I3.bare,Un.kept old,⟨_,hns₁,fun i x v e1 e2 e3=>?_⟩,fun x c e=>?_,hHC,fun x c e=>I3.freeC x c (clS x c e),fun p hp=>by simp [aA] at hp,I3.hok.kept old,by simp [eN,aA]⟩
    · have hlt:i < cp.length:=by
        by_cases q:i < cp.length
        · exact q
        · exfalso
          unfold eN at e2
          rw [List.getElem?_append_right (by simp;lia)] at e2
          rw [List.getElem?_replicate] at e2
          split at e2<;>cases e2
      have e1':(cp.map (·.2))[i]?=some x:=by
        have e1'':(cp.map (·.2)++tgN)[i]?=some x:=e1
        rwa [List.getElem?_append_left (by simp;exact hlt)] at e1''
      have e2':(cp.map (fun p=>(σ[p.1]?).join))[i]?=some (some v):=by
        unfold eN at e2
        rwa [List.getElem?_append_left (by simp;exact hlt)] at e2
      rw [List.getElem?_map,List.getElem?_eq_getElem hlt] at e1' e2'
      have ex:(cp[i]).2=x:=by simpa using e1'
      have ev:(σ[(cp[i]).1]?).join=some v:=by simpa using e2'
      have ev':σ[(cp[i]).1]?=some (some v):=by
        cases q:σ[(cp[i]).1]? with
        | none=>rw [q] at ev;cases ev
        | some z=>rw [q] at ev;simp only [Option.join_some] at ev;rw [ev]
      have hN:=hcp cp[i] (List.getElem_mem hlt)
      rw [←hN0] at hN
      obtain⟨hcl,hcf⟩:=hcq cp[i] (List.getElem_mem hlt)
      rw [ex] at hN hcl hcf
      obtain⟨m,hn,hl⟩:=I3.loc
      obtain⟨u,r,l⟩:=hl _ x v hN ev' (.inr (.inl (by rw [hsc];exact hcl)))
      refine⟨u,r,.inr ?_⟩
      rcases l with ⟨k1,_⟩ | ⟨k1,c,hcc,o,ho,hd⟩
      · rw [hkind,hcl] at k1;cases k1
      · have e3':(relabel scope X.env).names.lookup x=some .local∨(relabel scope X.env).names.lookup x=some .cell∨(relabel scope X.env).names.lookup x=some .free:=e3
        have nl:(relabel scope X.env).names.lookup x=some .cell∨(relabel scope X.env).names.lookup x=some .free:=by
          rcases e3' with z | z | z
          · exact absurd z (di hcf)
          · exact .inl z
          · exact .inr z
        obtain⟨c',hc'⟩:=clH x (cG hcell nl)
        have:=clS x c' hc'
        rw [hcc] at this;cases this
        exact⟨nl,c,hc',o,old c o ho,hd⟩
    · obtain⟨v,o,ho,hd⟩:=I3.cell x c (clS x c e)
      exact⟨v,o,old c o ho,hd⟩
  have hst4:tn 0 h₁:=T.keep _ _ _ hst3 fun b _ o e=>old b o e
  have loop:codeAny (model X.prog X.w) X.A (.compLoop (.ListComp elt [⟨tg,iter,ifs,0⟩] scope pos) 0 (.ref it) (.ref D) (compEnvC scope (fq X.env scope.names []) C X.env))
      (compPost (model X.prog X.w) X.A X.xe none (EP X pins σ Q) (.ref D) C) {s₃ with heap:=h₁,toks:=s₃.toks+([]:List (Str × Value)).length}:=by
    refine ia (fun n s'=>∃i σ' H',ao (aA X scope cp tgN C s₃ (a_ H2 D (.lst [])) fp) [] σ' H' s'∧tn i s'.heap∧(∀b∈fp,H' b=none)∧W i n σ' H') ?_ (n0:=m0) ⟨0,_,_,I4,hst4,fun b hb=>(f3 b hb).1,w0⟩
    rintro n s5 ⟨i,σ5,H5,I5,st5,fr5,w5⟩
    have stat:∀{H':Hp},(∀b∈fp,H' b=none)→∀b∈fp,gF (aA X scope cp tgN C s₃ (a_ H2 D (.lst [])) fp) [] H' b:=fun hn b hb=>
      ⟨hn b hb,(ok'.exf b hb).1,ok'.exfs b hb,.inl hb,(ok'.exf b hb).2,fun p hp=>by simp [aA] at hp⟩
    rcases turn i n σ5 H5 w5 with ⟨stop,qn⟩ | ⟨go,N,hN,step⟩
    · refine cv (T.done (aA X scope cp tgN C s₃ (a_ H2 D (.lst [])) fp) rfl rfl rfl hc i [] s5 σ5 H5 (fun _ _=>False) I5 (stat fr5) st5 stop) fun r s6 ⟨hr,I6⟩=>?_
      subst hr
      refine⟨fun _=>?_,fun v z=>by cases z⟩
      obtain⟨m,hn,_⟩:=I6.loc
      refine⟨m,hn,fun h' sb=>⟨.ref D,H5,?_,rfl,qn⟩⟩
      have ub:=I6.base
      have kp:∀b u,b≠C→s6.heap.get? b=some u→h'.get? b=some u:=fun b u ne e=>sb.extBut b u ne e
      have nit:∀b u,H5 b=some u→b≠C:=fun b u e z=>by
        have:=I6.free
        rw [z] at e
        rw [show H5 C=none from this] at e;cases e
      refine I3.call' (s':={s6 with heap:=h'}) (ch:=fp) I6.os ⟨fun b o e n hb hx=>kp b o (nC b o e) (ub.keep b o e n hb hx),fun b o e n hb hx=>?_,ub.free,fun b o e hx=>?_,ub.tups,ub.frzs,ub.tbls⟩ (fun b u e=>?_) I6.bare (fun b hb=>?_)
      · obtain⟨sl,q⟩:=ub.slot b o e n hb hx
        exact⟨sl,kp b _ (nC b o e) q⟩
      · obtain⟨o',q⟩:=ub.there b o e hx
        exact⟨o',kp b _ (nC b o e) q⟩
      · refine(I6.hok b u e).stay (fun c v hc q=>kp c v ?_ q) (fun _ q=>q) fun _ _ q=>q
        rcases hc with z | z
        · rw [z];exact nit b u e
        · exact nit c _ z
      · obtain⟨f0,f1,f4,f5,f6,f7⟩:=f3 b hb
        exact⟨f5,f1,f6,f7⟩
    · refine cv (T.item (aA X scope cp tgN C s₃ (a_ H2 D (.lst [])) fp) rfl rfl rfl hc i [] s5 σ5 H5 (fun _ _=>False) I5 (stat fr5) st5 go) fun r s6 ⟨u,hr,h6⟩=>?_
      subst hr
      refine⟨fun z=>(by cases z),fun v z=>?_⟩
      cases z
      refine cv h6 fun _ s7 ⟨x,H7,I7,r7,y7,st7,fr7⟩=>?_
      have I7':=I7.pinned (stat fr7) (T.obj _ _ st7)
      have again:∀{σ8:L2.St} {H8:Hp} {s8:Shared},ao (aA X scope cp tgN C s₃ (a_ H2 D (.lst [])) fp) ([]++i4 fp s7.heap) σ8 H8 s8→N σ8 H8→∃m,m < n∧∃i σ' H',ao (aA X scope cp tgN C s₃ (a_ H2 D (.lst [])) fp) [] σ' H' s8∧tn i s8.heap∧(∀b∈fp,H' b=none)∧W i m σ' H':=fun{σ8 H8 s8} I8 n8=>by
        obtain⟨m',hm,w8⟩:=hN σ8 H8 n8
        refine⟨m',hm,i+1,σ8,H8,I8.unpinned,T.keep _ _ _ st7 fun b hb o e=>(I8.pin (b,o) (List.mem_append_right _ (List.mem_append_right _ (cS hb e)))).1,fun b hb=>?_,w8⟩
        obtain⟨o,e,d⟩:=T.obj _ _ st7 b hb
        exact(I8.pin (b,o) (List.mem_append_right _ (List.mem_append_right _ (cS hb e)))).2.1
      refine cv (hg C s₃ (a_ H2 D (.lst [])) fp _ s7 σ5 H7 x u _ I7' r7 (step x H7 y7)) fun _ s8 ⟨σ8,H8,I8,q8⟩=>?_
      refine cv (ht C s₃ (a_ H2 D (.lst [])) fp _ s8 σ8 H8 _ I8 q8) fun ok s9 ⟨H9,I9,q9⟩=>?_
      cases ok with
      | false=>
        rw [if_neg Bool.false_ne_true] at q9 ⊢
        exact again I9 q9
      | true=>
        rw [if_pos rfl] at q9 ⊢
        refine cv (he C s₃ (a_ H2 D (.lst [])) fp _ s9 σ8 H9 _ I9 q9) fun v s10 ⟨xv,H10,I10,r10,ys,hl,hz,n10⟩=>?_
        refine cv (iZ _ s10 σ8 H10 (.ref D) [xv] (.ref D) [v] (fun _ H=>N σ8 H) I10 rfl (.cons r10 .nil) ⟨D,ys,xv,rfl,rfl,hl,hz,n10⟩) fun _ s11 ⟨_,H11,I11,_,q11⟩=>?_
        exact again I11 q11
  exact codeAny_compStart_list loop (T.self X.A 0 _ _ _ hst4 loop)
end L2
namespace L2
open PySem PySem.Spec PyProof.Rows
section
variable{X:Cx}
def sS(K:PySem.W.Frag):R2:=fun x y H Q=>∃a b xs ys,x=.ref a∧y=.ref b∧cH K H a xs∧cH K H b ys∧xs.length+ys.length≤sizeLine∧∀p H',am H H'→cH K H' p (xs++ys)→Q (.ref p) H'
theorem uS:fY X (binaryOp .Add) (sS X.K):=by
  intro pins s σ H x y v u Q I rx ry h
  obtain⟨a,b,xs,ys,rfl,rfl,ha,hb,hz,q⟩:=h
  cases rx;cases ry
  by_cases hx:xs=[]
  · obtain⟨i1,r1,p1,_⟩:=I.tuple ha
    obtain⟨i2,r2,p2,_⟩:=I.tuple hb
    obtain⟨m,F⟩:=I.fr
    have e1:i1=[]:=by subst hx;cases r1;rfl
    refine add_tuples F (rX (g:=X.base)) p1 p2 (fun _=>?_) (fun z1 _=>absurd e1 z1) (fun z1 _ _ _ _=>absurd e1 z1) (by rw [←r1.length,←r2.length];exact hz)
    exact⟨.ref b,H,I,rfl,q b H (am.refl H) (by rw [hx];exact hb)⟩
  · exact uT pins s σ H (.ref a) (.ref b) _ _ Q I rfl rfl ⟨a,b,xs,ys,rfl,rfl,ha,hb,hx,hz,fun z=>q a H (am.refl H) (by rw [z,List.append_nil];exact ha),fun _ p hp=>q p _ (am.new hp) (cH.of au)⟩
theorem i3{x:V}{us:List Value}(r:aE [x] us):∃u,us=[u]∧bo x u:=by
  cases r with
  | cons p p'=>cases p';exact⟨_,rfl,p⟩
theorem my{prog:Program}{w:World}{A:Around}{E:Value→Shared→Prop}{s:Shared}{t:Addr}{vs:List Value}{Q:List Value→Shared→Prop}(ht:IsTup s.heap t vs.toArray)
    (h:Q vs {s with heap:=(s.heap.push (seqObj "list" #[] 0)).update s.heap.objs.size (Obj.mapSeq (· ++vs.toArray))})(hsz:vs.length≤sizeLine):wpAny (model prog w) A (collect (.ref t)) Q E s:=by
  obtain⟨o,ho,hc,n,hd⟩:=id ht;unfold collect;refine wpAny_bind (wpAny_runValue (codeAny_builtin entry_proto_collect' ?_))
  show wpAny _ _ (do again (.builtin "list.__iadd__" ⟨[←newList [],.ref t],[]⟩)) _ _ s
  refine wpAny_bind (wpAny_newList (wpAny_pure ⟨Code.quiet_builtin _ (by decide+kernel),?_⟩));refine codeAny_builtin entry_list_iadd' ?_
  show wpAny _ _ (Builtin.List.listExtendWith (.ref s.heap.objs.size) (.ref t) (.ref s.heap.objs.size)) _ _ {s with heap:=s.heap.push (seqObj "list" #[] 0)}
  unfold Builtin.List.listExtendWith;have ho':(s.heap.push (seqObj "list" #[] 0)).get? t=some o:=Heap.get?_push_of_some _ ho
  refine wpAny_bind (wpAny_typeOf (T:="tuple") ⟨o,ho',hc⟩ ?_)
  rw [if_pos (by rw [show(Value.type "tuple"==Value.type "tuple")=true from rfl,Bool.or_true])]
  refine wpAny_bind (listItems_at ho' hd ?_);refine wpAny_bind (listItems_at (xs:=#[]) (n:=0) (Heap.get?_push_size _ rfl) rfl ?_)
  rw [if_neg (by simp)];refine wpAny_bind (listUpdate_at (xs:=#[]) (n:=0) (Heap.get?_push_size _ rfl) rfl ?_ (Nat.zero_le _) (by show(#[]++vs.toArray).size≤sizeLine+1;simp only [Array.size_append,List.size_toArray,List.length_nil];lia))
  refine wpAny_pure ?_
  show wpAny (model prog w) A (load s.heap.objs.size >>= fun o=>match o.data with | .seq xs _=>pure xs.toList | _=>unsupported "internal:collect") Q E {s with heap:=(s.heap.push (seqObj "list" #[] 0)).update s.heap.objs.size (Obj.mapSeq (· ++vs.toArray))}
  refine wpAny_bind (wpAny_load (get?_update_seq (Heap.get?_push_size _ rfl) _) ?_);show wpAny _ _ (pure ((#[]:Array Value)++vs.toArray).toList) Q E _;rw [show((#[]:Array Value)++vs.toArray).toList=vs by simp];exact wpAny_pure h
theorem oH{prog:Program}{w:World}{A:Around}{E:Value→Shared→Prop}{s:Shared}{t:Addr}{vs:List Value}{ns:List Int}{Q:Value→Shared→Prop}(ht:IsTup s.heap t vs.toArray)(hI:IntsAre vs ns)(h64:vs.length < 64)
    (h:∀(out:Array Value) (ns':List Int),IntsAre out.toList ns'→ns'.Perm ns→ns'.Pairwise (· ≤·)→Q (.ref (s.heap.objs.size+1)) {s with heap:=sortedAll s.heap vs out}):wpAny (model prog w) A (call (.builtin "sorted") [.ref t]) Q E s:=by
  refine Calls.call_function_entry kind_sorted plain_sorted entry_sorted (args_sorted1 _) ?_;unfold Builtin.«sorted»
  refine wpAny_bind (m:=checkCount "sorted" 1 1 _) (wpAny_pure ?_);refine wpAny_bind (my ht ?_ (Nat.le_trans (Nat.le_of_lt h64) (by decide)))
  have z:((s.heap.push (seqObj "list" #[] 0)).update s.heap.objs.size (Obj.mapSeq (· ++vs.toArray))).objs.size=s.heap.objs.size+1:=by rw [Heap.size_update,size_push']
  have o:(((s.heap.push (seqObj "list" #[] 0)).update s.heap.objs.size (Obj.mapSeq (· ++vs.toArray))).push (seqObj "list" vs.toArray 0)).get? (s.heap.objs.size+1)=some (seqObj "list" vs.toArray 0):=by rw [←z];exact Heap.get?_push_size _ rfl
  refine wpAny_bind (wpAny_newList ?_);show wpAny _ _ _ _ _ {s with heap:=((s.heap.push (seqObj "list" #[] 0)).update s.heap.objs.size (Obj.mapSeq (· ++vs.toArray))).push (seqObj "list" vs.toArray 0)}
  rw [z];refine wpAny_bind (wpAny_holding (wpAny_call_entry slot_list_sort ⟨_,o,rfl⟩ entry_list_sort (list_sort_tree o hI h64 fun out ns' b1 b2 b3=>⟨_,rfl,?_⟩) (args_list_sort _)))
  exact wpAny_pure ⟨_,rfl,h out ns' b1 b2 b3⟩
theorem jf:cB X (.builtin "sorted") (fun xs H Q=>∃(a:Addr) (ns:List Int),xs=[.ref a]∧cH X.K H a (ns.map V.int)∧ns.length < 64∧∀(l:Addr) (ns':List Int) (H':Hp),am H H'→H l=none→H' l=some (.lst (ns'.map V.int))→ns'.Perm ns→ns'.Pairwise (· ≤·)→Q (.ref l) H'):=by
  intro pins s σ H xs us Q I r h
  obtain⟨a,ns,rfl,hs,h64,q⟩:=h
  obtain⟨u,rfl,ru⟩:=i3 r
  cases ru
  obtain⟨its,rv,p,hz⟩:=I.tuple hs
  have hl:=rv.length
  rw [List.length_map] at hl
  refine oH p (gT rv) (by lia) fun out ns' a1 a2 a3=>?_
  obtain⟨e,he⟩:=sortedAll_at s.heap its out
  have hf:H (s.heap.objs.size+1)=none:=I.hok.fresh (Nat.le_succ _)
  refine⟨.ref (s.heap.objs.size+1),a_ H (s.heap.objs.size+1) (.lst (ns'.map V.int)),I.laid (t':=s.toks) (fun _ _=>sortedAll_old) (Nat.le_succ _) ⟨?_,out.toList,e,gD a1,?_⟩,rfl,q _ ns' _ (am.new hf) hf au a2 a3⟩
  · rw [List.length_map,a2.length_eq]
    exact Nat.le_trans (Nat.le_of_lt h64) (by decide)
  · simpa [seqObj] using he
end
end L2
namespace L2
open PySem PySem.Spec PyProof.Rows
section
variable{X:Cx}
end
theorem qo{e:Expr}{es:List Expr}{env:Env}(h:PySem.W.isStarred e=false):starEach (e::es) env=(false,eval e env)::starEach es env:=by
  cases e<;>first | rfl | cases h
theorem Az{X:Cx}{e:Expr}{es:List Expr}{te:TE}{t:TA}(ha:PE X e te)(hr:PA X es t)(h:PySem.W.isStarred e=false:=by rfl):PA X (e::es) (nq te t):=uZ ha hr (qo h)
def pN:List (Int × Int)→TA
  | []=>yi
  | p::r=>nq (zQ (nq (tC (.int p.1)) (nq (tC (.int p.2)) yi))) (pN r)
@[irreducible] def AJ(ps:List (Int × Int)):TA:=pN ps
structure iI where
  one:Int
  other:Int
  top:Int
  bot:Int
  worth:Int
structure bE where
  things:Int
  ties:List iI
  pat:List Int
  asks:Int
structure iI.Ok (n:Int) (t:iI):Prop where
  o0:0≤t.one
  o1:t.one < t.other
  o2:t.other < n
  c0:0≤t.top
  c1:t.top≤t.bot
  b0:1≤t.bot
  b1:t.bot≤100
  w0:0≤t.worth
  w1:t.worth≤1000
  cop:Int.gcd t.top t.bot=1
structure bE.Ok (w:bE):Prop where
  t0:0≤w.things
  t1:w.things≤12
  ties:∀t∈w.ties,t.Ok w.things
  len:w.ties.length≤16
  pl:(w.pat.length:Int)=w.things
  pat:∀p∈w.pat,0≤p∧p≤20
  a0:0≤w.asks
  a1:w.asks≤40
def yL(K:PySem.W.Frag)(H:Hp)(v:V)(t:iI):Prop:=∃p q,v=.ref p∧cH K H p [.int t.one,.int t.other,.ref q,.int t.worth]∧cH K H q [.int t.top,.int t.bot]
inductive lB (K:PySem.W.Frag) (H:Hp):List V→List iI→Prop
  | nil:lB K H [] []
  | cons {v vs t ts}:yL K H v t→lB K H vs ts→lB K H (v::vs) (t::ts)
structure AZ (K:PySem.W.Frag) (H:Hp) (v:V) (w:bE):Prop where
  ex:∃a b c ts,v=.ref a∧cH K H a [.int w.things,.ref b,.ref c,.int w.asks]∧cH K H b ts∧lB K H ts w.ties∧cH K H c (w.pat.map V.int)
section
variable{K:PySem.W.Frag}{H H':Hp}
end
theorem oy{t b:Int}(hb:0 < b)(h0:0≤t)(h1:t≤b)(h2:b≤100):0≤(lowM t b).1∧(lowM t b).1≤(lowM t b).2∧1≤(lowM t b).2∧(lowM t b).2≤100:=by
  obtain⟨d,e1,e2,e3,e4,e5⟩:=gv (t:=t) (b:=b) (by lia)
  generalize (lowM t b).1=x at*
  generalize (lowM t b).2=y at*
  have dp:0 < d:=by
    rcases Int.lt_or_gt_of_ne e2 with z | z
    · exfalso
      have:y*d < 0:=Int.mul_neg_of_pos_of_neg e5 z
      lia
    · exact z
  have x0:0≤x:=by
    rcases Int.lt_or_le x 0 with z | z
    · have:x*d < 0:=Int.mul_neg_of_neg_of_pos z dp
      lia
    · exact z
  have xy:x≤y:=by
    rcases Int.lt_or_le y x with z | z
    · have:y*d < x*d:=Int.mul_lt_mul_of_pos_right z dp
      lia
    · exact z
  have yb:y≤y*d:=by
    have:=Int.mul_le_mul_of_nonneg_left (show(1:Int)≤d by lia) (show 0≤y by lia)
    lia
  exact⟨x0,xy,by lia,by lia⟩
end L2
namespace L2
open PySem PySem.Spec PyProof.Rows
inductive jo {α β:Type} (R:α→β→Prop):List α→List β→Prop
  | nil:jo R [] []
  | cons {a b as bs}:R a b→jo R as bs→jo R (a::as) (b::bs)
namespace jo
variable{α β:Type}{R S:α→β→Prop}
theorem mono(h:∀a b,R a b→S a b):∀{as:List α} {bs:List β},jo R as bs→jo S as bs
  | _,_,.nil=>.nil
  | _,_,.cons x r=>.cons (h _ _ x) (mono h r)
theorem len:∀{as:List α} {bs:List β},jo R as bs→as.length=bs.length
  | _,_,.nil=>rfl
  | _,_,.cons _ r=>by simp [len r]
theorem snoc{a:α}{b:β}(h:R a b):∀{as:List α} {bs:List β},jo R as bs→jo R (as++[a]) (bs++[b])
  | _,_,.nil=>.cons h .nil
  | _,_,.cons x r=>.cons x (snoc h r)
theorem get:∀{as:List α} {bs:List β} {i:Nat} {b:β},jo R as bs→bs[i]?=some b→∃a,as[i]?=some a∧R a b
  | _,_,_,_,.nil,e=>by simp at e
  | _,_,0,_,.cons x _,e=>by simp at e;subst e;exact⟨_,rfl,x⟩
  | _,_,i+1,b,.cons _ r,e=>by
    obtain⟨v,h1,h2⟩:=get (i:=i) (b:=b) r (by simpa using e)
    exact⟨v,by simpa using h1,h2⟩
end jo
section
variable{K:PySem.W.Frag}{a l:Addr}{xs:List V}{g:TG}{tc:TT}{te:TE}{Q:VK}{σ:L2.St}{H:Hp}{α β:Type}{us:List α}{cp:List (Nat × Str)}{nT:Nat}
def z3(aQ:Hp→V→β→Prop)(SI:L2.St→Prop)(us:List α)(f:α→Option β)(H:Hp)(l:Addr)(i:Nat)(σ:L2.St)(H':Hp):Prop:=SI σ∧am H H'∧∃vs,H' l=some (.lst vs)∧vs.length≤i∧jo (aQ H') vs ((us.take i).filterMap f)
end
theorem jn:∀{a b:List Int},a.Perm b→a.Pairwise (· ≤·)→b.Pairwise (· ≤·)→a=b
  | [],b,p,_,_=>by
    have:=p.length_eq
    exact(List.length_eq_zero_iff.mp this.symm).symm
  | x::a,b,p,h1,h2=>by
    cases b with
    | nil=>have:=p.length_eq;simp at this
    | cons y b=>
      have h1':=List.pairwise_cons.mp h1
      have h2':=List.pairwise_cons.mp h2
      have e:x=y:=by
        have m1:y∈x::a:=p.mem_iff.mpr (by simp)
        have m2:x∈y::b:=p.mem_iff.mp (by simp)
        rcases List.mem_cons.mp m1 with z | z
        · exact z.symm
        · rcases List.mem_cons.mp m2 with z2 | z2
          · exact z2
          · have:=h1'.1 y z
            have:=h2'.1 x z2
            lia
      subst e
      rw [jn ((List.perm_cons x).mp p) h1'.2 h2'.2]
def eu(ns:List Int):List Int:=ns.mergeSort
theorem kr{ns ns':List Int}(p:ns'.Perm ns)(h:ns'.Pairwise (· ≤·)):ns'=eu ns:=by
  refine jn (p.trans (List.mergeSort_perm ns _).symm) h ?_
  have:=List.pairwise_mergeSort (le:=fun a b:Int=>decide (a≤b)) (fun a b c h1 h2=>by simp at*;lia) (fun a b=>by simp;lia) ns
  exact this.imp fun h=>by simpa using h
theorem ku(ns:List Int):(eu ns).Perm ns:=List.mergeSort_perm ns _
theorem yG{ns:List Int}{x:Int}:x∈eu ns↔ x∈ns:=(ku ns).mem_iff
theorem yF(ns:List Int):(eu ns).length=ns.length:=(ku ns).length_eq
section
variable{X:Cx}{K:PySem.W.Frag}{pos:Pos}
theorem vb{es:List Expr}{k:Nat}{t:tZ}{n:Nat}(hK:X.K=K)(hc:X.calm=true)(h:qt X es t)(hn:(assignEach es X.env).length=n:=by rfl)(hst:(assignEach es X.env).findIdx? (·.1)=none:=by rfl):PG X (.Tuple es k pos) (yW K n t):=hK ▸ xH hc h hn hst
theorem ve{tg l:Expr}{tl:TE}(h:X.K=K)(hl:PE X l tl):PI X tg l (yZ K tl):=h ▸ xI hl
theorem sv{tg l:Expr}{tl:TE}(h:X.K=K)(hl:PE X l tl):PI X tg l (we K tl):=h ▸ vd hl
end
instance:Inhabited iI:=⟨⟨0,1,1,1,0⟩⟩
def bE.tie(W:bE)(k:Int):iI:=W.ties.getD k.toNat default
def bE.has(W:bE)(k thing:Int):Bool:=(W.tie k).one==thing || (W.tie k).other==thing
def bE.many(W:bE)(asked:List Int)(thing:Int):Int:=((asked.filter fun k=>W.has k thing).length:Nat)
def bE.bears(W:bE)(asked taken:List Int)(thing:Int):Bool:= !taken.contains thing&&decide (W.many asked thing < W.pat.getD thing.toNat 0)
def bE.may(W:bE)(asked taken:List Int)(k:Int):Bool:= !(asked.contains k || decide (W.asks≤(asked.length:Int)))&&(W.bears asked taken (W.tie k).one&&W.bears asked taken (W.tie k).other)
def bE.askd(asked:List Int)(k:Int):List Int:=eu (asked++[k])
def bE.took(W:bE)(taken:List Int)(k:Int)(truth:Bool):List Int:=if truth then eu (taken++[(W.tie k).one,(W.tie k).other]) else taken
def bE.rng(W:bE):List Int:=(List.range W.ties.length).map Int.ofNat
def nJ(W:bE)(k:Int):Prop:=0≤k∧k < (W.ties.length:Int)
theorem nJ.get{W:bE}{k:Int}(h:nJ W k):W.ties[k.toNat]?=some (W.tie k):=by
  have hk:k.toNat < W.ties.length:=by have:=h.1;have:=h.2;lia
  unfold bE.tie
  rw [List.getD_eq_getElem?_getD,List.getElem?_eq_getElem hk];rfl
theorem nJ.ok{W:bE}{k:Int}(h:nJ W k)(o:W.Ok):(W.tie k).Ok W.things:=o.ties _ (List.mem_of_getElem? h.get)
theorem z9{W:bE}{k:Int}:k∈W.rng↔ nJ W k:=by
  unfold bE.rng nJ
  rw [List.mem_map]
  constructor
  · rintro⟨n,hn,rfl⟩
    have:=List.mem_range.mp hn
    exact⟨Int.natCast_nonneg n,by simp;lia⟩
  · rintro⟨h0,h1⟩
    exact⟨k.toNat,List.mem_range.mpr (by lia),by simp;lia⟩
def wJ(K:PySem.W.Frag)(H:Hp)(v:V)(asked taken:List Int):Prop:=∃a b c,v=.ref a∧cH K H a [.ref b,.ref c]∧cH K H b (asked.map V.int)∧cH K H c (taken.map V.int)
theorem wJ.ts{K:PySem.W.Frag}{H H':Hp}(s:jc H H'){v:V}{asked taken:List Int}(h:wJ K H v asked taken):wJ K H' v asked taken:=by
  obtain⟨a,b,c,e,h1,h2,h3⟩:=h
  exact⟨a,b,c,e,s.tup h1,s.tup h2,s.tup h3⟩
section
variable{K:PySem.W.Frag}{σ:L2.St}{H:Hp}{Q:VK}{i j:Nat}{vW:V}{W:bE}{k:Int}
end
def wy(k:Int):Prop:= -1000000≤k∧k≤1000000
def Dk(n dep:Nat)(d:PyData):Prop:=d.showable=true∧j6 d=true∧L2.cnt d≤n∧d.depth≤dep
theorem Dk.mono{n m dep e:Nat}{d:PyData}(h:Dk n dep d)(h1:n≤m)(h2:dep≤e):Dk m e d:=⟨h.1,h.2.1,Nat.le_trans h.2.2.1 h1,Nat.le_trans h.2.2.2 h2⟩
theorem Dk.int{k:Int}(h:wy k):Dk 1 2 (.int k):=by
  refine⟨?_,rfl,Nat.le_refl _,by simp [PyData.depth]⟩
  show decide (k.natAbs.log2 < 1920)=true
  rw [decide_eq_true_eq]
  exact Nat.lt_trans ((show Bt 64 k by have:=h.1;have:=h.2;unfold Bt;lia).log (by decide)) (by decide)
theorem Dk.bool(b:Bool):Dk 1 2 (.bool b):=⟨rfl,rfl,Nat.le_refl _,by simp [PyData.depth]⟩
theorem Dk.none:Dk 1 2 .none:=⟨rfl,rfl,Nat.le_refl _,by simp [PyData.depth]⟩
theorem Dk.all{n dep:Nat}:∀{ds:List PyData},(∀d∈ds,Dk n dep d)→PyData.showableAll ds=true∧eK ds=true∧gR ds≤ds.length*n∧PyData.depthAll ds≤dep
  | [],_=>⟨rfl,rfl,by simp [gR],by simp [PyData.depthAll]⟩
  | d::r,h=>by
    obtain⟨a1,a2,a3,a4⟩:=h d (by simp)
    obtain⟨b1,b2,b3,b4⟩:=Dk.all (ds:=r) fun x hx=>h x (by simp [hx])
    refine⟨?_,?_,?_,?_⟩
    · simp only [PyData.showableAll,a1,b1,Bool.and_self]
    · simp only [eK,a2,b2,Bool.and_self]
    · simp only [gR,List.length_cons,Nat.succ_mul]
      lia
    · simp only [PyData.depthAll];lia
theorem Dk.tup{n dep m:Nat}{ds:List PyData}(h:∀d∈ds,Dk n dep d)(hl:ds.length≤m):Dk (1+m*n) (dep+2) (.tuple ds):=by
  obtain⟨b1,b2,b3,b4⟩:=Dk.all h
  refine⟨b1,b2,?_,?_⟩
  · simp only [L2.cnt]
    have:=Nat.mul_le_mul_right n hl
    lia
  · simp only [PyData.depth];lia
theorem Dk.ok{n dep:Nat}{d:PyData}(h:Dk n dep d)(h1:n≤8000)(h2:dep≤60):d.showable=true∧d.depth≤60∧d.shown.length≤sizeLine:=by
  have:=lq h.2.1 h.1
  have sl:sizeLine=16777216:=sizeLine_eq
  have:=h.2.2.1
  exact⟨h.1,Nat.le_trans h.2.2.2 h2,by lia⟩
theorem Dk.ints{ns:List Int}{m:Nat}(hl:ns.length≤m)(h:∀r∈ns,wy r):Dk (1+m) 4 (.tuple (ns.map .int)):=by
  have:=Dk.tup (n:=1) (dep:=2) (m:=m) (ds:=ns.map PyData.int) (fun d hd=>by
    obtain⟨x,hx,rfl⟩:=List.mem_map.mp hd
    exact Dk.int (h x hx)) (by rw [List.length_map];exact hl)
  simpa using this
section
variable{K:PySem.W.Frag}{H:Hp}
def aU(t:iI):PyData:=.tuple [.int t.one,.int t.other,.tuple [.int t.top,.int t.bot],.int t.worth]
def aS(W:bE):PyData:=.tuple [.int W.things,.tuple (W.ties.map aU),.tuple (W.pat.map .int),.int W.asks]
def BA(asked taken:List Int):PyData:=.tuple [.tuple (asked.map .int),.tuple (taken.map .int)]
end
end L2
namespace L2
open PySem PySem.Spec PyProof.Rows
section
variable{X:Cx}
end
end L2
namespace L2
end L2
namespace L2
open PySem PySem.Spec PyProof.Rows
section
variable{prog:Program}{w:World}{A:Around}{E:Value→Shared→Prop}{s:Shared}
theorem tS{it t:Addr}{i:Nat}{ys}{x:Value}{Q:Value→Shared→Prop}(hi:s.heap.IsTupleIter it t i)(ht:s.heap.IsTuple t ys)(hx:ys[i]?=some x)
    (q:∀g,g.IsTupleIter it t (i+1)→Heap.SameBut it s.heap g→Q x {s with heap:=g}):wpAny (model prog w) A (Builtin.SmallTypes.nextOf (.ref it)) Q E s:=by
  obtain⟨o,ho,hc,hd⟩:=id hi;obtain⟨p,hp,_,n,hpd⟩:=ht;unfold Builtin.SmallTypes.nextOf
  refine wpAny_bind (wpAny_callSpecial?_slot (name:=Str.ofString "__next__") hi.typeIs F.slot_tuple_iterator_next (wpAny_call_entry F.slot_tuple_iterator_next hi.typeIs F.entry_tuple_iterator_next ?_ (F.args_tuple_iterator_next_1 _)))
  show wpAny _ _ (field (.ref it) 0 >>= _) _ _ s;refine wpAny_bind (wpAny_field ho hd (x:=.ref t) rfl ?_)
  show wpAny _ _ (if (Value.ref t==Value.none)=true then _ else _) _ _ s;rw [if_neg (show ¬((Value.ref t==Value.none)=true) from Bool.false_ne_true)]
  show wpAny _ _ (field (.ref it) 1 >>= _) _ _ s;refine wpAny_bind (wpAny_field ho hd (x:=.int i 0) rfl ?_)
  show wpAny _ _ (seqItems? (.ref t) >>= _) _ _ s;refine wpAny_bind (wpAny_seqItems hp hpd ?_)
  simp only [Int.toNat_natCast,hx];refine wpAny_bind (wpAny_setField ho hd (by simp) (wpAny_pure ⟨x,rfl,wpAny_pure (q _ ?_ (Heap.SameBut.update ..))⟩))
  refine⟨_,Heap.get?_update_self _ ho (Obj.isFreed_of_fields (Obj.data_mapFields hd _)),(Obj.cls_mapFields ..).trans hc,?_⟩;rw [Obj.data_mapFields hd];simp [rawInt]
theorem tR{it t:Addr}{i:Nat}{ys}{Q:Value→Shared→Prop}(hh:A.handled=none)(hi:s.heap.IsTupleIter it t i)(ht:s.heap.IsTuple t ys)(hx:ys[i]?=none)
    (q:∀g e,Heap.ExtBut it s.heap g→(∃o,g.get? e=some o∧o.cls=.type "StopIteration")→E (.ref e) {s with heap:=g}):wpAny (model prog w) A (Builtin.SmallTypes.nextOf (.ref it)) Q E s:=by
  obtain⟨o,ho,hc,hd⟩:=id hi;obtain⟨p,hp,_,n,hpd⟩:=ht;unfold Builtin.SmallTypes.nextOf
  refine wpAny_bind (wpAny_callSpecial?_slot (name:=Str.ofString "__next__") hi.typeIs F.slot_tuple_iterator_next (wpAny_call_entry F.slot_tuple_iterator_next hi.typeIs F.entry_tuple_iterator_next ?_ (F.args_tuple_iterator_next_1 _)))
  show wpAny _ _ (field (.ref it) 0 >>= _) _ _ s;refine wpAny_bind (wpAny_field ho hd (x:=.ref t) rfl ?_)
  show wpAny _ _ (if (Value.ref t==Value.none)=true then _ else _) _ _ s;rw [if_neg (show ¬((Value.ref t==Value.none)=true) from Bool.false_ne_true)]
  show wpAny _ _ (field (.ref it) 1 >>= _) _ _ s;refine wpAny_bind (wpAny_field ho hd (x:=.int i 0) rfl ?_)
  show wpAny _ _ (seqItems? (.ref t) >>= _) _ _ s;refine wpAny_bind (wpAny_seqItems hp hpd ?_)
  simp only [Int.toNat_natCast,hx];refine wpAny_bind (wpAny_rule (wpAny_bind (wpAny_setField ho hd (by simp) ?_)))
  show wpAny _ _ (newExc (.type "StopIteration") [] >>= _) _ _ _;refine wpAny_bind ?_;simp only [newExc,newTuple]
  refine wpAny_bind (wpAny_newObj_type ?_ (by size_fits));refine wpAny_bind (m:=firstArgMember _ _) (wpAny_of_eq (a:=Value.none) (by first | rfl | (simp only [firstArgMember];rfl)) ?_)
  refine wpAny_newObj_type ?_ (by size_fits);simp only [raiseNew];refine wpAny_bind (wpAny_handled ?_);first | rw [show A.in1.handled=none from hh] | rw [hh]
  refine wpAny_bind (wpAny_pure (wpAny_throw ?_));exact q _ _ (((Heap.SameBut.update ..).extBut.push _).push _) ⟨_,Heap.get?_push_size _ rfl,rfl⟩
end
structure Sc (prog:Program) (w:World) (it l:Addr) (St:Nat→Heap→Prop) (Sq:Heap→Array Value→Prop):Prop where
  stay:∀{k h h'},St k h→(∀o,h.get? it=some o→h'.get? it=some o)→St k h'
  live:∀{k h},St k h→∃o,h.get? it=some o∧∀v,o.data≠.cell v
  row:∀{h h' xs},Sq h xs→(∀o,h.get? l=some o→h'.get? l=some o)→Sq h' xs
  next:∀{A:Around} {s:Shared} {E:Value→Shared→Prop} {Q:Value→Shared→Prop} {k:Nat} {xs:Array Value} {x:Value},St k s.heap→Sq s.heap xs→xs[k]?=some x→(∀g,St (k+1) g→Heap.SameBut it s.heap g→Q x {s with heap:=g})→wpAny (model prog w) A (Builtin.SmallTypes.nextOf (.ref it)) Q E s
  last:∀{A:Around} {s:Shared} {E:Value→Shared→Prop} {Q:Value→Shared→Prop} {k:Nat} {xs:Array Value},A.handled=none→St k s.heap→Sq s.heap xs→xs[k]?=none→(∀g e,Heap.ExtBut it s.heap g→(∃o,g.get? e=some o∧o.cls=.type "StopIteration")→E (.ref e) {s with heap:=g})→wpAny (model prog w) A (Builtin.SmallTypes.nextOf (.ref it)) Q E s
theorem tF{prog:Program}{w:World}(it l:Addr):Sc prog w it l (fun k h=>h.IsTupleIter it l k) (fun h xs=>h.IsTuple l xs) where
  stay:=fun st k=>st.at fun o e=>k o e
  live:=fun st=>by
    obtain⟨o,e,c,d⟩:=st
    exact⟨o,e,fun v z=>by rw [d] at z;cases z⟩
  row:=fun q k=>by
    obtain⟨o,e,r⟩:=q
    exact⟨o,k o e,r⟩
  next:=fun st sq hx q=>tS st sq hx q
  last:=fun hh st sq hx q=>tR hh st sq hx q
theorem pL{prog:Program}{w:World}(it l:Addr):Sc prog w it l (fun k h=>h.IsListIter it l k) (fun h xs=>h.IsList l xs) where
  stay:=fun st k=>st.at fun o e=>k o e
  live:=fun st=>by
    obtain⟨o,e,c,d⟩:=st
    exact⟨o,e,fun v z=>by rw [d] at z;cases z⟩
  row:=fun q k=>by
    obtain⟨o,e,r⟩:=q
    exact⟨o,k o e,r⟩
  next:=fun st sq hx q=>wpAny_nextOf_list_item st sq hx q
  last:=fun hh st sq hx q=>wpAny_nextOf_list_end hh st sq hx q
structure AR (z TI TO i1 i2 l1 l2:Addr):Prop where
  a1:TO≠z
  a2:i1≠z
  a3:i2≠z
  a4:TO≠i1
  a5:TO≠i2
  a6:i1≠i2
  b1:l1≠z
  b2:l1≠TO
  b3:l1≠i1
  b4:l1≠i2
  c1:l2≠z
  c2:l2≠TO
  c3:l2≠i1
  c4:l2≠i2
section
variable{prog:Program}{w:World}{A:Around}{E:Value→Shared→Prop}{s:Shared}{z TI TO i1 i2 l1 l2:Addr}{k:Nat}{xs ys:Array Value}{a b:Value}{S1 S2:Nat→Heap→Prop}{R1 R2:Heap→Array Value→Prop}
end
end L2
namespace L2
open PySem PySem.Spec PyProof.Rows
section
variable{X:Cx}{pins:List (Addr × Obj)}{σ:L2.St}{H:Hp}{s:Shared}{h':Heap}
theorem ao.turnedL{t':Nat}{fp:List Addr}(I:ao X pins σ H s)(hf:∀b∈fp,gF X pins H b)(k:∀b o,b∉fp→s.heap.get? b=some o→h'.get? b=some o):ao X pins σ H {s with heap:=h',toks:=t'}:=by
  have hL:X.env.locals∉fp:=fun z=>(hf _ z).2.1 rfl
  have nit:∀b u,H b=some u→b∉fp:=fun b u e z=>by have:=(hf b z).1;rw [this] at e;cases e
  refine I.step (g':=s.gens) (d':=s.drawn) (ch:=fp) (fun b hb=>?_) (fun b o _ _ hc e _=>k b o hc e) (fun b o _ _ hc e _=>⟨o.slots,k b o hc e⟩) (fun _ _ _ _ n=>n) (fun b o hc e=>⟨o,k b o hc e⟩) (fun _ _ e=>e) (fun _ _ _ e=>e) (fun b ps e=>⟨#[],by rw [e];simp⟩) (fun m hm=>?_) (fun b u e=>?_) I.bare
  · obtain⟨f0,f1,f2,f3,f4,f5⟩:=hf b hb
    exact⟨f3,f1,f4,f5⟩
  · obtain⟨o,es,ep,ho,r⟩:=hm
    exact⟨o,es,ep,k _ o hL ho,r⟩
  · refine(I.hok b u e).stay (fun c v hc q=>k c v ?_ q) (fun _ q=>q) fun _ _ q=>q
    rcases hc with z | z
    · rw [z];exact nit b u e
    · exact nit c _ z
theorem ms(I:ao X pins σ H s){b l:Addr}{xs:List V}(f:gF X pins H b)(q:cH X.K H l xs):l≠b:=by
  intro z
  subst z
  rcases q with (q | ⟨o,q⟩) | ⟨o,its,n,hk,_⟩
  · rw [f.1] at q;cases q
  · rw [f.1] at q;cases q
  · have hb:X.base.get? l=some o:=I.ok.mod.kin l o hk
    rcases f.2.2.2.1 with z | z
    · exact I.ok.noex l o hb z
    · exact absurd (Nat.lt_of_lt_of_le (Heap.lt_size (I.ok.bs l o hb).1) z) (Nat.lt_irrefl _)
end
section
variable{prog:Program}{w:World}{A:Around}{E:Value→Shared→Prop}{s:Shared}
end
end L2
namespace L2
open PySem PySem.Spec PyProof.Rows
def wD(h:Heap)(z TI TO:Addr)(a:Addr)(f:Bool):Prop:=h.get? z=some {cls:=.type "zip",data:=.fields #[rawInt a,.bool f,.bool false,.ref TI,.ref TO]}
section
variable{prog:Program}{w:World}{A:Around}{E:Value→Shared→Prop}{s:Shared}{z TI TO i1 i2 l1 l2:Addr}{k:Nat}{xs ys:Array Value}{a:Addr}{f:Bool}{S1 S2:Nat→Heap→Prop}{R1 R2:Heap→Array Value→Prop}
end
end L2
namespace L2
open PySem PySem.Spec PyProof.Rows
structure ZL (S z TI TO i1 i2 l1 l2:Addr) (xs ys:Array Value) (i:Nat) (h:Heap):Prop where
  pr:IsPair h TI (.ref i1) (.ref i2)
  t1:h.IsTupleIter i1 l1 i
  t2:h.IsTupleIter i2 l2 i
  s1:h.IsTuple l1 xs
  s2:h.IsTuple l2 ys
  ot:∃o,h.get? TO=some o
  zs:(IsZip h z TI TO .none∧∃a b,IsPair h TO a b)∨∃a f oa,wD h z TI TO a f∧h.get? a=some oa∧a≠S∧a≠z∧a≠i1∧a≠i2
structure AQ (S z TO i1 i2:Addr) (xs ys:Array Value) (h:Heap) (acc:Array Value) (i:Nat):Prop where
  sz:acc.size=i
  at_:∀(j:Nat) (v:Value),acc[j]?=some v→∃(p:Addr) (x y:Value),v=.ref p∧xs[j]?=some x∧ys[j]?=some y∧IsPair h p x y∧p≠S∧p≠z∧p≠TO∧p≠i1∧p≠i2
  lo:∀(j:Nat) (p:Addr),acc[j]?=some (.ref p)→S < p
  Bp:∀(i j:Nat) (p q:Addr),i < j→acc[i]?=some (.ref p)→acc[j]?=some (.ref q)→p < q
section
variable{prog:Program}{w:World}{A:Around}{R:Result→Shared→Prop}{S z TI TO i1 i2 l1 l2:Addr}{xs ys:Array Value}{n:Nat}
end
end L2
namespace L2
open PySem PySem.Spec PyProof.Rows
section
variable{X:Cx}{pins:List (Addr × Obj)}{σ:L2.St}{H H':Hp}{s:Shared}{h':Heap}
end
end L2
namespace L2
open PySem PySem.Spec PyProof.Rows
section
variable{prog:Program}{w:World}{A:Around}{E:Value→Shared→Prop}{s:Shared}{e it l:Addr}{k:Nat}{xs:Array Value}{S:Nat→Heap→Prop}{R:Heap→Array Value→Prop}
theorem m9(P1:Sc prog w it l S R)(hh:A.handled=none)(hne:l≠it)(xs:Array Value):Draws prog w A it [it,l] xs.size (fun i v=>xs[i]?=some v) (fun i h=>S i h∧R h xs) where
  live:=fun _ _ st=>let ⟨o,ho,_⟩:=P1.live st.1;⟨o,ho⟩
  frame:=fun _ _ _ st hk=>⟨P1.stay st.1 fun o e=>hk it (by simp) o e,P1.row st.2 fun o e=>hk l (by simp) o e⟩
  item:=fun i s Q E hi st hQ=>P1.next st.1 st.2 (x:=xs[i]) (by simp [hi]) fun g h1 h2=>hQ _ g s.toks (by simp [hi]) ⟨h1,P1.row st.2 fun o e=>h2.extBut _ _ hne e⟩ h2
  done:=fun s Q E st hE=>P1.last hh st.1 st.2 (by simp) hE
theorem k7{i:Int}{old:Value}{Q:Option Value→Shared→Prop}(P1:Sc prog w it l S R)(hh:A.handled=none)(he:IsEnum s.heap e it i old)(st:S k s.heap)(sq:R s.heap xs)(hx:xs[k]?=none)(q:∀g,Heap.ExtBut it s.heap g→Q none {s with heap:=g}):wpAny (model prog w) A (pyNext (.ref e)) Q E s:=by
  have hT:s.TypeIs (.ref e) "enumerate":=⟨_,he,rfl⟩;unfold pyNext
  refine wpAny_bind (wpAny_attempt (wpAny_callSpecial?_slot (name:=Str.ofString "__next__") hT F.slot_enumerate_next (wpAny_call_entry F.slot_enumerate_next hT F.entry_enumerate_next ?_ (F.args_enumerate_next_1 _))))
  show wpAny _ _ (field (.ref e) 2 >>= _) _ _ _;refine wpAny_bind (wpAny_field he rfl (x:=.ref it) rfl ?_)
  refine wpAny_bind (P1.last hh st sq hx fun g x hk hx'=>?_);obtain⟨o,ho,hc⟩:=hx'
  refine wpAny_bind (wpAny_isInstance (T:="StopIteration") (b:=true) ⟨o,ho,hc⟩ isSubtype_stop ?_);exact wpAny_pure (q _ hk)
theorem gh{i:Int}{old:Value}{Q:Value→Shared→Prop}(he:IsEnum s.heap e it i old)(h:Q (.ref e) s):wpAny (model prog w) A (pyIter (.ref e)) Q E s:=by
  have hT:s.TypeIs (.ref e) "enumerate":=⟨_,he,rfl⟩
  refine wpAny_pyIter_slot hT F.slot_enumerate_iter (wpAny_call_entry F.slot_enumerate_iter hT F.entry_enumerate_iter ?_ (F.args_enumerate_iter_1 _))
  show wpAny _ _ (ret (.ref e)) _ _ s;exact wpAny_pure ⟨_,rfl,"enumerate",_,hT,F.slot_enumerate_next.lookup,h⟩
end
section
variable{X:Cx}{pins:List (Addr × Obj)}{σ:L2.St}{H:Hp}{s:Shared}
theorem kR(I:ao X pins σ H s){b l:Addr}{xs:List V}(f:gF X pins H b)(q:fx X.K H l xs):l≠b:=by
  intro z
  subst z
  rcases q with (q | ⟨o,q⟩) | ⟨o,its,n,hk,_⟩
  · rw [f.1] at q;cases q
  · rw [f.1] at q;cases q
  · have hb:X.base.get? l=some o:=I.ok.mod.kin l o hk
    rcases f.2.2.2.1 with z | z
    · exact I.ok.noex l o hb z
    · exact absurd (Nat.lt_of_lt_of_le (Heap.lt_size (I.ok.bs l o hb).1) z) (Nat.lt_irrefl _)
end
def wG(K:PySem.W.Frag)(l:Addr):It:=
  ⟨fun i H=>∃xs x,cH K H l xs∧xs[i]?=some x,fun i H v H'=>∃p x,v=.ref p∧H p=none∧H'=a_ H p (.tup [.int i,x])∧∀xs,cH K H l xs→xs[i]?=some x,fun i H=>∃xs,cH K H l xs∧xs.length≤i⟩
def pd(e it l:Addr)(i:Nat)(h:Heap):Prop:=(∃old,IsEnum h e it i old)∧h.IsTupleIter it l i
theorem oO{P:Program}{w:World}{K:PySem.W.Frag}{es:List Expr}{k0:Nat}{pos:Pos}{e it:Addr}(l:Addr)(ne:e≠it):pS P w K (.Tuple es k0 pos) (wG K l) [e,it] e (pd e it l) where
  mem:=by simp
  obj:=fun i h st b hb=>by
    obtain⟨⟨old,he⟩,u⟩:=st
    simp only [List.mem_cons,List.not_mem_nil,or_false] at hb
    rcases hb with rfl | rfl
    · exact⟨_,he,fun v z=>by cases z⟩
    · obtain⟨o,e,c,d⟩:=u
      exact⟨o,e,fun v z=>by rw [d] at z;cases z⟩
  keep:=fun i h h' st k=>by
    obtain⟨⟨old,he⟩,u⟩:=st
    exact⟨⟨old,k _ (by simp) _ he⟩,u.at fun o e=>k _ (by simp) o e⟩
  item:=by
    intro X hP hw hK hc i pins s σ H E I hf st hg
    subst hP hw hK
    obtain⟨xs,x,q1,hx⟩:=hg
    obtain⟨⟨old,he⟩,u⟩:=id st
    obtain⟨its,rv,p,hz⟩:=I.tuple q1
    obtain⟨ux,hux,rux⟩:=rv.get hx
    have fe:=hf e (by simp);have ft:=hf it (by simp)
    have n1:l≠e:=ms I fe q1
    have n2:l≠it:=ms I ft q1
    have hi:i < its.toArray.size:=by have:=(List.getElem?_eq_some_iff.mp hux).1;simpa using this
    refine wpAny_pyNext_enum_itemD (m9 (A:=X.A.in1) (tF it l) (show X.A.in1.handled=none from I.ok.hd hc) n2 its.toArray) he ⟨u,p⟩ hi ne (by simpa using ⟨ne,fun z=>n1 z.symm⟩) fun x' g tk hP ho hs hT hsz hk=>?_
    have ex:x'=ux:=by
      have:its[i]?=some x':=by simpa using hP
      rw [hux] at this;exact(Option.some.inj this).symm
    subst ex
    refine⟨_,rfl,wpAny_letOwnedTupleGo_enum ho fun g' he' ge=>?_⟩
    have lt:∀b∈[e,it],b < s.heap.objs.size:=fun b hb=>by
      simp only [List.mem_cons,List.not_mem_nil,or_false] at hb
      rcases hb with rfl | rfl
      · exact Heap.lt_size he
      · obtain⟨o,e,_⟩:=u;exact Heap.lt_size e
    have hTn:H s.heap.objs.size=none:=I.hok.fresh (Nat.le_refl _)
    have vv:aE [.int i,x] [.int i tk,x']:=.cons ⟨tk,rfl⟩ (.cons rux .nil)
    have I1:ao X pins σ (a_ H s.heap.objs.size (.tup [.int i,x])) {s with heap:=s.heap.push {cls:=.type "tuple",data:=.seq #[.int i tk,x']},toks:=s.toks}:=
      I.laid (t':=s.toks) (fun b u e=>Heap.get?_push_of_some _ e) (Nat.le_refl _) ⟨(by show 2≤sizeLine;decide),[.int i tk,x'],vv,jC.new _ _⟩
    have hf1:∀b∈[e,it],gF X pins (a_ H s.heap.objs.size (.tup [.int i,x])) b:=fun b hb=>by
      obtain⟨f0,fr⟩:=hf b hb
      exact⟨by rw [aC (Nat.ne_of_lt (lt b hb))];exact f0,fr⟩
    have I2:ao X pins σ (a_ H s.heap.objs.size (.tup [.int i,x])) {s with heap:=g',toks:=tk+1}:=by
      refine I1.turnedL (t':=tk+1) hf1 fun b o nb eb=>?_
      have nb':b≠e∧b≠it:=by simpa using nb
      refine ge.extBut _ _ nb'.1 ?_
      rcases Heap.get?_push_cases eb with ⟨rfl,rfl⟩ | eb
      · exact hT
      · exact hk b o nb'.1 nb'.2 eb
    refine⟨.ref s.heap.objs.size,_,I2,rfl,⟨_,x,rfl,hTn,rfl,fun xs' w1=>by rw [I.tuple_inj w1 q1];exact hx⟩,⟨⟨_,by simpa using he'⟩,hs.1.at fun o e=>ge.extBut _ _ (fun z=>ne z.symm) e⟩,fun b hb=>(hf1 b hb).1⟩
  done:=by
    intro X hP hw hK hc i pins s σ H E I hf st hg
    subst hP hw hK
    obtain⟨xs,q1,hn⟩:=hg
    obtain⟨⟨old,he⟩,u⟩:=id st
    obtain⟨its,rv,p,hz⟩:=I.tuple q1
    have e1:=rv.length
    refine k7 (xs:=its.toArray) (tF it l) (I.ok.hd hc) he u p (by simp;lia) fun g gk=>⟨rfl,I.turnedL (t':=s.toks) hf fun b o nb eb=>?_⟩
    have nb':b≠e∧b≠it:=by simpa using nb
    exact gk b o nb'.2 eb
  self:=fun A i s Q E st h=>by
    obtain⟨⟨old,he⟩,u⟩:=st
    exact gh he h
def wF(K:PySem.W.Frag)(l:Addr):It:=
  ⟨fun i H=>∃xs x,fx K H l xs∧xs[i]?=some x,fun i H v H'=>∃p x,v=.ref p∧H p=none∧H'=a_ H p (.tup [.int i,x])∧∀xs,fx K H l xs→xs[i]?=some x,fun i H=>∃xs,fx K H l xs∧xs.length≤i⟩
def um(e it l:Addr)(i:Nat)(h:Heap):Prop:=(∃old,IsEnum h e it i old)∧h.IsListIter it l i
theorem oM{P:Program}{w:World}{K:PySem.W.Frag}{es:List Expr}{k0:Nat}{pos:Pos}{e it:Addr}(l:Addr)(ne:e≠it):pS P w K (.Tuple es k0 pos) (wF K l) [e,it] e (um e it l) where
  mem:=by simp
  obj:=fun i h st b hb=>by
    obtain⟨⟨old,he⟩,u⟩:=st
    simp only [List.mem_cons,List.not_mem_nil,or_false] at hb
    rcases hb with rfl | rfl
    · exact⟨_,he,fun v z=>by cases z⟩
    · obtain⟨o,e,c,d⟩:=u
      exact⟨o,e,fun v z=>by rw [d] at z;cases z⟩
  keep:=fun i h h' st k=>by
    obtain⟨⟨old,he⟩,u⟩:=st
    exact⟨⟨old,k _ (by simp) _ he⟩,u.at fun o e=>k _ (by simp) o e⟩
  item:=by
    intro X hP hw hK hc i pins s σ H E I hf st hg
    subst hP hw hK
    obtain⟨xs,x,q1,hx⟩:=hg
    obtain⟨⟨old,he⟩,u⟩:=id st
    obtain⟨its,rv,p,hz⟩:=I.list q1
    obtain⟨ux,hux,rux⟩:=rv.get hx
    have fe:=hf e (by simp);have ft:=hf it (by simp)
    have n1:l≠e:=kR I fe q1
    have n2:l≠it:=kR I ft q1
    have hi:i < its.toArray.size:=by have:=(List.getElem?_eq_some_iff.mp hux).1;simpa using this
    refine wpAny_pyNext_enum_itemD (m9 (A:=X.A.in1) (pL it l) (show X.A.in1.handled=none from I.ok.hd hc) n2 its.toArray) he ⟨u,p.isList⟩ hi ne (by simpa using ⟨ne,fun z=>n1 z.symm⟩) fun x' g tk hP ho hs hT hsz hk=>?_
    have ex:x'=ux:=by
      have:its[i]?=some x':=by simpa using hP
      rw [hux] at this;exact(Option.some.inj this).symm
    subst ex
    refine⟨_,rfl,wpAny_letOwnedTupleGo_enum ho fun g' he' ge=>?_⟩
    have lt:∀b∈[e,it],b < s.heap.objs.size:=fun b hb=>by
      simp only [List.mem_cons,List.not_mem_nil,or_false] at hb
      rcases hb with rfl | rfl
      · exact Heap.lt_size he
      · obtain⟨o,e,_⟩:=u;exact Heap.lt_size e
    have hTn:H s.heap.objs.size=none:=I.hok.fresh (Nat.le_refl _)
    have vv:aE [.int i,x] [.int i tk,x']:=.cons ⟨tk,rfl⟩ (.cons rux .nil)
    have I1:ao X pins σ (a_ H s.heap.objs.size (.tup [.int i,x])) {s with heap:=s.heap.push {cls:=.type "tuple",data:=.seq #[.int i tk,x']},toks:=s.toks}:=
      I.laid (t':=s.toks) (fun b u e=>Heap.get?_push_of_some _ e) (Nat.le_refl _) ⟨(by show 2≤sizeLine;decide),[.int i tk,x'],vv,jC.new _ _⟩
    have hf1:∀b∈[e,it],gF X pins (a_ H s.heap.objs.size (.tup [.int i,x])) b:=fun b hb=>by
      obtain⟨f0,fr⟩:=hf b hb
      exact⟨by rw [aC (Nat.ne_of_lt (lt b hb))];exact f0,fr⟩
    have I2:ao X pins σ (a_ H s.heap.objs.size (.tup [.int i,x])) {s with heap:=g',toks:=tk+1}:=by
      refine I1.turnedL (t':=tk+1) hf1 fun b o nb eb=>?_
      have nb':b≠e∧b≠it:=by simpa using nb
      refine ge.extBut _ _ nb'.1 ?_
      rcases Heap.get?_push_cases eb with ⟨rfl,rfl⟩ | eb
      · exact hT
      · exact hk b o nb'.1 nb'.2 eb
    refine⟨.ref s.heap.objs.size,_,I2,rfl,⟨_,x,rfl,hTn,rfl,fun xs' w1=>by rw [I.list_inj w1 q1];exact hx⟩,⟨⟨_,by simpa using he'⟩,hs.1.at fun o e=>ge.extBut _ _ (fun z=>ne z.symm) e⟩,fun b hb=>(hf1 b hb).1⟩
  done:=by
    intro X hP hw hK hc i pins s σ H E I hf st hg
    subst hP hw hK
    obtain⟨xs,q1,hn⟩:=hg
    obtain⟨⟨old,he⟩,u⟩:=id st
    obtain⟨its,rv,p,hz⟩:=I.list q1
    have e1:=rv.length
    refine k7 (xs:=its.toArray) (pL it l) (I.ok.hd hc) he u p.isList (by simp;lia) fun g gk=>⟨rfl,I.turnedL (t':=s.toks) hf fun b o nb eb=>?_⟩
    have nb':b≠e∧b≠it:=by simpa using nb
    exact gk b o nb'.2 eb
  self:=fun A i s Q E st h=>by
    obtain⟨⟨old,he⟩,u⟩:=st
    exact gh he h
end L2
namespace L2
open PySem PySem.Spec PyProof.Rows
section
variable{X:Cx}{a:Expr}{ta:TA}{p p2 pos pos2:Pos}
end
end L2
namespace L2
open PySem PySem.Spec PyProof.Rows
theorem qc:fillsNumberSlot (.type "tuple") "mul"=pure false:=
  PySem.fillsNumberSlot_seq (id:="tuple.__mul__") (r:=some (.builtin "tuple.__rmul__")) F.slot_tuple_mul.lookup (by decide+kernel) F.slot_tuple_rmul.lookup (by decide+kernel)
theorem x8:seqRepeat? (.type "tuple")=pure (some (.builtin "tuple.__mul__")):=by
  unfold seqRepeat?;rw [PySem.seqSlot_of (T:="tuple") (name:="__mul__") (id:="tuple.__mul__") F.slot_tuple_mul.lookup (by decide+kernel),PySem.seqSlot_of (T:="tuple") (name:="__rmul__") (id:="tuple.__rmul__") F.slot_tuple_rmul.lookup (by decide+kernel)];rfl
theorem vA(a:Int)(t:Tok)(l:Addr)(items:Array Value)(n:Nat)(dd:Option Addr)(sl:Array (Option Value)):
    Meets (Builtin.«int.__rmul__» ⟨[.int a t,.ref l],[]⟩) (fun _ R s=>s.heap.get? l=some {cls:=.type "tuple",dict:=dd,data:=.seq items n,slots:=sl}∧R (.ok (.ret Value.notImplemented)) s):=
  .of_wp fun prog w A R s h=>by obtain⟨hp,g,d,tk,os⟩:=s;obtain⟨hl,h⟩:=h;wp_walk;exact⟨_,rfl,h⟩
theorem xg(l:Addr)(x:Value)(n:Nat)(k:Int)(u:Tok)(dd:Option Addr)(sl:Array (Option Value))(h0:2≤k)(h1:k≤100000):
    Meets (Builtin.«tuple.__mul__» ⟨[.ref l,.int k u],[]⟩) (fun _ R s=>s.heap.get? l=some {cls:=.type "tuple",dict:=dd,data:=.seq #[x] n,slots:=sl}∧
      R (.ok (.ret (.ref s.heap.objs.size))) {s with heap:=s.heap.push {cls:=.type "tuple",data:=.seq (List.replicate k.toNat x).toArray}}):=
  .of_wp fun prog w A R s h=>by
    obtain⟨hp,g,d,tk,os⟩:=s;obtain⟨hl,h⟩:=h
    have f1:=AutoSeq1.idx_int
    have c1:¬(decide (k < -(2 ^ 63)) || decide (k≥2 ^ 63))=true:=by simp;lia
    have c2:¬((#[x]:Array Value).isEmpty || k==1)=true:=by simp;lia
    have c3:¬(decide (k≤0) || (#[x]:Array Value).isEmpty)=true:=by simp;lia
    have c4:¬(((#[x]:Array Value).size:Int)*k > (2 ^ 63 - 1) / 8):=by simp;lia
    have c5:¬Builtin.Tuple.tupleTooMany (((#[x]:Array Value).size:Int)*k)=true:=by
      unfold Builtin.Tuple.tupleTooMany;rw [sizeLine_eq];simp;lia
    wp_walk using wpAny_loadPart' hl
    rw [if_neg c1]
    wp_walk using wpAny_loadPart' hl
    rw [if_neg c2]
    wp_walk using wpAny_loadPart' hl
    rw [if_neg c3]
    wp_walk using wpAny_loadPart' hl
    rw [if_neg c4]
    show wpAny _ _ (if Builtin.Tuple.tupleTooMany (((#[x]:Array Value).size:Int)*k)=true then _ else _) _ _ _
    rw [if_neg c5]
    have f0:∀(m:Nat) (acc:Array Value),List.foldl (fun x1 x2=>x1++x2) acc (List.replicate m #[x])=acc++(List.replicate m x).toArray:=by
      intro m
      induction m with
      | zero=>intro acc;simp
      | succ m ih=>intro acc;rw [List.replicate_succ,List.foldl_cons,ih,List.replicate_succ];apply Array.toList_inj.mp;simp
    have e:List.foldl (fun x1 x2=>x1++x2) #[] (List.replicate k.toNat #[x])=(List.replicate k.toNat x).toArray:=by rw [f0];simp
    show wpAny _ _ (Builtin.Tuple.tupleExact (List.foldl (fun x1 x2=>x1++x2) #[] (List.replicate k.toNat #[x])) >>= fun v=>ret v) _ _ _
    rw [e]
    unfold Builtin.Tuple.tupleExact
    refine wpAny_bind (wpAny_newObj_type ?_ (by show(List.replicate k.toNat x).toArray.size≤sizeLine;rw [List.size_toArray,List.length_replicate,sizeLine_eq];lia))
    exact wpAny_pure ⟨_,rfl,h⟩
theorem uF(l:Addr)(x:Value)(n:Nat)(u:Tok)(dd:Option Addr)(sl:Array (Option Value)):
    Meets (Builtin.«tuple.__mul__» ⟨[.ref l,.int 0 u],[]⟩) (fun _ R s=>s.heap.get? l=some {cls:=.type "tuple",dict:=dd,data:=.seq #[x] n,slots:=sl}∧R (.ok (.ret (.ref s.heap.objs.size))) {s with heap:=s.heap.push {cls:=.type "tuple",data:=.seq #[]}}):=
  .of_wp fun prog w A R s h=>by
    obtain⟨hp,g,d,tk,os⟩:=s;obtain⟨hl,h⟩:=h;have f1:=AutoSeq1.idx_int
    have c2:¬((#[x]:Array Value).isEmpty || (0:Int)==1)=true:=by simp
    wp_walk using wpAny_loadPart' hl
    first | rw [if_neg c2] | skip
    wp_walk using wpAny_loadPart' hl
    exact⟨_,rfl,h⟩
theorem uG(l:Addr)(x:Value)(n:Nat)(u:Tok)(dd:Option Addr)(sl:Array (Option Value)):
    Meets (Builtin.«tuple.__mul__» ⟨[.ref l,.int 1 u],[]⟩) (fun _ R s=>s.heap.get? l=some {cls:=.type "tuple",dict:=dd,data:=.seq #[x] n,slots:=sl}∧R (.ok (.ret (.ref l))) s):=
  .of_wp fun prog w A R s h=>by
    obtain⟨hp,g,d,tk,os⟩:=s;obtain⟨hl,h⟩:=h;have f1:=AutoSeq1.idx_int
    wp_walk using wpAny_loadPart' hl
    exact⟨_,rfl,h⟩
section
variable{X:Cx}
def sU(K:PySem.W.Frag):R2:=fun x y H Q=>∃a k v,x=.ref a∧y=.int k∧cH K H a [v]∧0≤k∧k≤100000∧∀p H',am H H'→cH K H' p (List.replicate k.toNat v)→Q (.ref p) H'
theorem uY:fY X (binaryOp .Mult) (sU X.K):=by
  intro pins s σ H x y v u Q I rx ry h
  obtain⟨a,k,z,rfl,rfl,ha,k0,k1,q⟩:=h
  cases rx
  obtain⟨t,rfl⟩:=ry
  obtain⟨its,r,p,hz⟩:=I.tuple ha
  obtain⟨uz,rfl,rz⟩:=i3 r
  obtain⟨⟨cls,dd,data,sl⟩,ho,hc,n,hd⟩:=id p
  simp only at hc hd
  subst hc hd
  refine wpAny_binaryOp_repeat_ref (T:="tuple") (U:="int") (by decide) ⟨_,ho,rfl⟩ (fun s'=>PySem.typeIs_int s' k t) qc F.fills_int_mul F.slot_int_rmul x8 F.slot_int_index.lookup (call_meets F.slot_int_rmul (PySem.typeIs_int s k t) F.entry_int_rmul (F.args_int_rmul_2 _ _) (vA k t a #[uz] n dd sl) ⟨ho,rfl,⟨_,ho,rfl⟩,?_⟩)
  have new:∀m:Nat,m=k.toNat→EP X pins σ Q (.ref s.heap.objs.size) {s with heap:=s.heap.push {cls:=.type "tuple",data:=.seq (List.replicate m uz).toArray},toks:=s.toks}:=fun m hm=>by
    have hf:H s.heap.objs.size=none:=I.hok.fresh (Nat.le_refl _)
    have vv:∀j:Nat,aE (List.replicate j z) (List.replicate j uz):=fun j=>by
      induction j with
      | zero=>exact .nil
      | succ j ih=>exact .cons rz ih
    refine⟨.ref s.heap.objs.size,_,I.laid (t':=s.toks) (o:=.tup (List.replicate m z)) (fun b ob q=>Heap.get?_push_of_some _ q) (Nat.le_refl _) ⟨by rw [List.length_replicate,sizeLine_eq];lia,_,vv m,jC.new _ _⟩,rfl,q _ _ (am.new hf) (cH.of (by rw [au,hm]))⟩
  rcases(by lia:k=0∨k=1∨2≤k) with e | e | e
  · subst e
    exact call_meets F.slot_tuple_mul ⟨_,ho,rfl⟩ F.entry_tuple_mul (F.args_tuple_mul_2 _ _) (uF a uz n t dd sl) ⟨ho,new 0 rfl⟩
  · subst e
    exact call_meets F.slot_tuple_mul ⟨_,ho,rfl⟩ F.entry_tuple_mul (F.args_tuple_mul_2 _ _) (uG a uz n t dd sl) ⟨ho,⟨.ref a,H,I,rfl,q a H (am.refl H) ha⟩⟩
  · exact call_meets F.slot_tuple_mul ⟨_,ho,rfl⟩ F.entry_tuple_mul (F.args_tuple_mul_2 _ _) (xg a uz n k t dd sl e k1) ⟨ho,new _ rfl⟩
end
end L2
namespace L2
open PySem PySem.Spec PyProof.Rows
section
variable{prog:Program}{w:World}{A:Around}{E:Value→Shared→Prop}{s:Shared}
end
section
variable{X:Cx}{a:Expr}{ta:TA}{p p2 p3 pos pos2 pos3:Pos}
end
end L2
namespace L2
open PySem PySem.Spec PyProof.Rows
theorem p4(l:Addr)(xs:Array Value):
    Meets (Builtin.«enumerate.__new__» ⟨[.type "enumerate",.ref l],[]⟩) (fun _ R s=>s.heap.IsTuple l xs∧R (.ok (.ret (.ref (s.heap.objs.size+1)))) {s with heap:=(s.heap.push {cls:=.type "tuple_iterator",data:=.fields #[.ref l,.int 0 0]}).push {cls:=.type "enumerate",data:=.fields #[.none,.bool false,.ref s.heap.objs.size,rawInt 0,.none,.none]}}):=
  .of_wp fun prog w A R s h=>by
    obtain⟨hp,g,d,tk,os⟩:=s;obtain⟨ht,h⟩:=h;have a1:=sub_enumerate
    have T1:Heap.IsTuple (Shared.heap ⟨hp,g,d,tk,os⟩) l xs:=ht
    obtain⟨⟨cls,dd,data,sl⟩,ho,hc,n,hd⟩:=id ht
    simp only at hc hd
    subst hc hd
    wp_walk using wpAny_loadPart' ho
    refine wpAny_stack_any fun st=>wpAny_pure ?_
    split
    · rename_i c _ _ _ _ _
      cases (c==Value.type "enumerate")
      · wp_walk using wpAny_loadPart' ho,wpAny_pyIter_tuple T1
        refine⟨_,rfl,?_⟩
        simp only [Heap.size_push]
        exact h
      · wp_walk using wpAny_loadPart' ho,wpAny_pyIter_tuple T1
        refine⟨_,rfl,?_⟩
        simp only [Heap.size_push]
        exact h
    · wp_walk using wpAny_loadPart' ho,wpAny_pyIter_tuple T1
      refine⟨_,rfl,?_⟩
      simp only [Heap.size_push]
      exact h
section
variable{prog:Program}{w:World}{A:Around}{E:Value→Shared→Prop}{s:Shared}
theorem nY{l:Addr}{xs:Array Value}{Q:Value→Shared→Prop}(t1:s.heap.IsTuple l xs)(h:∀g,pd (s.heap.objs.size+1) s.heap.objs.size l 0 g→(∀c o,s.heap.get? c=some o→g.get? c=some o)→Q (.ref (s.heap.objs.size+1)) {s with heap:=g}):wpAny (model prog w) A (call (.type "enumerate") [.ref l]) Q E s:=by
  refine callType_new F.called_enumerate (by decide) (F.typeCall_enumerate_1 _) (F.newCall_enumerate_1 _) (fun obj=>F.args_object_init_2 obj _) F.entry_enumerate_new (p4 l xs) ⟨t1,?_⟩
  have g2:((s.heap.push {cls:=.type "tuple_iterator",data:=.fields #[.ref l,.int 0 0]}).push {cls:=.type "enumerate",data:=.fields #[.none,.bool false,.ref s.heap.objs.size,rawInt 0,.none,.none]}).get? (s.heap.objs.size+1)=some {cls:=.type "enumerate",data:=.fields #[.none,.bool false,.ref s.heap.objs.size,rawInt 0,.none,.none]}:=by
    have e:s.heap.objs.size+1=(s.heap.push {cls:=.type "tuple_iterator",data:=.fields #[.ref l,.int 0 0]}).objs.size:=by simp only [Heap.size_push]
    rw [e];exact Heap.get?_push_size _ rfl
  exact⟨⟨_,g2,rfl⟩,h _ ⟨⟨.none,g2⟩,⟨_,Heap.get?_push_of_some _ (Heap.get?_push_size _ rfl),rfl,rfl⟩⟩ fun c o x=>Heap.get?_push_of_some _ (Heap.get?_push_of_some _ x)⟩
end
theorem fD:PySem.bootBuiltins "enumerate"=some (.type "enumerate"):=by decide+kernel
def As(K:PySem.W.Frag)(ta:TA):TI:=fun σ H R=>ta σ H fun vs H1=>∃a,vs=[.ref a]∧(∃xs,cH K H1 a xs)∧R (wG K a) H1
def Ar(K:PySem.W.Frag)(ta:TA):TI:=fun σ H R=>ta σ H fun vs H1=>∃a,vs=[.ref a]∧(∃xs,fx K H1 a xs)∧R (wF K a) H1
section
variable{X:Cx}{K:PySem.W.Frag}{es:List Expr}{k0:Nat}{tp:Pos}{a:Expr}{ta:TA}{p pos:Pos}
theorem su(hK:X.K=K)(hg:Gl X "enumerate")(hm:X.mg "enumerate"=none)(ha:PA X [a] ta)(hs:starEach [a] X.env=[(false,eval a X.env)]:=by rfl):PI X (.Tuple es k0 tp) (.Call (.Name "enumerate" p) [a] [] pos) (As K ta):=by
  intro pins s σ H R I h
  subst hK
  refine Call_ (jZ I hg hm fD (PyProof.Rows.callWith_type1 (cv (ha pos pins s σ H _ I h) fun us s1 ⟨vs,H1,I1,r1,q1⟩=>?_) hs rfl))
  obtain⟨a,e,⟨xs,qx⟩,q⟩:=q1
  subst e
  obtain⟨u,rfl,ru⟩:=i3 r1
  cases ru
  obtain⟨i1,v1,p1,_⟩:=I1.tuple qx
  refine nY p1 fun g st hk=>?_
  obtain⟨⟨old,he⟩,hit⟩:=id st
  refine gh he ?_
  have I2:ao X pins σ H1 {s1 with heap:=g,toks:=s1.toks}:=I1.kept (t':=s1.toks) fun b o e=>hk b o e
  refine⟨s1.heap.objs.size+1,[s1.heap.objs.size+1,s1.heap.objs.size],_,_,H1,rfl,I2,oO a (show((s1.heap.objs.size+1:Nat)≠s1.heap.objs.size) by lia),st,fun c hc=>?_,q⟩
  have le:s1.heap.objs.size≤c:=by
    simp only [List.mem_cons,List.not_mem_nil,or_false] at hc
    rcases hc with rfl | rfl
    · exact Nat.le_add_right _ 1
    · exact Nat.le_refl _
  exact I1.fpOk (H':=H1) le (I1.hok.fresh le)
theorem sr(hK:X.K=K)(hg:Gl X "enumerate")(hm:X.mg "enumerate"=none)(ha:PA X [a] ta)(hs:starEach [a] X.env=[(false,eval a X.env)]:=by rfl):PI X (.Tuple es k0 tp) (.Call (.Name "enumerate" p) [a] [] pos) (Ar K ta):=by
  intro pins s σ H R I h
  subst hK
  refine Call_ (jZ I hg hm fD (PyProof.Rows.callWith_type1 (cv (ha pos pins s σ H _ I h) fun us s1 ⟨vs,H1,I1,r1,q1⟩=>?_) hs rfl))
  obtain⟨a,e,⟨xs,qx⟩,q⟩:=q1
  subst e
  obtain⟨u,rfl,ru⟩:=i3 r1
  cases ru
  obtain⟨i1,v1,p1,_⟩:=I1.list qx
  refine call_enumerate_list p1.isList fun g he hit hsz hk=>?_
  refine gh he ?_
  have I2:ao X pins σ H1 {s1 with heap:=g,toks:=s1.toks}:=I1.kept (t':=s1.toks) fun b o e=>hk b o e
  refine⟨s1.heap.objs.size+1,[s1.heap.objs.size+1,s1.heap.objs.size],_,_,H1,rfl,I2,oM a (show((s1.heap.objs.size+1:Nat)≠s1.heap.objs.size) by lia),⟨⟨_,he⟩,hit⟩,fun c hc=>?_,q⟩
  have le:s1.heap.objs.size≤c:=by
    simp only [List.mem_cons,List.not_mem_nil,or_false] at hc
    rcases hc with rfl | rfl
    · exact Nat.le_add_right _ 1
    · exact Nat.le_refl _
  exact I1.fpOk (H':=H1) le (I1.hok.fresh le)
end
end L2
namespace L2
open PySem PySem.Spec PyProof.Rows
section
variable{prog:Program}{w:World}{A:Around}{E:Value→Shared→Prop}{s:Shared}
end
section
variable{prog:Program}{w:World}{A:Around}{E:Value→Shared→Prop}{s:Shared}
end
section
variable{prog:Program}{w:World}{A:Around}{E:Value→Shared→Prop}{s:Shared}
end
end L2
namespace L2
open PySem PySem.Spec PyProof.Rows
theorem oD{X:Cx}{ix:Nat}{nm:Str}{posn poss:Pos}{elt iter tg:Expr}{ifs:List Expr}{scope:Scope}{pos:Pos}{wi:TI}{g:TG}{tc:TT}{te:TE}(sc0:Scope)(N0:List Str)(cp:List (Nat × Str))(tgN:List Str)
    (hc:X.calm=true)(hsc:X.env.scope=sc0)(hN0:X.N=N0)(hi:PI X tg iter wi)
    (hg:∀C s0 H0 fp,PG (aA X scope cp tgN C s0 H0 fp) tg g)
    (ht:∀C s0 H0 fp,qy (aA X scope cp tgN C s0 H0 fp) ifs tc)
    (he:∀C s0 H0 fp,PE (aA X scope cp tgN C s0 H0 fp) elt te)
    (hk:scope.kind=.function)(hcell:∀y∈scope.names,y.2≠.cell)(hnames:∀y∈scope.names,y.2=.local→scope.names.lookup y.1=some .local)
    (hfr:∀y∈scope.names,y.2=.free→scope.names.lookup y.1=some .free∧sc0.names.lookup y.1=some .cell)
    (hcp:∀p∈cp,N0[p.1]?=some p.2)(hcq:∀p∈cp,sc0.names.lookup p.2=some .cell∧scope.names.lookup p.2=some .free)
    (hNd:X.N.Nodup)(hix:X.N[ix]?=some nm)(hlc:X.env.scope.names.lookup nm=some .local)(hsw:swapsWith (.ListComp elt [⟨tg,iter,ifs,0⟩] scope pos) (some (.Name nm posn)) poss.line X.env=pure true)
    (hs:∀x,foldedSetIterable iter X.env x=pure x:=by intro _;rfl):
    PS X (.Assign [.Name nm posn] (.ListComp elt [⟨tg,iter,ifs,0⟩] scope pos) poss) (yf (pM cp tgN.length wi g tc te) (rk ix)):=by
  intro pins s σ H D0 I h
  let Q:VK:=fun x H1=>D0.nx (σ.set ix (some x)) H1
  have h:pM cp tgN.length wi g tc te σ H Q:=h
  have hkind:∀x,X.env.kindOf x=sc0.names.lookup x:=fun x=>by unfold Env.kindOf;rw [hsc]
  have hfree:∀y∈scope.names,y.2=.free→∃c,X.env.cells.lookup y.1=some c:=fun y hy e=>I.ok.has y.1 (.inl (by rw [hkind];exact(hfr y hy e).2))
  rw [exec_Assign_Name_used _ _ _ _ hsw]
  refine wpAny_bind (wpAny_standAt (wpAny_bind ?_))
  unfold evalThenUse
  refine wpAny_bind ?_
  refine wpAny_comprehension_free (use:=some (assign (.Name nm posn) X.env)) rfl hs (jI hfree) hk hnames (wpAny_mono (hi pins s σ H _ I h.go) (fun xv s₁ h₁=>wpAny_mono h₁ (fun itv s₂ h₂=>?_) fun _ _ e=>e) fun _ _ e=>e)
  obtain⟨it,fp,tn,J,H2,rfl,I2,T,st2,f2,hq⟩:=h₂
  refine wpAny_newObj_type ?_
  have hlF:H2 s₂.heap.objs.size=none:=I2.hok.fresh (Nat.le_refl _)
  have I3:ao X pins σ (a_ H2 s₂.heap.objs.size (.lst [])) {s₂ with heap:=s₂.heap.push {cls:=.type "list",data:=.seq ([]:List Value).toArray}}:=I2.lnew (t':=s₂.toks) .nil (Nat.zero_le _)
  obtain⟨W,⟨m0,w0⟩,turn⟩:=hq _ hlF
  have f3:∀b∈fp,gF X pins (a_ H2 s₂.heap.objs.size (.lst [])) b:=fun b hb=>by
    obtain⟨f0,fr⟩:=f2 b hb
    obtain⟨o,ho,_⟩:=T.obj _ _ st2 b hb
    exact⟨by rw [aC (Nat.ne_of_lt (Heap.lt_size ho))];exact f0,fr⟩
  have st3:tn 0 (s₂.heap.push {cls:=.type "list",data:=.seq ([]:List Value).toArray}):=T.keep _ _ _ st2 fun b _ o e=>Heap.get?_push_of_some _ e
  generalize hD:s₂.heap.objs.size=D at*
  generalize hs3:({s₂ with heap:=s₂.heap.push {cls:=.type "list",data:=.seq ([]:List Value).toArray}}:Shared)=s₃ at*
  have hst3:tn 0 s₃.heap:=by rw [←hs3];exact st3
  refine wpAny_newFunctionEnv hcell (by intro y hy;simp at hy) (fun h₁ hns₁ hsb₁=>?_) hk
  generalize hC:s₃.heap.objs.size=C at*
  have old:∀b o,s₃.heap.get? b=some o→h₁.get? b=some o:=fun b o e=>hsb₁.extBut b o (by rw [←hC];exact Nat.ne_of_lt (Heap.lt_size e)) (Heap.get?_push_of_some _ e)
  have nC:∀b o,s₃.heap.get? b=some o→b≠C:=fun b o e=>by rw [←hC];exact Nat.ne_of_lt (Heap.lt_size e)
  have hHC:(a_ H2 D (.lst [])) C=none:=I3.hok.fresh (by rw [hC];exact Nat.le_refl _)
  have clS:∀x c,(fq X.env scope.names []).lookup x=some c→X.env.cells.lookup x=some c:=fun x c e=>gQ _ _ x c hfree (fun _ _ z=>by simp at z) e
  have clH:∀x,(∃y∈scope.names,y.1=x∧y.2=.free)→∃c,(fq X.env scope.names []).lookup x=some c:=fun x e=>jH _ _ x (.inl e)
  have ok':(aA X scope cp tgN C s₃ (a_ H2 D (.lst [])) fp).Ok:=by
    refine⟨I.ok.mod,hk,I.ok.glob,I.ok.blt,by rw [←hC];exact Nat.le_refl _,fun x y c e1 e2=>I.ok.inj x y c (clS _ _ e1) (clS _ _ e2),fun x e=>clH x (cG hcell e),fun x c e1 e2=>?_,I.ok.hd,I.ok.frames,.inl rfl,fun b hb=>?_,fun b o e=>I3.bs b o e,?_,fun b o e hb=>?_,fun b hb z=>?_,I3.stack,fun b hb=>I3.stkFree b hb⟩
    · exfalso
      have e1':scope.names.lookup x=some .local:=by simpa [aA] using e1
      have e2':=clS x c e2
      obtain⟨c',hc'⟩:∃y∈scope.names,y.1=x∧y.2=.free:=by
        by_cases q:∃y∈scope.names,y.1=x∧y.2=.free
        · exact q
        · exfalso
          have:∀(names:List (Str × NameKind)) (cs:List (Str × Addr)),(¬∃y∈names,y.1=x∧y.2=.free)→cs.lookup x=none→(fq X.env names cs).lookup x=none:=by
            intro names
            induction names with
            | nil=>intro cs _ h;exact h
            | cons y r ih=>
              intro cs hn hcs
              obtain⟨n,k⟩:=y
              refine ih _ (fun⟨y,hy,z⟩=>hn ⟨y,List.mem_cons_of_mem _ hy,z⟩) ?_
              by_cases hk:(k==NameKind.free)=true
              · rw [if_pos hk,List.lookup_cons]
                cases hx:x==n with
                | true=>exact absurd ⟨(n,k),List.mem_cons_self,(by simpa using hx:x=n).symm,by simpa using hk⟩ hn
                | false=>exact hcs
              · rw [if_neg hk];exact hcs
          have z:=this scope.names [] q rfl
          have e2'':(fq X.env scope.names []).lookup x=some c:=e2
          rw [z] at e2'';cases e2''
      have z:=(hfr c' hc'.1 hc'.2.2).1
      rw [hc'.2.1,e1'] at z;cases z
    · obtain⟨f0,f1,f4,f5,f6,f7⟩:=f3 b hb
      obtain⟨o,ho,_⟩:=T.obj _ _ hst3 b hb
      exact⟨nC b o ho,fun x c e=>f6 x c (clS x c e)⟩
    · exact Nat.le_trans I.ok.bsz I3.sz
    · obtain⟨f0,f1,f4,f5,f6,f7⟩:=f3 b hb
      rcases f5 with z | z
      · exact I.ok.noex b o e z
      · have:=(I.ok.bs b o e).1
        exact absurd (Nat.lt_of_lt_of_le (Heap.lt_size this) z) (Nat.lt_irrefl _)
    · obtain⟨f0,f1,f4,f5,f6,f7⟩:=f3 b hb
      rcases List.mem_cons.mp (I3.stkSub b z) with z | z
      · exact f1 z
      · exact f4 z
  have I4:ao (aA X scope cp tgN C s₃ (a_ H2 D (.lst [])) fp) [] (eN cp tgN.length σ) (a_ H2 D (.lst [])) {s₃ with heap:=h₁,toks:=s₃.toks+([]:List (Str × Value)).length}:=by
    refine⟨ok',rfl,I3.bare,Un.kept old,⟨_,hns₁,fun i x v e1 e2 e3=>?_⟩,fun x c e=>?_,hHC,fun x c e=>I3.freeC x c (clS x c e),fun p hp=>by simp [aA] at hp,I3.hok.kept old,by simp [eN,aA]⟩
    · have hlt:i < cp.length:=by
        by_cases q:i < cp.length
        · exact q
        · exfalso
          unfold eN at e2
          rw [List.getElem?_append_right (by simp;lia)] at e2
          rw [List.getElem?_replicate] at e2
          split at e2<;>cases e2
      have e1':(cp.map (·.2))[i]?=some x:=by
        have e1'':(cp.map (·.2)++tgN)[i]?=some x:=e1
        rwa [List.getElem?_append_left (by simp;exact hlt)] at e1''
      have e2':(cp.map (fun p=>(σ[p.1]?).join))[i]?=some (some v):=by
        unfold eN at e2
        rwa [List.getElem?_append_left (by simp;exact hlt)] at e2
      rw [List.getElem?_map,List.getElem?_eq_getElem hlt] at e1' e2'
      have ex:(cp[i]).2=x:=by simpa using e1'
      have ev:(σ[(cp[i]).1]?).join=some v:=by simpa using e2'
      have ev':σ[(cp[i]).1]?=some (some v):=by
        cases q:σ[(cp[i]).1]? with
        | none=>rw [q] at ev;cases ev
        | some z=>rw [q] at ev;simp only [Option.join_some] at ev;rw [ev]
      have hN:=hcp cp[i] (List.getElem_mem hlt)
      rw [←hN0] at hN
      obtain⟨hcl,hcf⟩:=hcq cp[i] (List.getElem_mem hlt)
      rw [ex] at hN hcl hcf
      obtain⟨m,hn,hl⟩:=I3.loc
      obtain⟨u,r,l⟩:=hl _ x v hN ev' (.inr (.inl (by rw [hsc];exact hcl)))
      refine⟨u,r,.inr ?_⟩
      rcases l with ⟨k1,_⟩ | ⟨k1,c,hcc,o,ho,hd⟩
      · rw [hkind,hcl] at k1;cases k1
      · have e3':(relabel scope X.env).names.lookup x=some .local∨(relabel scope X.env).names.lookup x=some .cell∨(relabel scope X.env).names.lookup x=some .free:=e3
        have nl:(relabel scope X.env).names.lookup x=some .cell∨(relabel scope X.env).names.lookup x=some .free:=by
          rcases e3' with z | z | z
          · exact absurd z (di hcf)
          · exact .inl z
          · exact .inr z
        obtain⟨c',hc'⟩:=clH x (cG hcell nl)
        have:=clS x c' hc'
        rw [hcc] at this;cases this
        exact⟨nl,c,hc',o,old c o ho,hd⟩
    · obtain⟨v,o,ho,hd⟩:=I3.cell x c (clS x c e)
      exact⟨v,o,old c o ho,hd⟩
  have hst4:tn 0 h₁:=T.keep _ _ _ hst3 fun b _ o e=>old b o e
  have loop:codeAny (model X.prog X.w) X.A (.compLoop (.ListComp elt [⟨tg,iter,ifs,0⟩] scope pos) 0 (.ref it) (.ref D) (compEnvC scope (fq X.env scope.names []) C X.env))
      (compPost (model X.prog X.w) X.A X.xe (some (assign (.Name nm posn) X.env)) (fun _ s'=>wpAny (model X.prog X.w) X.A (pure ()) (fun _ s''=>wpAny (model X.prog X.w) X.A (pure Flow.next) (SP X pins D0) X.xe s'') X.xe s') (.ref D) C) {s₃ with heap:=h₁,toks:=s₃.toks+([]:List (Str × Value)).length}:=by
    refine ia (fun n s'=>∃i σ' H',ao (aA X scope cp tgN C s₃ (a_ H2 D (.lst [])) fp) [] σ' H' s'∧tn i s'.heap∧(∀b∈fp,H' b=none)∧W i n σ' H') ?_ (n0:=m0) ⟨0,_,_,I4,hst4,fun b hb=>(f3 b hb).1,w0⟩
    rintro n s5 ⟨i,σ5,H5,I5,st5,fr5,w5⟩
    have stat:∀{H':Hp},(∀b∈fp,H' b=none)→∀b∈fp,gF (aA X scope cp tgN C s₃ (a_ H2 D (.lst [])) fp) [] H' b:=fun hn b hb=>
      ⟨hn b hb,(ok'.exf b hb).1,ok'.exfs b hb,.inl hb,(ok'.exf b hb).2,fun p hp=>by simp [aA] at hp⟩
    rcases turn i n σ5 H5 w5 with ⟨stop,qn⟩ | ⟨go,N,hN,step⟩
    · refine cv (T.done (aA X scope cp tgN C s₃ (a_ H2 D (.lst [])) fp) rfl rfl rfl hc i [] s5 σ5 H5 (fun _ _=>False) I5 (stat fr5) st5 stop) fun r s6 ⟨hr,I6⟩=>?_
      subst hr
      refine⟨fun _=>?_,fun v z=>by cases z⟩
      obtain⟨m,hn,_⟩:=I6.loc
      have I7:ao X pins σ H5 s6:=by
        have key:∀h':Heap,Heap.SameBut C s6.heap h'→ao X pins σ H5 {s6 with heap:=h'}:=fun h' sb=>by
          have ub:=I6.base
          have kp:∀b u,b≠C→s6.heap.get? b=some u→h'.get? b=some u:=fun b u ne e=>sb.extBut b u ne e
          have nit:∀b u,H5 b=some u→b≠C:=fun b u e z=>by
            have:=I6.free
            rw [z] at e
            rw [show H5 C=none from this] at e;cases e
          refine I3.call' (s':={s6 with heap:=h'}) (ch:=fp) I6.os ⟨fun b o e n hb hx=>kp b o (nC b o e) (ub.keep b o e n hb hx),fun b o e n hb hx=>?_,ub.free,fun b o e hx=>?_,ub.tups,ub.frzs,ub.tbls⟩ (fun b u e=>?_) I6.bare (fun b hb=>?_)
          · obtain⟨sl,q⟩:=ub.slot b o e n hb hx
            exact⟨sl,kp b _ (nC b o e) q⟩
          · obtain⟨o',q⟩:=ub.there b o e hx
            exact⟨o',kp b _ (nC b o e) q⟩
          · refine(I6.hok b u e).stay (fun c v hc q=>kp c v ?_ q) (fun _ q=>q) fun _ _ q=>q
            rcases hc with z | z
            · rw [z];exact nit b u e
            · exact nit c _ z
          · obtain⟨f0,f1,f4,f5,f6,f7⟩:=f3 b hb
            exact⟨f5,f1,f6,f7⟩
        exact key s6.heap ⟨rfl,fun _ _=>rfl⟩
      have fC:gF X pins H5 C:=I3.fpOk (by rw [hC];exact Nat.le_refl _) I6.free
      show wpAny (model X.prog X.w) X.A (assign (.Name nm posn) X.env (.ref D)) _ X.xe s6
      refine wpAny_assign_Name (lu (v:=.ref D) I7 hNd hix (Or.inl hlc) rfl (fun s' I' hsb=>?_) (Or.inr hlc))
      obtain⟨a,sb,ha⟩:=hsb
      have nCa:C≠a:=by
        rcases ha with z | z
        · rw [z];exact fC.2.1
        · exact fun e=>fC.2.2.2.2.1 _ _ z e.symm
      obtain⟨oN,esN,epN,hoN,rN⟩:=hn
      refine⟨m,⟨oN,esN,epN,(sb.2 C nCa).trans hoN,rN⟩,fun h' sb'=>wpAny_pure (wpAny_pure ?_)⟩
      have I8:ao X pins (σ.set ix (some (.ref D))) H5 {s' with heap:=h',toks:=s'.toks}:=I'.turnedL (t':=s'.toks) (fp:=[C]) (fun b hb=>by rw [List.mem_singleton.mp hb];exact fC) fun b o nb e=>sb'.extBut b o (by simpa using nb) e
      exact⟨_,H5,I8,qn⟩
    · refine cv (T.item (aA X scope cp tgN C s₃ (a_ H2 D (.lst [])) fp) rfl rfl rfl hc i [] s5 σ5 H5 (fun _ _=>False) I5 (stat fr5) st5 go) fun r s6 ⟨u,hr,h6⟩=>?_
      subst hr
      refine⟨fun z=>(by cases z),fun v z=>?_⟩
      cases z
      refine cv h6 fun _ s7 ⟨x,H7,I7,r7,y7,st7,fr7⟩=>?_
      have I7':=I7.pinned (stat fr7) (T.obj _ _ st7)
      have again:∀{σ8:L2.St} {H8:Hp} {s8:Shared},ao (aA X scope cp tgN C s₃ (a_ H2 D (.lst [])) fp) ([]++i4 fp s7.heap) σ8 H8 s8→N σ8 H8→∃m,m < n∧∃i σ' H',ao (aA X scope cp tgN C s₃ (a_ H2 D (.lst [])) fp) [] σ' H' s8∧tn i s8.heap∧(∀b∈fp,H' b=none)∧W i m σ' H':=fun{σ8 H8 s8} I8 n8=>by
        obtain⟨m',hm,w8⟩:=hN σ8 H8 n8
        refine⟨m',hm,i+1,σ8,H8,I8.unpinned,T.keep _ _ _ st7 fun b hb o e=>(I8.pin (b,o) (List.mem_append_right _ (List.mem_append_right _ (cS hb e)))).1,fun b hb=>?_,w8⟩
        obtain⟨o,e,d⟩:=T.obj _ _ st7 b hb
        exact(I8.pin (b,o) (List.mem_append_right _ (List.mem_append_right _ (cS hb e)))).2.1
      refine cv (hg C s₃ (a_ H2 D (.lst [])) fp _ s7 σ5 H7 x u _ I7' r7 (step x H7 y7)) fun _ s8 ⟨σ8,H8,I8,q8⟩=>?_
      refine cv (ht C s₃ (a_ H2 D (.lst [])) fp _ s8 σ8 H8 _ I8 q8) fun ok s9 ⟨H9,I9,q9⟩=>?_
      cases ok with
      | false=>
        rw [if_neg Bool.false_ne_true] at q9 ⊢
        exact again I9 q9
      | true=>
        rw [if_pos rfl] at q9 ⊢
        refine cv (he C s₃ (a_ H2 D (.lst [])) fp _ s9 σ8 H9 _ I9 q9) fun v s10 ⟨xv,H10,I10,r10,ys,hl,hz,n10⟩=>?_
        refine cv (iZ _ s10 σ8 H10 (.ref D) [xv] (.ref D) [v] (fun _ H=>N σ8 H) I10 rfl (.cons r10 .nil) ⟨D,ys,xv,rfl,rfl,hl,hz,n10⟩) fun _ s11 ⟨_,H11,I11,_,q11⟩=>?_
        exact again I11 q11
  exact codeAny_compStart_list loop (T.self X.A 0 _ _ _ hst4 loop)
end L2
namespace L2
open PySem PySem.Spec PyProof.Rows
mutual
def DA(K:PySem.W.Frag)(F:Hp):PyData→V→Prop
  | .none,v=>v=.non
  | .bool b,v=>v=.bl b
  | .int i,v=>v=.int i
  | .str x,v=>v=.str x
  | .tuple ds,v=>∃a xs,v=.ref a∧cH K F a xs∧ax K F ds xs
  | .list ds,v=>∃a xs,v=.ref a∧fx K F a xs∧ax K F ds xs
  | .dict kvs,v=>∃(a:Addr) (m:List (Int × Int)),v=.ref a∧F a=some (.dK (m.map fun p=>(Sum.inl p.1,V.int p.2)))∧kvs=m.map fun p=>(PyData.int p.1,PyData.int p.2)
def ax(K:PySem.W.Frag)(F:Hp):List PyData→List V→Prop
  | [],xs=>xs=[]
  | d::ds,xs=>∃x r,xs=x::r∧DA K F d x∧ax K F ds r
end
mutual
theorem DA.mono{K:PySem.W.Frag}{F F':Hp}(h:am F F'):∀{d:PyData} {v:V},DA K F d v→DA K F' d v
  | .none,_,q=>by simp only [DA] at q ⊢;exact q
  | .bool b,_,q=>by simp only [DA] at q ⊢;exact q
  | .int i,_,q=>by simp only [DA] at q ⊢;exact q
  | .str x,_,q=>by simp only [DA] at q ⊢;exact q
  | .tuple ds,_,q=>by
    simp only [DA] at q ⊢
    obtain⟨a,xs,e,s,r⟩:=q
    exact⟨a,xs,e,h.tup s,ax.mono h r⟩
  | .list ds,_,q=>by
    simp only [DA] at q ⊢
    obtain⟨a,xs,e,s,r⟩:=q
    exact⟨a,xs,e,h.seq s,ax.mono h r⟩
  | .dict _,_,q=>by
    simp only [DA] at q ⊢
    obtain⟨a,m,e,s,k⟩:=q
    exact⟨a,m,e,h _ _ s,k⟩
theorem ax.mono{K:PySem.W.Frag}{F F':Hp}(h:am F F'):∀{ds:List PyData} {xs:List V},ax K F ds xs→ax K F' ds xs
  | [],_,q=>by simp only [ax] at q ⊢;exact q
  | d::ds,_,q=>by
    simp only [ax] at q ⊢
    obtain⟨x,r,e,a,b⟩:=q
    exact⟨x,r,e,DA.mono h a,ax.mono h b⟩
end
section
variable{K:PySem.W.Frag}{F:Hp}
theorem ax.len:∀{ds:List PyData} {xs:List V},ax K F ds xs→ds.length=xs.length
  | [],_,q=>by simp only [ax] at q;subst q;rfl
  | d::ds,_,q=>by
    simp only [ax] at q
    obtain⟨x,r,e,a,b⟩:=q
    subst e
    simp [ax.len b]
theorem ax.get:∀{ds:List PyData} {xs:List V} {i:Nat} {d:PyData},ax K F ds xs→ds[i]?=some d→∃v,xs[i]?=some v∧DA K F d v
  | [],_,_,_,_,h=>by simp at h
  | d::ds,_,i,d',q,h=>by
    simp only [ax] at q
    obtain⟨x,r,e,a,b⟩:=q
    subst e
    cases i with
    | zero=>simp at h;subst h;exact⟨x,rfl,a⟩
    | succ i=>
      obtain⟨v,h1,h2⟩:=ax.get (i:=i) b (by simpa using h)
      exact⟨v,by simpa using h1,h2⟩
theorem ax.append:∀{ds es:List PyData} {xs ys:List V},ax K F ds xs→ax K F es ys→ax K F (ds++es) (xs++ys)
  | [],_,_,_,q,s=>by simp only [ax] at q;subst q;simpa using s
  | d::ds,es,_,ys,q,s=>by
    simp only [ax] at q
    obtain⟨x,r,e,a,b⟩:=q
    subst e
    simp only [List.cons_append,ax]
    exact⟨x,_,rfl,a,ax.append b s⟩
theorem ax.one{d:PyData}{v:V}(h:DA K F d v):ax K F [d] [v]:=by simp only [ax];exact⟨_,_,rfl,h,rfl⟩
theorem ax.nil:ax K F [] []:=by simp only [ax]
theorem ax.cons{d:PyData}{v:V}{ds:List PyData}{vs:List V}(h:DA K F d v)(r:ax K F ds vs):ax K F (d::ds) (v::vs):=by simp only [ax];exact⟨_,_,rfl,h,r⟩
theorem ax.drop:∀{ds:List PyData} {xs:List V} (n:Nat),ax K F ds xs→ax K F (ds.drop n) (xs.drop n)
  | _,_,0,q=>q
  | [],_,n+1,q=>by simp only [ax] at q;subst q;exact ax.nil
  | d::ds,_,n+1,q=>by
    simp only [ax] at q
    obtain⟨x,r,e,a,b⟩:=q
    subst e
    simpa using ax.drop n b
theorem ax.take:∀{ds:List PyData} {xs:List V} (n:Nat),ax K F ds xs→ax K F (ds.take n) (xs.take n)
  | _,_,0,q=>by simpa using ax.nil
  | [],_,n+1,q=>by simp only [ax] at q;subst q;exact ax.nil
  | d::ds,_,n+1,q=>by
    simp only [ax] at q
    obtain⟨x,r,e,a,b⟩:=q
    subst e
    simpa using ax.cons a (ax.take n b)
theorem ax.erase:∀{ds:List PyData} {xs:List V} (n:Nat),ax K F ds xs→ax K F (ds.eraseIdx n) (xs.eraseIdx n)
  | [],_,_,q=>by simp only [ax] at q;subst q;exact ax.nil
  | e::ds,_,n,q=>by
    simp only [ax] at q
    obtain⟨x,r,e,a,b⟩:=q
    subst e
    cases n with
    | zero=>exact b
    | succ n=>exact ax.cons a (ax.erase n b)
theorem ax.ints:∀{ns:List Int} {xs:List V},ax K F (ns.map .int) xs↔ xs=ns.map V.int
  | [],xs=>by simp [ax]
  | n::ns,xs=>by
    simp only [List.map_cons,ax,DA]
    constructor
    · rintro⟨x,r,e,rfl,q⟩;rw [e,ax.ints.mp q]
    · rintro rfl;exact⟨_,_,rfl,rfl,ax.ints.mpr rfl⟩
theorem cf{i:Int}{v:V}:DA K F (.int i) v↔ v=.int i:=by simp only [DA]
theorem dY{b:Bool}{v:V}:DA K F (.bool b) v↔ v=.bl b:=by simp only [DA]
theorem pb{v:V}:DA K F .none v↔ v=.non:=by simp only [DA]
theorem wR{x:Str}{v:V}:DA K F (.str x) v↔ v=.str x:=by simp only [DA]
theorem cO{ds:List PyData}{v:V}:DA K F (.tuple ds) v↔ ∃a xs,v=.ref a∧cH K F a xs∧ax K F ds xs:=by simp only [DA]
theorem ey{ds:List PyData}{v:V}:DA K F (.list ds) v↔ ∃a xs,v=.ref a∧fx K F a xs∧ax K F ds xs:=by simp only [DA]
end
inductive Sv where
  | d (x:PyData)
  | l (xs:List PyData)
  /-- a list of lists that nobody else holds -/
  | n (xss:List (List PyData))
abbrev En:=List (Option Sv)
inductive Rv where
  | d (x:PyData)
  | l (xs:List PyData)
  | s (i:Nat)
def Fp(σ:L2.St)(e:En)(H:Hp)(i:Nat)(a:Addr):Prop:=(∃xs:List PyData,e[i]?=some (some (Sv.l xs))∧σ[i]?=some (some (.ref a)))∨
  ∃(xss:List (List PyData)) (l:Addr) (bs:List Addr),e[i]?=some (some (Sv.n xss))∧σ[i]?=some (some (.ref l))∧H l=some (.lst (bs.map V.ref))∧(a=l∨a∈bs)
def cN(σ:L2.St)(e:En)(H:Hp)(a:Addr):Prop:=∃i,Fp σ e H i a
structure aQ (K:PySem.W.Frag) (F H:Hp) (σ:L2.St) (e:En):Prop where
  sm:am F H
  len:σ.length=e.length
  dat:∀(i:Nat) (x:PyData),e[i]?=some (some (.d x))→∃v,σ[i]?=some (some v)∧DA K F x v
  own:∀(i:Nat) (xs:List PyData),e[i]?=some (some (.l xs))→∃l vs,σ[i]?=some (some (.ref l))∧F l=none∧H l=some (.lst vs)∧ax K F xs vs
  nst:∀(i:Nat) (xss:List (List PyData)),e[i]?=some (some (.n xss))→∃(l:Addr) (bs:List Addr),σ[i]?=some (some (.ref l))∧F l=none∧H l=some (.lst (bs.map V.ref))∧bs.length=xss.length∧bs.Nodup∧l∉bs∧
    ∀(k:Nat) (b:Addr) (ys:List PyData),bs[k]?=some b→xss[k]?=some ys→F b=none∧∃us,H b=some (.lst us)∧ax K F ys us
  fp:∀(i j:Nat) (a:Addr),Fp σ e H i a→Fp σ e H j a→i=j
theorem aQ.inj{K:PySem.W.Frag}{F H:Hp}{σ:L2.St}{e:En}(R:aQ K F H σ e)(i j:Nat)(xs ys:List PyData)(l:Addr)(h1:e[i]?=some (some (.l xs)))(h2:e[j]?=some (some (.l ys)))(h3:σ[i]?=some (some (.ref l)))(h4:σ[j]?=some (some (.ref l))):i=j:=R.fp i j l (.inl ⟨xs,h1,h3⟩) (.inl ⟨ys,h2,h4⟩)
theorem aQ.fpAt{K:PySem.W.Frag}{F H:Hp}{σ:L2.St}{e:En}(R:aQ K F H σ e){i:Nat}{a:Addr}(h:Fp σ e H i a):F a=none∧∃vs,H a=some (.lst vs):=by
  rcases h with ⟨xs,h1,h2⟩ | ⟨xss,l,bs,h1,h2,h3,h4⟩
  · obtain⟨l,vs,g1,g2,g3,_⟩:=R.own i xs h1
    rw [h2] at g1;cases g1
    exact⟨g2,vs,g3⟩
  · obtain⟨l',bs',g1,g2,g3,g4,g5,g6,g7⟩:=R.nst i xss h1
    rw [h2] at g1;cases g1
    rw [h3] at g3
    have e1:bs=bs':=by
      have:=HO.lst.inj (Option.some.inj g3)
      exact List.map_inj_right (fun _ _ z=>V.ref.inj z) |>.mp this
    subst e1
    rcases h4 with rfl | h4
    · exact⟨g2,_,h3⟩
    · obtain⟨k,hk⟩:=List.getElem?_of_mem h4
      have hk2:k < xss.length:=by rw [←g4];exact(List.getElem?_eq_some_iff.mp hk).1
      obtain⟨c1,us,c2,_⟩:=g7 k a xss[k] hk (List.getElem?_eq_getElem hk2)
      exact⟨c1,us,c2⟩
structure dQ (σ:L2.St) (F H:Hp) (e:En) (F' H':Hp) (e':En):Prop where
  sf:am F F'
  dom:∀a,H' a=none→H a=none
  fr:∀a vs,F a=none→H a=some (.lst vs)→¬cN σ e H a→F' a=none
  lst:∀a vs,H a=some (.lst vs)→∃vs',H' a=some (.lst vs')
  tmp:∀a o,H a=some o→¬cN σ e H a→H' a=some o
  shp:∀i:Nat,(∃xs,e'[i]?=some (some (.l xs)))↔ (∃xs,e[i]?=some (some (.l xs)))
  ow:∀a,cN σ e' H' a→cN σ e H a∨H a=none
theorem dQ.refl(σ:L2.St)(F H:Hp)(e:En):dQ σ F H e F H e:=⟨am.refl _,fun _ h=>h,fun _ _ h _ _=>h,fun _ vs h=>⟨vs,h⟩,fun _ _ h _=>h,fun _=>Iff.rfl,fun _ h=>.inl h⟩
theorem dQ.trans{σ:L2.St}{F H F1 H1 F2 H2:Hp}{e e1 e2:En}(x:dQ σ F H e F1 H1 e1)(y:dQ σ F1 H1 e1 F2 H2 e2):dQ σ F H e F2 H2 e2:=
  ⟨x.sf.trans y.sf,fun a h=>x.dom a (y.dom a h),fun a vs h n no=>let ⟨vs',q⟩:=x.lst a vs n;y.fr a vs' (x.fr a vs h n no) q (fun z=>(x.ow a z).elim no fun z=>by rw [n] at z;cases z),fun a vs h=>let ⟨vs',q⟩:=x.lst a vs h;y.lst a vs' q,
    fun a o h n=>y.tmp a o (x.tmp a o h n) (fun z=>(x.ow a z).elim n fun z=>by rw [h] at z;cases z),fun i=>(y.shp i).trans (x.shp i),fun a h=>(y.ow a h).elim (x.ow a) fun z=>.inr (x.dom a z)⟩
def bN(K:PySem.W.Frag)(σ:L2.St)(H0 F H:Hp)(e:En):Rv→V→Prop
  | .d x,v=>DA K F x v
  | .l xs,v=>∃l vs,v=.ref l∧H0 l=none∧F l=none∧H l=some (.lst vs)∧ax K F xs vs∧¬cN σ e H l
  | .s i,v=>σ[i]?=some (some v)∧∃xs,e[i]?=some (some (.l xs))
section
variable{K:PySem.W.Frag}{σ:L2.St}{H0 F H F' H':Hp}{e e':En}{r:Rv}{v:V}
theorem bN.ext(h:bN K σ H0 F H e r v)(x:dQ σ F H e F' H' e'):bN K σ H0 F' H' e' r v:=by
  cases r with
  | d y=>exact DA.mono x.sf h
  | l xs=>
    obtain⟨l,vs,e1,h1,h2,h3,h4,h5⟩:=h
    exact⟨l,vs,e1,h1,x.fr l _ h2 h3 h5,x.tmp l _ h3 h5,ax.mono x.sf h4,fun z=>(x.ow l z).elim h5 fun z=>by rw [h3] at z;cases z⟩
  | s i=>exact⟨h.1,(x.shp i).mpr h.2⟩
theorem bN.weak{H1:Hp}(h:bN K σ H1 F H e r v)(d:∀a,H1 a=none→H0 a=none):bN K σ H0 F H e r v:=by
  cases r with
  | d y=>exact h
  | l xs=>
    obtain⟨l,vs,e1,h1,r⟩:=h
    exact⟨l,vs,e1,d l h1,r⟩
  | s i=>exact h
theorem aQ.ownH(R:aQ K F H σ e)(a:Addr)(h:cN σ e H a):H a≠none:=by
  obtain⟨i,h⟩:=h
  obtain⟨_,vs,h2⟩:=R.fpAt h
  rw [h2];simp
theorem aQ.freeF(R:aQ K F H σ e){p:Addr}(hp:H p=none):F p=none:=R.sm.free hp
theorem uq(R:aQ K F H σ e)(h:∀l bs,H l=some (.lst bs)→cN σ e H l→H' l=some (.lst bs)){i:Nat}{a:Addr}:Fp σ e H' i a↔ Fp σ e H i a:=by
  have key:∀xss l,e[i]?=some (some (.n xss))→σ[i]?=some (some (.ref l))→H' l=H l:=fun xss l h1 h2=>by
    obtain⟨l',bs,g1,g2,g3,_⟩:=R.nst i xss h1
    rw [h2] at g1;cases g1
    rw [g3]
    exact h l _ g3 ⟨i,.inr ⟨xss,l,bs,h1,h2,g3,.inl rfl⟩⟩
  constructor
  · rintro(h1 | ⟨xss,l,bs,h1,h2,h3,h4⟩)
    · exact .inl h1
    · exact .inr ⟨xss,l,bs,h1,h2,by rw [←key xss l h1 h2];exact h3,h4⟩
  · rintro(h1 | ⟨xss,l,bs,h1,h2,h3,h4⟩)
    · exact .inl h1
    · exact .inr ⟨xss,l,bs,h1,h2,by rw [key xss l h1 h2];exact h3,h4⟩
theorem aQ.keep(R:aQ K F H σ e)(sF:am F F')(sm:am F' H')(hf:∀a,cN σ e H a→F' a=none)(hh:∀a o,cN σ e H a→H a=some o→H' a=some o):aQ K F' H' σ e∧∀a,cN σ e H' a↔ cN σ e H a:=by
  have fs:∀{i a},Fp σ e H' i a↔ Fp σ e H i a:=fun{i a}=>uq R fun l bs h1 h2=>hh l _ h2 h1
  refine⟨⟨sm,R.len,fun i x h=>let ⟨v,h1,h2⟩:=R.dat i x h;⟨v,h1,DA.mono sF h2⟩,fun i xs h=>?_,fun i xss h=>?_,fun i j a h1 h2=>R.fp i j a (fs.mp h1) (fs.mp h2)⟩,fun a=>⟨fun⟨i,h⟩=>⟨i,fs.mp h⟩,fun⟨i,h⟩=>⟨i,fs.mpr h⟩⟩⟩
  · obtain⟨l,vs,h1,h2,h3,h4⟩:=R.own i xs h
    have o:cN σ e H l:=⟨i,.inl ⟨xs,h,h1⟩⟩
    exact⟨l,vs,h1,hf l o,hh l _ o h3,h4.mono sF⟩
  · obtain⟨l,bs,h1,h2,h3,h4,h5,h6,h7⟩:=R.nst i xss h
    have o:cN σ e H l:=⟨i,.inr ⟨xss,l,bs,h,h1,h3,.inl rfl⟩⟩
    refine⟨l,bs,h1,hf l o,hh l _ o h3,h4,h5,h6,fun k b ys g1 g2=>?_⟩
    obtain⟨c1,us,c2,c3⟩:=h7 k b ys g1 g2
    have ob:cN σ e H b:=⟨i,.inr ⟨xss,l,bs,h,h1,h3,.inr (List.mem_of_getElem? g1)⟩⟩
    exact⟨hf b ob,us,hh b _ ob c2,c3.mono sF⟩
theorem aQ.same(R:aQ K F H σ e)(s:am H H'):aQ K F H' σ e∧dQ σ F H e F H' e:=by
  obtain⟨R',o'⟩:=R.keep (am.refl F) (R.sm.trans s) (fun a ⟨i,h⟩=>(R.fpAt h).1) fun a o _ h=>s a o h
  exact⟨R',⟨am.refl _,fun a h=>s.free h,fun _ _ h _ _=>h,fun a vs h=>⟨vs,s _ _ h⟩,fun a o h _=>s a o h,fun _=>Iff.rfl,fun a h=>.inl ((o' a).mp h)⟩⟩
theorem aQ.freeze(R:aQ K F H σ e){p:Addr}{o:HO}(hF:F p=none)(hp:H p=some o)(hn:¬cN σ e H p):aQ K (a_ F p o) H σ e∧am F (a_ F p o):=by
  have sF:am F (a_ F p o):=am.new hF
  refine⟨(R.keep sF (fun b u q=>?_) (fun a ha=>?_) fun _ _ _ h=>h).1,sF⟩
  · by_cases z:b=p
    · subst z;rw [au] at q;cases q;exact hp
    · rw [aC z] at q;exact R.sm _ _ q
  · obtain⟨i,hi⟩:=ha
    have z:a≠p:=fun z=>hn ⟨i,by rw [←z];exact hi⟩
    rw [aC z];exact(R.fpAt hi).1
theorem aQ.notOwn(R:aQ K F H σ e){p:Addr}{o:HO}(hp:H p=some o)(hl:∀vs,o≠.lst vs):¬cN σ e H p:=fun⟨i,h⟩=>by
  obtain⟨_,vs,g⟩:=R.fpAt h
  rw [hp] at g;cases g
  exact hl _ rfl
theorem aQ.newT(R:aQ K F H σ e){p:Addr}{vs:List V}(hp:H p=none):aQ K (a_ F p (.tup vs)) (a_ H p (.tup vs)) σ e∧dQ σ F H e (a_ F p (.tup vs)) (a_ H p (.tup vs)) e:=by
  have hF:=R.freeF hp
  obtain⟨R1,X1⟩:=R.same (am.new hp (o:=.tup vs))
  obtain⟨R2,s2⟩:=R1.freeze (p:=p) hF au (R1.notOwn au (fun _ z=>nomatch z))
  refine⟨R2,⟨s2,X1.dom,fun a ws h n _=>?_,X1.lst,X1.tmp,X1.shp,X1.ow⟩⟩
  have z:a≠p:=fun z=>by rw [z,hp] at n;cases n
  rw [aC z];exact h
theorem aQ.sameOwn(R:aQ K F H σ e)(s:am H H')(a:Addr):cN σ e H' a↔ cN σ e H a:=(R.keep (am.refl F) (R.sm.trans s) (fun a ⟨i,h⟩=>(R.fpAt h).1) fun a o _ h=>s a o h).2 a
theorem aQ.newL(R:aQ K F H σ e){p:Addr}{vs:List V}(hp:H p=none):aQ K F (a_ H p (.lst vs)) σ e∧dQ σ F H e F (a_ H p (.lst vs)) e∧F p=none∧¬cN σ e (a_ H p (.lst vs)) p:=
  ⟨(R.same (am.new hp)).1,(R.same (am.new hp)).2,R.freeF hp,fun z=>R.ownH p ((R.sameOwn (am.new hp) p).mp z) hp⟩
theorem aQ.growT(R:aQ K F H σ e){p:Addr}{xs:List V}(s:am H H')(hp:cH K H' p xs):∃F',aQ K F' H' σ e∧dQ σ F H e F' H' e∧cH K F' p xs:=by
  obtain⟨R1,X1⟩:=R.same s
  rcases hp with hp | hp
  · have key:∀o,H' p=some o→(∀vs,o≠.lst vs)→(∀G:Hp,G p=some o→Rd G p (.tup xs))→∃F',aQ K F' H' σ e∧dQ σ F H e F' H' e∧cH K F' p xs:=by
      intro o ho hl hr
      cases q:F p with
      | some u=>
        have:=R1.sm _ _ q
        rw [ho] at this;cases this
        exact⟨F,R1,X1,.inl (hr F q)⟩
      | none=>
        obtain⟨R2,s2⟩:=R1.freeze q ho (R1.notOwn ho hl)
        refine⟨_,R2,⟨s2,X1.dom,fun a ws h n _=>?_,X1.lst,X1.tmp,X1.shp,X1.ow⟩,.inl (hr _ au)⟩
        have z:a≠p:=fun z=>by rw [z] at n;rw [s _ _ n] at ho;cases ho;exact hl _ rfl
        rw [aC z];exact h
    rcases hp with hp | ⟨ob,hp⟩
    · exact key _ hp (fun _ z=>nomatch z) fun G g=>.inl g
    · exact key _ hp (fun _ z=>nomatch z) fun G g=>.inr ⟨ob,g⟩
  · exact⟨F,R1,X1,.inr hp⟩
theorem bN.frozen(R:aQ K F H σ e){xs:List PyData}(h:bN K σ H0 F H e (.l xs) v):∃F',aQ K F' H σ e∧am F F'∧DA K F' (.list xs) v∧(∀a,F a=none→H0 a≠none→F' a=none):=by
  obtain⟨l,vs,rfl,h1,h2,h3,h4,h5⟩:=h
  obtain⟨R2,s2⟩:=R.freeze h2 h3 h5
  refine⟨_,R2,s2,?_,fun a ha hn=>?_⟩
  · rw [ey]
    exact⟨l,vs,rfl,.inl (.inl au),ax.mono s2 h4⟩
  · have z:a≠l:=fun z=>hn (by rw [z];exact h1)
    rw [aC z];exact ha
def dg(e:En):Rv→Option (Bool × List PyData)
  | .d (.tuple xs)=>some (false,xs)
  | .d (.list xs)=>some (true,xs)
  | .l xs=>some (true,xs)
  | .s i=>match e[i]? with
    | some (some (.l xs))=>some (true,xs)
    | _=>none
  | _=>none
theorem cZ(R:aQ K F H σ e)(h:bN K σ H0 F H e r v){b:Bool}{xs:List PyData}(q:dg e r=some (b,xs)):
    ∃p vs,v=.ref p∧ax K F xs vs∧(if b=true then fx K H p vs else cH K H p vs):=by
  cases r with
  | d x=>
    cases x with
    | tuple ds=>
      cases q
      obtain⟨a,ys,e1,e2,e3⟩:=cO.mp h
      exact⟨a,ys,e1,e3,R.sm.tup e2⟩
    | list ds=>
      cases q
      obtain⟨a,ys,e1,e2,e3⟩:=ey.mp h
      exact⟨a,ys,e1,e3,R.sm.seq e2⟩
    | _=>cases q
  | l ys=>
    cases q
    obtain⟨l,vs,e1,h1,h2,h3,h4,_⟩:=h
    exact⟨l,vs,e1,h4,.inl (.inl h3)⟩
  | s i=>
    obtain⟨h1,ys,h2⟩:=h
    simp only [dg,h2] at q
    cases q
    obtain⟨l,vs,e1,e2,e3,e4⟩:=R.own i _ h2
    rw [h1] at e1;cases e1
    exact⟨l,vs,rfl,e4,.inl (.inl e3)⟩
end
end L2
namespace L2
open PySem PySem.Spec PyProof.Rows
abbrev FE:=En→Option (Rv × En)
abbrev FT:=En→Option (Bool × En)
abbrev FA:=En→Option (List Rv × En)
def cK(K:PySem.W.Frag)(σ:L2.St)(H0 F H:Hp)(e:En):List Rv→List V→Prop
  | [],vs=>vs=[]
  | r::rs,vs=>∃v ws,vs=v::ws∧bN K σ H0 F H e r v∧cK K σ H0 F H e rs ws
def fE(K:PySem.W.Frag)(f:FE):TE:=fun σ H Q=>∃F e r e',aQ K F H σ e∧f e=some (r,e')∧∀F' H' v,dQ σ F H e F' H' e'→aQ K F' H' σ e'→bN K σ H F' H' e' r v→Q v H'
def fT(K:PySem.W.Frag)(f:FT):TT:=fun σ H Q=>∃F e b e',aQ K F H σ e∧f e=some (b,e')∧∀F' H',dQ σ F H e F' H' e'→aQ K F' H' σ e'→Q b H'
def fA(K:PySem.W.Frag)(f:FA):TA:=fun σ H Q=>∃F e rs e',aQ K F H σ e∧f e=some (rs,e')∧∀F' H' vs,dQ σ F H e F' H' e'→aQ K F' H' σ e'→cK K σ H F' H' e' rs vs→Q vs H'
theorem PE.mono{X:Cx}{e:Expr}{t t':TE}(h:PE X e t)(m:∀σ H Q,t' σ H Q→t σ H Q):PE X e t':=fun pins s σ H Q I q=>h pins s σ H Q I (m σ H Q q)
theorem PT.mono{X:Cx}{e:Expr}{t t':TT}(h:PT X e t)(m:∀σ H Q,t' σ H Q→t σ H Q):PT X e t':=fun pins s σ H Q I q=>h pins s σ H Q I (m σ H Q q)
theorem PW.mono{X:Cx}{e:Expr}{t t':TT}(h:PW X e t)(m:∀σ H Q,t' σ H Q→t σ H Q):PW X e t':=fun wh pins s σ H Q I q=>h wh pins s σ H Q I (m σ H Q q)
theorem PA.mono{X:Cx}{es:List Expr}{t t':TA}(h:PA X es t)(m:∀σ H Q,t' σ H Q→t σ H Q):PA X es t':=fun pos pins s σ H Q I q=>h pos pins s σ H Q I (m σ H Q q)
section
variable{K:PySem.W.Frag}{σ:L2.St}{H0 F H F' H':Hp}{e e':En}
theorem cK.weak{H1:Hp}(d:∀a,H1 a=none→H0 a=none):∀{rs:List Rv} {vs:List V},cK K σ H1 F H e rs vs→cK K σ H0 F H e rs vs
  | [],_,h=>h
  | r::rs,_,h=>by
    obtain⟨v,ws,rfl,h1,h2⟩:=h
    exact⟨v,ws,rfl,h1.weak d,cK.weak d h2⟩
theorem dQ.frz{F'':Hp}(x:dQ σ F H e F' H' e')(s:am F' F'')(h:∀a,F' a=none→H a≠none→F'' a=none):dQ σ F H e F'' H' e':=
  ⟨x.sf.trans s,x.dom,fun a vs h1 h2 h3=>h a (x.fr a vs h1 h2 h3) (by rw [h2];simp),x.lst,x.tmp,x.shp,x.ow⟩
def gL:List Rv→Option (List PyData)
  | []=>some []
  | .d x::rs=>(gL rs).map (x::·)
  | .l xs::rs=>(gL rs).map (.list xs::·)
  | .s _::_=>none
theorem cK.frozen:∀{rs:List Rv} {vs:List V} {ds:List PyData} {F:Hp},aQ K F H σ e→cK K σ H0 F H e rs vs→gL rs=some ds→
    ∃F',aQ K F' H σ e∧am F F'∧ax K F' ds vs∧(∀a,F a=none→H0 a≠none→F' a=none)
  | [],_,_,F,R,h,q=>by
    cases q
    have h':_=[]:=h
    subst h'
    exact⟨F,R,am.refl _,ax.nil,fun _ h _=>h⟩
  | .d x::rs,_,ds,F,R,h,q=>by
    obtain⟨v,ws,rfl,h1,h2⟩:=h
    obtain⟨ds',q1,rfl⟩:=Option.map_eq_some_iff.mp q
    obtain⟨F',R',s',d',f'⟩:=cK.frozen R h2 q1
    exact⟨F',R',s',.cons (DA.mono s' h1) d',f'⟩
  | .l xs::rs,_,ds,F,R,h,q=>by
    obtain⟨v,ws,rfl,h1,h2⟩:=h
    obtain⟨ds',q1,rfl⟩:=Option.map_eq_some_iff.mp q
    obtain⟨F',R',s',d',f'⟩:=cK.frozen R h2 q1
    obtain⟨l,us,rfl,g1,g2,g3,g4,g5⟩:=h1
    cases hl:F' l with
    | none=>
      have h1':bN K σ H0 F' H e (.l xs) (.ref l):=⟨l,us,rfl,g1,hl,g3,ax.mono s' g4,g5⟩
      obtain⟨F2,R2,s2,d2,f2⟩:=h1'.frozen R'
      exact⟨F2,R2,s'.trans s2,.cons d2 (ax.mono s2 d'),fun a ha hn=>f2 a (f' a ha hn) hn⟩
    | some o=>
      have:=R'.sm _ _ hl
      rw [g3] at this;cases this
      exact⟨F',R',s',.cons (ey.mpr ⟨l,us,rfl,.inl (.inl hl),ax.mono s' g4⟩) d',f'⟩
end
section
variable{X:Cx}{K:PySem.W.Frag}{a b c:Expr}{fa fb:FE}{ft fu:FT}{pos:Pos}{es:List Expr}{fs:FA}
def ae(i:Nat):FE:=fun e=>match e[i]? with
  | some (some (.d x))=>some (.d x,e)
  | some (some (.l _))=>some (.s i,e)
  | _=>none
def vC(x:PyData):FE:=fun e=>some (.d x,e)
theorem vS{i:Nat}{σ:L2.St}{H:Hp}{Q:VK}(h:fE K (ae i) σ H Q):zR i σ H Q:=by
  obtain⟨F,e,r,e',R,hf,q⟩:=h
  unfold ae at hf
  match h1:e[i]?,hf with
  | some (some (.d x)),hf=>
    cases hf
    obtain⟨v,h2,h3⟩:=R.dat i x h1
    exact⟨v,h2,q F H v (dQ.refl _ _ _ _) R h3⟩
  | some (some (.n _)),hf=>cases hf
  | some (some (.l xs)),hf=>
    cases hf
    obtain⟨l,vs,h2,h3⟩:=R.own i xs h1
    exact⟨_,h2,q F H _ (dQ.refl _ _ _ _) R ⟨h2,xs,h1⟩⟩
  | some none,hf=>cases hf
  | none,hf=>cases hf
theorem qv(i:Nat){x:Str}{pos:Pos}(hN:X.N[i]?=some x)(hv:yM X.env.scope x)(hd:(x==("__debug__":Str))=false)(hcd:(x==("__classdict__":Str))=false):PE X (.Name x pos) (fE K (ae i)):=(xG hN hv hd hcd).mono fun _ _ _ h=>vS h
theorem wz{x:PyData}{v:V}{σ:L2.St}{H:Hp}{Q:VK}(hx:∀F,DA K F x v)(h:fE K (vC x) σ H Q):tC v σ H Q:=by
  obtain⟨F,e,r,e',R,hf,q⟩:=h
  cases hf
  exact q F H v (dQ.refl _ _ _ _) R (hx F)
theorem ab{i j pos}:PE X (.Constant (.int i) j pos) (fE K (vC (.int i))):=xC.mono fun _ _ _ h=>wz (fun _=>cf.mpr rfl) h
theorem mT{b j pos}:PE X (.Constant (.bool b) j pos) (fE K (vC (.bool b))):=zi.mono fun _ _ _ h=>wz (fun _=>dY.mpr rfl) h
def gG(K:PySem.W.Frag)(r:R2)(g:En→Rv→Rv→Option Rv):Prop:=
  ∀(σ:L2.St) (H0 F H:Hp) (e:En) (x y z:Rv) (v u:V) (Q:VK),aQ K F H σ e→bN K σ H0 F H e x v→bN K σ H0 F H e y u→g e x y=some z→
    (∀F' H' w,dQ σ F H e F' H' e→aQ K F' H' σ e→bN K σ H F' H' e z w→Q w H')→r v u H Q
def aq(g:En→Rv→Rv→Option Rv)(fa fb:FE):FE:=fun e=>(fa e).bind fun p=>(fb p.2).bind fun q=>(g q.2 p.1 q.1).map fun z=>(z,q.2)
theorem ml{r:R2}{g:En→Rv→Rv→Option Rv}(ho:gG K r g){σ:L2.St}{H:Hp}{Q:VK}(h:fE K (aq g fa fb) σ H Q):zN r (fE K fa) (fE K fb) σ H Q:=by
  obtain⟨F,e,z,e2,R,hf,q⟩:=h
  unfold aq at hf
  obtain⟨⟨x,e1⟩,h1,hf⟩:=Option.bind_eq_some_iff.mp hf
  obtain⟨⟨y,e2'⟩,h2,hf⟩:=Option.bind_eq_some_iff.mp hf
  obtain⟨z',h3,hf⟩:=Option.map_eq_some_iff.mp hf
  cases hf
  refine⟨F,e,x,e1,R,h1,fun F1 H1 v X1 R1 A1=>⟨F1,e1,y,_,R1,h2,fun F2 H2 u X2 R2 A2=>?_⟩⟩
  have X12:=X1.trans X2
  refine ho σ H F2 H2 _ x y _ v u Q R2 (A1.ext X2) (A2.weak X1.dom) h3 fun F3 H3 w X3 R3 A3=>?_
  exact q F3 H3 w (X12.trans X3) R3 (A3.weak X12.dom)
theorem lh{op:Operator}{r:R2}{g:En→Rv→Rv→Option Rv}(hr:fY X (binaryOp op) r)(ho:gG K r g)(ha:PE X a (fE K fa))(hb:PE X b (fE K fb)):PE X (.BinOp a op b pos) (fE K (aq g fa fb)):=(zo hr ha hb).mono fun _ _ _ h=>ml ho h
theorem xU{op:CmpOp}{r:R2}{g:En→Rv→Rv→Option Rv}(hr:fY X (compareOp op) r)(ho:gG K r g)(ha:PE X a (fE K fa))(hb:PE X b (fE K fb))(hm:behindInMarks op b=false):PE X (.Compare a [op] [b] pos) (fE K (aq g fa fb)):=(u9 hr ha hb hm).mono fun _ _ _ h=>ml ho h
theorem zu{r:R2}{g:En→Rv→Rv→Option Rv}(hr:ud X r)(ho:gG K r g)(ha:PE X a (fE K fa))(hb:PE X b (fE K fb))(hs:lA b):PE X (.Subscript a b pos) (fE K (aq g fa fb)):=(zm hr ha hb hs).mono fun _ _ _ h=>ml ho h
def vR(g:En→Rv→Option Rv)(fa:FE):FE:=fun e=>(fa e).bind fun p=>(g p.2 p.1).map fun z=>(z,p.2)
def z5(K:PySem.W.Frag)(r:V→Hp→VK→Prop)(g:En→Rv→Option Rv):Prop:=
  ∀(σ:L2.St) (H0 F H:Hp) (e:En) (x z:Rv) (v:V) (Q:VK),aQ K F H σ e→bN K σ H0 F H e x v→g e x=some z→
    (∀F' H' w,dQ σ F H e F' H' e→aQ K F' H' σ e→bN K σ H F' H' e z w→Q w H')→r v H Q
theorem yw{r:V→Hp→VK→Prop}{g:En→Rv→Option Rv}(ho:z5 K r g){σ:L2.St}{H:Hp}{Q:VK}(h:fE K (vR g fa) σ H Q):Bb r (fE K fa) σ H Q:=by
  obtain⟨F,e,z,e2,R,hf,q⟩:=h
  unfold vR at hf
  obtain⟨⟨x,e1⟩,h1,hf⟩:=Option.bind_eq_some_iff.mp hf
  obtain⟨z',h3,hf⟩:=Option.map_eq_some_iff.mp hf
  cases hf
  refine⟨F,e,x,_,R,h1,fun F1 H1 v X1 R1 A1=>?_⟩
  refine ho σ H F1 H1 _ x _ v Q R1 A1 h3 fun F3 H3 w X3 R3 A3=>?_
  exact q F3 H3 w (X1.trans X3) R3 (A3.weak X1.dom)
theorem zv{op:UnaryOp}{r:V→Hp→VK→Prop}{g:En→Rv→Option Rv}(hr:z6 X (unaryOp op) r)(ho:z5 K r g)(ha:PE X a (fE K fa)):PE X (.UnaryOp op a pos) (fE K (vR g fa)):=(zp hr ha).mono fun _ _ _ h=>yw ho h
def eT:Rv→Option Bool
  | .d (.bool b)=>some b
  | _=>none
theorem kZ{σ:L2.St}{H0 F H:Hp}{e:En}{r:Rv}{v:V}{b:Bool}(h:bN K σ H0 F H e r v)(q:eT r=some b):v=.bl b:=by
  unfold eT at q
  split at q
  · cases q;exact dY.mp (show DA K F (.bool _) v from h)
  · cases q
theorem pD{σ:L2.St}{H0 F H:Hp}{e:En}{b:Bool}:bN K σ H0 F H e (.d (.bool b)) (.bl b):=(dY (K:=K) (F:=F)).mpr rfl
def bh(f:FE):FT:=fun e=>(f e).bind fun p=>(eT p.1).map fun b=>(b,p.2)
theorem nB{σ:L2.St}{H:Hp}{Q:Bool→Hp→Prop}(h:fT K (bh fa) σ H Q):fE K fa σ H fun x H'=>∃k,x=.bl k∧Q k H':=by
  obtain⟨F,e,b,e1,R,hf,q⟩:=h
  unfold bh at hf
  obtain⟨⟨x,e1'⟩,h1,hf⟩:=Option.bind_eq_some_iff.mp hf
  obtain⟨b',h3,hf⟩:=Option.map_eq_some_iff.mp hf
  cases hf
  exact⟨F,e,x,_,R,h1,fun F1 H1 v X1 R1 A1=>⟨_,kZ A1 h3,q F1 H1 X1 R1⟩⟩
theorem xX{op:CmpOp}{r:R2}{g:En→Rv→Rv→Option Rv}(hr:fY X (compareOp op) r)(ho:gG K r g)(ha:PE X a (fE K fa))(hb:PE X b (fE K fb))(hm:behindInMarks op b=false):PT X (.Compare a [op] [b] pos) (fT K (bh (aq g fa fb))):=
  (vn hr ha hb hm).mono fun σ H Q h=>by
    obtain⟨F,e,z,e2,R,hf,q⟩:=nB h
    exact ml ho ⟨F,e,z,e2,R,hf,q⟩
theorem fQ{e:Expr}(h:PE X e (fE K fa))(he:∀whole,isTrue e X.env whole=(do let v ←whole;standAt e.pos;holding [v] (truthy v))):PT X e (fT K (bh fa)):=(xQ h he).mono fun _ _ _ h=>nB h
def ny(f g:FT):FT:=fun e=>(f e).bind fun p=>if p.1=true then g p.2 else some (false,p.2)
def wA(f g:FT):FT:=fun e=>(f e).bind fun p=>if p.1=true then some (true,p.2) else g p.2
def jb(f:FT):FT:=fun e=>(f e).map fun p=>(!p.1,p.2)
theorem vP{σ:L2.St}{H:Hp}{Q:Bool→Hp→Prop}(h:fT K (ny ft fu) σ H Q):zI (fT K ft) (fT K fu) σ H Q:=by
  obtain⟨F,e,b,e1,R,hf,q⟩:=h
  unfold ny at hf
  obtain⟨⟨x,e1'⟩,h1,hf⟩:=Option.bind_eq_some_iff.mp hf
  refine⟨F,e,x,e1',R,h1,fun F1 H1 X1 R1=>?_⟩
  cases x with
  | true=>exact⟨F1,e1',b,e1,R1,hf,fun F2 H2 X2 R2=>q F2 H2 (X1.trans X2) R2⟩
  | false=>cases hf;exact q F1 H1 X1 R1
theorem yu{σ:L2.St}{H:Hp}{Q:Bool→Hp→Prop}(h:fT K (wA ft fu) σ H Q):Ba (fT K ft) (fT K fu) σ H Q:=by
  obtain⟨F,e,b,e1,R,hf,q⟩:=h
  unfold wA at hf
  obtain⟨⟨x,e1'⟩,h1,hf⟩:=Option.bind_eq_some_iff.mp hf
  refine⟨F,e,x,e1',R,h1,fun F1 H1 X1 R1=>?_⟩
  cases x with
  | false=>exact⟨F1,e1',b,e1,R1,hf,fun F2 H2 X2 R2=>q F2 H2 (X1.trans X2) R2⟩
  | true=>cases hf;exact q F1 H1 X1 R1
theorem vQ{σ:L2.St}{H:Hp}{Q:Bool→Hp→Prop}(h:fT K (jb ft) σ H Q):zM (fT K ft) σ H Q:=by
  obtain⟨F,e,b,e1,R,hf,q⟩:=h
  unfold jb at hf
  obtain⟨⟨x,e1'⟩,h1,hf⟩:=Option.map_eq_some_iff.mp hf
  cases hf
  exact⟨F,e,x,_,R,h1,fun F1 H1 X1 R1=>q F1 H1 X1 R1⟩
variable{dS:List Expr}
theorem pA(ha:PT X a (fT K ft)):PW X (.BoolOp .And [a] pos) (fT K ft):=vq ha
theorem sR(ha:PT X a (fT K ft)):PW X (.BoolOp .Or [a] pos) (fT K ft):=xS ha
theorem sQ(ha:PT X a (fT K ft))(hb:PW X (.BoolOp .And (b::dS) pos) (fT K fu)):PW X (.BoolOp .And (a::b::dS) pos) (fT K (ny ft fu)):=(xR ha hb).mono fun _ _ _ h=>vP h
theorem wu(ha:PT X a (fT K ft))(hb:PW X (.BoolOp .Or (b::dS) pos) (fT K fu)):PW X (.BoolOp .Or (a::b::dS) pos) (fT K (wA ft fu)):=(zt ha hb).mono fun _ _ _ h=>yu h
theorem g_(ha:PT X a (fT K ft)):PT X (.UnaryOp .Not a pos) (fT K (jb ft)):=(xP ha).mono fun _ _ _ h=>vQ h
theorem vz{e:Expr}(h:PW X e (fT K ft)):PT X e (fT K ft):=h.pt
def lx(f g:FE):FE:=fun e=>(f e).bind fun p=>(eT p.1).bind fun b=>if b=true then g p.2 else some (.d (.bool false),p.2)
def yt(f g:FE):FE:=fun e=>(f e).bind fun p=>(eT p.1).bind fun b=>if b=true then some (.d (.bool true),p.2) else g p.2
def tW(f:FE):FE:=fun e=>(f e).bind fun p=>(eT p.1).map fun b=>(.d (.bool (!b)),p.2)
theorem xT(ha:PE X a (fE K fa))(hb:PE X (.BoolOp .And (b::dS) pos) (fE K fb)):PE X (.BoolOp .And (a::b::dS) pos) (fE K (lx fa fb)):=(xB ha hb).mono fun σ H Q h=>by
  obtain⟨F,e,z,e2,R,hf,q⟩:=h
  unfold lx at hf
  obtain⟨⟨x,e1⟩,h1,hf⟩:=Option.bind_eq_some_iff.mp hf
  obtain⟨b,h2,hf⟩:=Option.bind_eq_some_iff.mp hf
  refine⟨F,e,x,e1,R,h1,fun F1 H1 v X1 R1 A1=>⟨b,kZ A1 h2,?_⟩⟩
  cases b with
  | true=>exact⟨F1,e1,z,e2,R1,hf,fun F2 H2 w X2 R2 A2=>q F2 H2 w (X1.trans X2) R2 (A2.weak X1.dom)⟩
  | false=>cases hf;exact q F1 H1 _ X1 R1 pD
theorem xV{op}(h:PE X a (fE K fa)):PE X (.BoolOp op [a] pos) (fE K fa):=xE h
def AN(t:FT)(f g:FE):FE:=fun e=>(t e).bind fun p=>if p.1=true then f p.2 else g p.2
def ai:FA:=fun e=>some ([],e)
def aa(fa:FE)(fs:FA):FA:=fun e=>(fa e).bind fun p=>(fs p.2).map fun q=>(p.1::q.1,q.2)
theorem ac:PA X [] (fA K ai):=xA.mono fun σ H Q h=>by
  obtain⟨F,e,r,e',R,hf,q⟩:=h
  cases hf
  exact q F H [] (dQ.refl _ _ _ _) R rfl
theorem AB(ha:PE X a (fE K fa))(hr:PA X es (fA K fs))(h:PySem.W.isStarred a=false):PA X (a::es) (fA K (aa fa fs)):=(Az ha hr h).mono fun σ H Q h=>by
  obtain⟨F,e,z,e2,R,hf,q⟩:=h
  unfold aa at hf
  obtain⟨⟨x,e1⟩,h1,hf⟩:=Option.bind_eq_some_iff.mp hf
  obtain⟨⟨xs,e2'⟩,h2,hf⟩:=Option.map_eq_some_iff.mp hf
  cases hf
  refine⟨F,e,x,e1,R,h1,fun F1 H1 v X1 R1 A1=>⟨F1,e1,xs,_,R1,h2,fun F2 H2 vs X2 R2 A2=>?_⟩⟩
  exact q F2 H2 (v::vs) (X1.trans X2) R2 ⟨v,vs,rfl,A1.ext X2,A2.weak X1.dom⟩
def cA(fs:FA):FE:=fun e=>(fs e).bind fun p=>(gL p.1).bind fun ds=>if ds.length≤1000 then some (.d (.tuple ds),p.2) else none
def eQ(fs:FA):FE:=fun e=>(fs e).bind fun p=>(gL p.1).bind fun ds=>if ds.length≤1000 then some (.l ds,p.2) else none
theorem aZ{x1}(h:PA X es (fA K fs)):PE X (.Tuple es x1 pos) (fE K (cA fs)):=(xF h).mono fun σ H Q h=>by
  obtain⟨F,e,z,e2,R,hf,q⟩:=h
  unfold cA at hf
  obtain⟨⟨rs,e1⟩,h1,hf⟩:=Option.bind_eq_some_iff.mp hf
  obtain⟨ds,h2,hf⟩:=Option.bind_eq_some_iff.mp hf
  split at hf
  case isFalse=>cases hf
  case isTrue hl=>
  cases hf
  refine⟨F,e,rs,_,R,h1,fun F1 H1 vs X1 R1 A1=>?_⟩
  obtain⟨F2,R2,s2,d2,f2⟩:=cK.frozen R1 A1 h2
  have hlen:=d2.len
  refine⟨Nat.le_of_lt (ls (by lia)),fun p hp=>?_⟩
  obtain⟨R3,X3⟩:=R2.newT (vs:=vs) hp
  exact q _ _ _ ((X1.frz s2 f2).trans X3) R3 (cO.mpr ⟨p,vs,rfl,.inl (.inl au),ax.mono X3.sf d2⟩)
theorem cu(h:PA X es (fA K fs)):PE X (.List es pos) (fE K (eQ fs)):=(xD h).mono fun σ H Q h=>by
  obtain⟨F,e,z,e2,R,hf,q⟩:=h
  unfold eQ at hf
  obtain⟨⟨rs,e1⟩,h1,hf⟩:=Option.bind_eq_some_iff.mp hf
  obtain⟨ds,h2,hf⟩:=Option.bind_eq_some_iff.mp hf
  split at hf
  case isFalse=>cases hf
  case isTrue hl=>
  cases hf
  refine⟨F,e,rs,_,R,h1,fun F1 H1 vs X1 R1 A1=>?_⟩
  obtain⟨F2,R2,s2,d2,f2⟩:=cK.frozen R1 A1 h2
  have hlen:=d2.len
  refine⟨Nat.le_of_lt (ls (by lia)),fun p hp=>?_⟩
  obtain⟨R3,X3,hF,no⟩:=R2.newL (vs:=vs) hp
  exact q _ _ _ ((X1.frz s2 f2).trans X3) R3 ⟨p,vs,rfl,X1.dom p hp,hF,au,d2,no⟩
def cJ(K:PySem.W.Frag)(r:List V→Hp→VK→Prop)(g:En→List Rv→Option Rv):Prop:=
  ∀(σ:L2.St) (H0 F H:Hp) (e:En) (xs:List Rv) (z:Rv) (vs:List V) (Q:VK),aQ K F H σ e→cK K σ H0 F H e xs vs→g e xs=some z→
    (∀F' H' w,dQ σ F H e F' H' e→aQ K F' H' σ e→bN K σ H F' H' e z w→Q w H')→r vs H Q
def aP(g:En→List Rv→Option Rv)(fs:FA):FE:=fun e=>(fs e).bind fun p=>(g p.2 p.1).map fun z=>(z,p.2)
theorem nz{r:List V→Hp→VK→Prop}{g:En→List Rv→Option Rv}(ho:cJ K r g){σ:L2.St}{H:Hp}{Q:VK}(h:fE K (aP g fs) σ H Q):AE r (fA K fs) σ H Q:=by
  obtain⟨F,e,z,e2,R,hf,q⟩:=h
  unfold aP at hf
  obtain⟨⟨x,e1⟩,h1,hf⟩:=Option.bind_eq_some_iff.mp hf
  obtain⟨z',h3,hf⟩:=Option.map_eq_some_iff.mp hf
  cases hf
  refine⟨F,e,x,_,R,h1,fun F1 H1 vs X1 R1 A1=>?_⟩
  refine ho σ H F1 H1 _ x _ vs Q R1 A1 h3 fun F3 H3 w X3 R3 A3=>?_
  exact q F3 H3 w (X1.trans X3) R3 (A3.weak X1.dom)
theorem sN{x:Str}{p pos:Pos}{id:String}{r:List V→Hp→VK→Prop}{g:En→List Rv→Option Rv}(hc:cB X (.builtin id) r)(ho:cJ K r g)(hg:Gl X x)(hm:X.mg x=none)(hv:bootBuiltins x=some (.builtin id))(ha:PA X (a::es) (fA K fs))(hn:x≠"__name__")(hdb:(x==("__debug__":Str))=false)
    (he:starEach (a::es) X.env=(false,eval a X.env)::starEach es X.env)(hpl:(backTo pos (starEach es X.env)).any (·.1)=false):PE X (.Call (.Name x p) (a::es) [] pos) (fE K (aP g fs)):=(si hc hg hm hv ha hn hdb he hpl).mono fun _ _ _ h=>nz ho h
theorem qj{x:Str}{p pos:Pos}{T:String}{r:List V→Hp→VK→Prop}{g:En→List Rv→Option Rv}(hc:cB X (.type T) r)(ho:cJ K r g)(hg:Gl X x)(hm:X.mg x=none)(hv:bootBuiltins x=some (.type T))(ha:PA X (a::es) (fA K fs))(hn:x≠"__name__")(hdb:(x==("__debug__":Str))=false)
    (he:starEach (a::es) X.env=(false,eval a X.env)::starEach es X.env)(hpl:(backTo pos (starEach es X.env)).any (·.1)=false):PE X (.Call (.Name x p) (a::es) [] pos) (fE K (aP g fs)):=(qg hc hg hm hv ha hn hdb he hpl).mono fun _ _ _ h=>nz ho h
end
end L2
namespace L2
open PySem PySem.Spec PyProof.Rows
mutual
theorem DA.reads{X:Cx}{pins:List (Addr × Obj)}{σ:L2.St}{H:Hp}{s:Shared}(I:ao X pins σ H s):∀{d:PyData} {v:V} {u:Value},d.canLay0=true→DA X.K H d v→bo v u→∃as,Reads s.heap u d as
  | .none,_,_,_,q,r=>by
    simp only [DA] at q;subst q;cases r;exact⟨_,.none⟩
  | .bool b,_,_,_,q,r=>by
    simp only [DA] at q;subst q;cases r;exact⟨_,.bool b⟩
  | .int i,_,_,_,q,r=>by
    simp only [DA] at q;subst q;obtain⟨t,rfl⟩:=r;exact⟨_,.int i t⟩
  | .str x,_,_,_,q,r=>by
    simp only [DA] at q;subst q;obtain⟨t,rfl⟩:=r;exact⟨_,.str x t⟩
  | .tuple ds,_,_,c,q,r=>by
    simp only [DA] at q
    obtain⟨a,xs,e,hs,rr⟩:=q
    subst e;cases r
    obtain⟨its,rv,⟨o,ho,hc,n,hd⟩,hz⟩:=I.tuple hs
    obtain⟨as,q⟩:=ax.reads I (by simpa [PyData.canLay0] using c) rr rv
    exact⟨_,.tuple ho hc hd q⟩
  | .list ds,_,_,c,q,r=>by
    simp only [DA] at q
    obtain⟨a,xs,e,hs,rr⟩:=q
    subst e;cases r
    obtain⟨its,rv,ht,hz⟩:=I.list hs
    obtain⟨o,ho,hc,n,hd⟩:=ht.isList
    obtain⟨as,q⟩:=ax.reads I (by simpa [PyData.canLay0] using c) rr rv
    exact⟨_,.list ho hc hd q⟩
  | .dict _,_,_,c,_,_=>by simp [PyData.canLay0] at c
theorem ax.reads{X:Cx}{pins:List (Addr × Obj)}{σ:L2.St}{H:Hp}{s:Shared}(I:ao X pins σ H s):∀{ds:List PyData} {xs:List V} {us:List Value},PyData.canLayAll0 ds=true→ax X.K H ds xs→aE xs us→∃as,ReadsAll s.heap us ds as
  | [],_,_,_,q,r=>by
    simp only [ax] at q;subst q;cases r;exact⟨_,.nil⟩
  | d::ds,_,_,c,q,r=>by
    simp only [ax] at q
    simp only [PyData.canLayAll0,Bool.and_eq_true] at c
    obtain⟨x,rr,e,a,b⟩:=q
    subst e
    cases r with
    | cons p p'=>
      obtain⟨as,q1⟩:=DA.reads I c.1 a p
      obtain⟨bs,q2⟩:=ax.reads I c.2 b p'
      exact⟨_,.cons q1 q2⟩
end
def gK(e:En):Rv→Option PyData
  | .d x=>some x
  | .l xs=>some (.list xs)
  | .s i=>match e[i]? with
    | some (some (.l xs))=>some (.list xs)
    | _=>none
theorem mB{K:PySem.W.Frag}{σ:L2.St}{H0 F H:Hp}{e:En}{r:Rv}{v:V}{d:PyData}(R:aQ K F H σ e)(h:bN K σ H0 F H e r v)(q:gK e r=some d):DA K H d v:=by
  cases r with
  | d x=>cases q;exact DA.mono R.sm h
  | l xs=>
    cases q
    obtain⟨l,vs,rfl,h1,h2,h3,h4,_⟩:=h
    exact ey.mpr ⟨l,vs,rfl,.inl (.inl h3),ax.mono R.sm h4⟩
  | s i=>
    obtain⟨h1,ys,h2⟩:=h
    simp only [gK,h2] at q
    cases q
    obtain⟨l,vs,e1,e2,e3,e4⟩:=R.own i _ h2
    rw [h1] at e1;cases e1
    exact ey.mpr ⟨l,vs,rfl,.inl (.inl e3),ax.mono R.sm e4⟩
section
variable{X:Cx}{K:PySem.W.Frag}
def bZ:Rv→Option Int
  | .d (.int i)=>some i
  | _=>none
theorem b6{σ:L2.St}{H0 F H:Hp}{e:En}{r:Rv}{v:V}{i:Int}(h:bN K σ H0 F H e r v)(q:bZ r=some i):v=.int i:=by
  unfold bZ at q
  split at q
  · cases q;exact cf.mp (show DA K F (.int _) v from h)
  · cases q
theorem kd{σ:L2.St}{H0 F H:Hp}{e:En}{i:Int}:bN K σ H0 F H e (.d (.int i)) (.int i):=(cf (K:=K) (F:=F)).mpr rfl
def gI(C:Int→Int→Bool)(f:Int→Int→PyData):En→Rv→Rv→Option Rv:=fun _ x y=>(bZ x).bind fun i=>(bZ y).bind fun j=>if C i j=true then some (.d (f i j)) else none
theorem mR{C:Int→Int→Prop}{c:Int→Int→Bool}{g:Int→Int→V}{f:Int→Int→PyData}(hc:∀i j,c i j=true→C i j)(hf:∀F i j,DA K F (f i j) (g i j)):gG K (rI C g) (gI c f):=by
  intro σ H0 F H e x y z v u Q R A B hg q
  unfold gI at hg
  obtain⟨i,h1,hg⟩:=Option.bind_eq_some_iff.mp hg
  obtain⟨j,h2,hg⟩:=Option.bind_eq_some_iff.mp hg
  split at hg
  case isFalse=>cases hg
  case isTrue hh=>
  cases hg
  exact⟨i,j,b6 A h1,b6 B h2,hc i j hh,q F H _ (dQ.refl _ _ _ _) R (hf F i j)⟩
theorem gZ{g:Int→Int→V}{f:Int→Int→PyData}(hf:∀F i j,DA K F (f i j) (g i j)):gG K (qk g) (gI (fun _ _=>true) f):=by
  intro σ H0 F H e x y z v u Q R A B hg q
  obtain⟨i,j,h1,h2,h3,h4⟩:=mR (K:=K) (C:=fun _ _=>True) (c:=fun _ _=>true) (g:=g) (f:=f) (fun _ _ _=>trivial) hf σ H0 F H e x y z v u Q R A B hg q
  exact⟨i,j,h1,h2,h4⟩
def uv(g g':En→Rv→Rv→Option Rv):En→Rv→Rv→Option Rv:=fun e x y=>(g e x y).or (g' e x y)
theorem gG.or{r r':R2}{g g':En→Rv→Rv→Option Rv}(h:gG K r g)(h':gG K r' g'):gG K (fun x y H Q=>r x y H Q∨r' x y H Q) (uv g g'):=by
  intro σ H0 F H e x y z v u Q R A B hg q
  unfold uv at hg
  cases e1:g e x y with
  | some w=>
    rw [e1] at hg
    cases hg
    exact .inl (h σ H0 F H e x y _ v u Q R A B e1 q)
  | none=>
    rw [e1] at hg
    exact .inr (h' σ H0 F H e x y _ v u Q R A B hg q)
def wd:=gI (fun _ _=>true) fun i j=>.int (i+j)
def iP:=gI (fun _ _=>true) fun i j=>.int (i - j)
def e_(i:Int):Bool:=decide (-(2 ^ 64) < i)&&decide (i < 2 ^ 64)
def yR(n:Nat)(i:Int):Bool:=decide (i.natAbs < 2 ^ n)
theorem eU{n:Nat}{i:Int}:yR n i=true↔ Bt n i:=by unfold yR Bt;exact decide_eq_true_iff
def gY(i j:Int):Bool:=e_ i || e_ j || (yR 4000 i&&yR 4000 j)
def mE:=gI gY fun i j=>.int (i*j)
def cE:=gI (fun _ j=>j != 0&&yR 8000 j) fun i j=>.int (i.fdiv j)
def aT:=gI (fun _ j=>j != 0) fun i j=>.int (i.fmod j)
def sC(i j:Int):Bool:=decide (0≤j)&&decide (j≤1000000)&&e_ i
def oi:=gI sC fun i j=>.int (i ^ j.toNat)
theorem hJ{i:Int}(h:e_ i=true): -(2 ^ 64) < i∧i < 2 ^ 64:=by
  unfold e_ at h
  rw [Bool.and_eq_true,decide_eq_true_iff,decide_eq_true_iff] at h
  exact h
theorem vi{i j:Int}(h:sC i j=true):wC i j:=by
  unfold sC at h
  rw [Bool.and_eq_true,Bool.and_eq_true,decide_eq_true_iff,decide_eq_true_iff] at h
  have:=hJ h.2
  exact⟨h.1.1,h.1.2,by lia⟩
def oR(i j:Int):Prop:=ua i j∨vV i j
theorem uW:fY X (binaryOp .Mult) (rI oR fun i j=>.int (i*j)):=by
  intro pins s σ H x y v u Q I rx ry h
  obtain⟨i,j,e1,e2,h1,q⟩:=h
  rcases h1 with h1 | h1
  · exact xr pins s σ H x y v u Q I rx ry ⟨i,j,e1,e2,h1,q⟩
  · exact uX pins s σ H x y v u Q I rx ry ⟨i,j,e1,e2,h1,q⟩
theorem uJ{i j:Int}(h:gY i j=true):oR i j:=by
  unfold gY at h
  rw [Bool.or_eq_true,Bool.or_eq_true,Bool.and_eq_true] at h
  rcases h with (h | h) | h
  · exact .inl (.inl (hJ h))
  · exact .inl (.inr (hJ h))
  · exact .inr ⟨eU.mp h.1,eU.mp h.2⟩
theorem xf:gG K (rI oR fun i j=>.int (i*j)) mE:=mR (fun _ _ h=>uJ h) fun _ _ _=>cf.mpr rfl
theorem zH:gG K (qk fun i j=>.int (i - j)) iP:=gZ fun _ _ _=>cf.mpr rfl
theorem wU:gG K (rI vU fun i j=>.int (i.fdiv j)) cE:=mR (fun i j h=>by
  rw [Bool.and_eq_true] at h
  exact⟨by simpa using h.1,eU.mp h.2⟩) fun _ _ _=>cf.mpr rfl
theorem y9:gG K (rI (fun _ j=>j≠0) fun i j=>.int (i.fmod j)) aT:=mR (fun i j h=>by simpa using h) fun _ _ _=>cf.mpr rfl
theorem zq:gG K (rI wC fun i j=>.int (i ^ j.toNat)) oi:=mR (fun _ _ h=>vi h) fun _ _ _=>cf.mpr rfl
def pj:En→Rv→Rv→Option Rv:=fun e x y=>match dg e x,dg e y with
  | some (false,xs),some (false,ys)=>if xs.length+ys.length≤1000000 then some (.d (.tuple (xs++ys))) else none
  | _,_=>none
theorem wN:gG K (sS K) pj:=by
  intro σ H0 F H e x y z v u Q R A B hg q
  unfold pj at hg
  match h1:dg e x,h2:dg e y,hg with
  | some (false,xs),some (false,ys),hg=>
    obtain⟨p,vs,rfl,d1,s1⟩:=cZ R A h1
    obtain⟨p',us,rfl,d2,s2⟩:=cZ R B h2
    dsimp only at hg
    split at hg
    case isFalse=>cases hg
    case isTrue hl=>
    cases hg
    have l1:=d1.len
    have l2:=d2.len
    have sl:sizeLine=16777216:=sizeLine_eq
    refine⟨p,p',vs,us,rfl,rfl,s1,s2,by lia,fun t H' sm hT=>?_⟩
    obtain⟨F',R',X',hF⟩:=R.growT sm hT
    exact q F' H' _ X' R' (cO.mpr ⟨t,_,rfl,hF,(d1.append d2).mono X'.sf⟩)
def rS(e:En):Rv→Option (List PyData)
  | .l xs=>some xs
  | .s i=>match e[i]? with
    | some (some (.l xs))=>some xs
    | _=>none
  | _=>none
theorem l0{σ:L2.St}{H0 F H:Hp}{e:En}{r:Rv}{v:V}(R:aQ K F H σ e)(h:bN K σ H0 F H e r v){xs:List PyData}(q:rS e r=some xs):∃p vs,v=.ref p∧F p=none∧H p=some (.lst vs)∧ax K F xs vs:=by
  cases r with
  | d x=>cases q
  | l ys=>
    cases q
    obtain⟨l,vs,e1,h1,h2,h3,h4,_⟩:=h
    exact⟨l,vs,e1,h2,h3,h4⟩
  | s i=>
    obtain⟨h1,ys,h2⟩:=h
    simp only [rS,h2] at q
    cases q
    obtain⟨l,vs,e1,e2,e3,e4⟩:=R.own i _ h2
    rw [h1] at e1;cases e1
    exact⟨l,vs,rfl,e2,e3,e4⟩
def q_:En→Rv→Rv→Option Rv:=fun e x y=>(rS e x).bind fun xs=>(rS e y).bind fun ys=>if xs.length+ys.length≤1000000 then some (.l (xs++ys)) else none
theorem wM:gG K xY q_:=by
  intro σ H0 F H e x y z v u Q R A B hg q
  unfold q_ at hg
  obtain⟨xs,h1,hg⟩:=Option.bind_eq_some_iff.mp hg
  obtain⟨ys,h2,hg⟩:=Option.bind_eq_some_iff.mp hg
  split at hg
  case isFalse=>cases hg
  case isTrue hl=>
  cases hg
  obtain⟨p,vs,rfl,f1,s1,d1⟩:=l0 R A h1
  obtain⟨p',us,rfl,f2,s2,d2⟩:=l0 R B h2
  have l1:=d1.len
  have l2:=d2.len
  have sl:sizeLine=16777216:=sizeLine_eq
  refine⟨p,p',vs,us,rfl,rfl,s1,s2,by lia,fun t ht=>?_⟩
  obtain⟨R3,X3,hF,no⟩:=R.newL (vs:=vs++us) ht
  exact q _ _ _ X3 R3 ⟨t,_,rfl,ht,hF,au,d1.append d2,no⟩
def c8:En→Rv→Rv→Option Rv:=uv wd (uv pj q_)
def ww(K:PySem.W.Frag):R2:=fun x y H Q=>qk (fun i j=>.int (i+j)) x y H Q∨(sS K x y H Q∨xY x y H Q)
theorem uR:fY X (binaryOp .Add) (ww X.K):=xn.or (uS.or xo)
theorem yO:gG K (ww K) c8:=gG.or (gZ fun _ _ _=>cf.mpr rfl) (gG.or wN wM)
def mF:En→Rv→Rv→Option Rv:=fun e x y=>match dg e x,bZ y with
  | some (false,[d]),some k=>if 0≤k∧k≤100000 then some (.d (.tuple (List.replicate k.toNat d))) else none
  | _,_=>none
theorem ax.rep{F:Hp}{d:PyData}{v:V}(h:DA K F d v):∀n,ax K F (List.replicate n d) (List.replicate n v)
  | 0=>ax.nil
  | n+1=>ax.cons h (ax.rep h n)
theorem x6:gG K (sU K) mF:=by
  intro σ H0 F H e x y z v u Q R A B hg q
  unfold mF at hg
  match h1:dg e x,h2:bZ y,hg with
  | some (false,[d]),some k,hg=>
    obtain⟨p,vs,rfl,d1,s1⟩:=cZ R A h1
    dsimp only at hg
    split at hg
    case isFalse=>cases hg
    case isTrue hl=>
    cases hg
    have hd:=d1
    simp only [ax] at hd
    obtain⟨w,r,e1,hw,e2⟩:=hd
    subst e2 e1
    refine⟨p,k,w,rfl,b6 B h2,s1,hl.1,hl.2,fun t H' sm hT=>?_⟩
    obtain⟨F',R',X',hF⟩:=R.growT sm hT
    exact q F' H' _ X' R' (cO.mpr ⟨t,_,rfl,hF,(ax.rep hw _).mono X'.sf⟩)
def rm:En→Rv→Rv→Option Rv:=fun e x y=>(rS e x).bind fun xs=>(bZ y).bind fun k=>if -100000≤k∧k≤100000∧xs.length*k.toNat≤1000000 then some (.l (List.replicate k.toNat xs).flatten) else none
theorem ax.reps{F:Hp}{ds:List PyData}{vs:List V}(h:ax K F ds vs):∀n,ax K F (List.replicate n ds).flatten (List.replicate n vs).flatten
  | 0=>ax.nil
  | n+1=>by simpa [List.replicate_succ] using ax.append h (ax.reps h n)
theorem x5:gG K x4 rm:=by
  intro σ H0 F H e x y z v u Q R A B hg q
  unfold rm at hg
  obtain⟨xs,h1,hg⟩:=Option.bind_eq_some_iff.mp hg
  obtain⟨k,h2,hg⟩:=Option.bind_eq_some_iff.mp hg
  split at hg
  case isFalse=>cases hg
  case isTrue hl=>
  cases hg
  obtain⟨p,vs,rfl,f1,s1,d1⟩:=l0 R A h1
  have l1:=d1.len
  have sl:sizeLine=16777216:=sizeLine_eq
  refine⟨p,k,vs,rfl,b6 B h2,s1,by lia,by lia,by rw [←l1];lia,fun t ht=>?_⟩
  obtain⟨R3,X3,hF,no⟩:=R.newL (vs:=(List.replicate k.toNat vs).flatten) ht
  exact q _ _ _ X3 R3 ⟨t,_,rfl,ht,hF,au,ax.reps d1 _,no⟩
def bO:En→Rv→Rv→Option Rv:=uv mE (uv mF rm)
def wx(K:PySem.W.Frag):R2:=fun x y H Q=>rI oR (fun i j=>.int (i*j)) x y H Q∨(sU K x y H Q∨x4 x y H Q)
theorem uV:fY X (binaryOp .Mult) (wx X.K):=uW.or (uY.or xw)
theorem y_:gG K (wx K) bO:=gG.or xf (gG.or x6 x5)
def uu:=gI (fun _ _=>true) fun i j=>.bool (decide (i < j))
def Bo:=gI (fun _ _=>true) fun i j=>.bool (decide (i≤j))
def z8:=gI (fun _ _=>true) fun i j=>.bool (decide (j < i))
def yV:=gI (fun _ _=>true) fun i j=>.bool (decide (j≤i))
theorem Ax:gG K (qk fun i j=>.bl (decide (i < j))) uu:=gZ fun _ _ _=>dY.mpr rfl
theorem Ap:gG K (qk fun i j=>.bl (decide (j < i))) z8:=gZ fun _ _ _=>dY.mpr rfl
theorem Ao:gG K (qk fun i j=>.bl (decide (j≤i))) yV:=gZ fun _ _ _=>dY.mpr rfl
def xZ(K:PySem.W.Frag)(neg:Bool):R2:=fun x y H Q=>∃a b,DA K H a x∧DA K H b y∧SeqAt.shaped a=true∧SeqAt.shaped b=true∧Q (.bl (if neg then !PyData.eqv a b else PyData.eqv a b)) H
theorem xq{k:Nat}(hr:c7 k X.A):fY X (compareOp .Eq) (xZ X.K false):=by
  intro pins s σ H x y v u Q I rx ry h
  obtain⟨a,b,ha,hb,s1,s2,q⟩:=h
  obtain⟨as,ra⟩:=DA.reads I (SeqAt.canLay_of_shaped s1) ha rx
  obtain⟨bs,rb⟩:=DA.reads I (SeqAt.canLay_of_shaped s2) hb ry
  exact SeqAt.compareEq_shaped ra rb s1 s2 hr.units ⟨.bl _,H,I,rfl,q⟩
theorem xt{k:Nat}(hr:c7 k X.A):fY X (compareOp .NotEq) (xZ X.K true):=by
  intro pins s σ H x y v u Q I rx ry h
  obtain⟨a,b,ha,hb,s1,s2,q⟩:=h
  obtain⟨as,ra⟩:=DA.reads I (SeqAt.canLay_of_shaped s1) ha rx
  obtain⟨bs,rb⟩:=DA.reads I (SeqAt.canLay_of_shaped s2) hb ry
  exact SeqAt.compareNe_shaped ra rb s1 s2 hr.units ⟨.bl _,H,I,rfl,q⟩
def dD(neg:Bool):En→Rv→Rv→Option Rv:=fun e x y=>(gK e x).bind fun a=>(gK e y).bind fun b=>if (SeqAt.shaped a&&SeqAt.shaped b)=true then some (.d (.bool (if neg then !PyData.eqv a b else PyData.eqv a b))) else none
theorem wc{neg:Bool}:gG K (xZ K neg) (dD neg):=by
  intro σ H0 F H e x y z v u Q R A B hg q
  unfold dD at hg
  obtain⟨a,h1,hg⟩:=Option.bind_eq_some_iff.mp hg
  obtain⟨b,h2,hg⟩:=Option.bind_eq_some_iff.mp hg
  split at hg
  case isFalse=>cases hg
  case isTrue hl=>
  cases hg
  rw [Bool.and_eq_true] at hl
  exact⟨a,b,mB R A h1,mB R B h2,hl.1,hl.2,q F H _ (dQ.refl _ _ _ _) R pD⟩
def Al(neg:Bool):En→Rv→Rv→Option Rv:=fun e x y=>(gK e x).bind fun a=>(dg e y).bind fun p=>if (a.canLay0&&decide (a.depth≤60)&&PyData.canLayAll0 p.2)=true then some (.d (.bool (if neg then !(p.2.any fun y=>PyData.eqv y a) else p.2.any fun y=>PyData.eqv y a))) else none
def bY:En→Rv→Rv→Option Rv:=fun e x y=>(dg e x).bind fun p=>(bZ y).bind fun i=>(atI p.2 i).map .d
def zx(K:PySem.W.Frag):R2:=fun x y H Q=>zy K x y H Q∨zz K x y H Q
theorem Au:ud X (zx X.K):=uB.or wY
theorem ax.atI{F:Hp}{ds:List PyData}{vs:List V}(h:ax K F ds vs){i:Int}{d:PyData}(q:atI ds i=some d):∃v,L2.atI vs i=some v∧DA K F d v:=by
  unfold L2.atI at q ⊢
  obtain⟨j,h1,h2⟩:=Option.bind_eq_some_iff.mp q
  obtain⟨v,h3,h4⟩:=h.get h2
  exact⟨v,by rw [←h.len,h1];exact h3,h4⟩
theorem Av:gG K (zx K) bY:=by
  intro σ H0 F H e x y z v u Q R A B hg q
  unfold bY at hg
  obtain⟨⟨b,xs⟩,h1,hg⟩:=Option.bind_eq_some_iff.mp hg
  obtain⟨i,h2,hg⟩:=Option.bind_eq_some_iff.mp hg
  obtain⟨d,h3,hg⟩:=Option.map_eq_some_iff.mp hg
  cases hg
  obtain⟨p,vs,rfl,d1,s1⟩:=cZ R A h1
  obtain⟨w,h4,h5⟩:=d1.atI h3
  have fin:=q F H w (dQ.refl _ _ _ _) R h5
  cases b with
  | true=>exact .inl ⟨p,vs,i,w,rfl,b6 B h2,s1,h4,fin⟩
  | false=>exact .inr ⟨p,vs,i,w,rfl,b6 B h2,s1,h4,fin⟩
end
end L2
namespace HT
open PySem PySem.Spec PyProof.Rows
section
variable{prog:Program}{w:World}{A:Around}{E:Value→Shared→Prop}{s:Shared}
theorem getItem_tuple_all{t sl:Addr}{items:Array Value}{vl vu:Value}{lo hi:Option Int}{Q:Value→Shared→Prop}(ht:IsTup s.heap t items)(hs:s.heap.IsSliceOf sl vl vu .none)(pl:IsPart vl lo)(pu:IsPart vu hi)
    (hw:sIx items.size 0 lo=0∧sIx items.size items.size hi=items.size)
    (h:Q (.ref t) s):wpAny (model prog w) A (getItem (.ref t) (.ref sl)) Q E s:=by
  obtain⟨os,hos,hcs,hds⟩:=id hs
  have hTs:s.TypeIs (.ref sl) "slice":=⟨os,hos,hcs⟩
  unfold getItem
  try with_reducible refine wpAny_holding ?_
  first | refine wpAny_bind (wpAny_pure ?_) | skip
  refine wpAny_bind (wpAny_sequenceKey ht.typeIs (by decide) ?_)
  refine wpAny_bind (wpAny_callSpecial?_slot (name:=Str.ofString "__getitem__") ht.typeIs PyProof.Rows.slot_tuple_getitem
    (wpAny_call_entry PyProof.Rows.slot_tuple_getitem ht.typeIs entry_tuple_getitem ?_ (args_tuple_getitem _ _)))
  show wpAny _ _ (Builtin.Tuple.tupleItemsOf (.ref t) >>= _) _ _ s
  refine wpAny_bind (tupleItemsOf_ ht ?_)
  refine wpAny_bind (wpAny_typeOf hTs ?_)
  rw [if_pos (by decide)]
  refine wpAny_bind (eO hs pl pu ?_)
  have hno:(((sIx items.size 0 lo:Nat):Int)==0&&(1:Int)==1&&(sIx items.size items.size hi - sIx items.size 0 lo)==items.size)=true:=by
    rw [hw.1,hw.2];simp
  show wpAny _ _ (if (((sIx items.size 0 lo:Nat):Int)==0&&(1:Int)==1&&(sIx items.size items.size hi - sIx items.size 0 lo)==items.size)=true then _ else _) _ _ s
  rw [if_pos hno]
  unfold Builtin.Tuple.tupleIsExact
  refine wpAny_bind (wpAny_bind (wpAny_typeOf ht.typeIs (wpAny_pure ?_)))
  rw [if_pos (by decide)]
  exact wpAny_bind (wpAny_rule (wpAny_pure ⟨_,rfl,wpAny_pure h⟩))
end
end HT
namespace L2
open PySem PySem.Spec PyProof.Rows
section
variable{X:Cx}{K:PySem.W.Frag}{a:Expr}{fa:FE}{lo hi:Option Expr}{pos p2:Pos}
def kL(xs:List PyData)(lo hi:Option Int):List PyData:=(xs.drop (HT.sIx xs.length 0 lo)).take (HT.sIx xs.length xs.length hi - HT.sIx xs.length 0 lo)
def zC(K:PySem.W.Frag):V→Option Int→Option Int→Hp→VK→Prop:=fun x lo hi H Q=>∃a xs,x=.ref a∧cH K H a xs∧
  (HT.sIx xs.length 0 lo=0∧HT.sIx xs.length xs.length hi=xs.length)∧Q (.ref a) H
theorem vE:uf X (zC X.K):=by
  intro pins s σ H x v vl vu lo hi sl Q I rx hs pl pu h
  obtain⟨a,xs,rfl,hx,hw,q⟩:=h
  cases rx
  obtain⟨its,r,ht,hz⟩:=I.tuple hx
  have hlen:its.toArray.size=xs.length:=by rw [List.size_toArray];exact r.length.symm
  refine⟨"tuple",_,PyProof.Rows.slot_tuple_getitem.lookup,ht.typeIs,?_⟩
  exact HT.getItem_tuple_all ht hs pl pu (by rw [hlen];exact hw) ⟨.ref a,H,I,rfl,q⟩
def AC(K:PySem.W.Frag):V→Option Int→Option Int→Hp→VK→Prop:=fun x lo hi H Q=>zB K x lo hi H Q∨(zC K x lo hi H Q∨zA K x lo hi H Q)
theorem AD:uf X (AC X.K):=ye.or (vE.or vD)
abbrev FO:=En→Option (Option Int × En)
def fO(K:PySem.W.Frag)(f:FO):TO:=fun σ H Q=>∃F e o e',aQ K F H σ e∧f e=some (o,e')∧∀F' H',dQ σ F H e F' H' e'→aQ K F' H' σ e'→Q o H'
theorem PO.mono{e:Option Expr}{t t':TO}(h:PO X e t)(m:∀σ H Q,t' σ H Q→t σ H Q):PO X e t':=fun pins s σ H Q I q=>h pins s σ H Q I (m σ H Q q)
def mP:FO:=fun e=>some (none,e)
def lc(f:FE):FO:=fun e=>(f e).bind fun p=>(bZ p.1).map fun i=>(some i,p.2)
theorem vx:PO X none (fO K mP):=vf.mono fun σ H Q h=>by
  obtain⟨F,e,o,e',R,hf,q⟩:=h
  cases hf
  exact q F H (dQ.refl _ _ _ _) R
theorem vy(h:PE X a (fE K fa)):PO X (some a) (fO K (lc fa)):=(vg h).mono fun σ H Q h=>by
  obtain⟨F,e,o,e',R,hf,q⟩:=h
  unfold lc at hf
  obtain⟨⟨x,e1⟩,h1,hf⟩:=Option.bind_eq_some_iff.mp hf
  obtain⟨i,h2,hf⟩:=Option.map_eq_some_iff.mp hf
  cases hf
  exact⟨F,e,x,_,R,h1,fun F1 H1 v X1 R1 A1=>⟨i,b6 A1 h2,q F1 H1 X1 R1⟩⟩
def An(e:En)(x:Rv)(lo hi:Option Int):Option Rv:=(dg e x).map fun p=>if p.1=true then .l (kL p.2 lo hi) else .d (.tuple (kL p.2 lo hi))
def yv(fa:FE)(fl fh:FO):FE:=fun e=>(fa e).bind fun p=>(fl p.2).bind fun l=>(fh l.2).bind fun h=>(An h.2 p.1 l.1 h.1).map fun z=>(z,h.2)
theorem qM{F:Hp}{ds:List PyData}{vs:List V}(h:ax K F ds vs)(lo hi:Option Int):ax K F (kL ds lo hi) (kM vs lo hi):=by
  unfold kL kM
  rw [h.len]
  exact(h.drop _).take _
theorem uk{α:Type}{xs:List α}{lo hi:Option Int}(h:HT.sIx xs.length 0 lo=0∧HT.sIx xs.length xs.length hi=xs.length):(xs.drop (HT.sIx xs.length 0 lo)).take (HT.sIx xs.length xs.length hi - HT.sIx xs.length 0 lo)=xs:=by
  rw [h.1,h.2];simp
theorem sO{fl fh:FO}(he:PE X a (fE X.K fa))(hl:PO X lo (fO X.K fl))(hh:PO X hi (fO X.K fh)):PE X (.Subscript a (.Slice lo hi none p2) pos) (fE X.K (yv fa fl fh)):=(sj AD he hl hh).mono fun σ H Q h=>by
  obtain⟨F,e,z,e',R,hf,q⟩:=h
  unfold yv at hf
  obtain⟨⟨x,e1⟩,h1,hf⟩:=Option.bind_eq_some_iff.mp hf
  obtain⟨⟨l,e2⟩,h2,hf⟩:=Option.bind_eq_some_iff.mp hf
  obtain⟨⟨u,e3⟩,h3,hf⟩:=Option.bind_eq_some_iff.mp hf
  obtain⟨z',h4,hf⟩:=Option.map_eq_some_iff.mp hf
  cases hf
  refine⟨F,e,x,e1,R,h1,fun F1 H1 v X1 R1 A1=>⟨F1,e1,l,e2,R1,h2,fun F2 H2 X2 R2=>⟨F2,e2,u,_,R2,h3,fun F3 H3 X3 R3=>?_⟩⟩⟩
  have X12:=X1.trans X2
  have X13:=X12.trans X3
  have A3:=(A1.ext X2).ext X3
  unfold An at h4
  obtain⟨⟨b,xs⟩,h5,h4⟩:=Option.map_eq_some_iff.mp h4
  obtain⟨p,vs,rfl,d1,s1⟩:=cZ R3 A3 h5
  cases b with
  | true=>
    rw [if_pos rfl] at h4;cases h4
    refine .inr (.inr ⟨p,vs,rfl,s1,fun t ht=>?_⟩)
    obtain⟨R4,X4,hF,no⟩:=R3.newL (vs:=kM vs l u) ht
    exact q _ _ _ (X13.trans X4) R4 ⟨t,_,rfl,X13.dom _ ht,hF,au,qM d1 l u,no⟩
  | false=>
    rw [if_neg (by simp)] at h4;cases h4
    by_cases hw:HT.sIx vs.length 0 l=0∧HT.sIx vs.length vs.length u=vs.length
    · refine .inr (.inl ⟨p,vs,rfl,s1,hw,?_⟩)
      have e5:kL xs l u=xs:=by unfold kL;exact uk (by rw [d1.len];exact hw)
      rw [e5] at q
      obtain⟨F4,R4,X4,hF⟩:=R3.growT (am.refl _) s1
      exact q _ _ _ (X13.trans X4) R4 (cO.mpr ⟨p,vs,rfl,hF,d1.mono X4.sf⟩)
    · refine .inl ⟨p,vs,rfl,s1,hw,fun t ht=>?_⟩
      obtain⟨R4,X4⟩:=R3.newT (vs:=kM vs l u) ht
      exact q _ _ _ (X13.trans X4) R4 (cO.mpr ⟨t,_,rfl,.inl (.inl au),(qM d1 l u).mono X4.sf⟩)
end
section
variable{X:Cx}{K:PySem.W.Frag}
theorem iz{σ:L2.St}{H0 F H:Hp}{e:En}{x:Rv}{vs:List V}(h:cK K σ H0 F H e [x] vs):∃v,vs=[v]∧bN K σ H0 F H e x v:=by
  obtain⟨v,ws,rfl,h1,h2⟩:=h
  have h2':ws=[]:=h2
  subst h2'
  exact⟨v,rfl,h1⟩
theorem pE{σ:L2.St}{H0 F H:Hp}{e:En}{x y:Rv}{vs:List V}(h:cK K σ H0 F H e [x,y] vs):∃v u,vs=[v,u]∧bN K σ H0 F H e x v∧bN K σ H0 F H e y u:=by
  obtain⟨v,ws,rfl,h1,h2⟩:=h
  obtain⟨u,rfl,h3⟩:=iz h2
  exact⟨v,u,rfl,h1,h3⟩
def g1(g:En→Rv→Option Rv):En→List Rv→Option Rv:=fun e xs=>match xs with
  | [x]=>g e x
  | _=>none
def g2(g:En→Rv→Rv→Option Rv):En→List Rv→Option Rv:=fun e xs=>match xs with
  | [x,y]=>g e x y
  | _=>none
theorem dX{r:List V→Hp→VK→Prop}{g:En→Rv→Option Rv}(h:z5 K (fun v H Q=>r [v] H Q) g):cJ K r (g1 g):=by
  intro σ H0 F H e xs z vs Q R A hg q
  unfold g1 at hg
  match xs,hg with
  | [x],hg=>
    obtain⟨v,rfl,h1⟩:=iz A
    exact h σ H0 F H e x z v Q R h1 hg q
theorem o8{r:List V→Hp→VK→Prop}{g:En→Rv→Rv→Option Rv}(h:gG K (fun v u H Q=>r [v,u] H Q) g):cJ K r (g2 g):=by
  intro σ H0 F H e xs z vs Q R A hg q
  unfold g2 at hg
  match xs,hg with
  | [x,y],hg=>
    obtain⟨v,u,rfl,h1,h2⟩:=pE A
    exact h σ H0 F H e x y z v u Q R h1 h2 hg q
def iO:En→Rv→Option Rv:=fun e x=>(dg e x).map fun p=>.d (.int p.2.length)
theorem y3:cJ K (fun xs H Q=>∃p ys,xs=[.ref p]∧(fx K H p ys∨cH K H p ys)∧Q (.int ys.length) H) (g1 iO):=dX fun σ H0 F H e x z v Q R A hg q=>by
  obtain⟨⟨b,xs⟩,h5,h4⟩:=Option.map_eq_some_iff.mp hg
  obtain⟨p,vs,rfl,d1,s1⟩:=cZ R A h5
  cases h4
  refine⟨p,vs,rfl,?_,?_⟩
  · cases b with
    | true=>exact .inl s1
    | false=>exact .inr s1
  · rw [←d1.len]
    exact q F H _ (dQ.refl _ _ _ _) R kd
def n6:En→Rv→Option Rv:=fun _ x=>(bZ x).map fun i=>.d (.int (if i < 0 then -i else i))
theorem yN:cJ K (fun xs H Q=>∃i,xs=[.int i]∧Q (.int (if i < 0 then -i else i)) H) (g1 n6):=dX fun σ H0 F H e x z v Q R A hg q=>by
  obtain⟨i,h5,h4⟩:=Option.map_eq_some_iff.mp hg
  cases h4
  exact⟨i,by rw [b6 A h5],q F H _ (dQ.refl _ _ _ _) R kd⟩
def p6:En→Rv→Option Rv:=fun _ x=>match x with
  | .d (.int i)=>some (.d (.int i))
  | .d (.bool k)=>some (.d (.int (if k then 1 else 0)))
  | _=>none
theorem y0:cJ K (fun xs H Q=>(∃i,xs=[.int i]∧Q (.int i) H)∨∃k,xs=[.bl k]∧Q (.int (if k then 1 else 0)) H) (g1 p6):=dX fun σ H0 F H e x z v Q R A hg q=>by
  unfold p6 at hg
  split at hg
  · cases hg
    exact .inl ⟨_,by rw [cf.mp (show DA K F (.int _) v from A)],q F H _ (dQ.refl _ _ _ _) R kd⟩
  · cases hg
    exact .inr ⟨_,by rw [dY.mp (show DA K F (.bool _) v from A)],q F H _ (dQ.refl _ _ _ _) R kd⟩
  · cases hg
def ri:=gI (fun _ _=>true) fun i j=>.int (if j < i then j else i)
def p7:=gI (fun _ _=>true) fun i j=>.int (if j > i then j else i)
theorem y8:cJ K (fun xs H Q=>∃i j,xs=[.int i,.int j]∧Q (.int (if j < i then j else i)) H) (g2 ri):=o8 fun σ H0 F H e x y z v u Q R A B hg q=>by
  obtain⟨i,j,h1,h2,h3⟩:=gZ (K:=K) (g:=fun i j=>.int (if j < i then j else i)) (fun _ _ _=>cf.mpr rfl) σ H0 F H e x y z v u Q R A B hg q
  exact⟨i,j,by rw [h1,h2],h3⟩
theorem y6:cJ K (fun xs H Q=>∃i j,xs=[.int i,.int j]∧Q (.int (if j > i then j else i)) H) (g2 p7):=o8 fun σ H0 F H e x y z v u Q R A B hg q=>by
  obtain⟨i,j,h1,h2,h3⟩:=gZ (K:=K) (g:=fun i j=>.int (if j > i then j else i)) (fun _ _ _=>cf.mpr rfl) σ H0 F H e x y z v u Q R A B hg q
  exact⟨i,j,by rw [h1,h2],h3⟩
def cF:En→Rv→Option Rv:=fun e x=>(dg e x).map fun p=>.d (.tuple p.2)
theorem vO:cJ K (fun xs H Q=>∃p ys,xs=[.ref p]∧((fx K H p ys∧∀l,H l=none→Q (.ref l) (a_ H l (.tup ys)))∨(cH K H p ys∧Q (.ref p) H))) (g1 cF):=dX fun σ H0 F H e x z v Q R A hg q=>by
  obtain⟨⟨b,xs⟩,h5,h4⟩:=Option.map_eq_some_iff.mp hg
  obtain⟨p,vs,rfl,d1,s1⟩:=cZ R A h5
  cases h4
  refine⟨p,vs,rfl,?_⟩
  cases b with
  | true=>
    refine .inl ⟨s1,fun t ht=>?_⟩
    obtain⟨R4,X4⟩:=R.newT (vs:=vs) ht
    exact q _ _ _ X4 R4 (cO.mpr ⟨t,_,rfl,.inl (.inl au),d1.mono X4.sf⟩)
  | false=>
    obtain⟨F4,R4,X4,hF⟩:=R.growT (am.refl _) s1
    exact .inr ⟨s1,q _ _ _ X4 R4 (cO.mpr ⟨p,vs,rfl,hF,d1.mono X4.sf⟩)⟩
def jk:List PyData→Option (List Int)
  | []=>some []
  | .int i::r=>(jk r).map (i::·)
  | _=>none
theorem ip:∀{ds:List PyData} {ns:List Int},jk ds=some ns→ds=ns.map .int
  | [],_,h=>by cases h;rfl
  | .int i::r,_,h=>by
    obtain⟨ns,h1,rfl⟩:=Option.map_eq_some_iff.mp h
    rw [ip h1];rfl
theorem iY:∀(ns:List Int),jk (ns.map .int)=some ns
  | []=>rfl
  | i::r=>by simp [jk,iY r]
def oj:En→Rv→Option Rv:=fun e x=>match dg e x with
  | some (false,xs)=>(jk xs).bind fun ns=>if ns.length < 64 then some (.l ((eu ns).map .int)) else none
  | _=>none
def sW(K:PySem.W.Frag):List V→Hp→VK→Prop:=fun xs H Q=>∃(a:Addr) (ns:List Int),xs=[.ref a]∧cH K H a (ns.map V.int)∧ns.length < 64∧∀(l:Addr) (H':Hp),am H H'→H l=none→H' l=some (.lst ((eu ns).map V.int))→Q (.ref l) H'
theorem nR:cB X (.builtin "sorted") (sW X.K):=by
  intro pins s σ H xs us Q I rv h
  obtain⟨a,ns,e1,e2,e3,q⟩:=h
  exact jf pins s σ H xs us Q I rv ⟨a,ns,e1,e2,e3,fun l ns' H' sm hn hl hp hs=>q l H' sm hn (by rw [←kr hp hs];exact hl)⟩
theorem vF:cJ K (sW K) (g1 oj):=dX fun σ H0 F H e x z v Q R A hg q=>by
  unfold oj at hg
  split at hg
  case h_2=>cases hg
  case h_1 xs h5=>
  obtain⟨p,vs,rfl,d1,s1⟩:=cZ R A h5
  obtain⟨ns,h6,hg⟩:=Option.bind_eq_some_iff.mp hg
  split at hg
  case isFalse=>cases hg
  case isTrue hl=>
  cases hg
  rw [ip h6] at d1
  have s1':cH K H p vs:=s1
  rw [ax.ints.mp d1] at s1'
  refine⟨p,ns,rfl,s1',hl,fun l H' sm hn hl'=>?_⟩
  obtain⟨R4,X4⟩:=R.same sm
  exact q F H' _ X4 R4 ⟨l,_,rfl,hn,R.freeF hn,hl',ax.ints.mpr rfl,fun z=>R.ownH l ((R.sameOwn sm l).mp z) hn⟩
mutual
def d_:PyData→Bool
  | .tuple ds=>d9 ds
  | .list _=>false
  | .dict _=>false
  | _=>true
def d9:List PyData→Bool
  | []=>true
  | d::r=>d_ d&&d9 r
end
mutual
def dH:PyData→Bool
  | .list _=>false
  | .tuple ds=>de ds
  | _=>true
def de:List PyData→Bool
  | []=>true
  | d::r=>dH d&&de r
end
theorem kb{h:Heap}:∀{m:List (Int × Int)} {es:List DictEntry} {vs:List (jD × Value)} {P:Program} {w:World},KV (m.map fun p=>((Sum.inl p.1:jD),V.int p.2)) vs→Pairs (l5 P w) es vs→
    ReadsAll h (es.map (·.key)) (m.map fun p=>PyData.int p.1) []∧ReadsAll h (es.map (·.val)) (m.map fun p=>PyData.int p.2) []
  | [],es,vs,P,w,r,q=>by
    cases r
    cases q
    exact⟨.nil,.nil⟩
  | p::m,es,vs,P,w,r,q=>by
    rw [List.map_cons] at r
    cases r with
    | @cons a b as bs h1 t=>
      cases q with
      | @cons e kv es' kvs' h2 h3 h4=>
        obtain⟨z1,z2⟩:=h1
        obtain⟨c1,c2⟩:=kb t h4
        obtain⟨tk,z2⟩:=z2
        have k1:rK (Sum.inl p.1) e.key=true:=by
          have:b.1=Sum.inl p.1:=z1.symm
          rw [←this];exact h2
        rcases a9 k1 with ⟨i,t',e1,e2⟩ | ⟨x,t',e1,e2⟩
        · cases e1
          refine⟨?_,?_⟩
          · simp only [List.map_cons,e2]
            exact ReadsAll.cons (as:=[]) (bs:=[]) (.int p.1 t') c1
          · simp only [List.map_cons,h3,z2]
            exact ReadsAll.cons (as:=[]) (bs:=[]) (.int p.2 tk) c2
        · cases e1
mutual
theorem DA.readsR{X:Cx}{pins:List (Addr × Obj)}{σ:L2.St}{H:Hp}{s:Shared}(I:ao X pins σ H s):∀{d:PyData} {v:V} {u:Value},DA X.K H d v→bo v u→∃as,Reads s.heap u d as∧(dH d=true→sysModules∉as)
  | .none,_,_,q,r=>by
    simp only [DA] at q;subst q;cases r;exact⟨_,.none,fun _=>by simp⟩
  | .bool b,_,_,q,r=>by
    simp only [DA] at q;subst q;cases r;exact⟨_,.bool b,fun _=>by simp⟩
  | .int i,_,_,q,r=>by
    simp only [DA] at q;subst q;obtain⟨t,rfl⟩:=r;exact⟨_,.int i t,fun _=>by simp⟩
  | .str x,_,_,q,r=>by
    simp only [DA] at q;subst q;obtain⟨t,rfl⟩:=r;exact⟨_,.str x t,fun _=>by simp⟩
  | .tuple ds,_,_,q,r=>by
    simp only [DA] at q
    obtain⟨a,xs,e,hs,rr⟩:=q
    subst e;cases r
    obtain⟨its,rv,⟨o,ho,hc,n,hd⟩,hz⟩:=I.tuple hs
    obtain⟨as,q,z⟩:=ax.readsR I rr rv
    exact⟨_,.tuple ho hc hd q,fun c=>z (by simpa [dH] using c)⟩
  | .list ds,_,_,q,r=>by
    simp only [DA] at q
    obtain⟨a,xs,e,hs,rr⟩:=q
    subst e;cases r
    obtain⟨its,rv,ht,hz⟩:=I.list hs
    obtain⟨o,ho,hc,n,hd⟩:=ht.isList
    obtain⟨as,q,z⟩:=ax.readsR I rr rv
    exact⟨_,.list ho hc hd q,fun c=>by simp [dH] at c⟩
  | .dict kvs,_,_,q,r=>by
    simp only [DA] at q
    obtain⟨a,m,e,hs,rfl⟩:=q
    subst e;cases r
    obtain⟨_,hS,vs,kv,o,es,ep,ho,hx,hd,_,hp,_⟩:=(show dW X.prog X.w H s.heap a (.dK (m.map fun p=>(Sum.inl p.1,V.int p.2))) from I.hok a _ hs)
    obtain⟨c1,c2⟩:=kb (h:=s.heap) kv hp
    refine⟨_,Reads.dict (as:=[]) (bs:=[]) ho hx.1 hd ?_ ?_,fun _=>?_⟩
    · rw [List.map_map];exact c1
    · rw [List.map_map];exact c2
    · have:a≠sysModules:=by simpa using hS
      simpa using this.symm
theorem ax.readsR{X:Cx}{pins:List (Addr × Obj)}{σ:L2.St}{H:Hp}{s:Shared}(I:ao X pins σ H s):∀{ds:List PyData} {xs:List V} {us:List Value},ax X.K H ds xs→aE xs us→∃as,ReadsAll s.heap us ds as∧(de ds=true→sysModules∉as)
  | [],_,_,q,r=>by
    simp only [ax] at q;subst q;cases r;exact⟨_,.nil,fun _=>by simp⟩
  | d::ds,_,_,q,r=>by
    simp only [ax] at q
    obtain⟨x,rr,e,a,b⟩:=q
    subst e
    cases r with
    | cons p p'=>
      obtain⟨as,q1,z1⟩:=DA.readsR I a p
      obtain⟨bs,q2,z2⟩:=ax.readsR I b p'
      refine⟨_,.cons q1 q2,fun c=>?_⟩
      simp only [de,Bool.and_eq_true] at c
      intro z
      rcases List.mem_append.mp z with z | z
      · exact z1 c.1 z
      · exact z2 c.2 z
end
def e8(d:PyData):Bool:=(d_ d || (!d.hasDict || dH d))&&d.showable&&decide (d.depth≤60)&&decide (d.shown.length≤sizeLine)
def fH:En→Rv→Option Rv:=fun _ x=>match x with
  | .d d=>if e8 d=true then some (.d (.str d.shown)) else none
  | _=>none
def sV(K:PySem.W.Frag):List V→Hp→VK→Prop:=fun xs H Q=>∃x d,xs=[x]∧DA K H d x∧(d.hasDict=true→dH d=true)∧d.showable=true∧d.depth≤60∧d.shown.length≤sizeLine∧Q (.str d.shown) H
mutual
theorem fF:∀(d:PyData),d_ d=true→d.hasDict=false
  | .none,_=>rfl
  | .bool _,_=>rfl
  | .int _,_=>rfl
  | .str _,_=>rfl
  | .tuple ds,h=>by simp only [PyData.hasDict];exact ie ds (by simpa [d_] using h)
  | .list ds,h=>by simp [d_] at h
  | .dict _,h=>by simp [d_] at h
theorem ie:∀(ds:List PyData),d9 ds=true→PyData.hasDictAll ds=false
  | [],_=>rfl
  | d::r,h=>by
    simp only [d9,Bool.and_eq_true] at h
    simp only [PyData.hasDictAll,fF d h.1,ie r h.2,Bool.or_self]
end
theorem nQ{X:Cx}{k:Nat}(hr:c7 k X.A):cB X (.builtin "repr") (sV X.K):=by
  intro pins s σ H xs us Q I r h
  obtain⟨x,d,rfl,ha,hdl,hsh,hdp,hsz,q⟩:=h
  obtain⟨u,rfl,ru⟩:∃u,us=[u]∧bo x u:=by
    cases r with
    | cons p p'=>cases p';exact⟨_,rfl,p⟩
  have hun:=hr.un
  obtain⟨as,rd,hm⟩:=DA.readsR I ha ru
  have fin:∀a,u=.ref a→wpAny (model X.prog X.w) X.A (call (.builtin "repr") [u]) (EP X pins σ Q) X.xe s:=fun a e=>by
    subst e
    exact repr_of_reads' rd hsh (fun z=>hm (hdl z)) hr.gd (by lia) (fun _ _ e=>e) (fun h' u tk hk=>⟨.str _,H,I.kept hk,⟨_,rfl⟩,q⟩) hsz
  cases d with
  | none=>simp only [DA] at ha;subst ha;cases ru;exact P.repr_of_none ⟨.str _,H,I.tok _,⟨_,rfl⟩,q⟩
  | bool b=>simp only [DA] at ha;subst ha;cases ru;exact P.repr_of_bool ⟨.str _,H,I.tok _,⟨_,rfl⟩,q⟩
  | int i=>
    simp only [DA] at ha;subst ha;obtain⟨t,rfl⟩:=ru
    simp only [PyData.showable,decide_eq_true_eq] at hsh
    exact P.repr_of_int hsh ⟨.str _,H,I.tok _,⟨_,rfl⟩,q⟩
  | str y=>simp only [DA] at ha;subst ha;obtain⟨t,rfl⟩:=ru;exact P.repr_of_str ⟨.str _,H,I.tok _,⟨_,rfl⟩,q⟩ hsz
  | list ds=>obtain⟨a,_,e,_⟩:=ey.mp ha;subst e;exact fin a ru
  | dict ds=>simp only [DA] at ha;obtain⟨a,_,e,_⟩:=ha;subst e;exact fin a ru
  | tuple ds=>obtain⟨a,_,e,_⟩:=cO.mp ha;subst e;exact fin a ru
theorem x9:cJ K (sV K) (g1 fH):=dX fun σ H0 F H e x z v Q R A hg q=>by
  unfold fH at hg
  split at hg
  case h_2=>cases hg
  case h_1 d=>
  split at hg
  case isFalse=>cases hg
  case isTrue hl=>
  cases hg
  unfold e8 at hl
  rw [Bool.and_eq_true,Bool.and_eq_true,Bool.and_eq_true,decide_eq_true_iff,decide_eq_true_iff] at hl
  refine⟨v,d,rfl,DA.mono R.sm A,fun z=>?_,hl.1.1.2,hl.1.2,hl.2,q F H _ (dQ.refl _ _ _ _) R ((wR (K:=K) (F:=F)).mpr rfl)⟩
  have c:=hl.1.1.1
  cases hf:d_ d with
  | true=>rw [fF d hf] at z;cases z
  | false=>rw [hf,z] at c;simpa using c
end
end L2
namespace L2
open PySem PySem.Spec PyProof.Rows
section
variable{K:PySem.W.Frag}{σ:L2.St}{H0 F H F' H':Hp}{e e':En}
theorem aQ.upd1(R:aQ K F H σ e){σ':L2.St}(i:Nat)(hl:σ'.length=e'.length)(hσ:∀j,j≠i→σ'[j]?=σ[j]?)(he:∀j,j≠i→e'[j]?=e[j]?)(sF:am F F')(sm:am F' H')(hf:∀j a,j≠i→Fp σ e H j a→F' a=none)
    (hh:∀j a o,j≠i→Fp σ e H j a→H a=some o→H' a=some o)(hd:∀x,e'[i]?=some (some (.d x))→∃v,σ'[i]?=some (some v)∧DA K F' x v)
    (ho:∀xs,e'[i]?=some (some (.l xs))→∃l vs,σ'[i]?=some (some (.ref l))∧F' l=none∧H' l=some (.lst vs)∧ax K F' xs vs)
    (hn:∀xss,e'[i]?=some (some (.n xss))→∃(l:Addr) (bs:List Addr),σ'[i]?=some (some (.ref l))∧F' l=none∧H' l=some (.lst (bs.map V.ref))∧bs.length=xss.length∧bs.Nodup∧l∉bs∧
      ∀(k:Nat) (b:Addr) (ys:List PyData),bs[k]?=some b→xss[k]?=some ys→F' b=none∧∃us,H' b=some (.lst us)∧ax K F' ys us)
    (hi:∀a j,j≠i→Fp σ' e' H' i a→¬Fp σ e H j a):aQ K F' H' σ' e'∧∀j a,j≠i→(Fp σ' e' H' j a↔ Fp σ e H j a):=by
  have fs:∀j a,j≠i→(Fp σ' e' H' j a↔ Fp σ e H j a):=by
    intro j a hj
    have key:∀xss l,e[j]?=some (some (.n xss))→σ[j]?=some (some (.ref l))→H' l=H l:=fun xss l h1 h2=>by
      obtain⟨l',bs,g1,g2,g3,_⟩:=R.nst j xss h1
      rw [h2] at g1;cases g1
      rw [g3]
      exact hh j l _ hj (.inr ⟨xss,l,bs,h1,h2,g3,.inl rfl⟩) g3
    unfold Fp
    rw [he j hj,hσ j hj]
    constructor
    · rintro(h1 | ⟨xss,l,bs,h1,h2,h3,h4⟩)
      · exact .inl h1
      · exact .inr ⟨xss,l,bs,h1,h2,by rw [←key xss l h1 h2];exact h3,h4⟩
    · rintro(h1 | ⟨xss,l,bs,h1,h2,h3,h4⟩)
      · exact .inl h1
      · exact .inr ⟨xss,l,bs,h1,h2,by rw [key xss l h1 h2];exact h3,h4⟩
  refine⟨⟨sm,hl,fun j x q=>?_,fun j xs q=>?_,fun j xss q=>?_,fun j k a q1 q2=>?_⟩,fs⟩
  · by_cases z:j=i
    · subst z;exact hd x q
    · rw [he j z] at q
      obtain⟨v,h1,h2⟩:=R.dat j x q
      exact⟨v,by rw [hσ j z];exact h1,DA.mono sF h2⟩
  · by_cases z:j=i
    · subst z;exact ho xs q
    · rw [he j z] at q
      obtain⟨l,vs,h1,h2,h3,h4⟩:=R.own j xs q
      have o:Fp σ e H j l:=.inl ⟨xs,q,h1⟩
      exact⟨l,vs,by rw [hσ j z];exact h1,hf j l z o,hh j l _ z o h3,h4.mono sF⟩
  · by_cases z:j=i
    · subst z;exact hn xss q
    · rw [he j z] at q
      obtain⟨l,bs,h1,h2,h3,h4,h5,h6,h7⟩:=R.nst j xss q
      have o:Fp σ e H j l:=.inr ⟨xss,l,bs,q,h1,h3,.inl rfl⟩
      refine⟨l,bs,by rw [hσ j z];exact h1,hf j l z o,hh j l _ z o h3,h4,h5,h6,fun k b ys g1 g2=>?_⟩
      obtain⟨c1,us,c2,c3⟩:=h7 k b ys g1 g2
      have ob:Fp σ e H j b:=.inr ⟨xss,l,bs,q,h1,h3,.inr (List.mem_of_getElem? g1)⟩
      exact⟨hf j b z ob,us,hh j b _ z ob c2,c3.mono sF⟩
  · by_cases zj:j=i
    · subst zj
      by_cases zk:k=j
      · exact zk.symm
      · exact absurd ((fs k a zk).mp q2) (hi a k zk q1)
    · by_cases zk:k=i
      · subst zk
        exact absurd ((fs j a zj).mp q1) (hi a j zj q2)
      · exact R.fp j k a ((fs j a zj).mp q1) ((fs k a zk).mp q2)
theorem aQ.putL(R:aQ K F H σ e){i:Nat}{xs ys:List PyData}{l:Addr}{vs:List V}(hi:e[i]?=some (some (.l xs)))(hl:σ[i]?=some (some (.ref l)))(hd:ax K F ys vs):
    aQ K F (a_ H l (.lst vs)) σ (e.set i (some (.l ys)))∧dQ σ F H e F (a_ H l (.lst vs)) (e.set i (some (.l ys))):=by
  obtain⟨l',vs',h1,h2,h3,h4⟩:=R.own i xs hi
  rw [hl] at h1;cases h1
  have hlt:i < e.length:=(List.getElem?_eq_some_iff.mp hi).1
  have fi:Fp σ e H i l:=.inl ⟨xs,hi,hl⟩
  have gi:(e.set i (some (Sv.l ys)))[i]?=some (some (.l ys)):=List.getElem?_set_self hlt
  obtain⟨R',fs⟩:=R.upd1 (F':=F) (H':=a_ H l (.lst vs)) (e':=e.set i (some (.l ys))) i (by rw [List.length_set];exact R.len) (fun _ _=>rfl) (fun j hj=>List.getElem?_set_ne (Ne.symm hj)) (am.refl F)
    (fun b o q=>by
      have z:b≠l:=fun z=>by rw [z,h2] at q;cases q
      rw [aC z];exact R.sm b o q)
    (fun j a _ q=>(R.fpAt q).1)
    (fun j a o hj q ha=>by
      have z:a≠l:=fun z=>hj (R.fp j i a q (by rw [z];exact fi))
      rw [aC z];exact ha)
    (fun x q=>by rw [gi] at q;cases q) (fun zs q=>by rw [gi] at q;cases q;exact⟨l,vs,hl,h2,au,hd⟩) (fun xss q=>by rw [gi] at q;cases q)
    (fun a j hj q q2=>by
      rcases q with ⟨zs,_,q⟩ | ⟨xss,_,_,q,_⟩
      · rw [hl] at q;cases q
        exact hj (R.fp j i _ q2 fi)
      · rw [gi] at q;cases q)
  refine⟨R',⟨am.refl _,fun a q=>?_,fun _ _ q _ _=>q,fun a ws q=>?_,fun a o q n=>?_,fun j=>?_,fun a ⟨j,q⟩=>?_⟩⟩
  · by_cases z:a=l
    · rw [z,au] at q;cases q
    · rw [aC z] at q;exact q
  · by_cases z:a=l
    · rw [z];exact⟨vs,au⟩
    · rw [aC z];exact⟨ws,q⟩
  · have z:a≠l:=fun z=>n ⟨i,by rw [z];exact fi⟩
    rw [aC z];exact q
  · by_cases z:j=i
    · subst z;rw [gi];exact⟨fun _=>⟨xs,hi⟩,fun _=>⟨ys,rfl⟩⟩
    · rw [List.getElem?_set_ne (Ne.symm z)]
  · by_cases z:j=i
    · subst z
      rcases q with ⟨zs,_,q⟩ | ⟨xss,_,_,q,_⟩
      · rw [hl] at q;cases q;exact .inl ⟨j,fi⟩
      · rw [gi] at q;cases q
    · exact .inl ⟨j,(fs j a z).mp q⟩
theorem aQ.setD(R:aQ K F H σ e)(i:Nat){x:PyData}{v:V}(h:DA K F x v):aQ K F H (σ.set i (some v)) (e.set i (some (.d x)))∧∀a,cN (σ.set i (some v)) (e.set i (some (.d x))) H a→cN σ e H a:=by
  have gi:∀s,(e.set i (some (Sv.d x)))[i]?=some (some s)→s=.d x∧i < e.length:=fun s q=>by
    have hlt:i < e.length:=by have:=(List.getElem?_eq_some_iff.mp q).1;simpa using this
    rw [List.getElem?_set_self hlt] at q
    exact⟨(Option.some.inj (Option.some.inj q)).symm,hlt⟩
  have nofp:∀a,¬Fp (σ.set i (some v)) (e.set i (some (.d x))) H i a:=fun a q=>by
    rcases q with ⟨zs,q,_⟩ | ⟨xss,_,_,q,_⟩
    · cases (gi _ q).1
    · cases (gi _ q).1
  obtain⟨R',fs⟩:=R.upd1 (F':=F) (H':=H) (σ':=σ.set i (some v)) (e':=e.set i (some (.d x))) i (by rw [List.length_set,List.length_set];exact R.len) (fun j hj=>List.getElem?_set_ne (Ne.symm hj)) (fun j hj=>List.getElem?_set_ne (Ne.symm hj)) (am.refl F) R.sm
    (fun j a _ q=>(R.fpAt q).1) (fun j a o _ _ ha=>ha)
    (fun y q=>by
      obtain⟨z,hlt⟩:=gi _ q
      cases z
      exact⟨v,List.getElem?_set_self (by rw [R.len];exact hlt),h⟩)
    (fun zs q=>by cases (gi _ q).1) (fun xss q=>by cases (gi _ q).1) (fun a j hj q=>absurd q (nofp a))
  refine⟨R',fun a ⟨j,q⟩=>?_⟩
  by_cases z:j=i
  · subst z;exact absurd q (nofp a)
  · exact⟨j,(fs j a z).mp q⟩
theorem aQ.setL(R:aQ K F H σ e)(i:Nat){xs:List PyData}{l:Addr}{vs:List V}(h1:F l=none)(h2:H l=some (.lst vs))(h3:ax K F xs vs)(h4:¬cN σ e H l):aQ K F H (σ.set i (some (.ref l))) (e.set i (some (.l xs)))∧∀a,cN (σ.set i (some (.ref l))) (e.set i (some (.l xs))) H a→cN σ e H a∨a=l:=by
  have gi:∀s,(e.set i (some (Sv.l xs)))[i]?=some (some s)→s=.l xs∧i < e.length:=fun s q=>by
    have hlt:i < e.length:=by have:=(List.getElem?_eq_some_iff.mp q).1;simpa using this
    rw [List.getElem?_set_self hlt] at q
    exact⟨(Option.some.inj (Option.some.inj q)).symm,hlt⟩
  have onefp:∀a,Fp (σ.set i (some (.ref l))) (e.set i (some (.l xs))) H i a→a=l:=fun a q=>by
    rcases q with ⟨zs,q,q2⟩ | ⟨xss,_,_,q,_⟩
    · obtain⟨_,hlt⟩:=gi _ q
      rw [List.getElem?_set_self (by rw [R.len];exact hlt)] at q2
      cases q2;rfl
    · cases (gi _ q).1
  obtain⟨R',fs⟩:=R.upd1 (F':=F) (H':=H) (σ':=σ.set i (some (.ref l))) (e':=e.set i (some (.l xs))) i (by rw [List.length_set,List.length_set];exact R.len) (fun j hj=>List.getElem?_set_ne (Ne.symm hj)) (fun j hj=>List.getElem?_set_ne (Ne.symm hj)) (am.refl F) R.sm
    (fun j a _ q=>(R.fpAt q).1) (fun j a o _ _ ha=>ha) (fun y q=>by cases (gi _ q).1)
    (fun zs q=>by
      obtain⟨z,hlt⟩:=gi _ q
      cases z
      exact⟨l,vs,List.getElem?_set_self (by rw [R.len];exact hlt),h1,h2,h3⟩)
    (fun xss q=>by cases (gi _ q).1) (fun a j hj q q2=>h4 ⟨j,by rw [onefp a q] at q2;exact q2⟩)
  refine⟨R',fun a ⟨j,q⟩=>?_⟩
  by_cases z:j=i
  · subst z;exact .inr (onefp a q)
  · exact .inl ⟨j,(fs j a z).mp q⟩
end
section
variable{X:Cx}{K:PySem.W.Frag}{o a:Expr}{es:List Expr}{fo:FE}{fs:FA}{name:Str}{apos cpos:Pos}{id:String}
def oS(K:PySem.W.Frag)(r:V→List V→Hp→VK→Prop)(g:List PyData→List PyData→Option (PyData × List PyData)):Prop:=
  ∀(F H:Hp) (l:Addr) (xs ys ds:List PyData) (z:PyData) (vs us:List V) (Q:VK),F l=none→am F H→H l=some (.lst vs)→ax K F xs vs→ax K F ds us→g xs ds=some (z,ys)→
    (∀w ws,DA K F z w→ax K F ys ws→Q w (a_ H l (.lst ws)))→r (.ref l) us H Q
def dj(g:List PyData→List PyData→Option (PyData × List PyData))(fo:FE)(fs:FA):FE:=fun e=>(fo e).bind fun p=>match p.1 with
  | .s i=>(fs p.2).bind fun q=>(gL q.1).bind fun ds=>match q.2[i]? with
    | some (some (.l xs))=>(g xs ds).map fun z=>(.d z.1,q.2.set i (some (.l z.2)))
    | _=>none
  | _=>none
theorem tV{r:V→List V→Hp→VK→Prop}{g:List PyData→List PyData→Option (PyData × List PyData)}(hm:oS K r g){σ:L2.St}{H:Hp}{Q:VK}(h:fE K (dj g fo fs) σ H Q):A_ K "list" r (fE K fo) (fA K fs) σ H Q:=by
  obtain⟨F,e,z,e',R,hf,q⟩:=h
  unfold dj at hf
  obtain⟨⟨x,e1⟩,h1,hf⟩:=Option.bind_eq_some_iff.mp hf
  match x,h1,hf with
  | .s i,h1,hf=>
  dsimp only at hf
  obtain⟨⟨rs,e2⟩,h2,hf⟩:=Option.bind_eq_some_iff.mp hf
  obtain⟨ds,h3,hf⟩:=Option.bind_eq_some_iff.mp hf
  refine⟨F,e,_,e1,R,h1,fun F1 H1 v X1 R1 A1=>?_⟩
  obtain⟨g1,zs,g2⟩:=A1
  obtain⟨l,vs,c1,c2,c3,c4⟩:=R1.own i zs g2
  rw [g1] at c1;cases c1
  refine⟨.inl ⟨rfl,vs,.inl (.inl c3)⟩,F1,e1,rs,e2,R1,h2,fun F2 H2 us X2 R2 A2=>?_⟩
  match h4:e2[i]?,hf with
  | some (some (.l xs)),hf=>
  dsimp only at hf
  obtain⟨⟨zd,ys⟩,h5,hf⟩:=Option.map_eq_some_iff.mp hf
  cases hf
  obtain⟨F3,R3,s3,d3,f3⟩:=cK.frozen R2 A2 h3
  obtain⟨l',vs',k1,k2,k3,k4⟩:=R3.own i xs h4
  rw [g1] at k1;cases k1
  refine hm F3 H2 l xs ys ds zd vs' us Q k2 R3.sm k3 k4 d3 h5 fun w ws hw hws=>?_
  obtain⟨R4,X4⟩:=R3.putL h4 g1 hws
  exact q _ _ _ ((X1.trans (X2.frz s3 f3)).trans X4) R4 hw
theorem wq{r:V→List V→Hp→VK→Prop}{g:List PyData→List PyData→Option (PyData × List PyData)}(slot:Slot "list" name id)(hty:typeOf (.builtin id)=pure (.type "method_descriptor"))(hm:AU X id r)(hf:oS X.K r g)(ho:PE X o (fE X.K fo))(ha:PA X (a::es) (fA X.K fs))
    (hbase:attributeBase o name X.env (eval o X.env)=eval o X.env)
    (hfew:((backTo cpos (starEach (a::es) X.env)).all (fun x=> !x.1)&&(backToKw cpos (keywordEach [] X.env)).all (fun x=>x.1.isSome)
      &&decide ((a::es).length+([]:List Keyword).length+(if ([]:List Keyword).isEmpty then 0 else 1) < 30))=true)
    (hline:(apos.endLine==cpos.line)=true)(hs:starEach (a::es) X.env=(false,eval a X.env)::starEach es X.env)(hplain:(backTo cpos (starEach es X.env)).any (·.1)=false):
    PE X (.Call (.Attribute o name apos) (a::es) [] cpos) (fE X.K (dj g fo fs)):=(zl PySem.F.plainAttrs_list slot hty hm ho ha hbase hfew hline hs hplain).mono fun _ _ _ h=>tV hf h
def bT:List PyData→List PyData→Option (PyData × List PyData):=fun xs ds=>match ds with
  | [d]=>if xs.length < 1000000 then some (.none,xs++[d]) else none
  | _=>none
theorem qA:oS K pB bT:=by
  intro F H l xs ys ds z vs us Q hF sm hl d1 d2 hg q
  unfold bT at hg
  match ds,hg,d2 with
  | [d],hg,d2=>
    simp only [ax] at d2
    obtain⟨w,r,rfl,hw,rfl⟩:=d2
    dsimp only at hg
    split at hg
    case isFalse=>cases hg
    case isTrue hlt=>
    cases hg
    have:=d1.len
    have sl:sizeLine=16777216:=sizeLine_eq
    exact⟨l,vs,w,rfl,rfl,hl,by lia,q _ _ (pb.mpr rfl) (d1.append (ax.one hw))⟩
def xc:List PyData→List PyData→Option (PyData × List PyData):=fun xs ds=>match ds with
  | []=>(xs[xs.length - 1]?).map fun d=>(d,xs.dropLast)
  | _=>none
def gX:List PyData→List PyData→Option (PyData × List PyData):=fun xs ds=>match ds with
  | [.int i]=>if 0≤i∧i < 1000000000 then(xs[i.toNat]?).map fun d=>(d,xs.eraseIdx i.toNat) else none
  | _=>none
theorem vh:oS K sT gX:=by
  intro F H l xs ys ds z vs us Q hF sm hl d1 d2 hg q
  unfold gX at hg
  match ds,hg,d2 with
  | [.int i],hg,d2=>
    simp only [ax,DA] at d2
    obtain⟨w,r,rfl,rfl,rfl⟩:=d2
    dsimp only at hg
    split at hg
    case isFalse=>cases hg
    case isTrue hlt=>
    obtain⟨d,h1,h2⟩:=Option.map_eq_some_iff.mp hg
    cases h2
    obtain⟨v,g1,g2⟩:=d1.get h1
    have hlt2:i.toNat < vs.length:=(List.getElem?_eq_some_iff.mp g1).1
    exact⟨l,vs,i,i.toNat,v,rfl,rfl,hl,by lia,by lia,seqIndex_of hlt.1 (by lia),g1,q _ _ g2 (d1.erase _)⟩
end
end L2
namespace L2
open PySem PySem.Spec PyProof.Rows
inductive Fl where
  | nx (e:En)
  | bk (e:En)
  | ct (e:En)
  | rt (r:Rv) (e:En)
abbrev FS:=En→Option Fl
structure cI (W:List Nat) (σ:L2.St) (F H:Hp) (e:En) (σ':L2.St) (F' H':Hp) (e':En):Prop where
  sf:am F F'
  dom:∀a,H' a=none→H a=none
  fr:∀a vs,F a=none→H a=some (.lst vs)→¬cN σ e H a→F' a=none
  lst:∀a vs,H a=some (.lst vs)→∃vs',H' a=some (.lst vs')
  tmp:∀a o,H a=some o→¬cN σ e H a→H' a=some o
  own:∀a,cN σ' e' H' a→cN σ e H a∨H a=none
  wr:∀j,j∉W→σ'[j]?=σ[j]?
section
variable{K:PySem.W.Frag}{W W1 W2:List Nat}{σ σ1 σ2 σ':L2.St}{H0 F H F1 H1 F2 H2 F' H':Hp}{e e1 e2 e':En}
theorem cI.refl:cI W σ F H e σ F H e:=⟨am.refl _,fun _ h=>h,fun _ _ h _ _=>h,fun _ vs h=>⟨vs,h⟩,fun _ _ h _=>h,fun _ h=>.inl h,fun _ _=>rfl⟩
theorem dQ.s(x:dQ σ F H e F' H' e'):cI W σ F H e σ F' H' e':=⟨x.sf,x.dom,x.fr,x.lst,x.tmp,x.ow,fun _ _=>rfl⟩
theorem cI.trans(x:cI W σ F H e σ1 F1 H1 e1)(y:cI W σ1 F1 H1 e1 σ2 F2 H2 e2):cI W σ F H e σ2 F2 H2 e2:=
  ⟨x.sf.trans y.sf,fun a h=>x.dom a (y.dom a h),fun a vs h n no=>let ⟨vs',q⟩:=x.lst a vs n;y.fr a vs' (x.fr a vs h n no) q (fun z=>(x.own a z).elim no fun z=>by rw [n] at z;cases z),fun a vs h=>let ⟨vs',q⟩:=x.lst a vs h;y.lst a vs' q,
    fun a o h n=>y.tmp a o (x.tmp a o h n) (fun z=>(x.own a z).elim n fun z=>by rw [h] at z;cases z),
    fun a h=>(y.own a h).elim (x.own a) (fun z=>.inr (x.dom a z)),
    fun j h=>(y.wr j h).trans (x.wr j h)⟩
theorem cI.mono(x:cI W1 σ F H e σ' F' H' e')(h:∀j,j∈W1→j∈W):cI W σ F H e σ' F' H' e':=⟨x.sf,x.dom,x.fr,x.lst,x.tmp,x.own,fun j n=>x.wr j fun z=>n (h j z)⟩
end
def jK(K:PySem.W.Frag)(W:List Nat)(σ:L2.St)(F H:Hp)(e:En)(D:nI):Fl→Prop
  | .nx e'=>∀F' H' σ',cI W σ F H e σ' F' H' e'→aQ K F' H' σ' e'→D.nx σ' H'
  | .bk e'=>∀F' H' σ',cI W σ F H e σ' F' H' e'→aQ K F' H' σ' e'→D.bk σ' H'
  | .ct e'=>∀F' H' σ',cI W σ F H e σ' F' H' e'→aQ K F' H' σ' e'→D.ct σ' H'
  | .rt r e'=>∀F' H' σ' v,cI W σ F H e σ' F' H' e'→aQ K F' H' σ' e'→bN K σ' H F' H' e' r v→D.rt v H'
def fS(K:PySem.W.Frag)(f:FS)(W:List Nat):TS:=fun D σ H=>∃F e fl,aQ K F H σ e∧f e=some fl∧jK K W σ F H e D fl
theorem PS.mono{X:Cx}{st:Stmt}{t t':TS}(h:PS X st t)(m:∀D σ H,t' D σ H→t D σ H):PS X st t':=fun pins s σ H D I q=>h pins s σ H D I (m D σ H q)
theorem jp.mono{X:Cx}{st:List Stmt}{t t':TS}(h:jp X st t)(m:∀D σ H,t' D σ H→t D σ H):jp X st t':=fun pins s σ H D I q=>h pins s σ H D I (m D σ H q)
theorem jK.later{K:PySem.W.Frag}{W W1 W2:List Nat}{σ σ1:L2.St}{F H F1 H1:Hp}{e e1:En}{D:nI}{fl:Fl}(h:jK K W σ F H e D fl)(x:cI W1 σ F H e σ1 F1 H1 e1)(h1:∀j,j∈W1→j∈W)(h2:∀j,j∈W2→j∈W):jK K W2 σ1 F1 H1 e1 D fl:=by
  cases fl with
  | nx e'=>exact fun F' H' σ' y R=>h F' H' σ' ((x.mono h1).trans (y.mono h2)) R
  | bk e'=>exact fun F' H' σ' y R=>h F' H' σ' ((x.mono h1).trans (y.mono h2)) R
  | ct e'=>exact fun F' H' σ' y R=>h F' H' σ' ((x.mono h1).trans (y.mono h2)) R
  | rt r e'=>exact fun F' H' σ' v y R A=>h F' H' σ' v ((x.mono h1).trans (y.mono h2)) R (A.weak x.dom)
section
variable{X:Cx}{K:PySem.W.Frag}{W W1 W2:List Nat}{st:Stmt}{dS:List Stmt}{f g:FS}{a b:Expr}{fa:FE}{ft:FT}{pos:Pos}
def fW:FS:=fun e=>some (.nx e)
def aL(f g:FS):FS:=fun e=>(f e).bind fun fl=>match fl with
  | .nx e1=>g e1
  | fl=>some fl
theorem cc:jp X [] (fS K fW []):=vk.mono fun D σ H h=>by
  obtain⟨F,e,fl,R,hf,q⟩:=h
  cases hf
  exact q F H σ cI.refl R
theorem af(h1:PS X st (fS K f W1))(h2:jp X dS (fS K g W2)):jp X (st::dS) (fS K (aL f g) (W1++W2)):=(sG h1 h2).mono fun D σ H h=>by
  obtain⟨F,e,fl,R,hf,q⟩:=h
  unfold aL at hf
  obtain⟨fl1,h1,hf⟩:=Option.bind_eq_some_iff.mp hf
  have s1:∀j,j∈W1→j∈W1++W2:=fun j h=>List.mem_append.mpr (.inl h)
  have s2:∀j,j∈W2→j∈W1++W2:=fun j h=>List.mem_append.mpr (.inr h)
  refine⟨F,e,fl1,R,h1,?_⟩
  cases fl1 with
  | nx e1=>exact fun F' H' σ' x R'=>⟨F',e1,fl,R',hf,q.later x s1 s2⟩
  | bk e1=>cases hf;exact fun F' H' σ' x R'=>q F' H' σ' (x.mono s1) R'
  | ct e1=>cases hf;exact fun F' H' σ' x R'=>q F' H' σ' (x.mono s1) R'
  | rt r e1=>cases hf;exact fun F' H' σ' v x R' A=>q F' H' σ' v (x.mono s1) R' A
theorem aj(h1:PS X st (fS K f W)):jp X [st] (fS K f W):=vm h1
def fR(fa:FE):FS:=fun e=>(fa e).map fun p=>.nx p.2
theorem eZ(he:PE X a (fE K fa))(hs:swapsWith a none pos.line X.env=pure false):PS X (.Expr a pos) (fS K (fR fa) []):=(vj he hs).mono fun D σ H h=>by
  obtain⟨F,e,fl,R,hf,q⟩:=h
  obtain⟨⟨x,e1⟩,h1,hf⟩:=Option.map_eq_some_iff.mp hf
  cases hf
  exact⟨F,e,x,e1,R,h1,fun F1 H1 v X1 R1 A1=>q F1 H1 σ X1.s R1⟩
def bL(fa:FE):FS:=fun e=>(fa e).map fun p=>.rt p.1 p.2
theorem aK(he:PE X a (fE K fa)):PS X (.Return (some a) pos) (fS K (bL fa) []):=(xN he).mono fun D σ H h=>by
  obtain⟨F,e,fl,R,hf,q⟩:=h
  obtain⟨⟨x,e1⟩,h1,hf⟩:=Option.map_eq_some_iff.mp hf
  cases hf
  exact⟨F,e,x,e1,R,h1,fun F1 H1 v X1 R1 A1=>q F1 H1 σ v X1.s R1 A1⟩
def kB(ft:FT)(f g:FS):FS:=fun e=>(ft e).bind fun p=>if p.1=true then f p.2 else g p.2
theorem fj{c:Expr}{bs cs:List Stmt}(hc:PT X c (fT K ft))(ha:jp X bs (fS K f W1))(hb:jp X cs (fS K g W2)):PS X (.If c bs cs pos) (fS K (kB ft f g) (W1++W2)):=(zr hc ha hb).mono fun D σ H h=>by
  obtain⟨F,e,fl,R,hf,q⟩:=h
  unfold kB at hf
  obtain⟨⟨x,e1⟩,h1,hf⟩:=Option.bind_eq_some_iff.mp hf
  refine⟨F,e,x,e1,R,h1,fun F1 H1 X1 R1=>?_⟩
  cases x with
  | true=>exact⟨F1,e1,fl,R1,hf,q.later (W1:=[]) X1.s (fun j h=>by cases h) fun j h=>List.mem_append.mpr (.inl h)⟩
  | false=>exact⟨F1,e1,fl,R1,hf,q.later (W1:=[]) X1.s (fun j h=>by cases h) fun j h=>List.mem_append.mpr (.inr h)⟩
def sI(i:Nat)(r:Rv)(e:En):Option En:=match r with
  | .d x=>some (e.set i (some (.d x)))
  | .l xs=>some (e.set i (some (.l xs)))
  | .s _=>none
theorem sJ{σ:L2.St}{H F H1 F1:Hp}{e e1 e2:En}{i:Nat}{r:Rv}{v:V}(R:aQ K F H σ e)(X1:dQ σ F H e F1 H1 e1)(R1:aQ K F1 H1 σ e1)(A1:bN K σ H F1 H1 e1 r v)(h:sI i r e1=some e2):
    cI [i] σ F H e (σ.set i (some v)) F1 H1 e2∧aQ K F1 H1 (σ.set i (some v)) e2:=by
  have wr:∀j,j∉[i]→(σ.set i (some v))[j]?=σ[j]?:=fun j n=>List.getElem?_set_ne (fun z=>n (by simp [z]))
  cases r with
  | d x=>
    cases h
    obtain⟨R2,o2⟩:=R1.setD i A1
    exact⟨⟨X1.sf,X1.dom,X1.fr,X1.lst,X1.tmp,fun a h=>X1.ow a (o2 a h),wr⟩,R2⟩
  | l xs=>
    cases h
    obtain⟨l,vs,rfl,h1,h2,h3,h4,h5⟩:=A1
    obtain⟨R2,o2⟩:=R1.setL i h2 h3 h4 h5
    refine⟨⟨X1.sf,X1.dom,X1.fr,X1.lst,X1.tmp,fun a h=>?_,wr⟩,R2⟩
    rcases o2 a h with z | z
    · exact X1.ow a z
    · exact .inr (by rw [z];exact h1)
  | s j=>cases h
def a7(i:Nat)(fa:FE):FS:=fun e=>(fa e).bind fun p=>(sI i p.1 p.2).map .nx
theorem aB{i:Nat}{x:Str}{pos':Pos}(hN:X.N.Nodup)(hi:X.N[i]?=some x)(hx:yA X.env.scope x)(he:PE X a (fE K fa))(hs:swapsWith a (some (.Name x pos')) pos.line X.env=pure false)(hf:X.fn x=true∨X.env.scope.names.lookup x=some .local):
    PS X (.Assign [.Name x pos'] a pos) (fS K (a7 i fa) [i]):=(xO hN hi hx he hs hf).mono fun D σ H h=>by
  obtain⟨F,e,fl,R,hf,q⟩:=h
  unfold a7 at hf
  obtain⟨⟨r,e1⟩,h1,hf⟩:=Option.bind_eq_some_iff.mp hf
  obtain⟨e2,h2,hf⟩:=Option.map_eq_some_iff.mp hf
  cases hf
  refine⟨F,e,r,e1,R,h1,fun F1 H1 v X1 R1 A1=>?_⟩
  obtain⟨x,R2⟩:=sJ R X1 R1 A1 h2
  exact q F1 H1 _ x R2
abbrev FG:=PyData→En→Option En
def fG(K:PySem.W.Frag)(g:FG)(W:List Nat):TG:=fun v σ H Q=>∃F e x e',aQ K F H σ e∧DA K F x v∧g x e=some e'∧∀σ',cI W σ F H e σ' F H e'→aQ K F H σ' e'→Q σ' H
abbrev vX:=List PyData→En→Option En
def z7(K:PySem.W.Frag)(g:vX)(W:List Nat):tZ:=fun vs σ H Q=>∃F e xs e',aQ K F H σ e∧ax K F xs vs∧g xs e=some e'∧∀σ',cI W σ F H e σ' F H e'→aQ K F H σ' e'→Q σ' H
theorem PG.mono{tg:Expr}{t t':TG}(h:PG X tg t)(m:∀v σ H Q,t' v σ H Q→t v σ H Q):PG X tg t':=fun pins s σ H v u Q I r q=>h pins s σ H v u Q I r (m v σ H Q q)
theorem qt.mono{tg:List Expr}{t t':tZ}(h:qt X tg t)(m:∀v σ H Q,t' v σ H Q→t v σ H Q):qt X tg t':=fun pins s σ H v u Q I r q=>h pins s σ H v u Q I r (m v σ H Q q)
def ag(i:Nat):FG:=fun x e=>some (e.set i (some (.d x)))
def bG:vX:=fun xs e=>match xs with
  | []=>some e
  | _=>none
def ar(g:FG)(gs:vX):vX:=fun xs e=>match xs with
  | x::r=>(g x e).bind fun e1=>gs r e1
  | _=>none
def bP(gs:vX):FG:=fun x e=>match x with
  | .tuple xs=>gs xs e
  | _=>none
theorem aH{i:Nat}{x:Str}(hN:X.N.Nodup)(hi:X.N[i]?=some x)(hx:yA X.env.scope x)(hf:X.fn x=true∨X.env.scope.names.lookup x=some .local):PG X (.Name x pos) (fG K (ag i) [i]):=(va hN hi hx hf).mono fun v σ H Q h=>by
  obtain⟨F,e,x,e',R,hx,hg,q⟩:=h
  cases hg
  obtain⟨R2,o2⟩:=R.setD i hx
  exact q _ ⟨am.refl _,fun _ h=>h,fun _ _ h _ _=>h,fun _ vs h=>⟨vs,h⟩,fun _ _ h _=>h,fun a h=>.inl (o2 a h),fun j n=>List.getElem?_set_ne (fun z=>n (by simp [z]))⟩ R2
theorem gz:qt X [] (z7 K bG []):=vc.mono fun v σ H Q h=>by
  obtain⟨F,e,x,e',R,hx,hg,q⟩:=h
  unfold bG at hg
  split at hg
  · cases hg
    simp only [ax] at hx
    exact⟨hx,q σ cI.refl R⟩
  · cases hg
theorem bH{es:List Expr}{g1:FG}{gs:vX}(h1:PG X a (fG K g1 W1))(h2:qt X es (z7 K gs W2))
    (hs:(assignEach (a::es) X.env).map (·.2)=assign a X.env::(assignEach es X.env).map (·.2)):qt X (a::es) (z7 K (ar g1 gs) (W1++W2)):=(sk h1 h2 hs).mono fun v σ H Q h=>by
  obtain⟨F,e,xs,e',R,hx,hg,q⟩:=h
  unfold ar at hg
  match xs,hg,hx with
  | x::r,hg,hx=>
    simp only [ax] at hx
    obtain⟨w,ws,e1,hw,hr⟩:=hx
    dsimp only at hg
    obtain⟨e1',h3,h4⟩:=Option.bind_eq_some_iff.mp hg
    refine⟨w,ws,e1,F,e,x,e1',R,hw,h3,fun σ1 x1 R1=>⟨F,e1',r,e',R1,hr,h4,fun σ2 x2 R2=>?_⟩⟩
    exact q σ2 ((x1.mono fun j h=>List.mem_append.mpr (.inl h)).trans (x2.mono fun j h=>List.mem_append.mpr (.inr h))) R2
theorem i7{es:List Expr}{k n:Nat}{gs:vX}(hK:X.K=K)(hc:X.calm=true)(h:qt X es (z7 K gs W))(hl:∀xs e e',gs xs e=some e'→xs.length=n)(hn:(assignEach es X.env).length=n)(hst:(assignEach es X.env).findIdx? (·.1)=none):PG X (.Tuple es k pos) (fG K (bP gs) W):=(vb hK hc h hn hst).mono fun v σ H Q h=>by
  obtain⟨F,e,x,e',R,hx,hg,q⟩:=h
  unfold bP at hg
  match x,hg,hx with
  | .tuple xs,hg,hx=>
    obtain⟨p,vs,e1,e2,e3⟩:=cO.mp hx
    exact⟨p,vs,e1,R.sm.tup e2,by rw [←e3.len];exact hl xs e e' hg,F,e,xs,e',R,e3,hg,q⟩
theorem iR(xs:List PyData)(e e':En)(h:bG xs e=some e'):xs.length=0:=by
  unfold bG at h
  split at h
  · rfl
  · cases h
theorem b7{g:FG}{gs:vX}{n:Nat}(hl:∀xs e e',gs xs e=some e'→xs.length=n)(xs:List PyData)(e e':En)(h:ar g gs xs e=some e'):xs.length=n+1:=by
  unfold ar at h
  match xs,h with
  | x::r,h=>
    obtain⟨e1,h3,h4⟩:=Option.bind_eq_some_iff.mp h
    simp [hl r e1 e' h4]
def ql(fa:FE)(g:FG):FS:=fun e=>(fa e).bind fun p=>match p.1 with
  | .d x=>(g x p.2).map .nx
  | _=>none
theorem xW{tg:Expr}{g:FG}(he:PE X a (fE K fa))(hg:PG X tg (fG K g W))(hs:swapsWithSole [tg] a pos.line X.env=pure false)(hw:swappedStores [tg] a X.env=pure none)
    (h1:(assignEach [tg] X.env).map (·.2)=[assign tg X.env]):PS X (.Assign [tg] a pos) (fS K (ql fa g) W):=(xJ he hg hs hw h1).mono fun D σ H h=>by
  obtain⟨F,e,fl,R,hf,q⟩:=h
  unfold ql at hf
  obtain⟨⟨r,e1⟩,h1,hf⟩:=Option.bind_eq_some_iff.mp hf
  match r,h1,hf with
  | .d x,h1,hf=>
    obtain⟨e2,h2,hf⟩:=Option.map_eq_some_iff.mp hf
    cases hf
    exact⟨F,e,_,e1,R,h1,fun F1 H1 v X1 R1 A1=>⟨F1,e1,x,e2,R1,A1,h2,fun σ' x2 R2=>q F1 H1 σ' (X1.s.trans x2) R2⟩⟩
def oF(i j:Nat)(fs:FA):FS:=fun e=>(fs e).bind fun p=>match p.1 with
  | [.d x,.d y]=>some (.nx ((p.2.set i (some (.d x))).set j (some (.d y))))
  | _=>none
theorem sP{i j:Nat}{x y:Str}{fs:FA}{px py pt:Pos}{kt k2 pt2}(hc:X.calm=true)(hN:X.N.Nodup)(hi:X.N[i]?=some x)(hj:X.N[j]?=some y)(hij:i≠j)
    (hx:X.env.scope.names.lookup x=some .local)(hy:X.env.scope.names.lookup y=some .local)(ha:PA X [a,b] (fA K fs))
    (hw:swappedStores [.Tuple [.Name x px,.Name y py] kt pt] (.Tuple [a,b] k2 pt2) X.env=pure (some [x,y]))
    (hs:swapsWithSole [.Tuple [.Name x px,.Name y py] kt pt] (.Tuple [a,b] k2 pt2) pos.line X.env=pure false):
    PS X (.Assign [.Tuple [.Name x px,.Name y py] kt pt] (.Tuple [a,b] k2 pt2) pos) (fS K (oF i j fs) [i,j]):=(xM hc hN hi hj hij hx hy ha hw hs).mono fun D σ H h=>by
  obtain⟨F,e,fl,R,hf,q⟩:=h
  unfold oF at hf
  obtain⟨⟨rs,e1⟩,h1,hf⟩:=Option.bind_eq_some_iff.mp hf
  refine⟨F,e,rs,e1,R,h1,fun F1 H1 vs X1 R1 A1=>?_⟩
  match rs,hf,A1 with
  | [.d x,.d y],hf,A1=>
    cases hf
    obtain⟨v,u,rfl,a1,a2⟩:=pE A1
    obtain⟨R2,o2⟩:=R1.setD i a1
    obtain⟨R3,o3⟩:=R2.setD j a2
    refine⟨v,u,rfl,q F1 H1 _ ⟨X1.sf,X1.dom,X1.fr,X1.lst,X1.tmp,fun a h=>X1.ow a (o2 a (o3 a h)),fun m n=>?_⟩ R3⟩
    rw [List.getElem?_set_ne (fun z=>n (by simp [z])),List.getElem?_set_ne (fun z=>n (by simp [z]))]
def nX:Rv→Option PyData
  | .d x=>some x
  | .l xs=>some (.list xs)
  | .s _=>none
theorem pX{r:Rv}{d:PyData}(h:nX r=some d):gL [r]=some [d]:=by
  cases r with
  | d x=>cases h;rfl
  | l xs=>cases h;rfl
  | s i=>cases h
def ff(ft:FT)(f:FS):Nat→FS
  | 0,_=>none
  | n+1,e=>(ft e).bind fun p=>if p.1=true then(f p.2).bind fun fl=>match fl with
      | .nx e1=>ff ft f n e1
      | .ct e1=>ff ft f n e1
      | .bk e1=>some (.nx e1)
      | .rt r e1=>some (.rt r e1)
    else some (.nx p.2)
def hG(n:Nat)(ft:FT)(f:FS):FS:=ff ft f n
theorem ka{n:Nat}{c:Expr}{body:List Stmt}(hp:PassesOwn (model X.prog X.w) X.A X.env X.xe)(hc:PT X c (fT K ft))(hb:jp X body (fS K f W)):PS X (.While c body [] pos) (fS K (hG n ft f) W):=(sE hp hc hb).mono fun D σ H h=>by
  refine⟨fun m σ H=>∃F e fl,aQ K F H σ e∧ff ft f m e=some fl∧jK K W σ F H e D fl,⟨n,h⟩,?_⟩
  rintro m σ H ⟨F,e,fl,R,hf,q⟩
  cases m with
  | zero=>cases hf
  | succ m=>
    unfold ff at hf
    obtain⟨⟨x,e1⟩,h1,hf⟩:=Option.bind_eq_some_iff.mp hf
    refine⟨F,e,x,e1,R,h1,fun F1 H1 X1 R1=>?_⟩
    have sub:∀j,j∈([]:List Nat)→j∈W:=fun j h=>by cases h
    cases x with
    | false=>
      rw [if_neg (by simp)] at hf
      cases hf
      exact y1 (q F1 H1 σ X1.s R1)
    | true=>
      rw [if_pos rfl] at hf
      refine y2 ?_
      obtain⟨fl1,h2,hf⟩:=Option.bind_eq_some_iff.mp hf
      have q1:jK K W σ F1 H1 e1 D fl:=q.later (W1:=[]) X1.s sub fun j h=>h
      refine⟨fun σ' H'=>∃F' e',aQ K F' H' σ' e'∧ff ft f m e'=some fl∧jK K W σ' F' H' e' D fl,fun σ' H' ⟨F',e',r1,r2,r3⟩=>⟨m,Nat.lt_succ_self m,F',e',fl,r1,r2,r3⟩,F1,e1,fl1,R1,h2,?_⟩
      cases fl1 with
      | nx e2=>exact fun F2 H2 σ2 x R2=>⟨F2,e2,R2,hf,q1.later x (fun j h=>h) fun j h=>h⟩
      | ct e2=>exact fun F2 H2 σ2 x R2=>⟨F2,e2,R2,hf,q1.later x (fun j h=>h) fun j h=>h⟩
      | bk e2=>cases hf;exact fun F2 H2 σ2 x R2=>q1 F2 H2 σ2 x R2
      | rt r e2=>cases hf;exact fun F2 H2 σ2 v x R2 A=>q1 F2 H2 σ2 v x R2 A
end
end L2
namespace L2
open PySem PySem.Spec PyProof.Rows
theorem PI.mono{X:Cx}{tg iter:Expr}{t t':TI}(h:PI X tg iter t)(m:∀σ H R,t' σ H R→t σ H R):PI X tg iter t':=fun pins s σ H R I q=>h pins s σ H R I (m σ H R q)
theorem PI.or{X:Cx}{tg iter:Expr}{t t':TI}(h:PI X tg iter t)(h':PI X tg iter t'):PI X tg iter (fun σ H R=>t σ H R∨t' σ H R):=fun pins s σ H R I q=>by
  rcases q with q | q
  · exact h pins s σ H R I q
  · exact h' pins s σ H R I q
abbrev fy:=List (Nat × List PyData)
def qu(K:PySem.W.Frag)(σ:L2.St)(F H:Hp)(own:fy):Prop:=∀p∈own,∃l vs,σ[p.1]?=some (some (.ref l))∧H l=some (.lst vs)∧ax K F p.2 vs
def pR(K:PySem.W.Frag)(σ:L2.St)(J:It)(items:List PyData)(own:fy)(F0:Hp):Prop:=∀F H,am F0 F→am F H→qu K σ F H own→
  (∀i,i < items.length→J.go i H)∧(∀i,items.length≤i→J.stop i H)∧∀i d x H',items[i]?=some d→J.yld i H x H'→∃F',am H H'∧am F F'∧am F' H'∧(∀a,F a=none→H a≠none→F' a=none)∧DA K F' d x
abbrev FI:=En→Option (List PyData × fy × En)
def keeps(own:fy)(e:En):Prop:=∀p∈own,e[p.1]?=some (some (.l p.2))
def fI(K:PySem.W.Frag)(f:FI):TI:=fun σ H R=>∃F e items own e',aQ K F H σ e∧f e=some (items,own,e')∧∀J F' H',dQ σ F H e F' H' e'→aQ K F' H' σ e'→keeps own e'→pR K σ J items own F'→R J H'
section
variable{K:PySem.W.Frag}{σ:L2.St}{H0 F H F' H':Hp}{e e':En}
theorem aQ.held(R:aQ K F H σ e){own:fy}(h:keeps own e):qu K σ F H own:=fun p hp=>by
  obtain⟨l,vs,h1,h2,h3,h4⟩:=R.own p.1 p.2 (h p hp)
  exact⟨l,vs,h1,h3,h4⟩
theorem aQ.step(R:aQ K F H σ e)(s:am H H')(sF:am F F')(sm:am F' H')(fz:∀a,F a=none→H a≠none→F' a=none):aQ K F' H' σ e∧dQ σ F H e F' H' e:=by
  obtain⟨R',o'⟩:=R.keep sF sm (fun a ⟨i,h⟩=>by
    obtain⟨h1,vs,h2⟩:=R.fpAt h
    exact fz a h1 (by rw [h2];simp)) fun a o _ h=>s a o h
  exact⟨R',⟨sF,fun a h=>s.free h,fun a vs h1 h2 _=>fz a h1 (by rw [h2];simp),fun a vs h=>⟨vs,s _ _ h⟩,fun a o h _=>s a o h,fun _=>Iff.rfl,fun a h=>.inl ((o' a).mp h)⟩⟩
inductive tY (K:PySem.W.Frag) (σ:L2.St) (F:Hp) (p:Addr):Bool→List PyData→fy→Prop
  | tup {xs vs}:cH K F p vs→ax K F xs vs→tY K σ F p false xs []
  | lst {xs vs}:fx K F p vs→ax K F xs vs→tY K σ F p true xs []
  | own {i xs}:σ[i]?=some (some (.ref p))→tY K σ F p true xs [(i,xs)]
theorem tY.at{p:Addr}{b:Bool}{xs:List PyData}{own:fy}{F0:Hp}(h:tY K σ F0 p b xs own)(s0:am F0 F)(s1:am F H){own':fy}(hh:qu K σ F H own')(hs:∀q∈own,q∈own'):∃vs,ax K F xs vs∧(if b=true then fx K H p vs else cH K H p vs):=by
  cases h with
  | tup h1 h2=>exact⟨_,h2.mono s0,(s0.trans s1).tup h1⟩
  | lst h1 h2=>exact⟨_,h2.mono s0,(s0.trans s1).seq h1⟩
  | @own i xs h1=>
    obtain⟨l,vs,g1,g2,g3⟩:=hh (i,xs) (hs (i,xs) (by simp))
    dsimp only at g1 g3
    rw [h1] at g1;cases g1
    exact⟨vs,g3,.inl (.inl g2)⟩
def tJ(e:En):Rv→Option (Bool × List PyData × fy)
  | .d (.tuple xs)=>some (false,xs,[])
  | .d (.list xs)=>some (true,xs,[])
  | .l xs=>some (true,xs,[])
  | .s i=>match e[i]? with
    | some (some (.l xs))=>some (true,xs,[(i,xs)])
    | _=>none
  | _=>none
theorem jy{r:Rv}{v:V}{b:Bool}{xs:List PyData}{own:fy}(R:aQ K F H σ e)(A:bN K σ H0 F H e r v)(h:tJ e r=some (b,xs,own)):
    ∃F' p,aQ K F' H σ e∧am F F'∧(∀a,F a=none→H0 a≠none→F' a=none)∧v=.ref p∧tY K σ F' p b xs own∧keeps own e:=by
  cases r with
  | d x=>
    cases x with
    | tuple ds=>
      cases h
      obtain⟨a,ys,e1,e2,e3⟩:=cO.mp A
      exact⟨F,a,R,am.refl _,fun _ h _=>h,e1,.tup e2 e3,fun p hp=>by cases hp⟩
    | list ds=>
      cases h
      obtain⟨a,ys,e1,e2,e3⟩:=ey.mp A
      exact⟨F,a,R,am.refl _,fun _ h _=>h,e1,.lst e2 e3,fun p hp=>by cases hp⟩
    | _=>cases h
  | l ys=>
    cases h
    obtain⟨F',R',s',d',f'⟩:=A.frozen R
    obtain⟨a,ys,e1,e2,e3⟩:=ey.mp d'
    exact⟨F',a,R',s',f',e1,.lst e2 e3,fun p hp=>by cases hp⟩
  | s i=>
    obtain⟨h1,ys,h2⟩:=A
    simp only [tJ,h2] at h
    cases h
    obtain⟨l,vs,e1,e2,e3,e4⟩:=R.own i _ h2
    rw [h1] at e1;cases e1
    exact⟨F,l,R,am.refl _,fun _ h _=>h,rfl,.own h1,fun p hp=>by simp only [List.mem_singleton] at hp;subst hp;exact h2⟩
theorem qa{p:Addr}{xs:List PyData}{own:fy}{F0:Hp}(h:tY K σ F0 p true xs own):pR K σ (Ac K p) xs own F0:=by
  intro F H s0 s1 hh
  obtain⟨vs,d,q⟩:=h.at s0 s1 hh fun _ h=>h
  have q:fx K H p vs:=q
  refine⟨fun i hi=>⟨vs,vs[i]'(by rw [←d.len];exact hi),q,List.getElem?_eq_getElem _⟩,fun i hi=>⟨vs,q,by rw [←d.len];exact hi⟩,fun i x v H' hx hy=>?_⟩
  obtain⟨rfl,hy⟩:=hy
  obtain⟨w,g1,g2⟩:=d.get hx
  have e:=hy vs q
  rw [g1] at e;cases e
  exact⟨F,am.refl _,am.refl _,s1,fun _ h _=>h,g2⟩
theorem rJ{p:Addr}{xs:List PyData}{own:fy}{F0:Hp}(h:tY K σ F0 p false xs own):pR K σ (Ad K p) xs own F0:=by
  intro F H s0 s1 hh
  obtain⟨vs,d,q⟩:=h.at s0 s1 hh fun _ h=>h
  have q:cH K H p vs:=q
  refine⟨fun i hi=>⟨vs,vs[i]'(by rw [←d.len];exact hi),q,List.getElem?_eq_getElem _⟩,fun i hi=>⟨vs,q,by rw [←d.len];exact hi⟩,fun i x v H' hx hy=>?_⟩
  obtain⟨rfl,hy⟩:=hy
  obtain⟨w,g1,g2⟩:=d.get hx
  have e:=hy vs q
  rw [g1] at e;cases e
  exact⟨F,am.refl _,am.refl _,s1,fun _ h _=>h,g2⟩
theorem mM{p:Addr}{x y:V}{a b:PyData}(s1:am F H)(hp:H p=none)(hx:DA K F a x)(hy:DA K F b y):∃F',am H (a_ H p (.tup [x,y]))∧am F F'∧am F' (a_ H p (.tup [x,y]))∧(∀c,F c=none→H c≠none→F' c=none)∧DA K F' (.tuple [a,b]) (.ref p):=by
  have hF:F p=none:=s1.free hp
  have sF:am F (a_ F p (.tup [x,y])):=am.new hF
  refine⟨a_ F p (.tup [x,y]),am.new hp,sF,fun b o q=>?_,fun c h n=>?_,cO.mpr ⟨p,_,rfl,.inl (.inl au),.cons (DA.mono sF hx) (.one (DA.mono sF hy))⟩⟩
  · by_cases z:b=p
    · subst z;rw [au] at q ⊢;exact q
    · rw [aC z] at q ⊢;exact s1 _ _ q
  · have z:c≠p:=fun z=>n (by rw [z];exact hp)
    rw [aC z];exact h
def cL:Nat→List PyData→List PyData
  | _,[]=>[]
  | n,x::r=>.tuple [.int n,x]::cL (n+1) r
theorem eG:∀{xs:List PyData} {n i:Nat},(cL n xs)[i]?=(xs[i]?).map fun x=>.tuple [.int ((n+i:Nat):Int),x]
  | [],n,i=>by simp [cL]
  | x::r,n,0=>by simp [cL]
  | x::r,n,i+1=>by
    simp only [cL,List.getElem?_cons_succ]
    rw [eG (xs:=r) (n:=n+1) (i:=i)]
    congr 1
    funext y
    rw [show n+1+i=n+(i+1) by lia]
theorem du:∀(xs:List PyData) (n:Nat),(cL n xs).length=xs.length
  | [],_=>rfl
  | x::r,n=>by simp [cL,du r (n+1)]
theorem oo{p:Addr}{xs:List PyData}{own:fy}{F0:Hp}(h:tY K σ F0 p true xs own):pR K σ (wF K p) (cL 0 xs) own F0:=by
  intro F H s0 s1 hh
  obtain⟨vs,d,q⟩:=h.at s0 s1 hh fun _ h=>h
  have q:fx K H p vs:=q
  rw [du]
  refine⟨fun i hi=>⟨vs,vs[i]'(by rw [←d.len];exact hi),q,List.getElem?_eq_getElem _⟩,fun i hi=>⟨vs,q,by rw [←d.len];exact hi⟩,fun i x v H' hx hy=>?_⟩
  obtain⟨t,y,rfl,ht,rfl,hy⟩:=hy
  rw [eG] at hx
  obtain⟨x',hx2,rfl⟩:=Option.map_eq_some_iff.mp hx
  obtain⟨w,g1,g2⟩:=d.get hx2
  have e:=hy vs q
  rw [g1] at e;cases e
  exact mM s1 ht (cf.mpr (by simp)) g2
theorem oq{p:Addr}{xs:List PyData}{own:fy}{F0:Hp}(h:tY K σ F0 p false xs own):pR K σ (wG K p) (cL 0 xs) own F0:=by
  intro F H s0 s1 hh
  obtain⟨vs,d,q⟩:=h.at s0 s1 hh fun _ h=>h
  have q:cH K H p vs:=q
  rw [du]
  refine⟨fun i hi=>⟨vs,vs[i]'(by rw [←d.len];exact hi),q,List.getElem?_eq_getElem _⟩,fun i hi=>⟨vs,q,by rw [←d.len];exact hi⟩,fun i x v H' hx hy=>?_⟩
  obtain⟨t,y,rfl,ht,rfl,hy⟩:=hy
  rw [eG] at hx
  obtain⟨x',hx2,rfl⟩:=Option.map_eq_some_iff.mp hx
  obtain⟨w,g1,g2⟩:=d.get hx2
  have e:=hy vs q
  rw [g1] at e;cases e
  exact mM s1 ht (cf.mpr (by simp)) g2
def a8(lo:Int)(n:Nat):List PyData:=(List.range n).map fun(i:Nat)=>.int (lo+(i:Int))
theorem ou{lo:Int}{n:Nat}{F0:Hp}:pR K σ (zY lo n) (a8 lo n) [] F0:=by
  intro F H s0 s1 hh
  unfold a8
  rw [List.length_map,List.length_range]
  refine⟨fun i hi=>hi,fun i hi=>hi,fun i x v H' hx hy=>?_⟩
  obtain⟨rfl,rfl⟩:=hy
  rw [List.getElem?_map] at hx
  obtain⟨k,h1,rfl⟩:=Option.map_eq_some_iff.mp hx
  have h2:=(List.getElem?_eq_some_iff.mp h1).2
  simp at h2
  subst h2
  exact⟨F,am.refl _,am.refl _,s1,fun _ h _=>h,cf.mpr rfl⟩
end
inductive Ab (K:PySem.W.Frag) (own:fy) (σ0:L2.St) (F1:Hp) (P:En→Prop) (G:L2.St→Hp→Hp→En→Prop) (σ:L2.St) (H:Hp):Prop
  | mk {F:Hp} {e:En} (R:aQ K F H σ e) (kp:keeps own e) (hσ:∀p∈own,σ[p.1]?=σ0[p.1]?) (sF:am F1 F) (hf:P e) (q:G σ F H e):Ab K own σ0 F1 P G σ H
section
variable{X:Cx}{K:PySem.W.Frag}{tg a b:Expr}{es:List Expr}{fa:FE}{fs:FA}{pos p tp:Pos}{k0:Nat}
def fv(fa:FE):FI:=fun e=>(fa e).bind fun p=>(tJ p.2 p.1).map fun s=>(s.2.1,s.2.2,p.2)
theorem eY(hK:X.K=K)(h:PE X a (fE K fa)):PI X tg a (fI K (fv fa)):=((sv (tg:=tg) hK h).or (ve (tg:=tg) hK h)).mono fun σ H R hh=>by
  obtain⟨F,e,items,own,e',R0,hf,q⟩:=hh
  unfold fv at hf
  obtain⟨⟨r,e1⟩,h1,hf⟩:=Option.bind_eq_some_iff.mp hf
  obtain⟨⟨b,xs,ow⟩,h2,hf⟩:=Option.map_eq_some_iff.mp hf
  cases hf
  cases b with
  | true=>
    refine .inl ⟨F,e,r,e1,R0,h1,fun F1 H1 v X1 R1 A1=>?_⟩
    obtain⟨F2,p,R2,s2,f2,rfl,sc,kp⟩:=jy R1 A1 h2
    obtain⟨vs,_,c⟩:=sc.at (am.refl _) R2.sm (R2.held kp) fun _ h=>h
    exact⟨p,rfl,⟨vs,c⟩,q _ F2 H1 (X1.frz s2 f2) R2 kp (qa sc)⟩
  | false=>
    refine .inr ⟨F,e,r,e1,R0,h1,fun F1 H1 v X1 R1 A1=>?_⟩
    obtain⟨F2,p,R2,s2,f2,rfl,sc,kp⟩:=jy R1 A1 h2
    obtain⟨vs,_,c⟩:=sc.at (am.refl _) R2.sm (R2.held kp) fun _ h=>h
    exact⟨p,rfl,⟨vs,c⟩,q _ F2 H1 (X1.frz s2 f2) R2 kp (rJ sc)⟩
def k9(fs:FA):FI:=fun e=>(fs e).bind fun p=>match p.1 with
  | [r]=>(tJ p.2 r).map fun s=>(cL 0 s.2.1,s.2.2,p.2)
  | _=>none
theorem ma(hK:X.K=K)(hg:Gl X "enumerate")(hm:X.mg "enumerate"=none)(ha:PA X [a] (fA K fs))(hs:starEach [a] X.env=[(false,eval a X.env)]):PI X (.Tuple es k0 tp) (.Call (.Name "enumerate" p) [a] [] pos) (fI K (k9 fs)):=((sr (es:=es) (k0:=k0) (tp:=tp) hK hg hm ha hs).or (su (es:=es) (k0:=k0) (tp:=tp) hK hg hm ha hs)).mono fun σ H R hh=>by
  obtain⟨F,e,items,own,e',R0,hf,q⟩:=hh
  unfold k9 at hf
  obtain⟨⟨rs,e1⟩,h1,hf⟩:=Option.bind_eq_some_iff.mp hf
  match rs,h1,hf with
  | [r],h1,hf=>
  obtain⟨⟨b,xs,ow⟩,h2,hf⟩:=Option.map_eq_some_iff.mp hf
  cases hf
  cases b with
  | true=>
    refine .inl ⟨F,e,_,e1,R0,h1,fun F1 H1 vs X1 R1 A1=>?_⟩
    obtain⟨v,rfl,A2⟩:=iz A1
    obtain⟨F2,p,R2,s2,f2,rfl,sc,kp⟩:=jy R1 A2 h2
    obtain⟨vs,_,c⟩:=sc.at (am.refl _) R2.sm (R2.held kp) fun _ h=>h
    exact⟨p,rfl,⟨vs,c⟩,q _ F2 H1 (X1.frz s2 f2) R2 kp (oo sc)⟩
  | false=>
    refine .inr ⟨F,e,_,e1,R0,h1,fun F1 H1 vs X1 R1 A1=>?_⟩
    obtain⟨v,rfl,A2⟩:=iz A1
    obtain⟨F2,p,R2,s2,f2,rfl,sc,kp⟩:=jy R1 A2 h2
    obtain⟨vs,_,c⟩:=sc.at (am.refl _) R2.sm (R2.held kp) fun _ h=>h
    exact⟨p,rfl,⟨vs,c⟩,q _ F2 H1 (X1.frz s2 f2) R2 kp (oq sc)⟩
def sY(j:Int):Bool:=decide (-1000000≤j)&&decide (j≤1000000)
theorem sZ{j:Int}(h:sY j=true): -1000000≤j∧j≤1000000:=by
  unfold sY at h
  rw [Bool.and_eq_true,decide_eq_true_iff,decide_eq_true_iff] at h
  exact h
def b_(fs:FA):FI:=fun e=>(fs e).bind fun p=>match p.1 with
  | [r]=>(bZ r).bind fun j=>if sY j=true then some (a8 0 j.toNat,[],p.2) else none
  | _=>none
theorem cx(hg:Gl X "range")(hm:X.mg "range"=none)(ha:PA X [a] (fA K fs))(hs:starEach [a] X.env=[(false,eval a X.env)]):PI X tg (.Call (.Name "range" p) [a] [] pos) (fI K (b_ fs)):=(qh hg hm ha hs).mono fun σ H R hh=>by
  obtain⟨F,e,items,own,e',R0,hf,q⟩:=hh
  unfold b_ at hf
  obtain⟨⟨rs,e1⟩,h1,hf⟩:=Option.bind_eq_some_iff.mp hf
  match rs,h1,hf with
  | [r],h1,hf=>
  obtain⟨j,h2,hf⟩:=Option.bind_eq_some_iff.mp hf
  split at hf
  case isFalse=>cases hf
  case isTrue hj=>
  cases hf
  refine⟨F,e,_,e1,R0,h1,fun F1 H1 vs X1 R1 A1=>?_⟩
  obtain⟨v,rfl,A2⟩:=iz A1
  have:=sZ hj
  exact⟨j,by rw [b6 A2 h2],by lia,by lia,q _ F1 H1 X1 R1 (fun _ h=>by cases h) ou⟩
open Classical in
noncomputable def kN(own:fy)(g:FG)(f:FS):List PyData→FS
  | [],e=>some (.nx e)
  | x::r,e=>(g x e).bind fun e1=>(f e1).bind fun fl=>match fl with
    | .nx e2=>if keeps own e2 then kN own g f r e2 else none
    | .ct e2=>if keeps own e2 then kN own g f r e2 else none
    | .bk e2=>some (.nx e2)
    | .rt v e2=>some (.rt v e2)
noncomputable def dU(W:List Nat)(fi:FI)(g:FG)(f:FS):FS:=fun e=>(fi e).bind fun p=>if (p.2.1.all fun q=> !W.contains q.1)=true then kN p.2.1 g f p.1 p.2.2 else none
theorem e6{W1 W2:List Nat}{iter:Expr}{body:List Stmt}{fi:FI}{g:FG}{f:FS}(hp:PassesOwn (model X.prog X.w) X.A X.env X.xe)(hc:X.calm=true)(hi:PI X tg iter (fI K fi))(hg:PG X tg (fG K g W1))(hb:jp X body (fS K f W2))(hs:∀x,foldedSetIterable iter X.env x=pure x):
    PS X (.For tg iter body [] pos) (fS K (dU (W1++W2) fi g f) (W1++W2)):=(xK hp hc hi hg hb hs).mono fun D σ0 H0 hh=>by
  obtain⟨F0,e0,fl,R0,hf,q0⟩:=hh
  unfold dU at hf
  obtain⟨⟨items,own,e1⟩,h1,hf⟩:=Option.bind_eq_some_iff.mp hf
  dsimp only at hf
  split at hf
  case isFalse=>cases hf
  case isTrue hW=>
  have hW':∀p∈own,p.1∉W1++W2:=fun p hp=>by
    have:=List.all_eq_true.mp hW p hp
    simpa using this
  refine⟨F0,e0,items,own,e1,R0,h1,fun J F1 H1 X1 R1 kp ok=>?_⟩
  have s1:∀j,j∈W1→j∈W1++W2:=fun j h=>List.mem_append.mpr (.inl h)
  have s2:∀j,j∈W2→j∈W1++W2:=fun j h=>List.mem_append.mpr (.inr h)
  have q1:jK K (W1++W2) σ0 F1 H1 e1 D fl:=q0.later (W1:=[]) X1.s (fun j h=>by cases h) fun j h=>h
  refine⟨fun i m σ H=>m=items.length - i∧i≤items.length∧Ab K own σ0 F1 (fun e=>kN own g f (items.drop i) e=some fl) (fun σ F H e=>jK K (W1++W2) σ F H e D fl) σ H,
    ⟨items.length,by simp,Nat.zero_le _,.mk R1 kp (fun _ _=>rfl) (am.refl _) hf q1⟩,?_⟩
  rintro i m σ H ⟨rfl,hi,⟨R,kp,hσ,sF,hf,q⟩⟩
  rename_i F e
  have held:qu K σ0 F H own:=fun p hp=>by
    obtain⟨l,vs,g1,g2⟩:=R.held kp p hp
    exact⟨l,vs,by rw [←hσ p hp];exact g1,g2⟩
  obtain⟨go,stop,yld⟩:=ok F H sF R.sm held
  by_cases hlt:i < items.length
  · have hd:items.drop i=items[i]::items.drop (i+1):=List.drop_eq_getElem_cons hlt
    rw [hd] at hf
    unfold kN at hf
    obtain⟨e2,h2,hf⟩:=Option.bind_eq_some_iff.mp hf
    obtain⟨fl2,h3,hf⟩:=Option.bind_eq_some_iff.mp hf
    refine .inr ⟨go i hlt,Ab K own σ0 F1 (fun e=>kN own g f (items.drop (i+1)) e=some fl) (fun σ F H e=>jK K (W1++W2) σ F H e D fl),
      fun σ' H' r=>⟨items.length - (i+1),by lia,rfl,hlt,r⟩,fun x H' hy=>?_⟩
    obtain⟨F',sH,sF',sm',fz,hx⟩:=yld i items[i] x H' (List.getElem?_eq_getElem hlt) hy
    obtain⟨R',X'⟩:=R.step sH sF' sm' fz
    refine⟨F',e,items[i],e2,R',hx,h2,fun σ2 x2 R2=>⟨F',e2,fl2,R2,h3,?_⟩⟩
    have q2:jK K (W1++W2) σ2 F' H' e2 D fl:=(q.later (W1:=[]) (W2:=W1++W2) X'.s (fun j h=>by cases h) fun j h=>h).later x2 s1 fun j h=>h
    have w2:∀p∈own,σ2[p.1]?=σ0[p.1]?:=fun p hp=>(x2.wr p.1 fun z=>hW' p hp (s1 _ z)).trans (hσ p hp)
    cases fl2 with
    | nx e3=>
      intro F3 H3 σ3 x3 R3
      dsimp only at hf
      split at hf
      case isFalse=>cases hf
      case isTrue kp3=>
      exact .mk R3 kp3 (fun p hp=>(x3.wr p.1 fun z=>hW' p hp (s2 _ z)).trans (w2 p hp)) (sF.trans (sF'.trans x3.sf)) hf (q2.later x3 s2 fun j h=>h)
    | ct e3=>
      intro F3 H3 σ3 x3 R3
      dsimp only at hf
      split at hf
      case isFalse=>cases hf
      case isTrue kp3=>
      exact .mk R3 kp3 (fun p hp=>(x3.wr p.1 fun z=>hW' p hp (s2 _ z)).trans (w2 p hp)) (sF.trans (sF'.trans x3.sf)) hf (q2.later x3 s2 fun j h=>h)
    | bk e3=>
      cases hf
      exact fun F3 H3 σ3 x3 R3=>q2 F3 H3 σ3 (x3.mono s2) R3
    | rt r e3=>
      cases hf
      exact fun F3 H3 σ3 v x3 R3 A3=>q2 F3 H3 σ3 v (x3.mono s2) R3 A3
  · have hd:items.drop i=[]:=List.drop_eq_nil_of_le (by lia)
    rw [hd] at hf
    cases hf
    exact .inl ⟨stop i (by lia),q F H σ cI.refl R⟩
end
end L2
namespace L2
open PySem PySem.Spec PyProof.Rows
def t5:Option (Option Sv)→Bool
  | some (some (.l _))=>true
  | _=>false
theorem uy{s:Option (Option Sv)}:t5 s=true↔ ∃xs,s=some (some (.l xs)):=by
  unfold t5
  split
  · simp
  · rename_i h
    constructor
    · intro z;cases z
    · rintro⟨xs,rfl⟩;exact absurd rfl (h xs)
def kz(pos:Nat→Option Nat)(ei e:En):En:=e.mapIdx fun i s=>match s with
  | some (.l xs)=>match pos i with
    | some k=>(ei[k]?).join
    | none=>some (.l xs)
  | s=>s
theorem bJ{pos:Nat→Option Nat}{ei e:En}{i:Nat}:(kz pos ei e)[i]?=(e[i]?).map fun s=>match s with
  | some (.l xs)=>match pos i with
    | some k=>(ei[k]?).join
    | none=>some (.l xs)
  | s=>s:=by unfold kz;rw [List.getElem?_mapIdx]
structure mq (σ:L2.St) (e:En) (σi:L2.St) (ei:En) (pos:Nat→Option Nat):Prop where
  a:∀(i k:Nat) (xs:List PyData),e[i]?=some (some (.l xs))→pos i=some k→σi[k]?=σ[i]?
  b:∀(k:Nat) (ys:List PyData),ei[k]?=some (some (.l ys))→∃(i:Nat) (xs:List PyData),e[i]?=some (some (.l xs))∧pos i=some k∧σi[k]?=σ[i]?
section
variable{K:PySem.W.Frag}{σ σi σi':L2.St}{F H F' H':Hp}{e ei ei':En}{pos:Nat→Option Nat}
def yD(e:En):Prop:=∀(i:Nat) (xss:List (List PyData)),e[i]?≠some (some (.n xss))
theorem mq.own(s:mq σ e σi ei pos)(hn:yD ei){a:Addr}{H H':Hp}(h:cN σi ei H a):∃(i k:Nat) (xs:List PyData),e[i]?=some (some (.l xs))∧pos i=some k∧σ[i]?=some (some (.ref a)):=by
  obtain⟨k,⟨ys,h1,h2⟩ | ⟨xss,_,_,h1,_⟩⟩:=h
  · obtain⟨i,xs,g1,g2,g3⟩:=s.b k ys h1
    exact⟨i,k,xs,g1,g2,by rw [←g3];exact h2⟩
  · exact absurd h1 (hn k xss)
theorem nj(R:aQ K F H σ e)(s:mq σ e σi ei pos)(hnn:yD ei)(sf:am F F')(dom:∀a,H' a=none→H a=none)(fr:∀a vs,F a=none→H a=some (.lst vs)→¬cN σi ei H a→F' a=none)(lst:∀a vs,H a=some (.lst vs)→∃vs',H' a=some (.lst vs'))
    (tmp:∀a o,H a=some o→¬cN σi ei H a→H' a=some o)(R':aQ K F' H' σi' ei')(hσ:∀(i k:Nat) (xs:List PyData),e[i]?=some (some (.l xs))→pos i=some k→σi'[k]?=σi[k]?)(hsh:∀(i k:Nat) (xs:List PyData),e[i]?=some (some (.l xs))→pos i=some k→∃ys,ei'[k]?=some (some (.l ys))):
    aQ K F' H' σ (kz pos ei' e)∧dQ σ F H e F' H' (kz pos ei' e)∧∀a,cN σ (kz pos ei' e) H' a→cN σ e H a:=by
  have shp:∀i:Nat,(∃xs,(kz pos ei' e)[i]?=some (some (.l xs)))↔ (∃xs,e[i]?=some (some (.l xs))):=by
    intro i
    rw [bJ]
    match h:e[i]? with
    | none=>simp
    | some none=>simp
    | some (some (.d x))=>simp
    | some (some (.n x))=>simp
    | some (some (.l xs))=>
      simp only [Option.map_some]
      constructor
      · intro _;exact⟨xs,rfl⟩
      · intro _
        match hp:pos i with
        | none=>exact⟨xs,rfl⟩
        | some k=>
          obtain⟨ys,g⟩:=hsh i k xs h hp
          exact⟨ys,by show some ((ei'[k]?).join)=_;rw [g];rfl⟩
  have oth:∀(i:Nat) (s:Sv),(∀xs,s≠.l xs)→((kz pos ei' e)[i]?=some (some s)↔ e[i]?=some (some s)):=by
    intro i s hs
    constructor
    · intro h
      rw [bJ] at h
      match h1:e[i]?,h with
      | some (some (.d y)),h=>exact h
      | some (some (.n y)),h=>exact h
      | some (some (.l ys)),h=>
        simp only [Option.map_some,Option.some.injEq] at h
        match hp:pos i,h with
        | none,h=>cases h;exact absurd rfl (hs _)
        | some k,h=>
          obtain⟨zs,g⟩:=hsh i k ys h1 hp
          change (ei'[k]?).join=_ at h
          rw [g] at h;cases h;exact absurd rfl (hs _)
      | some none,h=>simp at h
      | none,h=>simp at h
    · intro h
      rw [bJ,h]
      cases s with
      | d y=>rfl
      | n y=>rfl
      | l y=>exact absurd rfl (hs y)
  have out:∀i a,Fp σ e H i a→(∀k xs,e[i]?=some (some (.l xs))→pos i≠some k)→¬cN σi ei H a:=by
    intro i a hi hp z
    obtain⟨j,k,ws,d1,d2,d3⟩:=s.own hnn (H':=H') z
    have:i=j:=R.fp i j a hi (.inl ⟨ws,d1,d3⟩)
    subst this
    exact hp k ws d1 d2
  have keep:∀i a o,Fp σ e H i a→(∀k xs,e[i]?=some (some (.l xs))→pos i≠some k)→H a=some o→H' a=some o:=fun i a o hi hp ha=>tmp a o ha (out i a hi hp)
  have sown:∀a,cN σi ei H a→cN σ e H a:=fun a z=>by
    obtain⟨j,k,ws,d1,d2,d3⟩:=s.own hnn (H':=H') z
    exact⟨j,.inl ⟨ws,d1,d3⟩⟩
  have fs:∀i a,Fp σ (kz pos ei' e) H' i a↔ Fp σ e H i a:=by
    intro i a
    have key:∀xss l,e[i]?=some (some (.n xss))→σ[i]?=some (some (.ref l))→H' l=H l:=fun xss l h1 h2=>by
      obtain⟨l',bs,g1,g2,g3,_⟩:=R.nst i xss h1
      rw [h2] at g1;cases g1
      rw [g3]
      exact keep i l _ (.inr ⟨xss,l,bs,h1,h2,g3,.inl rfl⟩) (fun k xs z=>by rw [h1] at z;cases z) g3
    constructor
    · rintro(⟨xs,h1,h2⟩ | ⟨xss,l,bs,h1,h2,h3,h4⟩)
      · obtain⟨ys,h⟩:=(shp i).mp ⟨xs,h1⟩
        exact .inl ⟨ys,h,h2⟩
      · have h1':=(oth i (.n xss) (fun _ z=>nomatch z)).mp h1
        exact .inr ⟨xss,l,bs,h1',h2,by rw [←key xss l h1' h2];exact h3,h4⟩
    · rintro(⟨xs,h1,h2⟩ | ⟨xss,l,bs,h1,h2,h3,h4⟩)
      · obtain⟨ys,h⟩:=(shp i).mpr ⟨xs,h1⟩
        exact .inl ⟨ys,h,h2⟩
      · exact .inr ⟨xss,l,bs,(oth i (.n xss) (fun _ z=>nomatch z)).mpr h1,h2,by rw [key xss l h1 h2];exact h3,h4⟩
  refine⟨⟨R'.sm,?_,fun i x h=>?_,fun i xs h=>?_,fun i xss h=>?_,fun i j a h1 h2=>R.fp i j a ((fs i a).mp h1) ((fs j a).mp h2)⟩,⟨sf,dom,fun a vs h1 h2 n=>fr a vs h1 h2 fun z=>n (sown a z),lst,fun a o h n=>tmp a o h fun z=>n (sown a z),shp,fun a ⟨i,h⟩=>.inl ⟨i,(fs i a).mp h⟩⟩,fun a ⟨i,h⟩=>⟨i,(fs i a).mp h⟩⟩
  · unfold kz;rw [List.length_mapIdx];exact R.len
  · obtain⟨v,g1,g2⟩:=R.dat i x ((oth i (.d x) (fun _ z=>nomatch z)).mp h)
    exact⟨v,g1,DA.mono sf g2⟩
  · obtain⟨ys,h1⟩:=(shp i).mp ⟨xs,h⟩
    obtain⟨l,vs,g1,g2,g3,g4⟩:=R.own i ys h1
    rw [bJ,h1] at h
    simp only [Option.map_some,Option.some.injEq] at h
    match hp:pos i,h with
    | none,h=>
      cases h
      have np:∀k xs,e[i]?=some (some (Sv.l xs))→pos i≠some k:=fun k xs _ z=>by rw [hp] at z;cases z
      have fi:Fp σ e H i l:=.inl ⟨_,h1,g1⟩
      exact⟨l,vs,g1,fr l vs g2 g3 (out i l fi np),keep i l _ fi np g3,g4.mono sf⟩
    | some k,h=>
      obtain⟨zs,c1⟩:=hsh i k ys h1 hp
      change (ei'[k]?).join=_ at h
      rw [c1] at h;cases h
      obtain⟨l',vs',d1,d2,d3,d4⟩:=R'.own k _ c1
      rw [hσ i k ys h1 hp,s.a i k ys h1 hp] at d1
      exact⟨l',vs',d1,d2,d3,d4⟩
  · have h1:=(oth i (.n xss) (fun _ z=>nomatch z)).mp h
    obtain⟨l,bs,g1,g2,g3,g4,g5,g6,g7⟩:=R.nst i xss h1
    have np:∀k xs,e[i]?=some (some (Sv.l xs))→pos i≠some k:=fun k xs z=>by rw [h1] at z;cases z
    have fi:Fp σ e H i l:=.inr ⟨xss,l,bs,h1,g1,g3,.inl rfl⟩
    refine⟨l,bs,g1,fr l _ g2 g3 (out i l fi np),keep i l _ fi np g3,g4,g5,g6,fun k b ys q1 q2=>?_⟩
    obtain⟨c1,us,c2,c3⟩:=g7 k b ys q1 q2
    have fb:Fp σ e H i b:=.inr ⟨xss,l,bs,h1,g1,g3,.inr (List.mem_of_getElem? q1)⟩
    exact⟨fr b _ c1 c2 (out i b fb np),us,keep i b _ fb np c2,c3.mono sf⟩
end
def ce(e:En):List Rv→Option (List Sv)
  | []=>some []
  | .d x::r=>(ce e r).map (.d x::·)
  | .l xs::r=>(ce e r).map (.d (.list xs)::·)
  | .s i::r=>match e[i]? with
    | some (some (.l xs))=>(ce e r).map (.l xs::·)
    | _=>none
def av:List Rv→List Nat
  | []=>[]
  | .s i::r=>i::av r
  | .d _::r=>av r
  | .l _::r=>av r
def g9(rs:List Rv)(i:Nat):Option Nat:=rs.findIdx? fun r=>match r with
  | .s j=>j==i
  | _=>false
def noS:Rv→Prop
  | .s _=>False
  | _=>True
abbrev FM:=List Sv→Option (Rv × List Sv)
def bW(K:PySem.W.Frag)(n:Nat)(m:FM):Sp:=fun vs H Q _=>vs.length=n∧∃F as r as',aQ K F H (vs.map some) (as.map some)∧yD (as.map some)∧m as=some (r,as')∧noS r∧
  ∀F' H' v,dQ (vs.map some) F H (as.map some) F' H' (as'.map some)→aQ K F' H' (vs.map some) (as'.map some)→bN K (vs.map some) H F' H' (as'.map some) r v→Q v H'
def aW:List Rv→List Sv→Bool
  | [],[]=>true
  | .s _::r,.l _::s=>aW r s
  | .d _::r,_::s=>aW r s
  | .l _::r,_::s=>aW r s
  | _,_=>false
def uH:Rv→Bool
  | .s _=>false
  | _=>true
def dB:List Rv→List Sv→En→En
  | .s i::r,.l ys::s,e=>dB r s (e.set i (some (.l ys)))
  | .d _::r,_::s,e=>dB r s e
  | .l _::r,_::s,e=>dB r s e
  | _,_,e=>e
def cz(n:Nat)(m:FM)(fs:FA):FE:=fun e=>(fs e).bind fun p=>(ce p.2 p.1).bind fun as=>(m as).bind fun z=>if p.1.length=n∧(av p.1).Nodup∧aW p.1 z.2=true∧uH z.1=true then some (z.1,dB p.1 z.2 p.2) else none
theorem eX:∀{rs:List Rv} {as:List Sv},aW rs as=true→∀(k i:Nat),rs[k]?=some (.s i)→∃ys,as[k]?=some (.l ys)
  | [],[],_,k,i,h=>by simp at h
  | .s j::r,.l ys::s,h,k,i,hk=>by
    cases k with
    | zero=>exact⟨ys,rfl⟩
    | succ k=>simpa using eX (rs:=r) (as:=s) (by simpa [aW] using h) k i (by simpa using hk)
  | .d x::r,y::s,h,k,i,hk=>by
    cases k with
    | zero=>simp at hk
    | succ k=>simpa using eX (rs:=r) (as:=s) (by simpa [aW] using h) k i (by simpa using hk)
  | .l x::r,y::s,h,k,i,hk=>by
    cases k with
    | zero=>simp at hk
    | succ k=>simpa using eX (rs:=r) (as:=s) (by simpa [aW] using h) k i (by simpa using hk)
  | .s _::_,.d _::_,h,_,_,_=>by simp [aW] at h
  | .s _::_,[],h,_,_,_=>by simp [aW] at h
  | .d _::_,[],h,_,_,_=>by simp [aW] at h
  | .l _::_,[],h,_,_,_=>by simp [aW] at h
theorem i5{r0:Rv}{rs:List Rv}{i:Nat}:g9 (r0::rs) i=if (match r0 with | .s j=>j==i | _=>false)=true then some 0 else(g9 rs i).map (· +1):=by
  unfold g9;rw [List.findIdx?_cons]
theorem i6{rs:List Rv}{i k:Nat}(h:g9 rs i=some k):rs[k]?=some (.s i):=by
  unfold g9 at h
  rw [List.findIdx?_eq_some_iff_getElem] at h
  obtain⟨hk,h1,_⟩:=h
  rw [List.getElem?_eq_getElem hk]
  split at h1
  · rename_i heq
    rw [heq]
    have:=eq_of_beq h1
    rw [this]
  · cases h1
theorem dw:∀{rs:List Rv} {i:Nat},i∈av rs↔ Rv.s i∈rs
  | [],i=>by simp [av]
  | .s j::r,i=>by simp [av,dw (rs:=r)]
  | .d x::r,i=>by simp [av,dw (rs:=r)]
  | .l x::r,i=>by simp [av,dw (rs:=r)]
theorem dP:∀{rs:List Rv} {i k j:Nat},(av rs).Nodup→rs[k]?=some (.s i)→rs[j]?=some (.s i)→k=j
  | [],i,k,j,_,h,_=>by simp at h
  | .s m::r,i,k,j,hn,h1,h2=>by
    simp only [av,List.nodup_cons] at hn
    cases k with
    | zero=>
      simp at h1;subst h1
      cases j with
      | zero=>rfl
      | succ j=>exact absurd (dw.mpr (List.mem_of_getElem? (by simpa using h2))) hn.1
    | succ k=>
      cases j with
      | zero=>
        simp at h2;subst h2
        exact absurd (dw.mpr (List.mem_of_getElem? (by simpa using h1))) hn.1
      | succ j=>
        have:=dP (rs:=r) (i:=i) (k:=k) (j:=j) hn.2 (by simpa using h1) (by simpa using h2)
        lia
  | .d x::r,i,k,j,hn,h1,h2=>by
    cases k with
    | zero=>simp at h1
    | succ k=>
      cases j with
      | zero=>simp at h2
      | succ j=>
        have:=dP (rs:=r) (i:=i) (k:=k) (j:=j) (by simpa [av] using hn) (by simpa using h1) (by simpa using h2)
        lia
  | .l x::r,i,k,j,hn,h1,h2=>by
    cases k with
    | zero=>simp at h1
    | succ k=>
      cases j with
      | zero=>simp at h2
      | succ j=>
        have:=dP (rs:=r) (i:=i) (k:=k) (j:=j) (by simpa [av] using hn) (by simpa using h1) (by simpa using h2)
        lia
theorem sy{rs:List Rv}{i:Nat}(h:i∉av rs):g9 rs i=none:=by
  unfold g9
  rw [List.findIdx?_eq_none_iff]
  intro r hr
  cases r with
  | d x=>rfl
  | l x=>rfl
  | s j=>
    have:j≠i:=fun z=>h (by rw [←z];exact dw.mpr hr)
    simpa using this
theorem jv:∀{rs:List Rv} {as:List Sv} {e:En},(av rs).Nodup→aW rs as=true→(∀j∈av rs,∃xs,e[j]?=some (some (.l xs)))→dB rs as e=kz (g9 rs) (as.map some) e
  | [],[],e,_,_,_=>by
    refine List.ext_getElem? fun i=>?_
    rw [bJ]
    have:g9 [] i=none:=rfl
    rw [this]
    simp only [dB]
    match e[i]? with
    | none=>rfl
    | some none=>rfl
    | some (some (.d x))=>rfl
    | some (some (.l x))=>rfl
    | some (some (.n x))=>rfl
  | .d x::r,y::s,e,hn,hl,hs=>by
    rw [show dB (.d x::r) (y::s) e=dB r s e from rfl,jv (by simpa [av] using hn) (by simpa [aW] using hl) (fun j hj=>hs j (by simpa [av] using hj))]
    refine List.ext_getElem? fun i=>?_
    rw [bJ,bJ,i5]
    cases g9 r i<;>simp
  | .l x::r,y::s,e,hn,hl,hs=>by
    rw [show dB (.l x::r) (y::s) e=dB r s e from rfl,jv (by simpa [av] using hn) (by simpa [aW] using hl) (fun j hj=>hs j (by simpa [av] using hj))]
    refine List.ext_getElem? fun i=>?_
    rw [bJ,bJ,i5]
    cases g9 r i<;>simp
  | .s k::r,.l ys::s,e,hn,hl,hs=>by
    simp only [av,List.nodup_cons] at hn
    obtain⟨xs,hk⟩:=hs k (by simp [av])
    have hlt:k < e.length:=(List.getElem?_eq_some_iff.mp hk).1
    rw [show dB (.s k::r) (.l ys::s) e=dB r s (e.set k (some (.l ys))) from rfl,jv hn.2 (by simpa [aW] using hl) (fun j hj=>by
      have z:k≠j:=fun z=>hn.1 (by rw [z];exact hj)
      rw [List.getElem?_set_ne z]
      exact hs j (by simp [av,hj]))]
    refine List.ext_getElem? fun i=>?_
    rw [bJ,bJ,i5]
    by_cases z:k=i
    · subst z
      rw [List.getElem?_set_self hlt,hk,sy hn.1]
      simp
    · rw [List.getElem?_set_ne z]
      have:((match (Rv.s k) with | .s j=>j==i | _=>false)=true)=False:=by simp [z]
      simp only [this,if_false]
      cases g9 r i<;>simp
  | .s _::_,.d _::_,_,_,h,_=>by simp [aW] at h
  | .s _::_,.n _::_,_,_,h,_=>by simp [aW] at h
  | .s _::_,[],_,_,h,_=>by simp [aW] at h
  | .d _::_,[],_,_,h,_=>by simp [aW] at h
  | .l _::_,[],_,_,h,_=>by simp [aW] at h
  | [],_::_,_,_,h,_=>by simp [aW] at h
theorem dk{e:En}:∀{rs:List Rv} {as:List Sv},ce e rs=some as→∀j∈av rs,∃xs,e[j]?=some (some (.l xs))
  | [],_,_,j,h=>by simp [av] at h
  | .d x::rs,as,q,j,h=>by
    obtain⟨as',q1,rfl⟩:=Option.map_eq_some_iff.mp q
    exact dk q1 j (by simpa [av] using h)
  | .l x::rs,as,q,j,h=>by
    obtain⟨as',q1,rfl⟩:=Option.map_eq_some_iff.mp q
    exact dk q1 j (by simpa [av] using h)
  | .s k::rs,as,q,j,h=>by
    unfold ce at q
    match he:e[k]?,q with
    | some (some (.l xs)),q=>
      obtain⟨as',q1,rfl⟩:=Option.map_eq_some_iff.mp q
      simp only [av,List.mem_cons] at h
      rcases h with rfl | h
      · exact⟨xs,he⟩
      · exact dk q1 j h
theorem hX{e:En}:∀{rs:List Rv} {as:List Sv} {k i:Nat},ce e rs=some as→rs[k]?=some (.s i)→∃xs,as[k]?=some (.l xs)
  | [],_,k,i,_,h=>by simp at h
  | .d x::rs,as,k,i,q,h=>by
    obtain⟨as',q1,rfl⟩:=Option.map_eq_some_iff.mp q
    cases k with
    | zero=>simp at h
    | succ k=>simpa using hX (k:=k) (i:=i) q1 (by simpa using h)
  | .l x::rs,as,k,i,q,h=>by
    obtain⟨as',q1,rfl⟩:=Option.map_eq_some_iff.mp q
    cases k with
    | zero=>simp at h
    | succ k=>simpa using hX (k:=k) (i:=i) q1 (by simpa using h)
  | .s j::rs,as,k,i,q,h=>by
    unfold ce at q
    match he:e[j]?,q with
    | some (some (.l xs)),q=>
      obtain⟨as',q1,rfl⟩:=Option.map_eq_some_iff.mp q
      cases k with
      | zero=>exact⟨xs,rfl⟩
      | succ k=>simpa using hX (k:=k) (i:=i) q1 (by simpa using h)
section
variable{X:Cx}{K:PySem.W.Frag}{σ:L2.St}{H0 H:Hp}{e:En}
theorem jr:∀{rs:List Rv} {vs:List V} {as:List Sv} {F:Hp},aQ K F H σ e→cK K σ H0 F H e rs vs→ce e rs=some as→
    ∃F',aQ K F' H σ e∧am F F'∧(∀a,F a=none→H0 a≠none→F' a=none)∧vs.length=as.length∧rs.length=as.length∧
      (∀(k:Nat) (x:PyData),as[k]?=some (.d x)→∃v,vs[k]?=some v∧DA K F' x v)∧∀(k:Nat) (xs:List PyData),as[k]?=some (.l xs)→∃i,rs[k]?=some (.s i)∧e[i]?=some (some (.l xs))∧∃v,vs[k]?=some v∧σ[i]?=some (some v)
  | [],vs,as,F,R,h,q=>by
    cases q
    have h':vs=[]:=h
    subst h'
    exact⟨F,R,am.refl _,fun _ h _=>h,rfl,rfl,fun k x h=>by simp at h,fun k x h=>by simp at h⟩
  | .d x::rs,_,as,F,R,h,q=>by
    obtain⟨v,ws,rfl,h1,h2⟩:=h
    obtain⟨as',q1,rfl⟩:=Option.map_eq_some_iff.mp q
    obtain⟨F',R',s',f',l1,l2,d',o'⟩:=jr R h2 q1
    refine⟨F',R',s',f',by simp [l1],by simp [l2],fun k y hk=>?_,fun k ys hk=>?_⟩
    · cases k with
      | zero=>simp at hk;subst hk;exact⟨v,rfl,DA.mono s' h1⟩
      | succ k=>simpa using d' k y (by simpa using hk)
    · cases k with
      | zero=>simp at hk
      | succ k=>simpa using o' k ys (by simpa using hk)
  | .l xs::rs,_,as,F,R,h,q=>by
    obtain⟨v,ws,rfl,h1,h2⟩:=h
    obtain⟨as',q1,rfl⟩:=Option.map_eq_some_iff.mp q
    obtain⟨F',R',s',f',l1,l2,d',o'⟩:=jr R h2 q1
    have key:∃F2,aQ K F2 H σ e∧am F' F2∧(∀a,F' a=none→H0 a≠none→F2 a=none)∧DA K F2 (.list xs) v:=by
      obtain⟨l,us,rfl,g1,g2,g3,g4,g5⟩:=h1
      cases hl:F' l with
      | none=>
        have h1':bN K σ H0 F' H e (.l xs) (.ref l):=⟨l,us,rfl,g1,hl,g3,ax.mono s' g4,g5⟩
        obtain⟨F2,R2,s2,d2,f2⟩:=h1'.frozen R'
        exact⟨F2,R2,s2,f2,d2⟩
      | some o=>
        have:=R'.sm _ _ hl
        rw [g3] at this;cases this
        exact⟨F',R',am.refl _,fun _ h _=>h,ey.mpr ⟨l,us,rfl,.inl (.inl hl),ax.mono s' g4⟩⟩
    obtain⟨F2,R2,s2,f2,d2⟩:=key
    refine⟨F2,R2,s'.trans s2,fun a ha hn=>f2 a (f' a ha hn) hn,by simp [l1],by simp [l2],fun k y hk=>?_,fun k ys hk=>?_⟩
    · cases k with
      | zero=>simp at hk;subst hk;exact⟨v,rfl,d2⟩
      | succ k=>
        obtain⟨u,c1,c2⟩:=d' k y (by simpa using hk)
        exact⟨u,by simpa using c1,DA.mono s2 c2⟩
    · cases k with
      | zero=>simp at hk
      | succ k=>simpa using o' k ys (by simpa using hk)
  | .s i::rs,_,as,F,R,h,q=>by
    obtain⟨v,ws,rfl,h1,h2⟩:=h
    unfold ce at q
    match he:e[i]?,q with
    | some (some (.l xs)),q=>
      obtain⟨as',q1,rfl⟩:=Option.map_eq_some_iff.mp q
      obtain⟨F',R',s',f',l1,l2,d',o'⟩:=jr R h2 q1
      refine⟨F',R',s',f',by simp [l1],by simp [l2],fun k y hk=>?_,fun k ys hk=>?_⟩
      · cases k with
        | zero=>simp at hk
        | succ k=>simpa using d' k y (by simpa using hk)
      · cases k with
        | zero=>simp at hk;subst hk;exact⟨i,rfl,he,v,rfl,h1.1⟩
        | succ k=>simpa using o' k ys (by simpa using hk)
theorem dn{α:Type}{l:List α}{k:Nat}{x:α}:(l.map some)[k]?=some (some x)↔ l[k]?=some x:=by
  rw [List.getElem?_map]
  cases l[k]?<;>simp
theorem bN.noS{σ':L2.St}{e':En}{F H:Hp}{r:Rv}{v:V}(h:bN K σ' H0 F H e' r v)(n:L2.noS r)(ho:∀a,cN σ e H a→H0 a≠none):bN K σ H0 F H e r v:=by
  cases r with
  | d x=>exact h
  | l xs=>
    obtain⟨l,vs,e1,h1,h2,h3,h4,_⟩:=h
    exact⟨l,vs,e1,h1,h2,h3,h4,fun z=>ho l z h1⟩
  | s i=>exact absurd n (by simp [L2.noS])
theorem eR:∀{rs:List Rv} {as:List Sv},ce e rs=some as→yD (as.map some)
  | [],_,q=>by cases q;intro i xss h;simp at h
  | .d x::rs,as,q=>by
    obtain⟨as',q1,rfl⟩:=Option.map_eq_some_iff.mp q
    have ih:=eR q1
    intro i xss h
    cases i with
    | zero=>simp at h
    | succ i=>exact ih i xss (by simpa using h)
  | .l x::rs,as,q=>by
    obtain⟨as',q1,rfl⟩:=Option.map_eq_some_iff.mp q
    have ih:=eR q1
    intro i xss h
    cases i with
    | zero=>simp at h
    | succ i=>exact ih i xss (by simpa using h)
  | .s j::rs,as,q=>by
    unfold ce at q
    match he:e[j]?,q with
    | some (some (.l xs)),q=>
      obtain⟨as',q1,rfl⟩:=Option.map_eq_some_iff.mp q
      have ih:=eR q1
      intro i xss h
      cases i with
      | zero=>simp at h
      | succ i=>exact ih i xss (by simpa using h)
theorem yr{n:Nat}{m:FM}{fs:FA}{Q:VK}{E:XK}(h:fE K (cz n m fs) σ H Q):tL (bW K n m) [] E (fA K fs) σ H Q:=by
  obtain⟨F,e,z,e',R,hf,q⟩:=h
  unfold cz at hf
  obtain⟨⟨rs,e1⟩,h1,hf⟩:=Option.bind_eq_some_iff.mp hf
  obtain⟨as,h2,hf⟩:=Option.bind_eq_some_iff.mp hf
  obtain⟨⟨r,as'⟩,h3,hf⟩:=Option.bind_eq_some_iff.mp hf
  split at hf
  case isFalse=>cases hf
  case isTrue hc=>
  obtain⟨c1,c2,c3,c4⟩:=hc
  cases hf
  refine⟨F,e,rs,e1,R,h1,fun F1 H1 vs X1 R1 A1=>?_⟩
  obtain⟨F2,R2,s2,f2,l1,l2,d2,o2⟩:=jr R1 A1 h2
  have X2:=X1.frz s2 f2
  rw [List.append_nil]
  have hn:L2.noS r:=by
    cases r with
    | d x=>trivial
    | l x=>trivial
    | s i=>cases c4
  have nN:=eR h2
  have RA:aQ K F2 H1 (vs.map some) (as.map some):=by
    refine⟨R2.sm,by simp [l1],fun k x hk=>?_,fun k xs hk=>?_,fun k xss hk=>absurd hk (nN k xss),fun k j l f1 f2=>?_⟩
    · obtain⟨v,g1,g2⟩:=d2 k x (dn.mp hk)
      exact⟨v,dn.mpr g1,g2⟩
    · obtain⟨i,g1,g2,v,g3,g4⟩:=o2 k xs (dn.mp hk)
      obtain⟨l,us,k1,k2,k3,k4⟩:=R2.own i xs g2
      rw [g4] at k1;cases k1
      exact⟨l,us,dn.mpr g3,k2,k3,k4⟩
    · obtain⟨xs,g1,g3⟩:=f1.resolve_right fun⟨xss,_,_,z,_⟩=>nN k xss z
      obtain⟨ys,g2,g4⟩:=f2.resolve_right fun⟨xss,_,_,z,_⟩=>nN j xss z
      obtain⟨i1,a1,a2,v1,a3,a4⟩:=o2 k xs (dn.mp g1)
      obtain⟨i2,b1,b2,v2,b3,b4⟩:=o2 j ys (dn.mp g2)
      have e1:=dn.mp g3
      have e2:=dn.mp g4
      rw [a3] at e1;cases e1
      rw [b3] at e2;cases e2
      have:i1=i2:=R2.inj i1 i2 xs ys l a2 b2 a4 b4
      subst this
      exact dP c2 a1 b1
  have sub:mq σ e1 (vs.map some) (as.map some) (g9 rs):=by
    refine⟨fun i k xs g1 g2=>?_,fun k ys g1=>?_⟩
    · have g3:=i6 g2
      obtain⟨zs,hs⟩:=hX h2 g3
      obtain⟨i',a1,a2,v,a3,a4⟩:=o2 k zs hs
      rw [g3] at a1;cases a1
      rw [dn.mpr a3,a4]
    · obtain⟨i,a1,a2,v,a3,a4⟩:=o2 k ys (dn.mp g1)
      refine⟨i,ys,a2,?_,by rw [dn.mpr a3,a4]⟩
      cases hp:g9 rs i with
      | none=>
        unfold g9 at hp
        rw [List.findIdx?_eq_none_iff] at hp
        have:=hp _ (List.mem_of_getElem? a1)
        simp at this
      | some j=>rw [dP c2 (i6 hp) a1]
  refine⟨by rw [l1,←l2];exact c1,F2,as,r,as',RA,nN,h3,hn,fun F' H' v X3 R3 A3=>?_⟩
  obtain⟨R4,X4,o4⟩:=nj R2 sub nN X3.sf X3.dom X3.fr X3.lst X3.tmp R3 (fun _ _ _ _ _=>rfl) fun i k xs g1 g2=>by
    obtain⟨ys,g3⟩:=eX c3 k i (i6 g2)
    exact⟨ys,dn.mpr g3⟩
  have hb:=jv (e:=e1) c2 c3 (dk h2)
  rw [←hb] at R4 X4 o4
  exact q F' H' v (X2.trans X4) R4 ((A3.noS hn fun a z=>R2.ownH a (o4 a z)).weak X2.dom)
theorem aO{x:Str}{st:Stmt}{f:Addr}{fd:FuncData}{ps:List Str}{k n:Nat}{m:FM}{a:Expr}{es:List Expr}{fs:FA}{p pos:Pos}(h:bi X.K X.mg x st f fd ps)(G:aF X.prog X.w X.K X.mg X.base bU k f fd ps (bW K n m))(hr:c7 k X.A)(ha:PA X (a::es) (fA K fs))
    (hg:Gl X x)(hdb:(x==("__debug__":Str))=false)(he:starEach (a::es) X.env=(false,eval a X.env)::starEach es X.env)(hpl:(backTo pos (starEach es X.env)).any (·.1)=false):
    PE X (.Call (.Name x p) (a::es) [] pos) (fE K (cz n m fs)):=(AA h G hr ha hg hdb he hpl).mono fun _ _ _ h=>yr h
def pP:List Sv→En→Option (List Sv)
  | [],_=>some []
  | .d x::r,e=>(pP r e.tail).map (.d x::·)
  | .l _::r,e=>match e.head? with
    | some (some (.l ys))=>(pP r e.tail).map (.l ys::·)
    | _=>none
  | .n _::_,_=>none
def qN(n:Nat)(e:En):Rv→Option Rv
  | .s i=>if n≤i then match e[i]? with
      | some (some (.l xs))=>some (.l xs)
      | _=>none
    else none
  | r=>some r
def lb(W:List Nat)(as:List Sv):Bool:=W.all fun j=>match as[j]? with
  | some (.l _)=>false
  | _=>true
def hV(n k:Nat)(W:List Nat)(f:FS):FM:=fun as=>if as.length=n∧lb W as=true then(f (as.map some++List.replicate k none)).bind fun fl=>match fl with
    | .rt r e=>(qN n e r).bind fun r'=>(pP as e).map fun as'=>(r',as')
    | .nx e=>(pP as e).map fun as'=>(.d .none,as')
    | _=>none
  else none
theorem jA:∀{as as':List Sv} {e:En},pP as e=some as'→as'.length=as.length∧(∀(j:Nat) (x:PyData),as'[j]?=some (.d x)↔ as[j]?=some (.d x))∧(∀(j:Nat) (ys:List PyData),as'[j]?=some (.l ys)→(∃xs,as[j]?=some (.l xs))∧e[j]?=some (some (.l ys)))∧∀(j:Nat) (xs:List PyData),as[j]?=some (.l xs)→∃ys,as'[j]?=some (.l ys)
  | [],_,e,h=>by cases h;simp
  | .d x::r,_,e,h=>by
    obtain⟨s,h1,rfl⟩:=Option.map_eq_some_iff.mp h
    obtain⟨g1,g2,g3,g4⟩:=jA h1
    refine⟨by simp [g1],fun j y=>?_,fun j ys hj=>?_,fun j xs hj=>?_⟩
    · cases j with
      | zero=>simp
      | succ j=>simpa using g2 j y
    · cases j with
      | zero=>simp at hj
      | succ j=>
        obtain⟨c1,c2⟩:=g3 j ys (by simpa using hj)
        refine⟨by simpa using c1,?_⟩
        rw [List.getElem?_tail] at c2
        exact c2
    · cases j with
      | zero=>simp at hj
      | succ j=>simpa using g4 j xs (by simpa using hj)
  | .l xs::r,_,e,h=>by
    unfold pP at h
    match he:e.head?,h with
    | some (some (.l ys)),h=>
      obtain⟨s,h1,rfl⟩:=Option.map_eq_some_iff.mp h
      obtain⟨g1,g2,g3,g4⟩:=jA h1
      refine⟨by simp [g1],fun j y=>?_,fun j zs hj=>?_,fun j zs hj=>?_⟩
      · cases j with
        | zero=>simp
        | succ j=>simpa using g2 j y
      · cases j with
        | zero=>
          simp at hj;subst hj
          exact⟨⟨xs,rfl⟩,by rw [List.head?_eq_getElem?] at he;exact he⟩
        | succ j=>
          obtain⟨c1,c2⟩:=g3 j zs (by simpa using hj)
          refine⟨by simpa using c1,?_⟩
          rw [List.getElem?_tail] at c2
          exact c2
      · cases j with
        | zero=>exact⟨ys,rfl⟩
        | succ j=>simpa using g4 j zs (by simpa using hj)
  | .n x::r,_,e,h=>by simp [pP] at h
end
end L2
namespace L2
open PySem PySem.Spec PyProof.Rows
theorem cY{α:Type}{l:List (Option α)}{k i:Nat}{x:α}(h:(l++List.replicate k none)[i]?=some (some x)):l[i]?=some (some x):=by
  rw [List.getElem?_append] at h
  split at h
  · exact h
  · rw [List.getElem?_replicate] at h
    split at h<;>simp at h
theorem c9{α:Type}{l:List (Option α)}{k i:Nat}{x:α}(h:l[i]?=some (some x)):(l++List.replicate k none)[i]?=some (some x):=by
  have hi:i < l.length:=(List.getElem?_eq_some_iff.mp h).1
  rw [List.getElem?_append_left hi];exact h
section
variable{K:PySem.W.Frag}{F H:Hp}{σ:L2.St}{e:En}{k:Nat}
theorem lO{i:Nat}{a:Addr}:Fp (σ++List.replicate k none) (e++List.replicate k none) H i a↔ Fp σ e H i a:=by
  constructor
  · rintro(⟨xs,h1,h2⟩ | ⟨xss,l,bs,h1,h2,h3⟩)
    · exact .inl ⟨xs,cY h1,cY h2⟩
    · exact .inr ⟨xss,l,bs,cY h1,cY h2,h3⟩
  · rintro(⟨xs,h1,h2⟩ | ⟨xss,l,bs,h1,h2,h3⟩)
    · exact .inl ⟨xs,c9 h1,c9 h2⟩
    · exact .inr ⟨xss,l,bs,c9 h1,c9 h2,h3⟩
theorem l8{a:Addr}:cN (σ++List.replicate k none) (e++List.replicate k none) H a↔ cN σ e H a:=⟨fun⟨i,h⟩=>⟨i,lO.mp h⟩,fun⟨i,h⟩=>⟨i,lO.mpr h⟩⟩
theorem aQ.pad(R:aQ K F H σ e):aQ K F H (σ++List.replicate k none) (e++List.replicate k none):=by
  refine⟨R.sm,by simp [R.len],fun i x h=>?_,fun i xs h=>?_,fun i xss h=>?_,fun i j a h1 h2=>R.fp i j a (lO.mp h1) (lO.mp h2)⟩
  · obtain⟨v,g1,g2⟩:=R.dat i x (cY h)
    exact⟨v,c9 g1,g2⟩
  · obtain⟨l,vs,g1,g2⟩:=R.own i xs (cY h)
    exact⟨l,vs,c9 g1,g2⟩
  · obtain⟨l,bs,g1,g2⟩:=R.nst i xss (cY h)
    exact⟨l,bs,c9 g1,g2⟩
end
theorem mj:∀{as as':List Sv} {e:En},pP as e=some as'→yD (as'.map some)
  | [],_,e,h=>by cases h;intro i xss z;simp at z
  | .d x::r,_,e,h=>by
    obtain⟨s,h1,rfl⟩:=Option.map_eq_some_iff.mp h
    have ih:=mj h1
    intro i xss z
    cases i with
    | zero=>simp at z
    | succ i=>exact ih i xss (by simpa using z)
  | .l xs::r,_,e,h=>by
    unfold pP at h
    match he:e.head?,h with
    | some (some (.l ys)),h=>
      obtain⟨s,h1,rfl⟩:=Option.map_eq_some_iff.mp h
      have ih:=mj h1
      intro i xss z
      cases i with
      | zero=>simp at z
      | succ i=>exact ih i xss (by simpa using z)
  | .n x::r,_,e,h=>by simp [pP] at h
theorem mN{W:List Nat}{as:List Sv}(h:lb W as=true){j:Nat}{xs:List PyData}(hj:as[j]?=some (.l xs)):j∉W:=fun z=>by
  unfold lb at h
  have:=List.all_eq_true.mp h j z
  rw [hj] at this
  cases this
section
variable{P:Program}{w:World}{K:PySem.W.Frag}{mg:Str→Option Value}{base:Heap}
theorem bi.fn{x:Str}{st:Stmt}{f:Addr}{fd:FuncData}{N ps:List Str}{k n k0:Nat}{W:List Nat}{fb:FS}(h:bi K mg x st f fd ps)(S:ay N ps (ah st))(hn:ps.length=n)(hN:N.length=n+k0)
    (hb:∀(cdv:Value) (A:Around) (outer:List Env) (s:Shared) (H:Hp) (E:XK),c7 k (A.deeper (envOfC x (ah st) s.heap.objs.size f cdv))→jp (nW bU P w K mg base N x (ah st) f cdv A outer s H E).nox (bR st) (fS K fb W)):
    aF P w K mg base bU (k+1) f fd ps (bW K n (hV n k0 W fb)):=by
  refine h.F.ok S (fun vs H Q E q=>?_) fun cdv A outer s H vs Q E hr hsp=>⟨_,hb cdv A outer s H E hr,?_⟩
  · rw [hn];exact q.1
  · obtain⟨hl,F,as,r,as',R,nN,hm,nr,q⟩:=hsp
    unfold hV at hm
    split at hm
    case isFalse=>cases hm
    case isTrue hc=>
    obtain⟨la,nl⟩:=hc
    obtain⟨fl,h1,hm⟩:=Option.bind_eq_some_iff.mp hm
    have hst:fm N vs=vs.map some++List.replicate k0 none:=by unfold fm;rw [hN,hl];congr 2;lia
    rw [hst]
    have key:∀{as':List Sv} {e':En},pP as e'=some as'→∀F' H' σ',cI W (vs.map some++List.replicate k0 none) F H (as.map some++List.replicate k0 none) σ' F' H' e'→aQ K F' H' σ' e'→
        dQ (vs.map some) F H (as.map some) F' H' (as'.map some)∧aQ K F' H' (vs.map some) (as'.map some)∧∀a,cN (vs.map some) (as'.map some) H' a→cN (vs.map some) (as.map some) H a:=by
      intro as' e' hu F' H' σ' X' R'
      obtain⟨u1,u2,u3,u4⟩:=jA hu
      have uN:=mj hu
      have ow:∀a,cN (vs.map some) (as'.map some) H' a→cN (vs.map some) (as.map some) H a:=by
        rintro a ⟨j,⟨ys,c1,c2⟩ | ⟨xss,_,_,z,_⟩⟩
        · obtain⟨⟨xs,c3⟩,_⟩:=u3 j ys (dn.mp c1)
          exact⟨j,.inl ⟨xs,dn.mpr c3,c2⟩⟩
        · exact absurd z (uN j xss)
      have sg:∀(j:Nat) (xs:List PyData),as[j]?=some (.l xs)→σ'[j]?=(vs.map some)[j]?:=fun j xs hj=>by
        rw [X'.wr j (mN nl hj)]
        have hj2:j < (vs.map some).length:=by rw [List.length_map,hl,←la];exact(List.getElem?_eq_some_iff.mp hj).1
        rw [List.getElem?_append_left hj2]
      refine⟨⟨X'.sf,X'.dom,fun a vs h1 h2 hn=>X'.fr a vs h1 h2 fun z=>hn (l8.mp z),X'.lst,fun a o ha hn=>X'.tmp a o ha fun z=>hn (l8.mp z),fun j=>?_,fun a z=>.inl (ow a z)⟩,⟨R'.sm,?_,fun j y hj=>?_,fun j ys hj=>?_,fun j xss hj=>absurd hj (uN j xss),fun j i l f1 f2=>?_⟩,ow⟩
      · constructor
        · rintro⟨ys,hj⟩
          obtain⟨⟨xs,c⟩,_⟩:=u3 j ys (dn.mp hj)
          exact⟨xs,dn.mpr c⟩
        · rintro⟨xs,hj⟩
          obtain⟨ys,c⟩:=u4 j xs (dn.mp hj)
          exact⟨ys,dn.mpr c⟩
      · simp [u1,hl,la]
      · obtain⟨v,c1,c2⟩:=R.dat j y (dn.mpr ((u2 j y).mp (dn.mp hj)))
        exact⟨v,c1,DA.mono X'.sf c2⟩
      · obtain⟨⟨xs,c1⟩,c2⟩:=u3 j ys (dn.mp hj)
        obtain⟨l,us,d1,d2⟩:=R'.own j ys c2
        exact⟨l,us,by rw [←sg j xs c1];exact d1,d2⟩
      · obtain⟨xs,g1,g3⟩:=f1.resolve_right fun⟨xss,_,_,z,_⟩=>uN j xss z
        obtain⟨ys,g2,g4⟩:=f2.resolve_right fun⟨xss,_,_,z,_⟩=>uN i xss z
        obtain⟨⟨zs,c1⟩,c2⟩:=u3 j xs (dn.mp g1)
        obtain⟨⟨ws,c3⟩,c4⟩:=u3 i ys (dn.mp g2)
        exact R'.inj j i xs ys l c2 c4 (by rw [sg j zs c1];exact g3) (by rw [sg i ws c3];exact g4)
    refine⟨F,as.map some++List.replicate k0 none,fl,R.pad,h1,?_⟩
    cases fl with
    | bk e'=>cases hm
    | ct e'=>cases hm
    | nx e'=>
      obtain⟨as2,h2,hm⟩:=Option.map_eq_some_iff.mp hm
      cases hm
      intro F' H' σ' X' R'
      obtain⟨X2,R2,_⟩:=key h2 F' H' σ' X' R'
      exact q F' H' .non X2 R2 ((pb (K:=K) (F:=F')).mpr rfl)
    | rt r0 e'=>
      obtain⟨r1,h2,hm⟩:=Option.bind_eq_some_iff.mp hm
      obtain⟨as2,h3,hm⟩:=Option.map_eq_some_iff.mp hm
      cases hm
      intro F' H' σ' v X' R' A'
      obtain⟨X2,R2,ow2⟩:=key h3 F' H' σ' X' R'
      have noo:∀l,H l=none→¬cN (vs.map some) (as'.map some) H' l:=fun l hl z=>R.ownH l (ow2 l z) hl
      refine q F' H' v X2 R2 ?_
      cases r0 with
      | d y=>cases h2;exact A'
      | l ys=>
        cases h2
        obtain⟨l,us,d0,d1,d2,d3,d4,_⟩:=A'
        exact⟨l,us,d0,d1,d2,d3,d4,noo l d1⟩
      | s i=>
        simp only [qN] at h2
        split at h2
        case isFalse=>cases h2
        case isTrue hi=>
        obtain⟨a1,xs,a2⟩:=A'
        rw [a2] at h2
        cases h2
        obtain⟨l,us,d1,d2,d3,d4⟩:=R'.own i _ a2
        rw [a1] at d1;cases d1
        suffices hl0:H l=none from⟨l,us,rfl,hl0,d2,d3,d4,noo l hl0⟩
        rcases X'.own l ⟨i,.inl ⟨_,a2,a1⟩⟩ with z | z
        · obtain⟨j,zf⟩:=l8.mp z
          obtain⟨ys,z1,z2⟩:=zf.resolve_right fun⟨xss,_,_,z,_⟩=>nN j xss z
          have z1':=dn.mp z1
          obtain⟨u1,u2,u3,u4⟩:=jA h3
          obtain⟨ws,w1⟩:=u4 j ys z1'
          obtain⟨_,w2⟩:=u3 j ws w1
          have hj2:j < vs.length:=by rw [hl,←la];exact(List.getElem?_eq_some_iff.mp z1').1
          have e3:σ'[j]?=some (some (.ref l)):=by
            rw [X'.wr j (mN nl z1'),List.getElem?_append_left (by simpa using hj2)]
            exact z2
          have:=R'.inj i j _ ws l a2 w2 a1 e3
          lia
        · exact z
end
def y4:Option Sv→Option Sv
  | some (.n _)=>none
  | s=>s
def om(cp:List (Nat × Str))(nT:Nat)(e:En):En:=cp.map (fun p=>y4 (e[p.1]?).join)++List.replicate nT none
def j_(cp:List (Nat × Str))(i:Nat):Option Nat:=cp.findIdx? fun p=>p.1==i
def fg(g:FG)(ft:FT)(fe:FE):List PyData→En→List PyData→Option (List PyData × En)
  | [],e,acc=>some (acc,e)
  | x::r,e,acc=>(g x e).bind fun e1=>(ft e1).bind fun b=>if b.1=true then(fe b.2).bind fun v=>(nX v.1).bind fun d=>if acc.length < 1000000 then fg g ft fe r v.2 (acc++[d]) else none else fg g ft fe r b.2 acc
def lI(cp:List (Nat × Str))(ei e:En):Bool:=cp.all fun p=> !t5 e[p.1]? || t5 ei[(j_ cp p.1).getD 0]?
def bx(cp:List (Nat × Str))(nT:Nat)(fi:FI)(g:FG)(ft:FT)(fe:FE):FE:=fun e=>(fi e).bind fun p=>if (p.2.1.all fun q=> !(cp.any fun c=>c.1==q.1))=true then(fg g ft fe p.1 (om cp nT p.2.2) []).bind fun z=>if lI cp z.2 p.2.2=true then some (.l z.1,kz (j_ cp) z.2 p.2.2) else none else none
section
variable{K:PySem.W.Frag}{F H:Hp}{σ:L2.St}{e:En}{cp:List (Nat × Str)}{nT:Nat}
theorem eL{i k:Nat}(h:j_ cp i=some k):∃s,cp[k]?=some (i,s):=by
  unfold j_ at h
  rw [List.findIdx?_eq_some_iff_getElem] at h
  obtain⟨hk,h1,_⟩:=h
  refine⟨cp[k].2,?_⟩
  rw [List.getElem?_eq_getElem hk]
  have:=eq_of_beq h1
  rw [←this]
theorem gq{k:Nat}{x:Sv}(h:(om cp nT e)[k]?=some (some x)):∃i s,cp[k]?=some (i,s)∧e[i]?=some (some x):=by
  unfold om at h
  have h:=cY h
  rw [List.getElem?_map] at h
  obtain⟨p,h1,h2⟩:=Option.map_eq_some_iff.mp h
  refine⟨p.1,p.2,h1,?_⟩
  cases q:e[p.1]? with
  | none=>rw [q] at h2;cases h2
  | some y=>
    rw [q] at h2
    match y,h2 with
    | some (.d z),h2=>exact congrArg some h2
    | some (.l z),h2=>exact congrArg some h2
    | some (.n z),h2=>cases h2
    | none,h2=>cases h2
theorem io:yD (om cp nT e):=by
  intro k xss h
  unfold om at h
  have h:=cY h
  rw [List.getElem?_map] at h
  obtain⟨p,h1,h2⟩:=Option.map_eq_some_iff.mp h
  match (e[p.1]?).join,h2 with
  | some (.d z),h2=>cases h2
  | some (.l z),h2=>cases h2
  | some (.n z),h2=>cases h2
  | none,h2=>cases h2
theorem jx{k i:Nat}{s:Str}{v:V}(h:cp[k]?=some (i,s))(hv:σ[i]?=some (some v)):(eN cp nT σ)[k]?=some (some v):=by
  unfold eN
  refine c9 ?_
  rw [List.getElem?_map,h]
  simp [hv]
theorem kn{k i:Nat}{s:Str}{v:V}(h:cp[k]?=some (i,s))(hv:(eN cp nT σ)[k]?=some (some v)):σ[i]?=some (some v):=by
  unfold eN at hv
  have hv:=cY hv
  rw [List.getElem?_map,h] at hv
  simp only [Option.map_some,Option.some.injEq] at hv
  cases q:σ[i]? with
  | none=>rw [q] at hv;cases hv
  | some y=>rw [q] at hv;exact congrArg some hv
theorem lL:∀{cp:List (Nat × Str)} {k j i:Nat} {s t:Str},(cp.map (·.1)).Nodup→cp[k]?=some (i,s)→cp[j]?=some (i,t)→k=j
  | [],k,j,i,s,t,_,h,_=>by simp at h
  | p::r,k,j,i,s,t,hn,h1,h2=>by
    simp only [List.map_cons,List.nodup_cons] at hn
    cases k with
    | zero=>
      simp at h1;subst h1
      cases j with
      | zero=>rfl
      | succ j=>
        have hm:(i,t)∈r:=List.mem_of_getElem? (i:=j) (by simpa using h2)
        exact absurd (List.mem_map.mpr ⟨(i,t),hm,rfl⟩) hn.1
    | succ k=>
      cases j with
      | zero=>
        simp at h2;subst h2
        have hm:(i,s)∈r:=List.mem_of_getElem? (i:=k) (by simpa using h1)
        exact absurd (List.mem_map.mpr ⟨(i,s),hm,rfl⟩) hn.1
      | succ j=>
        have:=lL (cp:=r) (k:=k) (j:=j) hn.2 (by simpa using h1) (by simpa using h2)
        lia
theorem aQ.inn(R:aQ K F H σ e)(hn:(cp.map (·.1)).Nodup):aQ K F H (eN cp nT σ) (om cp nT e)∧mq σ e (eN cp nT σ) (om cp nT e) (j_ cp):=by
  refine⟨⟨R.sm,by simp [eN,om],fun k x h=>?_,fun k xs h=>?_,fun k xss h=>absurd h (io k xss),fun k j l f1 f2=>?_⟩,⟨fun i k xs h1 h2=>?_,fun k ys h=>?_⟩⟩
  · obtain⟨i,s,h1,h2⟩:=gq h
    obtain⟨v,g1,g2⟩:=R.dat i x h2
    exact⟨v,jx h1 g1,g2⟩
  · obtain⟨i,s,h1,h2⟩:=gq h
    obtain⟨l,vs,g1,g2⟩:=R.own i xs h2
    exact⟨l,vs,jx h1 g1,g2⟩
  · obtain⟨xs,h1,h3⟩:=f1.resolve_right fun⟨xss,_,_,z,_⟩=>io k xss z
    obtain⟨ys,h2,h4⟩:=f2.resolve_right fun⟨xss,_,_,z,_⟩=>io j xss z
    obtain⟨i,s,a1,a2⟩:=gq h1
    obtain⟨i',s',b1,b2⟩:=gq h2
    have:i=i':=R.inj i i' xs ys l a2 b2 (kn a1 h3) (kn b1 h4)
    subst this
    exact lL hn a1 b1
  · obtain⟨s,g⟩:=eL h2
    obtain⟨l,vs,g1,_⟩:=R.own i xs h1
    rw [g1];exact jx g g1
  · obtain⟨i,s,h1,h2⟩:=gq h
    obtain⟨l,vs,g1,_⟩:=R.own i ys h2
    refine⟨i,ys,h2,?_,by rw [g1];exact jx h1 g1⟩
    cases hp:j_ cp i with
    | none=>
      unfold j_ at hp
      rw [List.findIdx?_eq_none_iff] at hp
      have:=hp _ (List.mem_of_getElem? h1)
      simp at this
    | some j=>
      obtain⟨t,g⟩:=eL hp
      rw [lL hn g h1]
theorem aQ.putT(R:aQ K F H σ e){l:Addr}{ws:List V}(h1:F l=none)(h2:¬cN σ e H l):aQ K F (a_ H l (.lst ws)) σ e∧∀a,cN σ e (a_ H l (.lst ws)) a↔ cN σ e H a:=
  R.keep (am.refl F) (fun b o q=>by
    have z:b≠l:=fun z=>by rw [z,h1] at q;cases q
    rw [aC z];exact R.sm b o q) (fun a ⟨i,h⟩=>(R.fpAt h).1) fun a o ha q=>by
      have z:a≠l:=fun z=>h2 (by rw [←z];exact ha)
      rw [aC z];exact q
theorem cI.putT{W:List Nat}{σ':L2.St}{F' H':Hp}{e':En}(x:cI W σ F H e σ' F' H' e'){l:Addr}{o:HO}(h:H l=none)(ho:∀a,cN σ' e' (a_ H' l o) a↔ cN σ' e' H' a):cI W σ F H e σ' F' (a_ H' l o) e':=by
  refine⟨x.sf,fun a q=>?_,x.fr,fun a vs q=>?_,fun a u q n=>?_,fun a q=>x.own a ((ho a).mp q),x.wr⟩
  · by_cases z:a=l
    · rw [z];exact h
    · rw [aC z] at q;exact x.dom a q
  · have z:a≠l:=fun z=>by rw [z,h] at q;cases q
    rw [aC z];exact x.lst a vs q
  · have z:a≠l:=fun z=>by rw [z,h] at q;cases q
    rw [aC z];exact x.tmp a u q n
inductive CI (K:PySem.W.Frag) (W:List Nat) (σ0:L2.St) (F1 H1:Hp) (e0:En) (l:Addr) (P:Hp→En→List PyData→Prop) (σ':L2.St) (H':Hp):Prop
  | mk {F':Hp} {ei:En} {acc:List PyData} {vs:List V} (R:aQ K F' H' σ' ei) (X:cI W σ0 F1 H1 e0 σ' F' H' ei) (fl:F' l=none) (no:¬cN σ' ei H' l) (hl:H' l=some (.lst vs)) (da:ax K F' acc vs) (hc:P F' ei acc):CI K W σ0 F1 H1 e0 l P σ' H'
theorem nA{Q:VK}{fi:FI}{g:FG}{W:List Nat}{ft:FT}{fe:FE}(hn:(cp.map (·.1)).Nodup)(hW:∀j∈W,cp.length≤j)(h:fE K (bx cp nT fi g ft fe) σ H Q):pM cp nT (fI K fi) (fG K g W) (fT K ft) (fE K fe) σ H Q:=by
  obtain⟨F0,e0,z,e',R0,hf,q⟩:=h
  unfold bx at hf
  obtain⟨⟨items,own,e1⟩,h1,hf⟩:=Option.bind_eq_some_iff.mp hf
  dsimp only at hf
  split at hf
  case isFalse=>cases hf
  case isTrue hO=>
  obtain⟨⟨out,eo⟩,h2,hf⟩:=Option.bind_eq_some_iff.mp hf
  dsimp only at hf
  split at hf
  case isFalse=>cases hf
  case isTrue hB=>
  cases hf
  refine⟨⟨F0,e0,items,own,e1,R0,h1,fun J F1 H1 X1 R1 kp ok=>?_⟩⟩
  intro l hl
  obtain⟨Ri,sub⟩:=R1.inn (nT:=nT) hn
  have hFl:F1 l=none:=R1.freeF hl
  let Iv:Nat→L2.St→Hp→Prop:=fun i=>CI K W (eN cp nT σ) F1 H1 (om cp nT e1) l fun _ ei acc=>fg g ft fe (items.drop i) ei acc=some (out,eo)
  have notown:∀p∈own,∀a,σ[p.1]?=some (some (.ref a))→¬cN (eN cp nT σ) (om cp nT e1) H1 a:=by
    rintro p hp a ha ⟨k,zf⟩
    obtain⟨xs,c1,c2⟩:=zf.resolve_right fun⟨xss,_,_,z,_⟩=>io k xss z
    obtain⟨i,s,d1,d2⟩:=gq c1
    have e2:=kn d1 c2
    have:p.1=i:=R1.inj p.1 i p.2 xs a (kp p hp) d2 ha e2
    have hh:=List.all_eq_true.mp hO p hp
    simp only [Bool.not_eq_true',List.any_eq_false,beq_iff_eq] at hh
    exact hh (i,s) (List.mem_of_getElem? d1) this.symm
  refine⟨fun i m σ' H'=>m=items.length - i∧i≤items.length∧Iv i σ' H',⟨items.length,by simp,Nat.zero_le _,.mk (Ri.putT hFl (fun z=>(Ri.ownH l z) hl)).1 (cI.refl.putT hl (Ri.putT hFl (fun z=>(Ri.ownH l z) hl)).2) hFl (fun z=>(Ri.ownH l (((Ri.putT hFl (fun z=>(Ri.ownH l z) hl)).2 l).mp z)) hl) au ax.nil h2⟩,?_⟩
  rintro i m σ' H' ⟨rfl,hi,⟨R',X',fl,no,hl',da,hc⟩⟩
  rename_i F' ei acc vs
  have held:qu K σ F' H' own:=fun p hp=>by
    obtain⟨a,us,c1,c2,c3,c4⟩:=R1.own p.1 p.2 (kp p hp)
    exact⟨a,us,c1,X'.tmp a _ c3 (notown p hp a c1),c4.mono X'.sf⟩
  obtain⟨go,stop,yld⟩:=ok F' H' X'.sf R'.sm held
  by_cases hlt:i < items.length
  · have hd:items.drop i=items[i]::items.drop (i+1):=List.drop_eq_getElem_cons hlt
    rw [hd] at hc
    unfold fg at hc
    obtain⟨e2,c2,hc⟩:=Option.bind_eq_some_iff.mp hc
    obtain⟨⟨b,e3⟩,c3,hc⟩:=Option.bind_eq_some_iff.mp hc
    refine .inr ⟨go i hlt,Iv (i+1),fun σ2 H2 r=>⟨items.length - (i+1),by lia,rfl,hlt,r⟩,fun x H2 hy=>?_⟩
    obtain⟨F2,sH,sF2,sm2,fz,hx⟩:=yld i items[i] x H2 (List.getElem?_eq_getElem hlt) hy
    obtain⟨R2,X2⟩:=R'.step sH sF2 sm2 fz
    refine⟨F2,ei,items[i],e2,R2,hx,c2,fun σ3 X3 R3=>⟨F2,e2,b,e3,R3,c3,fun F4 H4 X4 R4=>?_⟩⟩
    have hlH2:H2 l=some (.lst vs):=sH _ _ hl'
    have no2:¬cN σ' ei H2 l:=fun z=>by
      rcases X2.ow l z with z | z
      · exact no z
      · rw [hl'] at z;cases z
    have no3:¬cN σ3 e2 H2 l:=fun z=>by
      rcases X3.own l z with z | z
      · exact no2 z
      · rw [hlH2] at z;cases z
    have fl2:F2 l=none:=fz l fl (by rw [hl'];simp)
    have hlH4:H4 l=some (.lst vs):=X4.tmp l _ hlH2 no3
    have fl4:F4 l=none:=X4.fr l vs fl2 hlH2 no3
    have no4:¬cN σ3 e3 H4 l:=fun z=>by
      rcases X4.ow l z with z | z
      · exact no3 z
      · rw [hlH2] at z;cases z
    have E4:cI W (eN cp nT σ) F1 H1 (om cp nT e1) σ3 F4 H4 e3:=((X'.trans X2.s).trans X3).trans X4.s
    cases b with
    | false=>
      rw [if_neg (by simp)] at hc
      exact y1 (.mk R4 E4 fl4 no4 hlH4 (da.mono (sF2.trans X4.sf)) hc)
    | true=>
      rw [if_pos rfl] at hc
      obtain⟨⟨r,e5⟩,c5,hc⟩:=Option.bind_eq_some_iff.mp hc
      obtain⟨d,c6,hc⟩:=Option.bind_eq_some_iff.mp hc
      split at hc
      case isFalse=>cases hc
      case isTrue hlen=>
      refine y2 ⟨F4,e3,r,e5,R4,c5,fun F5 H5 v X5 R5 A5=>?_⟩
      have hlH5:H5 l=some (.lst vs):=X5.tmp l _ hlH4 no4
      have fl5:F5 l=none:=X5.fr l vs fl4 hlH4 no4
      have no5:¬cN σ3 e5 H5 l:=fun z=>by
        rcases X5.ow l z with z | z
        · exact no4 z
        · rw [hlH4] at z;cases z
      obtain⟨F6,R6,s6,d6,f6⟩:=cK.frozen R5 (rs:=[r]) (vs:=[v]) ⟨v,[],rfl,A5,rfl⟩ (pX c6)
      have fl6:F6 l=none:=f6 l fl5 (by rw [hlH4];simp)
      have X6:=X5.frz s6 f6
      have ll:=da.len
      have sl:sizeLine=16777216:=sizeLine_eq
      have dv:DA K F6 d v:=by
        simp only [ax] at d6
        obtain⟨v',r',e',hv,_⟩:=d6
        cases e';exact hv
      obtain⟨R7,o7⟩:=R6.putT (ws:=vs++[v]) fl6 no5
      exact⟨vs,hlH5,by lia,.mk R7 ((E4.trans X6.s).putT hl o7) fl6 (fun z=>no5 ((o7 l).mp z)) au ((da.mono (sF2.trans (X4.sf.trans (X5.sf.trans s6)))).append (ax.one dv)) hc⟩
  · have hd:items.drop i=[]:=List.drop_eq_nil_of_le (by lia)
    rw [hd] at hc
    cases hc
    refine .inl ⟨stop i (by lia),?_⟩
    obtain⟨R9,X9,o9⟩:=nj R1 sub io X'.sf X'.dom X'.fr X'.lst X'.tmp R' (fun i k xs g1 g2=>X'.wr k fun z=>by
      obtain⟨s,g⟩:=eL g2
      have:=(List.getElem?_eq_some_iff.mp g).1
      have:=hW k z
      lia) fun i k xs g1 g2=>by
        obtain⟨s,g⟩:=eL g2
        unfold lI at hB
        have hb:=List.all_eq_true.mp hB _ (List.mem_of_getElem? g)
        simp only [g1,g2,Option.getD_some,t5,Bool.not_true,Bool.false_or] at hb
        exact uy.mp hb
    exact q F' H' (.ref l) (X1.trans X9) R9 ⟨l,vs,rfl,X1.dom l hl,fl,hl',da,fun z=>R1.ownH l (o9 l z) hl⟩
end
end L2
namespace L2
open PySem PySem.Spec PyProof.Rows
section
variable{X:Cx}{K:PySem.W.Frag}{a b:Expr}{es:List Expr}{fa fb:FE}{fs:FA}{pos p p2 p3:Pos}{lo hi:Option Expr}
def p8:En→Rv→Option Rv:=fun _ x=>(bZ x).map fun i=>.d (.int (-i))
theorem y':z5 K (rU fun i=>.int (-i)) p8:=by
  intro σ H0 F H e x z v Q R A hg q
  obtain⟨i,h5,h4⟩:=Option.map_eq_some_iff.mp hg
  cases h4
  exact⟨i,b6 A h5,q F H _ (dQ.refl _ _ _ _) R kd⟩
theorem wn(ha:PE X a (fE K fa)):PE X (.UnaryOp .USub a pos) (fE K (vR p8 fa)):=zv yq y' ha
theorem cw(hK:X.K=K)(ha:PE X a (fE K fa))(hb:PE X b (fE K fb)):PE X (.BinOp a .Add b pos) (fE K (aq c8 fa fb)):=lh (hK ▸ uR) yO ha hb
theorem sM(ha:PE X a (fE K fa))(hb:PE X b (fE K fb)):PE X (.BinOp a .Sub b pos) (fE K (aq iP fa fb)):=lh xx zH ha hb
theorem df(hK:X.K=K)(ha:PE X a (fE K fa))(hb:PE X b (fE K fb)):PE X (.BinOp a .Mult b pos) (fE K (aq bO fa fb)):=lh (hK ▸ uV) y_ ha hb
theorem dM(ha:PE X a (fE K fa))(hb:PE X b (fE K fb)):PE X (.BinOp a .FloorDiv b pos) (fE K (aq cE fa fb)):=lh se wU ha hb
theorem aN(ha:PE X a (fE K fa))(hb:PE X b (fE K fb)):PE X (.BinOp a .Mod b pos) (fE K (aq aT fa fb)):=lh uU y9 ha hb
theorem wo(ha:PE X a (fE K fa))(hb:PE X b (fE K fb)):PE X (.BinOp a .Pow b pos) (fE K (aq oi fa fb)):=lh xu zq ha hb
theorem aY(hK:X.K=K)(ha:PE X a (fE K fa))(hb:PE X b (fE K fb))(hs:lA b):PE X (.Subscript a b pos) (fE K (aq bY fa fb)):=zu (hK ▸ Au) Av ha hb hs
theorem vw{fl fh:FO}(hK:X.K=K)(he:PE X a (fE K fa))(hl:PO X lo (fO K fl))(hh:PO X hi (fO K fh)):PE X (.Subscript a (.Slice lo hi none p2) pos) (fE K (yv fa fl fh)):=by subst hK;exact sO he hl hh
structure nH (X:Cx) (K:PySem.W.Frag) (op:CmpOp) (g:En→Rv→Rv→Option Rv):Prop where
  ex:∃r,fY X (compareOp op) r∧gG K r g
theorem uh:nH X K .Lt uu:=⟨_,zg,Ax⟩
theorem Ak:nH X K .Gt z8:=⟨_,ze,Ap⟩
theorem yS:nH X K .GtE yV:=⟨_,zc,Ao⟩
theorem pT{k:Nat}(hK:X.K=K)(hr:c7 k X.A):nH X K .Eq (dD false):=⟨_,hK ▸ xq hr,wc⟩
theorem wL{k:Nat}(hK:X.K=K)(hr:c7 k X.A):nH X K .NotEq (dD true):=⟨_,hK ▸ xt hr,wc⟩
theorem sL{op:CmpOp}{g:En→Rv→Rv→Option Rv}(h:nH X K op g)(ha:PE X a (fE K fa))(hb:PE X b (fE K fb))(hm:behindInMarks op b=false):PE X (.Compare a [op] [b] pos) (fE K (aq g fa fb)):=by
  obtain⟨r,h1,h2⟩:=h.ex;exact xU h1 h2 ha hb hm
theorem cU{op:CmpOp}{g:En→Rv→Rv→Option Rv}(h:nH X K op g)(ha:PE X a (fE K fa))(hb:PE X b (fE K fb))(hm:behindInMarks op b=false):PT X (.Compare a [op] [b] pos) (fT K (bh (aq g fa fb))):=by
  obtain⟨r,h1,h2⟩:=h.ex;exact xX h1 h2 ha hb hm
structure kD (X:Cx) (K:PySem.W.Frag) (x:Str) (g:En→List Rv→Option Rv):Prop where
  ex:(∃id r,cB X (.builtin id) r∧cJ K r g∧bootBuiltins x=some (.builtin id))∨∃T r,cB X (.type T) r∧cJ K r g∧bootBuiltins x=some (.type T)
theorem bu{x:Str}{g:En→List Rv→Option Rv}(h:kD X K x g)(hg:Gl X x)(hm:X.mg x=none)(ha:PA X (a::es) (fA K fs))(hn:x≠"__name__")(hdb:(x==("__debug__":Str))=false)
    (he:starEach (a::es) X.env=(false,eval a X.env)::starEach es X.env)(hpl:(backTo pos (starEach es X.env)).any (·.1)=false):PE X (.Call (.Name x p) (a::es) [] pos) (fE K (aP g fs)):=by
  rcases h.ex with ⟨id,r,h1,h2,h3⟩ | ⟨T,r,h1,h2,h3⟩
  · exact sN h1 h2 hg hm h3 ha hn hdb he hpl
  · exact qj h1 h2 hg hm h3 ha hn hdb he hpl
theorem b_len(hK:X.K=K):kD X K "len" (g1 iO):=⟨.inl ⟨_,_,hK ▸ lJ,y3,PySem.boot_len⟩⟩
theorem b_abs:kD X K "abs" (g1 n6):=⟨.inl ⟨_,_,qI,yN,PyProof.Rows.boot_abs⟩⟩
theorem b_min(hc:X.calm=true):kD X K "min" (g2 ri):=⟨.inl ⟨_,_,pW hc,y8,PyProof.Rows.boot_min⟩⟩
theorem b_max(hc:X.calm=true):kD X K "max" (g2 p7):=⟨.inl ⟨_,_,pV hc,y6,PyProof.Rows.boot_max⟩⟩
theorem b_int:kD X K "int" (g1 p6):=⟨.inr ⟨_,_,pU,y0,PyProof.Rows.boot_int⟩⟩
theorem b_tuple(hK:X.K=K):kD X K "tuple" (g1 cF):=⟨.inr ⟨_,_,hK ▸ kJ,vO,PyProof.Rows.boot_tuple⟩⟩
theorem b_sorted(hK:X.K=K):kD X K "sorted" (g1 oj):=⟨.inl ⟨_,_,hK ▸ nR,vF,PyProof.Rows.boot_sorted⟩⟩
theorem b_repr{k:Nat}(hK:X.K=K)(hr:c7 k X.A):kD X K "repr" (g1 fH):=⟨.inl ⟨_,_,hK ▸ nQ hr,x9,PyProof.Rows.boot_repr⟩⟩
abbrev bI:FT:=fun e=>some (true,e)
theorem qy.mono{ifs:List Expr}{t t':TT}(h:qy X ifs t)(m:∀σ H Q,t' σ H Q→t σ H Q):qy X ifs t':=fun pins s σ H Q I q=>h pins s σ H Q I (m σ H Q q)
theorem dq:qy X [] (fT K bI):=vo.mono fun σ H Q h=>by
  obtain⟨F,e,b,e',R,hf,q⟩:=h
  cases hf
  exact q F H (dQ.refl _ _ _ _) R
theorem pz{c:Expr}{ft:FT}(h:PT X c (fT K ft)):qy X [c] (fT K ft):=vp h
theorem j'{elt iter tg:Expr}{ifs:List Expr}{scope:Scope}{fi:FI}{g:FG}{ft:FT}{fe:FE}{W:List Nat}(sc0:Scope)(N0:List Str)(cp:List (Nat × Str))(tgN:List Str)
    (hc:X.calm=true)(hsc:X.env.scope=sc0)(hN0:X.N=N0)(hi:PI X tg iter (fI K fi))
    (hg:∀C s0 H0 fp,PG (aA X scope cp tgN C s0 H0 fp) tg (fG K g W))
    (ht:∀C s0 H0 fp,qy (aA X scope cp tgN C s0 H0 fp) ifs (fT K ft))
    (he:∀C s0 H0 fp,PE (aA X scope cp tgN C s0 H0 fp) elt (fE K fe))
    (hk:scope.kind=.function)(hcell:∀y∈scope.names,y.2≠.cell)(hnames:∀y∈scope.names,y.2=.local→scope.names.lookup y.1=some .local)
    (hfr:∀y∈scope.names,y.2=.free→scope.names.lookup y.1=some .free∧sc0.names.lookup y.1=some .cell)
    (hcp:∀p∈cp,N0[p.1]?=some p.2)(hcq:∀p∈cp,sc0.names.lookup p.2=some .cell∧scope.names.lookup p.2=some .free)(hnd:(cp.map (·.1)).Nodup)(hW:∀j∈W,cp.length≤j)
    (hs:∀x,foldedSetIterable iter X.env x=pure x):
    PE X (.ListComp elt [⟨tg,iter,ifs,0⟩] scope pos) (fE K (bx cp tgN.length fi g ft fe)):=(u_ sc0 N0 cp tgN hc hsc hN0 hi hg ht he hk hcell hnames hfr hcp hcq hs).mono fun _ _ _ h=>nA hnd hW h
theorem dy{ix:Nat}{nm:Str}{posn poss:Pos}{elt iter tg:Expr}{ifs:List Expr}{scope:Scope}{fi:FI}{g:FG}{ft:FT}{fe:FE}{W:List Nat}(sc0:Scope)(N0:List Str)(cp:List (Nat × Str))(tgN:List Str)
    (hc:X.calm=true)(hsc:X.env.scope=sc0)(hN0:X.N=N0)(hi:PI X tg iter (fI K fi))
    (hg:∀C s0 H0 fp,PG (aA X scope cp tgN C s0 H0 fp) tg (fG K g W))
    (ht:∀C s0 H0 fp,qy (aA X scope cp tgN C s0 H0 fp) ifs (fT K ft))
    (he:∀C s0 H0 fp,PE (aA X scope cp tgN C s0 H0 fp) elt (fE K fe))
    (hk:scope.kind=.function)(hcell:∀y∈scope.names,y.2≠.cell)(hnames:∀y∈scope.names,y.2=.local→scope.names.lookup y.1=some .local)
    (hfr:∀y∈scope.names,y.2=.free→scope.names.lookup y.1=some .free∧sc0.names.lookup y.1=some .cell)
    (hcp:∀p∈cp,N0[p.1]?=some p.2)(hcq:∀p∈cp,sc0.names.lookup p.2=some .cell∧scope.names.lookup p.2=some .free)(hnd:(cp.map (·.1)).Nodup)(hW:∀j∈W,cp.length≤j)
    (hNd:X.N.Nodup)(hix:X.N[ix]?=some nm)(hlc:X.env.scope.names.lookup nm=some .local)(hsw:swapsWith (.ListComp elt [⟨tg,iter,ifs,0⟩] scope pos) (some (.Name nm posn)) poss.line X.env=pure true)
    (hs:∀x,foldedSetIterable iter X.env x=pure x):
    PS X (.Assign [.Name nm posn] (.ListComp elt [⟨tg,iter,ifs,0⟩] scope pos) poss) (fS K (a7 ix (bx cp tgN.length fi g ft fe)) [ix]):=(oD sc0 N0 cp tgN hc hsc hN0 hi hg ht he hk hcell hnames hfr hcp hcq hNd hix hlc hsw hs).mono fun D σ H h=>by
  obtain⟨F,e,fl,R,hf,q⟩:=h
  unfold a7 at hf
  obtain⟨⟨r,e1⟩,h1,hf⟩:=Option.bind_eq_some_iff.mp hf
  obtain⟨e2,h2,hf⟩:=Option.map_eq_some_iff.mp hf
  cases hf
  refine nA hnd hW ⟨F,e,r,e1,R,h1,fun F1 H1 v X1 R1 A1=>?_⟩
  obtain⟨x,R2⟩:=sJ R X1 R1 A1 h2
  exact q F1 H1 _ x R2
variable{o:Expr}{fo:FE}{apos cpos:Pos}
theorem dJ(hK:X.K=K)(ho:PE X o (fE K fo))(ha:PA X (a::es) (fA K fs))(hbase:attributeBase o "append" X.env (eval o X.env)=eval o X.env)
    (hfew:((backTo cpos (starEach (a::es) X.env)).all (fun x=> !x.1)&&(backToKw cpos (keywordEach [] X.env)).all (fun x=>x.1.isSome)
      &&decide ((a::es).length+([]:List Keyword).length+(if ([]:List Keyword).isEmpty then 0 else 1) < 30))=true)
    (hline:(apos.endLine==cpos.line)=true)(hs:starEach (a::es) X.env=(false,eval a X.env)::starEach es X.env)(hplain:(backTo cpos (starEach es X.env)).any (·.1)=false):
    PE X (.Call (.Attribute o "append" apos) (a::es) [] cpos) (fE K (dj bT fo fs)):=by
  subst hK;exact wq PySem.F.slot_list_append PySem.F.type_list_append iZ qA ho ha hbase hfew hline hs hplain
theorem vt(hK:X.K=K)(ho:PE X o (fE K fo))(ha:PA X (a::es) (fA K fs))(hbase:attributeBase o "pop" X.env (eval o X.env)=eval o X.env)
    (hfew:((backTo cpos (starEach (a::es) X.env)).all (fun x=> !x.1)&&(backToKw cpos (keywordEach [] X.env)).all (fun x=>x.1.isSome)
      &&decide ((a::es).length+([]:List Keyword).length+(if ([]:List Keyword).isEmpty then 0 else 1) < 30))=true)
    (hline:(apos.endLine==cpos.line)=true)(hs:starEach (a::es) X.env=(false,eval a X.env)::starEach es X.env)(hplain:(backTo cpos (starEach es X.env)).any (·.1)=false):
    PE X (.Call (.Attribute o "pop" apos) (a::es) [] cpos) (fE K (dj gX fo fs)):=by
  subst hK;exact wq PySem.F.slot_list_pop PySem.F.type_list_pop rV vh ho ha hbase hfew hline hs hplain
end
end L2
namespace L2
open PySem PySem.Spec PyProof.Rows
theorem oI{K:PySem.W.Frag}{H:Hp}{a:Addr}{ns:List Int}{m:FM}{as':List Sv}{Q:VK}{E:XK}(hS:fx K H a (ns.map V.int))(hm:m [.d (.list (ns.map .int))]=some (.d (.bool true),as'))(q:∀H',Q (.bl true) H'):bW K 1 m [.ref a] H Q E:=by
  refine⟨rfl,H,[.d (.list (ns.map .int))],_,as',?_,?_,hm,trivial,fun F' H' v X' R' A'=>?_⟩
  · refine⟨am.refl _,rfl,fun i x h=>?_,fun i xs h=>?_,fun i xss h=>?_,fun i j l f1 _=>?_⟩
    · match i,h with
      | 0,h=>
        simp at h;subst h
        exact⟨.ref a,rfl,ey.mpr ⟨a,_,rfl,hS,ax.ints.mpr rfl⟩⟩
      | i+1,h=>simp at h
    · match i,h with
      | 0,h=>simp at h
      | i+1,h=>simp at h
    · match i,h with
      | 0,h=>simp at h
      | i+1,h=>simp at h
    · rcases f1 with ⟨_,h,_⟩ | ⟨_,_,_,h,_⟩
      · match i,h with
        | 0,h=>simp at h
        | i+1,h=>simp at h
      · match i,h with
        | 0,h=>simp at h
        | i+1,h=>simp at h
  · intro i xss h
    match i,h with
    | 0,h=>simp at h
    | i+1,h=>simp at h
  · rw [dY.mp (show DA K F' (.bool true) v from A')];exact q H'
end L2
namespace L2
open PySem PySem.Spec PyProof.Rows
section
variable{K:PySem.W.Frag}{σ:L2.St}{H0 F H F' H':Hp}{e e':En}
end
section
variable{X:Cx}{K:PySem.W.Frag}{a b:Expr}{es:List Expr}{fa fb:FE}{fs:FA}{pos p p2 p3 pos':Pos}{x:Str}{i:Nat}
def nC(k:Int):En→Option Int:=fun _=>some k
end
end L2
namespace L2
open PySem PySem.Spec PyProof.Rows
theorem iM{C:Int→Int→Bool}{f:Int→Int→PyData}{e:En}{i j:Int}(h:C i j=true):gI C f e (.d (.int i)) (.d (.int j))=some (.d (f i j)):=by simp [gI,bZ,h]
theorem jN{e:En}{i j:Int}:c8 e (.d (.int i)) (.d (.int j))=some (.d (.int (i+j))):=rfl
theorem gS{e:En}{i j:Int}:iP e (.d (.int i)) (.d (.int j))=some (.d (.int (i - j))):=rfl
theorem bF{e:En}{i j:Int}(h:gY i j=true):bO e (.d (.int i)) (.d (.int j))=some (.d (.int (i*j))):=by
  unfold bO uv mE;rw [iM h];rfl
theorem oz{i j:Int}(h1: -(2 ^ 64) < i)(h2:i < 2 ^ 64):gY i j=true:=by
  have:e_ i=true:=by unfold e_;rw [decide_eq_true h1,decide_eq_true h2];rfl
  unfold gY;rw [this];simp
theorem l6{i j:Int}(h1: -(2 ^ 64) < j)(h2:j < 2 ^ 64):gY i j=true:=by
  have:e_ j=true:=by unfold e_;rw [decide_eq_true h1,decide_eq_true h2];rfl
  unfold gY;rw [this];simp
theorem fP{i j:Int}(h1:Bt 4000 i)(h2:Bt 4000 j):gY i j=true:=by unfold gY;rw [eU.mpr h1,eU.mpr h2];simp
theorem aJ{e:En}{i j:Int}(h:0 < j):aT e (.d (.int i)) (.d (.int j))=some (.d (.int (i % j))):=by
  unfold aT;rw [iM (by simp;lia)]
  rw [Int.fmod_eq_emod_of_nonneg i (by lia)]
theorem cP{e:En}{i j:Int}(h:0 < j)(h2:Bt 8000 j):cE e (.d (.int i)) (.d (.int j))=some (.d (.int (i / j))):=by
  unfold cE;rw [iM (by simp [eU.mpr h2];lia)]
  rw [Int.fdiv_eq_ediv_of_nonneg i (by lia)]
theorem lQ{e:En}{i j:Int}{neg:Bool}:dD neg e (.d (.int i)) (.d (.int j))=some (.d (.bool (if neg then !(i==j) else i==j))):=by
  unfold dD;simp [gK,SeqAt.shaped,PyData.canLay0,PyData.depth,PyData.eqv]
theorem lW{e:En}{i j:Int}:uu e (.d (.int i)) (.d (.int j))=some (.d (.bool (decide (i < j)))):=rfl
theorem lU{e:En}{i j:Int}:Bo e (.d (.int i)) (.d (.int j))=some (.d (.bool (decide (i≤j)))):=rfl
theorem lS{e:En}{i j:Int}:z8 e (.d (.int i)) (.d (.int j))=some (.d (.bool (decide (j < i)))):=rfl
theorem lR{e:En}{i j:Int}:yV e (.d (.int i)) (.d (.int j))=some (.d (.bool (decide (j≤i)))):=rfl
theorem jQ{e:En}{i j:Int}:g2 ri e [.d (.int i),.d (.int j)]=some (.d (.int (min i j))):=by
  show some (Rv.d (.int (if j < i then j else i)))=_
  congr 3
  split<;>lia
theorem jP{e:En}{i j:Int}:g2 p7 e [.d (.int i),.d (.int j)]=some (.d (.int (max i j))):=by
  show some (Rv.d (.int (if j > i then j else i)))=_
  congr 3
  split<;>lia
theorem ij{e:En}{i:Int}:p8 e (.d (.int i))=some (.d (.int (-i))):=rfl
theorem iN{e:En}{b:Bool}:g1 p6 e [.d (.bool b)]=some (.d (.int (if b then 1 else 0))):=rfl
theorem jM{e:En}{i:Int}:g1 n6 e [.d (.int i)]=some (.d (.int i.natAbs)):=by
  show some (Rv.d (.int (if i < 0 then -i else i)))=_
  congr 3
  split<;>lia
theorem iJ{j:Int}(h1:0 < j)(h2:j < 2 ^ 64):Bt 8000 j:=Bt.mono (m:=64) (by unfold Bt;lia) (by decide)
theorem gP{α:Type}{xs:List α}{i:Int}(h0:0≤i)(h:i < xs.length):atI xs i=xs[i.toNat]?:=by
  unfold atI yB
  rw [if_pos h0,if_pos h];rfl
theorem rc{e:En}{i:Nat}{xs:List PyData}{neg:Bool}(h:e[i]?=some (some (.l xs)))(hs:SeqAt.shaped (.list xs)=true):dD neg e (.s i) (.l [])=some (.d (.bool (if neg then !xs.isEmpty else xs.isEmpty))):=by
  unfold dD
  simp only [gK,h,Option.bind_some,hs]
  have h0:SeqAt.shaped (.list [])=true:=by simp [SeqAt.shaped,PyData.canLay0,PyData.canLayAll0,PyData.depth,PyData.depthAll]
  rw [h0]
  cases xs<;>simp [PyData.eqv,PyData.eqvAll]
theorem ng(ns:List Int):SeqAt.shaped (.list (ns.map .int))=true∧SeqAt.shaped (.tuple (ns.map .int))=true:=by
  have h1:PyData.canLayAll0 (ns.map PyData.int)=true:=by
    induction ns with
    | nil=>rfl
    | cons n r ih=>simp [PyData.canLayAll0,PyData.canLay0,ih]
  have h2:PyData.depthAll (ns.map PyData.int)=0:=by
    clear h1
    induction ns with
    | nil=>rfl
    | cons n r ih=>simp [PyData.depthAll,PyData.depth,ih]
  constructor<;>simp [SeqAt.shaped,PyData.canLay0,PyData.depth,h1,h2]
theorem cD{own:fy}{g:FG}{f:FS}(P:Nat→En→Prop):∀(items:List PyData) (k:Nat) (e:En),(∀i x e,items[i]?=some x→P (k+i) e→∃e1 e2,g x e=some e1∧f e1=some (.nx e2)∧keeps own e2∧P (k+i+1) e2)→P k e→∃e',kN own g f items e=some (.nx e')∧P (k+items.length) e'
  | [],k,e,_,h=>⟨e,rfl,h⟩
  | x::r,k,e,hs,h=>by
    obtain⟨e1,e2,h1,h2,h3,h4⟩:=hs 0 x e rfl h
    obtain⟨e',h5,h6⟩:=cD P r (k+1) e2 (fun i y e hy hp=>by
      have:=hs (i+1) y e (by simpa using hy) (by rw [show k+(i+1)=k+1+i by lia];exact hp)
      rw [show k+(i+1)+1=k+1+i+1 by lia] at this
      exact this) h4
    refine⟨e',?_,by rw [List.length_cons,show k+(r.length+1)=k+1+r.length by lia];exact h6⟩
    unfold kN
    simp only [h1,h2,Option.bind_some,if_pos h3]
    exact h5
theorem bS{e:En}:keeps [] e:=fun _ h=>by cases h
theorem ef{W:List Nat}{fi:FI}{g:FG}{f:FS}{e e1:En}{items:List PyData}(h:fi e=some (items,[],e1)):dU W fi g f e=kN [] g f items e1:=by
  unfold dU;rw [h];rfl
theorem e7{lo:Int}{n i:Nat}{x:PyData}(h:(a8 lo n)[i]?=some x):x=.int (lo+i)∧i < n:=by
  unfold a8 at h
  rw [List.getElem?_map] at h
  obtain⟨k,h1,rfl⟩:=Option.map_eq_some_iff.mp h
  obtain⟨h2,h3⟩:=List.getElem?_eq_some_iff.mp h1
  simp at h2 h3
  subst h3
  exact⟨rfl,h2⟩
theorem dN{lo:Int}{n:Nat}:(a8 lo n).length=n:=by simp [a8]
theorem cR{fs:FA}{e e1:En}{n:Int}(h:fs e=some ([.d (.int n)],e1))(h1: -1000000≤n)(h2:n≤1000000):b_ fs e=some (a8 0 n.toNat,[],e1):=by
  unfold b_;rw [h]
  have:sY n=true:=by unfold sY;rw [decide_eq_true h1,decide_eq_true h2];rfl
  simp [bZ,this]
theorem hR{ft:FT}{f:FS}(P:En→Prop)(μ:En→Nat)(hs:∀e,P e→(∃e1,ft e=some (false,e1)∧True)∨∃e1 e2,ft e=some (true,e1)∧f e1=some (.nx e2)∧P e2∧μ e2 < μ e):
    ∀(n:Nat) (e:En),P e→μ e < n→∃e0 e',ff ft f n e=some (.nx e')∧P e0∧ft e0=some (false,e'):=by
  intro n
  induction n with
  | zero=>intro e _ h;lia
  | succ n ih=>
    intro e hp hm
    rcases hs e hp with ⟨e1,h1,_⟩ | ⟨e1,e2,h1,h2,h3,h4⟩
    · exact⟨e,e1,by unfold ff;rw [h1];rfl,hp,h1⟩
    · obtain⟨e0,e',g1,g2⟩:=ih e2 h3 (by lia)
      exact⟨e0,e',by unfold ff;rw [h1];simp only [Option.bind_some,if_true,h2];exact g1,g2⟩
theorem eF{cs:En}{ft:FT}{fe:FE}{b:PyData→Bool}{y:PyData→PyData}:∀(items:List PyData) (t:Option Sv) (acc:List PyData),(∀x∈items,ft (cs++[some (.d x)])=some (b x,cs++[some (.d x)]))→(∀x∈items,b x=true→fe (cs++[some (.d x)])=some (.d (y x),cs++[some (.d x)]))→
    acc.length+items.length≤1000000→∃t',fg (ag cs.length) ft fe items (cs++[t]) acc=some (acc++(items.filter b).map y,cs++[t'])
  | [],t,acc,_,_,_=>⟨t,by simp [fg]⟩
  | x::r,t,acc,h1,h2,hl=>by
    have hg:ag cs.length x (cs++[t])=some (cs++[some (.d x)]):=by simp [ag]
    have h1x:=h1 x (by simp)
    unfold fg
    rw [hg]
    simp only [Option.bind_some,h1x]
    cases hb:b x with
    | true=>
      simp only [if_true,h2 x (by simp) hb,Option.bind_some,nX]
      rw [if_pos (by simp at hl;lia)]
      obtain⟨t',ih⟩:=eF (b:=b) (y:=y) r (some (.d x)) (acc++[y x]) (fun z hz=>h1 z (by simp [hz])) (fun z hz=>h2 z (by simp [hz])) (by simp at hl ⊢;lia)
      exact⟨t',by rw [ih];simp [hb]⟩
    | false=>
      simp only [Bool.false_eq_true,if_false]
      obtain⟨t',ih⟩:=eF (b:=b) (y:=y) r (some (.d x)) acc (fun z hz=>h1 z (by simp [hz])) (fun z hz=>h2 z (by simp [hz])) (by simp at hl;lia)
      exact⟨t',by rw [ih];simp [hb]⟩
theorem wX{fa:FE}{e e1:En}{xs:List PyData}(h:fa e=some (.d (.tuple xs),e1)):fv fa e=some (xs,[],e1):=by
  unfold fv;rw [h];rfl
theorem uw{fa:FE}{e e1:En}{xs:List PyData}(h:fa e=some (.d (.list xs),e1)):fv fa e=some (xs,[],e1):=by
  unfold fv;rw [h];rfl
theorem rG{fa:FE}{e e1:En}{xs:List PyData}(h:fa e=some (.l xs,e1)):fv fa e=some (xs,[],e1):=by
  unfold fv;rw [h];rfl
theorem eP{cp:List (Nat × Str)}{nT:Nat}{fi:FI}{g:FG}{ft:FT}{fe:FE}{e e1 cs:En}{t t':En}{items out:List PyData}(h1:fi e=some (items,[],e1))(hc:om cp nT e1=cs++t)(hl:cs.length=cp.length)(h3:fg g ft fe items (om cp nT e1) []=some (out,cs++t')):bx cp nT fi g ft fe e=some (.l out,e1):=by
  have key:∀i x,e1[i]?=some (some (.l x))→∀k,j_ cp i=some k→(cs++t')[k]?=some (some (.l x)):=by
    intro i x hi k hk
    obtain⟨s,hs⟩:=eL hk
    have hk2:k < cp.length:=(List.getElem?_eq_some_iff.mp hs).1
    have:(om cp nT e1)[k]?=some (some (.l x)):=by
      unfold om
      rw [List.getElem?_append_left (by simpa using hk2),List.getElem?_map,hs]
      simp [hi,y4]
    rw [hc,List.getElem?_append_left (by lia)] at this
    rw [List.getElem?_append_left (by lia)]
    exact this
  unfold bx
  rw [h1]
  simp only [Option.bind_some,List.all_nil,if_true,h3]
  have hb:lI cp (cs++t') e1=true:=by
    unfold lI
    rw [List.all_eq_true]
    intro p hp
    match hi:e1[p.1]? with
    | none=>simp [t5]
    | some none=>simp [t5]
    | some (some (.d x))=>simp [t5]
    | some (some (.n x))=>simp [t5]
    | some (some (.l x))=>
      cases hq:j_ cp p.1 with
      | none=>
        unfold j_ at hq
        rw [List.findIdx?_eq_none_iff] at hq
        have:=hq p hp
        simp at this
      | some k=>simp [key p.1 x hi k hq,t5]
  rw [if_pos hb]
  congr 2
  refine List.ext_getElem? fun i=>?_
  rw [bJ]
  match hi:e1[i]? with
  | none=>rfl
  | some none=>rfl
  | some (some (.d x))=>rfl
  | some (some (.n x))=>rfl
  | some (some (.l x))=>
    cases hp:j_ cp i with
    | none=>simp [hp]
    | some k=>simp [hp,key i x hi k hp]
theorem eS{α:Type}{xs:List α}{i:Int}(h0:0≤i)(h1:i < xs.length):∃x∈xs,atI xs i=some x:=by
  rw [gP h0 h1]
  exact⟨xs[i.toNat]'(by lia),List.getElem_mem _,List.getElem?_eq_getElem _⟩
theorem rg{e:En}{xs:List PyData}{i:Int}:bY e (.l xs) (.d (.int i))=(atI xs i).map .d:=rfl
theorem jO{e:En}{xs:List PyData}{i:Int}:bY e (.d (.tuple xs)) (.d (.int i))=(atI xs i).map .d:=rfl
theorem n_{e:En}{xs:List PyData}{i:Int}:bY e (.d (.list xs)) (.d (.int i))=(atI xs i).map .d:=rfl
theorem rh{e:En}{j:Nat}{xs:List PyData}{i:Int}(h:e[j]?=some (some (.l xs))):bY e (.s j) (.d (.int i))=(atI xs i).map .d:=by
  simp [bY,dg,h,bZ]
theorem oh{e:En}{xs:List PyData}:g1 iO e [.d (.tuple xs)]=some (.d (.int xs.length)):=rfl
theorem lV{e:En}{xs:List PyData}:g1 iO e [.d (.list xs)]=some (.d (.int xs.length)):=rfl
theorem oe{e:En}{xs:List PyData}:g1 iO e [.l xs]=some (.d (.int xs.length)):=rfl
theorem og{e:En}{j:Nat}{xs:List PyData}(h:e[j]?=some (some (.l xs))):g1 iO e [.s j]=some (.d (.int xs.length)):=by
  simp [g1,iO,dg,h]
theorem jT{e:En}{j:Nat}{xs:List PyData}(h:e[j]?=some (some (.l xs))):g1 cF e [.s j]=some (.d (.tuple xs)):=by
  simp [g1,cF,dg,h]
theorem jS{e:En}{xs:List PyData}:g1 cF e [.l xs]=some (.d (.tuple xs)):=rfl
theorem iQ{e:En}{xs:List PyData}:g1 cF e [.d (.list xs)]=some (.d (.tuple xs)):=rfl
theorem jU{e:En}{xs:List PyData}:g1 cF e [.d (.tuple xs)]=some (.d (.tuple xs)):=rfl
theorem rp{e:En}{xs:List PyData}{lo hi:Option Int}:An e (.d (.tuple xs)) lo hi=some (.d (.tuple (kL xs lo hi))):=rfl
theorem n9{e:En}{xs ys:List PyData}(h:xs.length+ys.length≤1000000):c8 e (.d (.tuple xs)) (.d (.tuple ys))=some (.d (.tuple (xs++ys))):=by
  simp [c8,uv,wd,gI,bZ,pj,dg,h]
theorem rj{e:En}{i j:Int}(h:j≠0):aT e (.d (.int i)) (.d (.int j))=some (.d (.int (i.fmod j))):=by
  unfold aT;rw [iM (by simpa using h)]
theorem pq{e:En}{i j:Int}(h:j≠0)(h2:Bt 8000 j):cE e (.d (.int i)) (.d (.int j))=some (.d (.int (i.fdiv j))):=by
  unfold cE;rw [iM (by simp [eU.mpr h2,h])]
theorem ik{e:En}{i j:Int}(h:sC i j=true):oi e (.d (.int i)) (.d (.int j))=some (.d (.int (i ^ j.toNat))):=by
  unfold oi;rw [iM h]
theorem iy:sC 10 18=true:=by decide
theorem eh{f g:FS}{e e1:En}(h:f e=some (.nx e1)):aL f g e=g e1:=by unfold aL;rw [h];rfl
theorem zE{ft:FT}{f g:FS}{e e1:En}(h:ft e=some (true,e1)):kB ft f g e=f e1:=by unfold kB;rw [h];rfl
theorem zD{ft:FT}{f g:FS}{e e1:En}(h:ft e=some (false,e1)):kB ft f g e=g e1:=by unfold kB;rw [h];rfl
def wg(i:Nat)(e:En):Nat:=match e[i]? with
  | some (some (.l xs))=>xs.length
  | _=>0
def k'(i:Nat)(e:En):Nat:=match e[i]? with
  | some (some (.d (.int k)))=>k.natAbs
  | _=>0
theorem l4{n m:Nat}(h:n < 2 ^ m)(hm:m≤4200):n < 2 ^ 4200:=Nat.lt_of_lt_of_le h (Nat.pow_le_pow_right (by decide) hm)
theorem lE{α:Type}{a:α}{r:List α}:atI (a::r) 0=some a:=by
  rw [gP (by decide) (by simp)];rfl
theorem lF{α:Type}{a b:α}{r:List α}:atI (a::b::r) 1=some b:=by
  rw [gP (by decide) (by simp;lia)];rfl
theorem lG{α:Type}{a b c:α}{r:List α}:atI (a::b::c::r) 2=some c:=by
  rw [gP (by decide) (by simp;lia)];rfl
theorem lH{α:Type}{a b c d:α}{r:List α}:atI (a::b::c::d::r) 3=some d:=by
  rw [gP (by decide) (by simp;lia)];rfl
theorem qC{W:bE}{k:Int}(h:nJ W k):atI (W.ties.map aU) k=some (aU (W.tie k)):=by
  rw [gP h.1 (by rw [List.length_map];exact h.2),List.getElem?_map,h.get];rfl
theorem qL{a b c d:PyData}:kL [a,b,c,d] none (some 2)=[a,b]:=rfl
theorem iL{a b c d:PyData}:kL [a,b,c,d] (some 2) none=[c,d]:=rfl
theorem iK{a b c:PyData}:kL [a,b,c] (some 1) none=[b,c]:=rfl
theorem mw(ns:List Int):PyData.canLayAll0 (ns.map PyData.int)=true:=by
  induction ns with
  | nil=>rfl
  | cons n r ih=>simp [PyData.canLayAll0,PyData.canLay0,ih]
theorem mr{x:Int}:∀(ns:List Int),((ns.map PyData.int).any fun y=>PyData.eqv y (.int x))=ns.contains x
  | []=>rfl
  | n::r=>by
    rw [List.map_cons,List.any_cons,mr r,List.contains_cons]
    show(n==x || _)=_
    rw [show(n==x)=(x==n) by rw [Bool.eq_iff_iff];simp;exact eq_comm]
theorem ig{e:En}{x:Int}{ns:List Int}{neg:Bool}:Al neg e (.d (.int x)) (.d (.tuple (ns.map .int)))=some (.d (.bool (if neg then !ns.contains x else ns.contains x))):=by
  unfold Al
  simp only [gK,dg,Option.bind_some,mw,mr]
  simp [PyData.canLay0,PyData.depth]
theorem lT{e:En}{x a b:Int}{neg:Bool}:Al neg e (.d (.int x)) (.d (.tuple [.int a,.int b]))=some (.d (.bool (if neg then !(a==x || b==x) else(a==x || b==x)))):=by
  have h:=ig (e:=e) (x:=x) (ns:=[a,b]) (neg:=neg)
  simp only [List.map_cons,List.map_nil] at h
  rw [h]
  have:[a,b].contains x=(a==x || b==x):=by
    simp only [List.contains_cons,List.contains_nil,Bool.or_false]
    rw [show(x==a)=(a==x) by rw [Bool.eq_iff_iff];simp;exact eq_comm,show(x==b)=(b==x) by rw [Bool.eq_iff_iff];simp;exact eq_comm]
  rw [this]
theorem ib(W:bE):aS W=.tuple [.int W.things,.tuple (W.ties.map aU),.tuple (W.pat.map .int),.int W.asks]:=rfl
end L2
namespace L2
open PySem PySem.Spec PyProof.Rows
abbrev Std:=List Int × List Int
structure yK (W:bE) (s:Std):Prop where
  inw:∀k∈s.1,nJ W k
  nd:s.1.Nodup
  tk:s.2.length≤2*s.1.length
  th:∀t∈s.2,0≤t∧t < W.things
def nxt(W:bE)(s:Std)(k:Int)(b:Bool):Std:=(bE.askd s.1 k,W.took s.2 k b)
structure Nd where
  tie:Int
  yes:Int
  no:Int
def yH(W:bE)(n:Nat)(S:Nat→Std)(i:Nat)(k:Int)(b:Bool)(l:Int):Prop:=l= -1∨(0≤l∧l < (n:Int)∧S l.toNat=nxt W (S i) k b)
structure Ag (W:bE) (n:Nat) (S:Nat→Std) (i:Nat) (x:Nd):Prop where
  tie:nJ W x.tie
  st:yK W (S i)
  may:W.may (S i).1 (S i).2 x.tie=true
  yes:yH W n S i x.tie true x.yes
  no:yH W n S i x.tie false x.no
def Ah(W:bE)(T:List Nd)(S:Nat→Std):Prop:=∀(i:Nat) (x:Nd),T[i]?=some x→Ag W T.length S i x
structure Wt where
  st:Std
  par:Int
  side:Int
structure Bf (W:bE) (T:List Nd) (S:Nat→Std) (ws:List Wt):Prop where
  tr:Ah W T S
  wt:∀w∈ws,yK W w.st∧(w.par= -1∨∃(p:Nat) (x:Nd),w.par=(p:Int)∧T[p]?=some x∧((w.side=0∧w.st=L2.nxt W (S p) x.tie true)∨(w.side=1∧w.st=L2.nxt W (S p) x.tie false)))
  side:∀w∈ws,w.side=0∨w.side=1
end L2
namespace L2
open PySem PySem.Spec PyProof.Rows
def nm(nums:List Int)(l:Int):Int:=(atI nums l).getD (-1)
structure AV (order:List Int) (n:Nat) (nums:List Int):Prop where
  len:nums.length=n+1
  top:nums[n]?=some (-1)
  at':∀(j:Nat) (v:Int),j < n→nums[j]?=some v→v= -1∨∃p:Nat,v=(p:Int)∧order[p]?=some (j:Int)
def rW(T:List Nd)(w:Int):Nd:=T.getD w.toNat ⟨0,0,0⟩
end L2
namespace L2
open PySem PySem.Spec PyProof.Rows
structure Bm (S:Nat→Std) (n:Nat) (ss:List Std):Prop where
  len:ss.length=n
  at':∀(j:Nat) (s:Std),ss[j]?=some s→s.1.length≤(S j).1.length∧s.2.length≤2*s.1.length∧(∀k∈s.1,0≤k∧k < 16)∧∀t∈s.2,0≤t∧t < 12
end L2
namespace L2
open PySem PySem.Spec PyProof.Rows
theorem bQ(s:String):PyData.strOk (Str.ofString s)=true:=by
  rw [Str.ofString_eq_toList]
  unfold PyData.strOk
  simp only [List.size_toArray,List.length_map]
  rw [show(List.map Char.toNat s.toList).toArray.all (fun a=>decide (a < 1114112)) 0 s.toList.length=(List.map Char.toNat s.toList).all (fun a=>decide (a < 1114112)) by simp]
  rw [List.all_map,List.all_eq_true]
  intro c _
  show decide (c.toNat < 1114112)=true
  rw [decide_eq_true_eq]
  have:=c.valid
  unfold UInt32.isValidChar Nat.isValidChar at this
  show c.val.toNat < _
  lia
theorem cW{a b:Str}(h1:PyData.strOk a=true)(h2:PyData.strOk b=true):PyData.strOk (a++b)=true:=by
  unfold PyData.strOk at*
  rw [show(a++b).cps=a.cps++b.cps from rfl]
  simp only [Array.all_append,h1,h2,Bool.and_self]
theorem kx{sep:Str}(h:PyData.strOk sep=true):∀(ts:List Str),(∀t∈ts,PyData.strOk t=true)→PyData.strOk (Str.join sep ts)=true
  | [],_=>by show PyData.strOk Str.empty=true;simp [PyData.strOk,Str.empty]
  | [x],hx=>hx x (by simp)
  | x::y::r,hx=>cW (cW (hx x (by simp)) h) (kx h (y::r) fun t ht=>hx t (by simp at ht ⊢;exact .inr ht))
theorem i_{ts:List Str}(h:∀t∈ts,PyData.strOk t=true):PyData.strOk (tupleText ts)=true:=by
  unfold tupleText
  exact cW (cW (bQ _) (kx (bQ _) ts h)) (bQ _)
structure Sz (n dep:Nat) (d:PyData):Prop where
  fl:d_ d=true
  sh:d.showable=true
  dp:d.depth≤dep
  ln:d.shown.length≤n
  so:PyData.strOk d.shown=true
theorem Sz.int{k:Int}(h0:0≤k)(h1:k < 16):Sz 2 2 (.int k):=by
  have:k=0∨k=1∨k=2∨k=3∨k=4∨k=5∨k=6∨k=7∨k=8∨k=9∨k=10∨k=11∨k=12∨k=13∨k=14∨k=15:=by lia
  rcases this with rfl | rfl | rfl | rfl | rfl | rfl | rfl | rfl | rfl | rfl | rfl | rfl | rfl | rfl | rfl | rfl<;>exact⟨rfl,by decide,by simp [PyData.depth],by decide,bQ _⟩
theorem Sz.all{n dep:Nat}:∀{ds:List PyData},(∀d∈ds,Sz n dep d)→d9 ds=true∧PyData.showableAll ds=true∧PyData.depthAll ds≤dep∧piled (PyData.shownAll ds)≤ds.length*(n+2)∧∀t∈PyData.shownAll ds,PyData.strOk t=true
  | [],_=>⟨rfl,rfl,by simp [PyData.depthAll],by simp [PyData.shownAll,piled],by simp [PyData.shownAll]⟩
  | d::r,h=>by
    obtain⟨a1,a2,a3,a4,a5⟩:=h d (by simp)
    obtain⟨b1,b2,b3,b4,b5⟩:=Sz.all (ds:=r) fun x hx=>h x (by simp [hx])
    refine⟨?_,?_,?_,?_,?_⟩
    · simp only [d9,a1,b1,Bool.and_self]
    · simp only [PyData.showableAll,a2,b2,Bool.and_self]
    · simp only [PyData.depthAll];lia
    · simp only [PyData.shownAll,dI,List.length_cons,Nat.succ_mul];lia
    · intro t ht
      simp only [PyData.shownAll,List.mem_cons] at ht
      rcases ht with rfl | ht
      · exact a5
      · exact b5 t ht
theorem Sz.tup{n dep m:Nat}{ds:List PyData}(h:∀d∈ds,Sz n dep d)(hl:ds.length≤m):Sz (m*(n+2)+3) (dep+2) (.tuple ds):=by
  obtain⟨b1,b2,b3,b4,b5⟩:=Sz.all h
  refine⟨by simpa [d_] using b1,b2,by simp only [PyData.depth];lia,?_,by simp only [PyData.shown];exact i_ b5⟩
  have h2:=gC (PyData.shownAll ds)
  have:=Nat.mul_le_mul_right (n+2) hl
  simp only [PyData.shown]
  lia
theorem Sz.ok{n dep:Nat}{d:PyData}(h:Sz n dep d)(h1:n≤16777216)(h2:dep≤60):e8 d=true:=by
  have sl:sizeLine=16777216:=sizeLine_eq
  unfold e8
  rw [h.fl,h.sh,decide_eq_true (Nat.le_trans h.dp h2),decide_eq_true (show d.shown.length≤sizeLine by rw [sl];exact Nat.le_trans h.ln h1)]
  rfl
theorem Sz.ints{ns:List Int}{m:Nat}(hl:ns.length≤m)(h:∀r∈ns,0≤r∧r < 16):Sz (m*4+3) 4 (.tuple (ns.map .int)):=Sz.tup (n:=2) (dep:=2) (fun d hd=>by
  obtain⟨x,hx,rfl⟩:=List.mem_map.mp hd
  exact Sz.int (h x hx).1 (h x hx).2) (by rw [List.length_map];exact hl)
theorem pv{e:En}{d:PyData}(h:e8 d=true):g1 fH e [.d d]=some (.d (.str d.shown)):=by
  simp [g1,fH,h]
theorem ut{e:En}{s:Str}(h:PyData.strOk s=true):dD false e (.d (.str s)) (.d (.str s))=some (.d (.bool true)):=by
  simp [dD,gK,SeqAt.shaped,PyData.canLay0,PyData.depth,PyData.eqv,h]
end L2
namespace L2
open PySem PySem.Spec PyProof.Rows
theorem ro{e:En}{d:PyData}{n:Int}(h0:0≤n)(h1:n≤100000):bO e (.d (.tuple [d])) (.d (.int n))=some (.d (.tuple (List.replicate n.toNat d))):=by
  have a:mF e (.d (.tuple [d])) (.d (.int n))=some (.d (.tuple (List.replicate n.toNat d))):=by
    simp [mF,dg,bZ,h0,h1]
  have b:mE e (.d (.tuple [d])) (.d (.int n))=none:=by simp [mE,gI,bZ]
  unfold bO uv
  rw [b,a]
  rfl
def rn(T:List Nd)(ans:List Bool):Nat→Int→List (Int × Bool)
  | 0,_=>[]
  | f+1,at'=>if at' < 0 then [] else((rW T at').tie,ans.getD (rW T at').tie.toNat false)::rn T ans f (if ans.getD (rW T at').tie.toNat false=true then(rW T at').yes else(rW T at').no)
def rt(T:List Nd):Int:=if T.length=0 then -1 else 0
structure AY (W:bE) (T:List Nd) (S:Nat→Std) (ans:List Bool) (r:List (Int × Bool)) (a:Int):Prop where
  at':a= -1∨(0≤a∧a < (T.length:Int)∧r.length≤(S a.toNat).1.length)
  eq:r++rn T ans (17 - r.length) a=rn T ans 17 (rt T)
  len:r.length≤16
  inw:∀p∈r,nJ W p.1
theorem Sz.bool{b:Bool}:Sz 5 2 (.bool b):=by
  cases b
  · exact⟨rfl,rfl,by simp [PyData.depth],by show(Str.ofString "False").length≤5;decide,bQ _⟩
  · exact⟨rfl,rfl,by simp [PyData.depth],by show(Str.ofString "True").length≤5;decide,bQ _⟩
end L2
namespace L2
open PySem PySem.Spec PyProof.Rows
abbrev Fr:=Int × Int
def dF(f:Fr):PyData:=.tuple [.int f.1,.int f.2]
def tm(a b:Fr):Fr:=lowM (a.1*b.1) (a.2*b.2)
def pl(a b:Fr):Fr:=lowM (a.1*b.2+b.1*a.2) (a.2*b.2)
structure Bj (M:Int) (f:Fr):Prop where
  pos:0 < f.2
  lo:0≤f.1
  hi:f.1≤f.2
  dv:f.2 ∣ M
structure z4 (M i:Int) (f:Fr):Prop where
  pos:0 < f.2
  lo:0≤f.1
  hi:f.1≤i*f.2
  dv:f.2 ∣ M
def bp(W:bE):List Int→Int
  | []=>1
  | k::r=>(W.tie k).bot*bp W r
def yQ(W:bE):Int:=bp W W.rng
def ch(W:bE)(k:Int)(b:Bool):Fr:=if b then((W.tie k).top,(W.tie k).bot) else((W.tie k).bot - (W.tie k).top,(W.tie k).bot)
structure Bl (W:bE) (S:Nat→Std) (n:Nat) (rs:List Fr):Prop where
  len:rs.length=n
  at':∀(j:Nat) (f:Fr),rs[j]?=some f→Bj (bp W (S j).1) f
structure Bg (W:bE) (i:Nat) (ss:List Fr):Prop where
  len:ss.length=W.ties.length
  at':∀(j:Nat) (f:Fr),ss[j]?=some f→z4 (yQ W) (i:Int) f
end L2
namespace L2
open PySem PySem.Spec PyProof.Rows
def yx(sc:Scope)(x:Str):Bool:=match sc.names.lookup x with
  | some .local=>true
  | some .cell=>true
  | some .free=>true
  | _=>false
theorem vT{sc:Scope}{x:Str}(h:yx sc x=true):yM sc x:=by
  unfold yx at h
  unfold yM
  split at h
  · rename_i e;exact .inl e
  · rename_i e;exact .inr (.inl e)
  · rename_i e;exact .inr (.inr e)
  · cases h
section
variable{X:Cx}{K:PySem.W.Frag}
theorem qw(i:Nat){x:Str}{pos:Pos}(hN:X.N[i]?=some x)(hv:yx X.env.scope x=true)(hd:((x==("__debug__":Str)) || (x==("__classdict__":Str)))=false):PE X (.Name x pos) (fE K (ae i)):=qv i hN (vT hv) (Bool.or_eq_false_iff.mp hd).1 (Bool.or_eq_false_iff.mp hd).2
end
end L2
namespace L2
open PySem PySem.Spec PyProof.Rows
section
variable{X:Cx}{tg a b c:Expr}{ta:TA}{p pos p2 pos2:Pos}
end
section
variable{K:PySem.W.Frag}{σ:L2.St}
end
section
variable{X:Cx}{K:PySem.W.Frag}{tg a b c:Expr}{fs:FA}{pos p p2 pos2:Pos}
end
end L2
namespace L2
open PySem PySem.Spec PyProof.Rows
end L2
namespace L2
open PySem PySem.Spec PyProof.Rows
section
variable(P:Program)(w:World)
end
section
variable{P:Program}{w:World}{H H':Hp}{h h':Heap}{a:Addr}{o:HO}
end
section
variable{P:Program}{w:World}{H:Hp}{h h':Heap}{x e:Addr}{o':HO}
end
section
variable{fs fs' ex ex':List Addr}{H H1 H2:Hp}{h h1 h2 h':Heap}{a x e:Addr}{o:HO}
end
end L2
namespace L2
open PySem PySem.Spec PyProof.Rows
section
variable{X:Cx}{pins:List (Addr × Obj)}{σ:List (Option V)}{H H':Hp}{s:Shared}{h':Heap}
end
end L2
namespace L2
open PySem PySem.Spec PyProof.Rows
section
variable{X:Cx}
variable{a b:Expr}{ta tb:TE}{pos:Pos}
variable{tA tB':TT}{dS:List Expr}
end
end L2
namespace L2
open PySem PySem.Spec PyProof.Rows
section
variable{X:Cx}{pins:List (Addr × Obj)}{σ:St}{H:Hp}{s:Shared}{a:Addr}{xs ys:List V}
end
section
variable{X:Cx}{pins:List (Addr × Obj)}{σ:St}{H:Hp}{s:Shared}{E:Value→Shared→Prop}
end
section
variable{X:Cx}{st:Stmt}{dS:List Stmt}{t u:TS}{e:Expr}{te:TE}{pos:Pos}
end
section
variable{X:Cx}{pos:Pos}
end
section
variable{X:Cx}{pos:Pos}
end
end L2
namespace L2
open PySem PySem.Spec PyProof.Rows
section
variable{X:Cx}{tg:Expr}
end
end L2
namespace L2
open PySem PySem.Spec PyProof.Rows
section
variable{X:Cx}{a b c:Expr}{ta tb tc:TE}{pos:Pos}
end
section
variable{X:Cx}{a b c:Expr}{ta tb tc:TE}{pos:Pos}
end
end L2
namespace L2
open PySem PySem.Spec PyProof.Rows
section
variable{prog:Program}{w:World}{A:Around}{E:Value→Shared→Prop}{s:Shared}{K:PySem.W.Frag}{x dx C f:Addr}{mA:Str→Option Value}{name:Str}{v:Value}
end
section
variable{P:Program}{w:World}{H H':Hp}{h h':Heap}{a C dx:Addr}{fs fs':List (Str × V)}
end
section
variable{X:Cx}{pins:List (Addr × Obj)}{σ:St}{H:Hp}{s:Shared}{a C dx:Addr}{fs:List (Str × V)}{f:Str}{v:V}{A:Around}{E:Value→Shared→Prop}
end
section
variable{X:Cx}{o e value:Expr}{f:Str}{pos pos' tpos:Pos}{ta tv:TE}
end
section
variable{X:Cx}{pins:List (Addr × Obj)}{σ:St}{H:Hp}{s:Shared}{A:Around}{E:Value→Shared→Prop}{Q:Value→Shared→Prop}{c:Value}{b:Bool}
end
end L2
namespace L2
open PySem PySem.Spec PyProof.Rows
section
variable{X:Cx}{e:Expr}{es:List Expr}{te:TE}{t:TA}{pos:Pos}
end
section
variable{X:Cx}{pins:List (Addr × Obj)}{σ:St}{H:Hp}{s s':Shared}
end
section
variable{X:Cx}{CX:pQ}{k:Nat}{f C:Addr}{fd:FuncData}{ps:List Str}{sp:Sp}{dvs:List V}{ds:List Value}{E:XK}{x m:Str}{p pos apos:Pos}{e o:Expr}{es:List Expr}{ta:TE}{t:TA}
end
section
variable{X:Cx}{CX:pQ}{k:Nat}{f C:Addr}{fd:FuncData}{ps ks:List Str}{sp:Sp}{E:XK}{x m:Str}{p pos apos kpos:Pos}{e o:Expr}{es:List Expr}{kws:List Keyword}{te ta:TE}{t tk:TA}{nm:Option Str}
variable{g:List Value→List Value→List Value}{gV:List V→List V→List V}
end
end L2
namespace L2
open PySem PySem.Spec PyProof.Rows
section
variable{X:Cx}{x:Str}{p pos:Pos}{e:Expr}{es:List Expr}{t:TA}{id T:String}{r:List V→Hp→VK→Prop}
end
end L2
namespace L2
open PySem PySem.Spec PyProof.Rows
section
variable{κ:Type}[DecidableEq κ]
end
section
variable{P:Program}{w:World}{H:Hp}{h:Heap}{a:Addr}
end
section
variable{X:Cx}{pins:List (Addr × Obj)}{σ:St}{H:Hp}{s:Shared}{a:Addr}{y v:V}{u r:Value}{o:Option V}{A:Around}{E:Value→Shared→Prop}
end
section
variable{X:Cx}{pins:List (Addr × Obj)}{σ:St}{H:Hp}{s:Shared}{a:Addr}{kvs:List (jD × V)}{k:jD}{u:Value}{A:Around}{E:Value→Shared→Prop}
end
section
variable{X:Cx}{o i e value:Expr}{pos pos' tpos:Pos}{td ty tv:TE}
end
section
variable{X:Cx}{pos:Pos}
end
section
variable{X:Cx}{pins:List (Addr × Obj)}{σ:St}{H:Hp}{s:Shared}{a:Addr}{y d:V}{u r:Value}{o:Option V}{A:Around}{E:Value→Shared→Prop}
end
section
variable{X:Cx}{o e f:Expr}{apos cpos:Pos}{td ty tx:TE}
end
section
variable{X:Cx}{pins:List (Addr × Obj)}{σ:St}{H:Hp}{s:Shared}{a:Addr}{kvs:List (jD × V)}{A:Around}{E:Value→Shared→Prop}
end
section
variable{X:Cx}{pins:List (Addr × Obj)}{σ:St}{H:Hp}{s:Shared}{a:Addr}{y:V}{u:Value}{A:Around}{E:Value→Shared→Prop}
end
end L2
namespace Att
open PySem PySem.W PySem.Calls PyProof.Rows
section
variable{prog:Program}{w:World}{A:Around}{E:Value→Shared→Prop}{s:Shared}{K:Frag}
end
end Att
namespace L2
open PySem PySem.Spec PyProof.Rows
end L2
namespace L2
open PySem PySem.Spec PyProof.Rows
end L2
namespace L2
open PySem PySem.Spec PyProof.Rows
section
variable{P:Program}{w:World}{K:PySem.W.Frag}{mg:Str→Option Value}{base:Heap}
end
section
variable{X:Cx}
end
section
variable{κ:Type}[DecidableEq κ]
end
end L2
namespace L2
open PySem PySem.Spec PyProof.Rows
section
variable{X:Cx}{K:PySem.W.Frag}{a:Expr}{fa:FE}{pos p p2:Pos}
end
end L2
namespace L2
open PySem PySem.Spec PyProof.Rows
section
variable{X:Cx}{K:PySem.W.Frag}
end
end L2
namespace L2
open PySem PySem.Spec PyProof.Rows
section
variable{X:Cx}{K:PySem.W.Frag}{σ:L2.St}{F H:Hp}{e:En}{pos p1 p2:Pos}
end
end L2
namespace L2
open PySem PySem.Spec PyProof.Rows
section
variable{X:Cx}{K:PySem.W.Frag}{a b c d:Expr}{ta tb tc td:TE}{fa fb fc fd:FE}{pos:Pos}
end
end L2
namespace L2
open PySem PySem.Spec PyProof.Rows
section
variable{X:Cx}{K:PySem.W.Frag}{a b:Expr}{es:List Expr}{fa fb:FE}{fs:FA}{pos p apos:Pos}
end
end L2
namespace L2
open PySem PySem.Spec PyProof.Rows
section
variable{X:Cx}{K:PySem.W.Frag}{a b:Expr}{fa fb:FE}{fs:FA}{pos p p2 p3:Pos}
end
end L2
namespace L2
open PySem PySem.Spec PyProof.Rows
def bq(W:bE)(as:List Int):Int:=bp W (W.rng.filter fun k=> !as.contains k)
def wI(l:Nat):Int:=1000*(2 ^ (16 - l) - 1)
structure Bd (W:bE) (k:Int) (as:List Int) (y n:Fr):Prop where
  y:z4 (bq W (bE.askd as k)) (wI (as.length+1)) y
  n:z4 (bq W (bE.askd as k)) (wI (as.length+1)) n
  len:as.length≤15
  inw:nJ W k
  new:k∉as
def lk(ws:List Fr)(l:Int):Fr:=if l= -1 then(0,1) else ws.getD l.toNat (0,1)
structure Bn (W:bE) (S:Nat→Std) (n:Nat) (ws:List Fr):Prop where
  len:ws.length=n
  at':∀(j:Nat) (f:Fr),ws[j]?=some f→z4 (bq W (S j).1) (wI (S j).1.length) f
theorem Sz.int10{n m:Nat}{k:Int}(hb:Bt m k)(m0:0 < m)(m1:m≤1900)(h:k.natAbs < 10 ^ n)(h0:0 < n):Sz (n+1) 2 (.int k):=by
  refine⟨rfl,?_,by simp [PyData.depth],?_,bQ _⟩
  · show decide (k.natAbs.log2 < 1920)=true
    rw [decide_eq_true_eq]
    have:=hb.log m0
    lia
  · have:=int_text_length_le10 h0 h
    show(Str.ofString (toString k)).length≤n+1
    rw [PySem.ofString_length];exact this
end L2
namespace L2
open PySem PySem.Spec PyProof.Rows
theorem dC{cs:En}{g:FG}{ft:FT}{fe:FE}{b:PyData→Bool}{y:PyData→PyData}{u:PyData→En}(n:Nat):∀(items:List PyData) (t:En) (acc:List PyData),t.length=n→(∀x∈items,∀t:En,t.length=n→g x (cs++t)=some (cs++u x))→(∀x∈items,(u x).length=n)→
    (∀x∈items,ft (cs++u x)=some (b x,cs++u x))→(∀x∈items,b x=true→fe (cs++u x)=some (.d (y x),cs++u x))→acc.length+items.length≤1000000→
    ∃t',t'.length=n∧fg g ft fe items (cs++t) acc=some (acc++(items.filter b).map y,cs++t')
  | [],t,acc,h,_,_,_,_,_=>⟨t,h,by simp [fg]⟩
  | x::r,t,acc,h,hg,hu,h1,h2,hl=>by
    have h1x:=h1 x (by simp)
    unfold fg
    rw [hg x (by simp) t h]
    simp only [Option.bind_some,h1x]
    cases hb:b x with
    | true=>
      simp only [if_true,h2 x (by simp) hb,Option.bind_some,nX]
      rw [if_pos (by simp at hl;lia)]
      obtain⟨t',e1,ih⟩:=dC (b:=b) (y:=y) (u:=u) n r (u x) (acc++[y x]) (hu x (by simp)) (fun z hz=>hg z (by simp [hz])) (fun z hz=>hu z (by simp [hz])) (fun z hz=>h1 z (by simp [hz])) (fun z hz=>h2 z (by simp [hz])) (by simp at hl ⊢;lia)
      exact⟨t',e1,by rw [ih];simp [hb]⟩
    | false=>
      simp only [Bool.false_eq_true,if_false]
      obtain⟨t',e1,ih⟩:=dC (b:=b) (y:=y) (u:=u) n r (u x) acc (hu x (by simp)) (fun z hz=>hg z (by simp [hz])) (fun z hz=>hu z (by simp [hz])) (fun z hz=>h1 z (by simp [hz])) (fun z hz=>h2 z (by simp [hz])) (by simp at hl;lia)
      exact⟨t',e1,by rw [ih];simp [hb]⟩
theorem lw{x:Str}(h:PyData.strOk x=true):∀c∈x.cps.toList,c < 1114112:=by
  intro c hc
  unfold PyData.strOk at h
  rw [Array.all_eq_true'] at h
  have:=h c (by simpa using hc)
  simpa using this
theorem tK{l:Array Nat}(h:∀c∈l.toList,c < 1114112):PyData.strOk ⟨l⟩=true:=by
  unfold PyData.strOk
  rw [Array.all_eq_true']
  intro c hc
  simpa using h c (by simpa using hc)
theorem uj(c:Char):c.toNat < 1114112:=by
  have:=c.valid
  unfold UInt32.isValidChar Nat.isValidChar at this
  show c.val.toNat < _
  lia
open PySem.Builtin.Str in
theorem mU{q c:Nat}(hc:c < 1114112):∀d∈reprChar q c,d < 1114112:=by
  intro d hd
  unfold reprChar at hd
  have hx:∀w:Nat,∀d∈(List.replicate (w - ((Nat.toDigits 16 c).map Char.toNat).length) 48++(Nat.toDigits 16 c).map Char.toNat),d < 1114112:=by
    intro w d hd
    rcases List.mem_append.mp hd with h | h
    · have:=List.eq_of_mem_replicate h;lia
    · obtain⟨ch,_,rfl⟩:=List.mem_map.mp h;exact uj ch
  dsimp only at hd
  split at hd
  · simp only [List.mem_cons,List.not_mem_nil,or_false] at hd;lia
  split at hd
  · simp only [List.mem_cons,List.not_mem_nil,or_false] at hd;lia
  split at hd
  · simp only [List.mem_cons,List.not_mem_nil,or_false] at hd;lia
  split at hd
  · simp only [List.mem_cons,List.not_mem_nil,or_false] at hd;lia
  split at hd
  · simp only [List.mem_cons,List.not_mem_nil,or_false] at hd;lia
  split at hd
  · rcases List.mem_append.mp hd with h | h
    · simp only [List.mem_cons,List.not_mem_nil,or_false] at h;lia
    · exact hx 2 d h
  split at hd
  · rcases List.mem_append.mp hd with h | h
    · simp only [List.mem_cons,List.not_mem_nil,or_false] at h;lia
    · exact hx 4 d h
  · rcases List.mem_append.mp hd with h | h
    · simp only [List.mem_cons,List.not_mem_nil,or_false] at h;lia
    · exact hx 8 d h
open PySem.Builtin.Str in
theorem li{q:Nat}:∀(l:List Nat) (acc:Array Nat),(∀c∈l,c < 1114112)→(∀c∈acc.toList,c < 1114112)→∀c∈(l.foldl (fun out c=>out++(reprChar q c).toArray) acc).toList,c < 1114112
  | [],acc,_,h=>h
  | x::r,acc,h1,h2=>li r _ (fun c hc=>h1 c (by simp [hc])) fun c hc=>by
    simp only [Array.toList_append,List.mem_append] at hc
    rcases hc with hc | hc
    · exact h2 c hc
    · exact mU (h1 x (by simp)) c hc
theorem mV{x:Str}(h:PyData.strOk x=true):PyData.strOk (reprText x)=true:=by
  unfold reprText
  refine tK fun c hc=>?_
  have hq:reprQuote x < 1114112:=by unfold reprQuote;split<;>lia
  rw [Array.toList_push] at hc
  rcases List.mem_append.mp hc with hc | hc
  · rw [←Array.foldl_toList] at hc
    exact li _ _ (lw h) (fun c hc=>by simp at hc;lia) c hc
  · simp at hc;lia
theorem Sz.str{x:Str}{n:Nat}(h:PyData.strOk x=true)(hl:x.length≤n):Sz (10*n+2) 2 (.str x):=by
  refine⟨rfl,rfl,by simp [PyData.depth],?_,mV h⟩
  have:=PySem.StrLaws.reprText_len x fun c hc=>Nat.lt_of_lt_of_le (lw h c hc) (by decide)
  show(reprText x).length≤_
  lia
end L2
namespace L2
open PySem PySem.Spec PyProof.Rows
section
variable{X:Cx}{K:PySem.W.Frag}{a:Expr}{fa:FE}{pos p pos2 p2:Pos}
end
end L2
namespace L2
open PySem PySem.Spec PyProof.Rows
section
variable{X:Cx}{K:PySem.W.Frag}{a:Expr}{fa:FE}
end
end L2
namespace L2
open PySem PySem.Spec PyProof.Rows
abbrev Rn:=List (Int × Bool)
def ur(R:Rn):List Int:=R.map (·.1)
def wb(W:bE)(R:Rn):List Int:=(R.filter (·.2)).flatMap fun r=>[(W.tie r.1).one,(W.tie r.1).other]
structure Bk (W:bE) (R:Rn) (asked taken:List Int):Prop where
  pa:asked.Perm (ur R)
  pt:taken.Perm (wb W R)
  inw:∀k∈ur R,nJ W k
  nd:(ur R).Nodup
  nk:(wb W R).Nodup
  bd:∀t:Int,0≤t→t < W.things→W.many (ur R) t≤W.pat.getD t.toNat 0
  ak:(R.length:Int)≤W.asks
  sa:asked.Pairwise (· ≤·)
  st:taken.Pairwise (· ≤·)
end L2
namespace L2
open PySem PySem.Spec PyProof.Rows
section
variable{prog:Program}{w:World}{A:Around}{R:Result→Shared→Prop}
end
def yg(l:Addr)(wi:TI)(g:TG)(tc:TT)(te:TE)(σ:L2.St)(H:Hp)(N:L2.St→Hp→Prop):Prop:=
  wi σ H fun J H1=>∃W:Nat→Nat→L2.St→Hp→Prop,(∃m,W 0 m σ H1)∧∀i m σ' H',W i m σ' H'→
    (J.stop i H'∧N σ' H')∨(J.go i H'∧∃N2:L2.St→Hp→Prop,(∀σ2 H2,N2 σ2 H2→∃m',m' < m∧W (i+1) m' σ2 H2)∧
      ∀x H2,J.yld i H' x H2→g x σ' H2 fun σ2 H3=>tc σ2 H3 fun b H4=>if b=true then te σ2 H4 fun v H5=>∃ys,H5 l=some (.lst ys)∧ys.length < sizeLine∧N2 σ2 (a_ H5 l (.lst (ys++[v]))) else N2 σ2 H4)
structure AF (cp:List (Nat × Str)) (nT:Nat) (wi:TI) (g:TG) (tc:TT) (wi2:TI) (g2:TG) (tc2:TT) (te:TE) (σ:L2.St) (H:Hp) (Q:VK):Prop where
  go:wi σ H fun J H1=>∀l,H1 l=none→
  ∃W:Nat→Nat→L2.St→Hp→Prop,(∃m,W 0 m (eN cp nT σ) (a_ H1 l (.lst [])))∧∀i m σ' H',W i m σ' H'→
    (J.stop i H'∧Q (.ref l) H')∨(J.go i H'∧∃N:L2.St→Hp→Prop,(∀σ2 H2,N σ2 H2→∃m',m' < m∧W (i+1) m' σ2 H2)∧
      ∀x H2,J.yld i H' x H2→g x σ' H2 fun σ2 H3=>tc σ2 H3 fun b H4=>if b=true then yg l wi2 g2 tc2 te σ2 H4 N else N σ2 H4)
section
variable{K:PySem.W.Frag}{F H:Hp}{σ:L2.St}{e:En}{cp:List (Nat × Str)}{nT:Nat}
end
section
variable{X:Cx}{K:PySem.W.Frag}{pos:Pos}
end
section
variable{X:Cx}{K:PySem.W.Frag}{pos:Pos}
variable{o:Expr}{fo:FE}{apos cpos:Pos}
end
end L2
namespace L2
open PySem PySem.Spec PyProof.Rows
section
variable{X:Cx}{K:PySem.W.Frag}
end
end L2
namespace L2
open PySem PySem.Spec PyProof.Rows
structure zZ (f:Fr):Prop where
  pos:0 < f.2
  cop:Int.gcd f.1 f.2=1
theorem zZ.lowM{t b:Int}(h:0 < b):zZ (L2.lowM t b):=by
  obtain⟨d,_,_,_,_,h5⟩:=gv (t:=t) (b:=b) (by lia)
  exact⟨h5,mJ (by lia)⟩
def cM:Nat→List (List Bool)
  | 0=>[[]]
  | n+1=>(cM n).flatMap fun r=>[r++[true],r++[false]]
def aV:Nat→List (List Bool)
  | 0=>[[]]
  | n+1=>(aV n).map (· ++[true])++(aV n).map (· ++[false])
abbrev Pg:=List Int × Int
structure AX (k:Nat) (ps:List Pg):Prop where
  ne:ps≠[]
  len:ps.length≤2 ^ k
  pt:∀p∈ps,p.1.length≤2*k∧0≤p.2∧p.2≤1000*(k:Int)
end L2
namespace L2
open PySem PySem.Spec PyProof.Rows
end L2
namespace L2
open PySem PySem.Spec PyProof.Rows
section
variable{prog:Program}{w:World}{A:Around}{E:Value→Shared→Prop}{s:Shared}
end
section
variable{X:Cx}{a:Expr}{ta:TA}{p p2 pos pos2:Pos}
variable{K:PySem.W.Frag}{fs:FA}{p3:Pos}
end
end L2
namespace L2
open PySem PySem.Spec PyProof.Rows
end L2
namespace L2
open PySem PySem.Spec PyProof.Rows
mutual
def t_:Nat→PyData→Bool
  | _,.none=>true
  | _,.bool _=>true
  | _,.int i=>decide (i.natAbs < 2 ^ 128)
  | _,.str x=>PyData.strOk x&&decide (x.length≤10)
  | k,.list xs=>decide (0 < k)&&lg (k - 1) xs
  | k,.tuple xs=>decide (0 < k)&&lg (k - 1) xs
  | _,.dict _=>false
def lg:Nat→List PyData→Bool
  | _,[]=>true
  | k,x::r=>t_ k x&&lg k r
end
mutual
def wt:PyData→Nat
  | .list xs=>lz xs+1
  | .tuple xs=>lz xs+1
  | .dict _=>1
  | .none=>1
  | .bool _=>1
  | .int _=>1
  | .str _=>1
def lz:List PyData→Nat
  | []=>0
  | x::r=>wt x+lz r
end
theorem nv:∀(ts:List Str) (k:Nat) (acc:Str),(textFrom k acc ts).length≤acc.length+piled ts
  | [],_,acc=>by show acc.length≤acc.length+0;lia
  | t::r,k,acc=>by
    have ih:=nv r (k+1) (acc++(if k > 0 then ", " else "":String)++t)
    have e:(acc++(if k > 0 then ", " else "":String)++t).length≤acc.length+2+t.length:=by
      rw [strLen_append,strLen_append]
      have:(Str.ofString (if k > 0 then ", " else "")).length≤2:=by split<;>decide
      lia
    show(textFrom (k+1) _ r).length≤_
    rw [dI];lia
theorem rQ(ts:List Str):(listText ts).length≤piled ts+2:=by
  unfold listText
  rw [strLen_append]
  have h:=nv ts 0 "["
  have h1:(("[":Str)).length=1:=by decide
  have h2:(("]":Str)).length=1:=by decide
  lia
theorem ky:∀(ts:List Str) (k:Nat) (acc:Str),PyData.strOk acc=true→(∀t∈ts,PyData.strOk t=true)→PyData.strOk (textFrom k acc ts)=true
  | [],_,acc,h,_=>h
  | t::r,k,acc,h,hs=>ky r (k+1) _ (cW (cW h (bQ _)) (hs t (by simp))) fun u hu=>hs u (by simp [hu])
theorem qp{ts:List Str}(h:∀t∈ts,PyData.strOk t=true):PyData.strOk (listText ts)=true:=cW (ky ts 0 _ (bQ _) h) (bQ _)
structure zX (d:PyData) (k:Nat):Prop where
  lay:d.canLay0=true
  sh:d.showable=true
  dp:d.depth≤k
  ln:d.shown.length+2≤104*wt d
  so:PyData.strOk d.shown=true
theorem jF{d:PyData}{n:Nat}{k:Nat}(h:Sz n 0 d∨Sz n 2 d)(hn:n≤102)(hw:wt d=1)(hl:d.canLay0=true)(hd:d.depth=0):zX d k:=by
  rcases h with h | h<;>exact⟨hl,h.sh,by lia,by have:=h.ln;lia,h.so⟩
mutual
theorem nO{k:Nat}:∀{d:PyData},t_ k d=true→zX d k
  | .none,_=>⟨rfl,rfl,by simp [PyData.depth],by show(Str.ofString "None").length+2≤104*1;decide,bQ _⟩
  | .bool b,_=>jF (.inr Sz.bool) (by decide) rfl rfl (by simp [PyData.depth])
  | .int i,h=>by
    simp only [t_,decide_eq_true_eq] at h
    exact jF (.inr (Sz.int10 (n:=39) (m:=128) (show Bt 128 i from h) (by decide) (by decide) (Nat.lt_of_lt_of_le h (by decide)) (by decide))) (by decide) rfl rfl (by simp [PyData.depth])
  | .str x,h=>by
    simp only [t_,Bool.and_eq_true,decide_eq_true_eq] at h
    exact jF (.inr (Sz.str (n:=10) h.1 h.2)) (by decide) rfl (by simpa [PyData.canLay0] using h.1) (by simp [PyData.depth])
  | .dict _,h=>by simp [t_] at h
  | .list xs,h=>by
    simp only [t_,Bool.and_eq_true,decide_eq_true_eq] at h
    obtain⟨a1,a2,a3,a4,a5⟩:=lD h.2
    have:=rQ (PyData.shownAll xs)
    refine⟨by simpa [PyData.canLay0] using a1,a2,by simp only [PyData.depth];lia,by simp only [PyData.shown,wt];lia,by simp only [PyData.shown];exact qp a5⟩
  | .tuple xs,h=>by
    simp only [t_,Bool.and_eq_true,decide_eq_true_eq] at h
    obtain⟨a1,a2,a3,a4,a5⟩:=lD h.2
    have:=gC (PyData.shownAll xs)
    refine⟨by simpa [PyData.canLay0] using a1,a2,by simp only [PyData.depth];lia,by simp only [PyData.shown,wt];lia,by simp only [PyData.shown];exact i_ a5⟩
theorem lD{k:Nat}:∀{ds:List PyData},lg k ds=true→PyData.canLayAll0 ds=true∧PyData.showableAll ds=true∧PyData.depthAll ds≤k∧piled (PyData.shownAll ds)≤104*lz ds∧∀t∈PyData.shownAll ds,PyData.strOk t=true
  | [],_=>⟨rfl,rfl,by simp [PyData.depthAll],by simp [PyData.shownAll,piled],by simp [PyData.shownAll]⟩
  | d::r,h=>by
    simp only [lg,Bool.and_eq_true] at h
    obtain⟨a1,a2,a3,a4,a5⟩:=nO h.1
    obtain⟨b1,b2,b3,b4,b5⟩:=lD h.2
    refine⟨by simp only [PyData.canLayAll0,a1,b1,Bool.and_self],by simp only [PyData.showableAll,a2,b2,Bool.and_self],by simp only [PyData.depthAll];lia,by simp only [PyData.shownAll,dI,lz];lia,fun t ht=>?_⟩
    simp only [PyData.shownAll,List.mem_cons] at ht
    rcases ht with rfl | ht
    · exact a5
    · exact b5 t ht
end
theorem rf{e:En}{s:Str}(h:PyData.strOk s=true):dD true e (.d (.str s)) (.d (.str s))=some (.d (.bool false)):=by
  unfold dD
  simp only [gK,Option.bind_some]
  have h0:SeqAt.shaped (.str s)=true:=by simp [SeqAt.shaped,PyData.canLay0,PyData.depth,h]
  rw [h0]
  simp [PyData.eqv]
end L2
namespace L2
open PySem PySem.Spec PyProof.Rows
section
variable{X:Cx}{K:PySem.W.Frag}
variable{a b:Expr}{fa fb:FE}{pos:Pos}
end
end L2
namespace L2
open PySem PySem.Spec PyProof.Rows
def tx(s:Str):List Nat:=s.cps.toList
end L2
namespace L2
open PySem PySem.Spec PyProof.Rows
end L2
namespace L2
open PySem PySem.Spec PyProof.Rows
end L2
namespace L2
open PySem PySem.Spec PyProof.Rows
section
variable{X:Cx}{K:PySem.W.Frag}{es:List Expr}{k0:Nat}{tp:Pos}{a b:Expr}{fs:FA}{p pos:Pos}
end
end L2
namespace L2
open PySem PySem.Spec PyProof.Rows
def Bq(x:Nd)(b:Bool):Int:=if b=true then x.yes else x.no
def wj(T:List Nd)(i:Nat)(b:Bool):Int:=match T[i]? with
  | some x=>Bq x b
  | none=> -1
def Ai(T:List Nd):Prop:=∀(i j:Nat) (a b:Bool),wj T i a=wj T j b→wj T i a≠ -1→i=j∧a=b
def AO(w:Wt):Int × Int:=(w.par,w.side)
structure Bw (T:List Nd) (ws:List Wt):Prop where
  unq:Ai T
  rng:∀i a,wj T i a= -1∨(0 < wj T i a∧wj T i a < (T.length:Int))
  free:∀w∈ws,w.par= -1∨(0≤w.par∧w.par < (T.length:Int)∧wj T w.par.toNat (w.side==0)= -1)
  dst:(ws.map AO).Nodup
  side:∀w∈ws,w.side=0∨w.side=1
structure By (T:List Nd) (w0 ws order:List Int):Prop where
  nd:(order++ws).Nodup
  par:∀v∈order++ws,v=0∨∃u∈order,∃b,wj T u.toNat b=v∧v≠ -1
  fst:(order=[]∧ws=w0)∨order[0]?=some 0
end L2
namespace L2
open PySem PySem.Spec PyProof.Rows
section
variable{prog:Program}{w:World}{A:Around}{E:Value→Shared→Prop}{s:Shared}
end
section
variable{X:Cx}{tg a:Expr}{ta:TA}{p pos:Pos}
end
section
variable{X:Cx}{K:PySem.W.Frag}{σ:L2.St}{tg a:Expr}{fs:FA}{p pos:Pos}
end
end L2
namespace L2
open PySem PySem.Spec PyProof.Rows
section
variable{X:Cx}{a k:Expr}{p2 pos:Pos}{fa fk:FE}{K:PySem.W.Frag}
section
variable{prog:Program}{w:World}{A:Around}{E:Value→Shared→Prop}{s:Shared}
end
end
end L2
namespace L2
open PySem PySem.Spec PyProof.Rows
section
variable{X:Cx}{a b:Expr}{ta:TA}{p p2 pos pos2:Pos}{K:PySem.W.Frag}{fs:FA}
end
section
variable{X:Cx}{o i e:Expr}{fo fi:FE}{tpos pos:Pos}{K:PySem.W.Frag}
end
end L2
namespace L2
open PySem PySem.Spec PyProof.Rows
section
variable{X:Cx}{K:PySem.W.Frag}
end
end L2
namespace L2
open PySem PySem.Spec PyProof.Rows
section
open PySem.MeetsSeq2 PySem.AutoSeq1 PySem.SeqAt
end
section
variable{X:Cx}{K:PySem.W.Frag}{o a:Expr}{to te:TE}{name:Str}{apos cpos:Pos}{T id:String}{r:V→List V→Hp→VK→Prop}{fo fa:FE}
end
end L2
namespace L2
open PySem PySem.Spec PyProof.Rows
section
variable{X:Cx}{K:PySem.W.Frag}{o a:Expr}{apos cpos:Pos}{fo fa:FE}
end
end L2
namespace L2
open PySem PySem.Spec PyProof.Rows
section
variable{K:PySem.W.Frag}{F H:Hp}{σ:L2.St}{e:En}{cp:List (Nat × Str)}{nT:Nat}
end
section
variable{X:Cx}{K:PySem.W.Frag}{a b:Expr}{es:List Expr}{fa fb:FE}{fs:FA}{pos p p2 p3:Pos}{lo hi:Option Expr}
end
end L2
namespace L2
open PySem PySem.Spec PyProof.Rows
section
variable{X:Cx}{K:PySem.W.Frag}
end
end L2
namespace L2
open PySem PySem.Spec PyProof.Rows
section
variable{X:Cx}{K:PySem.W.Frag}{a b:Expr}{fa fb:FE}{pos:Pos}
end
end L2
namespace L2
open PySem PySem.Spec PyProof.Rows
section
variable{X:Cx}{K:PySem.W.Frag}
theorem jg{prog:Program}{w:World}{A:Around}{E:Value→Shared→Prop}{s:Shared}{t:Addr}{vs:List Value}{Q:List Value→Shared→Prop}(ht:s.heap.IsList t vs.toArray)
    (h:Q vs {s with heap:=(s.heap.push (seqObj "list" #[] 0)).update s.heap.objs.size (Obj.mapSeq (· ++vs.toArray))})(hsz:vs.length≤sizeLine):wpAny (model prog w) A (collect (.ref t)) Q E s:=by
  obtain⟨o,ho,hc,n,hd⟩:=id ht;unfold collect;refine wpAny_bind (wpAny_runValue (codeAny_builtin entry_proto_collect' ?_))
  show wpAny _ _ (do again (.builtin "list.__iadd__" ⟨[←newList [],.ref t],[]⟩)) _ _ s
  refine wpAny_bind (wpAny_newList (wpAny_pure ⟨Code.quiet_builtin _ (by decide+kernel),?_⟩));refine codeAny_builtin entry_list_iadd' ?_
  show wpAny _ _ (Builtin.List.listExtendWith (.ref s.heap.objs.size) (.ref t) (.ref s.heap.objs.size)) _ _ {s with heap:=s.heap.push (seqObj "list" #[] 0)}
  unfold Builtin.List.listExtendWith;have ho':(s.heap.push (seqObj "list" #[] 0)).get? t=some o:=Heap.get?_push_of_some _ ho
  refine wpAny_bind (wpAny_typeOf (T:="list") ⟨o,ho',hc⟩ ?_)
  rw [if_pos (by rw [show(Value.type "list"==Value.type "list")=true from rfl,Bool.or_true,Bool.true_or])]
  refine wpAny_bind (listItems_at ho' hd ?_);refine wpAny_bind (listItems_at (xs:=#[]) (n:=0) (Heap.get?_push_size _ rfl) rfl ?_)
  rw [if_neg (by simp)];refine wpAny_bind (listUpdate_at (xs:=#[]) (n:=0) (Heap.get?_push_size _ rfl) rfl ?_ (Nat.zero_le _) (by show(#[]++vs.toArray).size≤sizeLine+1;simp only [Array.size_append,List.size_toArray,List.length_nil];lia))
  refine wpAny_pure ?_
  show wpAny (model prog w) A (load s.heap.objs.size >>= fun o=>match o.data with | .seq xs _=>pure xs.toList | _=>unsupported "internal:collect") Q E {s with heap:=(s.heap.push (seqObj "list" #[] 0)).update s.heap.objs.size (Obj.mapSeq (· ++vs.toArray))}
  refine wpAny_bind (wpAny_load (get?_update_seq (Heap.get?_push_size _ rfl) _) ?_);show wpAny _ _ (pure ((#[]:Array Value)++vs.toArray).toList) Q E _;rw [show((#[]:Array Value)++vs.toArray).toList=vs by simp];exact wpAny_pure h
theorem oG{prog:Program}{w:World}{A:Around}{E:Value→Shared→Prop}{s:Shared}{t:Addr}{vs:List Value}{ns:List Int}{Q:Value→Shared→Prop}(ht:s.heap.IsList t vs.toArray)(hI:IntsAre vs ns)(h64:vs.length < 64)
    (h:∀(out:Array Value) (ns':List Int),IntsAre out.toList ns'→ns'.Perm ns→ns'.Pairwise (· ≤·)→Q (.ref (s.heap.objs.size+1)) {s with heap:=sortedAll s.heap vs out}):wpAny (model prog w) A (call (.builtin "sorted") [.ref t]) Q E s:=by
  refine Calls.call_function_entry kind_sorted plain_sorted entry_sorted (args_sorted1 _) ?_;unfold Builtin.«sorted»
  refine wpAny_bind (m:=checkCount "sorted" 1 1 _) (wpAny_pure ?_);refine wpAny_bind (jg ht ?_ (Nat.le_trans (Nat.le_of_lt h64) (by decide)))
  have z:((s.heap.push (seqObj "list" #[] 0)).update s.heap.objs.size (Obj.mapSeq (· ++vs.toArray))).objs.size=s.heap.objs.size+1:=by rw [Heap.size_update,size_push']
  have o:(((s.heap.push (seqObj "list" #[] 0)).update s.heap.objs.size (Obj.mapSeq (· ++vs.toArray))).push (seqObj "list" vs.toArray 0)).get? (s.heap.objs.size+1)=some (seqObj "list" vs.toArray 0):=by rw [←z];exact Heap.get?_push_size _ rfl
  refine wpAny_bind (wpAny_newList ?_);show wpAny _ _ _ _ _ {s with heap:=((s.heap.push (seqObj "list" #[] 0)).update s.heap.objs.size (Obj.mapSeq (· ++vs.toArray))).push (seqObj "list" vs.toArray 0)}
  rw [z];refine wpAny_bind (wpAny_holding (wpAny_call_entry slot_list_sort ⟨_,o,rfl⟩ entry_list_sort (list_sort_tree o hI h64 fun out ns' b1 b2 b3=>⟨_,rfl,?_⟩) (args_list_sort _)))
  exact wpAny_pure ⟨_,rfl,h out ns' b1 b2 b3⟩
theorem lK:cB X (.builtin "sorted") (fun xs H Q=>∃(a:Addr) (ns:List Int),xs=[.ref a]∧fx X.K H a (ns.map V.int)∧ns.length < 64∧∀(l:Addr) (ns':List Int) (H':Hp),am H H'→H l=none→H' l=some (.lst (ns'.map V.int))→ns'.Perm ns→ns'.Pairwise (· ≤·)→Q (.ref l) H'):=by
  intro pins s σ H xs us Q I r h
  obtain⟨a,ns,rfl,hs,h64,q⟩:=h
  obtain⟨u,rfl,ru⟩:=i3 r
  cases ru
  obtain⟨its,rv,p,hz⟩:=I.list hs
  have hl:=rv.length
  rw [List.length_map] at hl
  refine oG p.isList (gT rv) (by lia) fun out ns' a1 a2 a3=>?_
  obtain⟨e,he⟩:=sortedAll_at s.heap its out
  have hf:H (s.heap.objs.size+1)=none:=I.hok.fresh (Nat.le_succ _)
  refine⟨.ref (s.heap.objs.size+1),a_ H (s.heap.objs.size+1) (.lst (ns'.map V.int)),I.laid (t':=s.toks) (fun _ _=>sortedAll_old) (Nat.le_succ _) ⟨?_,out.toList,e,gD a1,?_⟩,rfl,q _ ns' _ (am.new hf) hf au a2 a3⟩
  · rw [List.length_map,a2.length_eq]
    exact Nat.le_trans (Nat.le_of_lt h64) (by decide)
  · simpa [seqObj] using he
def eV:En→Rv→Option Rv:=fun e x=>(dg e x).bind fun z=>(jk z.2).bind fun ns=>if ns.length < 64 then some (.l ((eu ns).map .int)) else none
def md(K:PySem.W.Frag):List V→Hp→VK→Prop:=fun xs H Q=>∃(a:Addr) (ns:List Int),xs=[.ref a]∧(fx K H a (ns.map V.int)∨cH K H a (ns.map V.int))∧ns.length < 64∧∀(l:Addr) (H':Hp),am H H'→H l=none→H' l=some (.lst ((eu ns).map V.int))→Q (.ref l) H'
theorem nS:cB X (.builtin "sorted") (md X.K):=by
  intro pins s σ H xs us Q I rv h
  obtain⟨a,ns,e1,e2,e3,q⟩:=h
  rcases e2 with e2 | e2
  · exact lK pins s σ H xs us Q I rv ⟨a,ns,e1,e2,e3,fun l ns' H' sm hn hl hp hs=>q l H' sm hn (by rw [←kr hp hs];exact hl)⟩
  · exact jf pins s σ H xs us Q I rv ⟨a,ns,e1,e2,e3,fun l ns' H' sm hn hl hp hs=>q l H' sm hn (by rw [←kr hp hs];exact hl)⟩
theorem vG:cJ K (md K) (g1 eV):=dX fun σ H0 F H e x z v Q R A hg q=>by
  unfold eV at hg
  obtain⟨⟨b,ds⟩,h1,hg⟩:=Option.bind_eq_some_iff.mp hg
  obtain⟨ns,h6,hg⟩:=Option.bind_eq_some_iff.mp hg
  split at hg
  case isFalse=>cases hg
  case isTrue hl=>
  cases hg
  obtain⟨p,vs,rfl,d1,s1⟩:=cZ R A h1
  have e1:ds=ns.map .int:=ip h6
  subst e1
  have e2:=ax.ints.mp d1
  subst e2
  refine⟨p,ns,rfl,?_,hl,fun l H' sm hn hl'=>?_⟩
  · cases b with
    | true=>exact .inl s1
    | false=>exact .inr s1
  obtain⟨R4,X4⟩:=R.same sm
  exact q F H' _ X4 R4 ⟨l,_,rfl,hn,R.freeF hn,hl',ax.ints.mpr rfl,fun z=>R.ownH l ((R.sameOwn sm l).mp z) hn⟩
theorem rq{e:En}{i:Nat}{ns:List Int}(hi:e[i]?=some (some (.l (ns.map .int))))(h:ns.length < 64):g1 eV e [.s i]=some (.l ((eu ns).map .int)):=by
  simp [g1,eV,dg,hi,iY,h]
end
end L2
namespace L2
open PySem PySem.Spec PyProof.Rows
mutual
theorem jL:∀(d:PyData),d_ d=true→dH d=true
  | .none,_=>rfl
  | .bool _,_=>rfl
  | .int _,_=>rfl
  | .str _,_=>rfl
  | .tuple ds,h=>by simp only [dH];exact jj ds (by simpa [d_] using h)
  | .list ds,h=>by simp [d_] at h
  | .dict _,h=>by simp [d_] at h
theorem jj:∀(ds:List PyData),d9 ds=true→de ds=true
  | [],_=>rfl
  | d::r,h=>by
    simp only [d9,Bool.and_eq_true] at h
    simp only [de,jL d h.1,jj r h.2,Bool.and_self]
end
structure Sw (b:Bool) (n dep:Nat) (d:PyData):Prop where
  dl:bif b then dH d=true else d.hasDict=false
  sh:d.showable=true
  dp:d.depth≤dep
  ln:d.shown.length+2≤n
  so:PyData.strOk d.shown=true
theorem Sw.mono{b:Bool}{n m dep e:Nat}{d:PyData}(h:Sw b n dep d)(h1:n≤m)(h2:dep≤e):Sw b m e d:=⟨h.dl,h.sh,Nat.le_trans h.dp h2,Nat.le_trans h.ln h1,h.so⟩
theorem zX.swF{k:Nat}{d:PyData}(h:zX d k)(f:d_ d=true)(b:Bool):Sw b (104*wt d) k d:=⟨by cases b;exact fF d f;exact jL d f,h.sh,h.dp,h.ln,h.so⟩
theorem Sw.all{b:Bool}{n dep:Nat}:∀{ds:List PyData},(∀d∈ds,Sw b n dep d)→(bif b then de ds=true else PyData.hasDictAll ds=false)∧PyData.showableAll ds=true∧PyData.depthAll ds≤dep∧piled (PyData.shownAll ds)≤ds.length*n∧∀t∈PyData.shownAll ds,PyData.strOk t=true
  | [],_=>⟨by cases b<;>rfl,rfl,by simp [PyData.depthAll],by simp [PyData.shownAll,piled],by simp [PyData.shownAll]⟩
  | d::r,h=>by
    obtain⟨a1,a2,a3,a4,a5⟩:=h d (by simp)
    obtain⟨b1,b2,b3,b4,b5⟩:=Sw.all (ds:=r) fun x hx=>h x (by simp [hx])
    refine⟨?_,?_,?_,?_,?_⟩
    · cases b
      · simp only [cond_false] at a1 b1 ⊢;simp only [PyData.hasDictAll,a1,b1,Bool.or_self]
      · simp only [cond_true] at a1 b1 ⊢;simp only [de,a1,b1,Bool.and_self]
    · simp only [PyData.showableAll,a2,b2,Bool.and_self]
    · simp only [PyData.depthAll];lia
    · simp only [PyData.shownAll,dI,List.length_cons,Nat.succ_mul];lia
    · intro t ht
      simp only [PyData.shownAll,List.mem_cons] at ht
      rcases ht with rfl | ht
      · exact a5
      · exact b5 t ht
theorem Sw.tup{b:Bool}{n dep m:Nat}{ds:List PyData}(h:∀d∈ds,Sw b n dep d)(hl:ds.length≤m):Sw b (m*n+5) (dep+1) (.tuple ds):=by
  obtain⟨b1,b2,b3,b4,b5⟩:=Sw.all h
  refine⟨by cases b<;>simpa [dH,PyData.hasDict] using b1,b2,by simp only [PyData.depth];lia,?_,by simp only [PyData.shown];exact i_ b5⟩
  have h2:=gC (PyData.shownAll ds)
  have:=Nat.mul_le_mul_right n hl
  simp only [PyData.shown]
  lia
theorem Sw.ok{b:Bool}{n dep:Nat}{d:PyData}(h:Sw b n dep d)(h1:n≤16777216)(h2:dep≤60):e8 d=true:=by
  have sl:sizeLine=16777216:=sizeLine_eq
  have hd:(!d.hasDict || dH d)=true:=by
    have:=h.dl
    cases b
    · simp only [cond_false] at this;simp [this]
    · simp only [cond_true] at this;simp [this]
  have:=h.ln
  unfold e8
  rw [hd,h.sh,decide_eq_true (Nat.le_trans h.dp h2),decide_eq_true (show d.shown.length≤sizeLine by rw [sl];lia)]
  simp
theorem Sw.repr{b:Bool}{n dep:Nat}{d:PyData}(h:Sw b n dep d)(h1:n≤16777216)(h2:dep≤60)(e:En):g1 fH e [.d d]=some (.d (.str d.shown)):=pv (h.ok h1 h2)
theorem Sw.int{b:Bool}{i:Int}(h:i.natAbs < 2 ^ 128):Sw b 200 0 (.int i):=((nO (k:=0) (d:=.int i) (by simp only [t_,decide_eq_true_eq];exact h)).swF rfl b).mono (by simp [wt]) (by decide)
theorem Sw.ints{b:Bool}{ns:List Int}{m:Nat}(h:∀r∈ns,r.natAbs < 2 ^ 128)(hl:ns.length≤m):Sw b (m*200+5) 1 (.tuple (ns.map .int)):=Sw.tup (n:=200) (dep:=0) (fun d hd=>by
  obtain⟨x,hx,rfl⟩:=List.mem_map.mp hd
  exact Sw.int (h x hx)) (by rw [List.length_map];exact hl)
end L2
namespace L2
open PySem PySem.Spec PyProof.Rows
def dh:List Fr→Int
  | []=>1
  | f::r=>f.2*dh r
theorem l_:∀{ws:List Fr},(∀f∈ws,0 < f.2)→0 < dh ws
  | [],_=>by decide
  | f::r,h=>Int.mul_pos (h f (by simp)) (l_ fun g hg=>h g (by simp [hg]))
theorem l9:∀{ws:List Fr} {f:Fr},f∈ws→f.2 ∣ dh ws
  | [],f,h=>by cases h
  | g::r,f,h=>by
    rcases List.mem_cons.mp h with rfl | h
    · exact⟨dh r,rfl⟩
    · exact Int.dvd_trans (l9 h) ⟨g.2,by rw [dh,Int.mul_comm]⟩
theorem sD{n:Nat}:∀{ws:List Fr},(∀f∈ws,Bt n f.2)→Bt (n*ws.length+1) (dh ws)
  | [],_=>by show Bt 1 1;unfold Bt;decide
  | f::r,h=>by
    have:=(h f (by simp)).mul (sD (ws:=r) fun g hg=>h g (by simp [hg]))
    rw [dh]
    exact this.mono (by rw [List.length_cons,Nat.mul_succ];lia)
structure S1 (n:Nat) (f:Fr):Prop where
  low:zZ f
  lo:0≤f.1
  hi:f.1≤f.2
  bt:Bt n f.2
theorem S1.top{n:Nat}{f:Fr}(h:S1 n f):Bt n f.1:=h.bt.of_le (by have:=h.lo;have:=h.hi;lia)
def wa(t:iI):Fr:=(t.top,t.bot)
theorem wO{W:bE}(ok:W.Ok){t:iI}(ht:t∈W.ties):S1 7 (wa t):=by
  have o:=ok.ties t ht
  exact⟨⟨by have:=o.b0;show 0 < t.bot;lia,o.cop⟩,o.c0,o.c1,by have:=o.b1;have:=o.b0;show Bt 7 t.bot;unfold Bt;lia⟩
def Bp(e:Int)(t:iI):Bool:=t.one==e || t.other==e
structure Bz (b f g:Fr):Prop where
  pf:0 < f.2
  pg:0 < g.2
  eq:g.1*(f.2*b.1)=g.2*(f.1*b.2)
end L2
namespace L2
open PySem PySem.Spec PyProof.Rows
end L2
namespace L2
open PySem PySem.Spec PyProof.Rows
end L2
namespace L2
open PySem PySem.Spec PyProof.Rows
structure Bx (O:bE) (ss ws:List Std):Prop where
  len:ss.length=ws.length
  at':∀j,(ss.getD j ([],[])).1=(ws.getD j ([],[])).1∧(ss.getD j ([],[])).2.length≤2*(ss.getD j ([],[])).1.length∧∀k∈(ss.getD j ([],[])).1,nJ O k
structure Bv (O:bE) (T:List Nd):Prop where
  tie:∀(i:Nat) (x:Nd),T[i]?=some x→nJ O x.tie
  lk:∀(i:Nat) (x:Nd),T[i]?=some x→(-1≤x.yes∧x.yes < (T.length:Int))∧(-1≤x.no∧x.no < (T.length:Int))
end L2
namespace L2
open PySem PySem.Spec PyProof.Rows
section
variable{K:PySem.W.Frag}
variable{X:Cx}{σ:L2.St}{H0 H:Hp}{e:En}
end
end L2
namespace L2
open PySem PySem.Spec PyProof.Rows
section
variable{X:Cx}{a b:Expr}{ta:TA}{p p2 pos pos2:Pos}
end
end L2
namespace L2
open PySem PySem.Spec PyProof.Rows
section
variable{X:Cx}{K:PySem.W.Frag}{fs:FA}{a b:Expr}{p p2 pos pos2:Pos}
end
end L2
namespace L2
open PySem PySem.Spec PyProof.Rows
end L2
namespace L2
open PySem PySem.Spec PyProof.Rows PySem.W
def nZ(lt:Nat→Nat→Bool)(n:Nat){α:Type}:KasT α→(α→Prop)→Prop
  | .ret a,Q=>Q a
  | .ask i j k,Q=>i < n∧j < n∧nZ lt n (k (lt i j)) Q
theorem eH{lt:Nat→Nat→Bool}{n:Nat}{α β:Type}{f:α→KasT β}{Q:β→Prop}:∀(t:KasT α),nZ lt n t (fun a=>nZ lt n (f a) Q)→nZ lt n (t.bind f) Q
  | .ret _,h=>h
  | .ask i j k,h=>⟨h.1,h.2.1,eH (k (lt i j)) h.2.2⟩
theorem bX{lt:Nat→Nat→Bool}{n:Nat}{α:Type}{Q Q':α→Prop}(hq:∀a,Q a→Q' a):∀(t:KasT α),nZ lt n t Q→nZ lt n t Q'
  | .ret a,h=>hq a h
  | .ask i j k,h=>⟨h.1,h.2.1,bX hq (k (lt i j)) h.2.2⟩
theorem qO{lt:Nat→Nat→Bool}{n:Nat}{α:Type}{Q:α→Prop}{cmp:Nat→Nat→(Bool→Shared→Prop)→Shared→Prop}{s:Shared}(hc:∀i j C,i < n→j < n→C (lt i j) s→cmp i j C s):∀(t:KasT α),nZ lt n t Q→t.kasWp cmp (fun a s'=>s'=s∧Q a) s
  | .ret _,h=>⟨rfl,h⟩
  | .ask i j k,h=>hc i j _ h.1 h.2.1 (qO hc (k (lt i j)) h.2.2)
structure ue (lt:Nat→Nat→Bool):Prop where
  irr:∀i,lt i i=false
  tr:∀{i j k},lt i j=false→lt j k=false→lt i k=false
  asy:∀{i j},lt i j=true→lt j i=false
abbrev gA(p:Array Nat)(i:Nat):Nat:=p.getD i 0
structure kG (n:Nat) (p:Array Nat):Prop where
  sz:p.size=n
  pm:p.Perm (List.toArray (List.range n))
theorem kG.lt{n:Nat}{p:Array Nat}(h:kG n p){i:Nat}(hi:i < n):gA p i < n:=by
  have hi':i < p.size:=by rw [h.sz];exact hi
  have e:gA p i=p[i]:=by simp [gA,Array.getD,hi']
  rw [e]
  have:=(h.pm.mem_iff (a:=p[i])).mp (Array.getElem_mem hi')
  simpa using this
def SA(lt:Nat→Nat→Bool)(p:Array Nat)(m:Nat):Prop:=∀i j,i < j→j < m→lt (gA p j) (gA p i)=false
def mn(lt:Nat→Nat→Bool)(p:Array Nat)(m:Nat):Prop:=∀i j,i < j→j < m→lt (gA p i) (gA p j)=false
def EA(lt:Nat→Nat→Bool)(p:Array Nat)(a b:Nat):Prop:=∀i j,a≤i→i < b→a≤j→j < b→lt (gA p i) (gA p j)=false
theorem mD{p q:Array Nat}{i j:Nat}(h:p[i]?=q[j]?):gA p i=gA q j:=by
  unfold gA
  rw [Array.getD_eq_getD_getElem?,Array.getD_eq_getD_getElem?,h]
theorem lP{p:Array Nat}{a b k:Nat}(hb:b≤p.size):gA (kas_rev p a b) k=if a≤k∧k < b then gA p (a+b - 1 - k) else gA p k:=by
  have h:=getElem?_mirror_all (xs:=p) (i:=a) hb k
  split
  · rename_i c;rw [if_pos c] at h;exact mD h
  · rename_i c;rw [if_neg c] at h;exact mD h
theorem kG.rev{n:Nat}{p:Array Nat}(h:kG n p)(a b:Nat):kG n (kas_rev p a b):=⟨by rw [kas_rev_size];exact h.sz,(mirror_perm _ _ _ _).trans h.pm⟩
section
variable{lt:Nat→Nat→Bool}{n:Nat}(O:ue lt)
include O
theorem SA.snoc{p:Array Nat}{m:Nat}(h:SA lt p m)(h1:1≤m)(hl:lt (gA p m) (gA p (m - 1))=false):SA lt p (m+1):=fun i j hij hj=>by
  by_cases e:j=m
  · subst e
    by_cases e2:i=j - 1
    · rw [e2];exact hl
    · exact O.tr hl (h i (j - 1) (by lia) (by lia))
  · exact h i j hij (by lia)
theorem mn.snoc{p:Array Nat}{m:Nat}(h:mn lt p m)(h1:1≤m)(hl:lt (gA p (m - 1)) (gA p m)=false):mn lt p (m+1):=fun i j hij hj=>by
  by_cases e:j=m
  · subst e
    by_cases e2:i=j - 1
    · rw [e2];exact hl
    · exact O.tr (h i (j - 1) (by lia) (by lia)) hl
  · exact h i j hij (by lia)
theorem n5{p:Array Nat}(hp:kG n p){N:Nat}(hN:N≤n):∀(f m:Nat),1≤m→m+f=N→SA lt p m→nZ lt n (kas_asc p f m) fun r=>m≤r∧r≤N∧SA lt p r∧(r < N→lt (gA p r) (gA p (r - 1))=true)
  | 0,m,h1,hm,hs=>⟨Nat.le_refl _,by lia,hs,fun h=>by lia⟩
  | f+1,m,h1,hm,hs=>by
    refine⟨hp.lt (by lia),hp.lt (by lia),?_⟩
    dsimp only
    by_cases c:lt (gA p m) (gA p (m - 1))=true
    · rw [if_pos c]
      exact⟨Nat.le_refl _,by lia,hs,fun _=>c⟩
    · rw [if_neg c]
      have c':lt (gA p m) (gA p (m - 1))=false:=by simpa using c
      exact bX (fun r ⟨a,b⟩=>⟨by lia,b⟩) _ (n5 hp hN f (m+1) (by lia) (by lia) (SA.snoc O hs h1 c'))
theorem mn.rev{p:Array Nat}{a b m:Nat}(h:mn lt p m)(he:EA lt p a b)(hb:b≤m)(hm:m≤p.size):mn lt (kas_rev p a b) m:=fun i j hij hj=>by
  rw [lP (by lia),lP (by lia)]
  by_cases ci:a≤i∧i < b
  · rw [if_pos ci]
    by_cases cj:a≤j∧j < b
    · rw [if_pos cj];exact he _ _ (by lia) (by lia) (by lia) (by lia)
    · rw [if_neg cj];exact h _ _ (by lia) hj
  · rw [if_neg ci]
    by_cases cj:a≤j∧j < b
    · rw [if_pos cj];exact h _ _ (by lia) (by lia)
    · rw [if_neg cj];exact h _ _ hij hj
theorem jw{N:Nat}(hN:N≤n):∀(f:Nat) (p:Array Nat) (m q:Nat),kG n p→q+1≤m→m+f=N→mn lt p m→EA lt p (m - (q+1)) m→
    nZ lt n (kas_desc f p m q) fun r=>kG n r.1∧m≤r.2.1∧r.2.1≤N∧mn lt r.1 r.2.1∧r.2.2+1≤r.2.1∧EA lt r.1 (r.2.1 - (r.2.2+1)) r.2.1
  | 0,p,m,q,hp,hq,hm,hd,he=>⟨hp,Nat.le_refl _,by show m≤N;lia,hd,hq,he⟩
  | f+1,p,m,q,hp,hq,hm,hd,he=>by
    have sz:=hp.sz
    refine⟨hp.lt (by lia),hp.lt (by lia),?_⟩
    dsimp only
    by_cases c:lt (gA p m) (gA p (m - 1))=true
    · rw [if_pos c]
      have d2:=mn.snoc O hd (by lia) (O.asy c)
      have e1:∀p':Array Nat,EA lt p' (m+1 - (0+1)) (m+1):=fun p' i j a b c d=>by
        obtain rfl:i=j:=by lia
        exact O.irr _
      split
      · exact bX (fun r ⟨a,b,c⟩=>⟨a,by lia,c⟩) _ (jw hN f _ (m+1) 0 (hp.rev _ _) (by lia) (by lia) (mn.rev O d2 he (by lia) (by lia)) (e1 _))
      · exact bX (fun r ⟨a,b,c⟩=>⟨a,by lia,c⟩) _ (jw hN f _ (m+1) 0 hp (by lia) (by lia) d2 (e1 _))
    · rw [if_neg c]
      have c':lt (gA p m) (gA p (m - 1))=false:=by simpa using c
      refine⟨hp.lt (by lia),hp.lt (by lia),?_⟩
      dsimp only
      by_cases d:lt (gA p (m - 1)) (gA p m)=true
      · rw [if_pos d];exact⟨hp,Nat.le_refl _,by show m≤N;lia,hd,hq,he⟩
      · rw [if_neg d]
        have d':lt (gA p (m - 1)) (gA p m)=false:=by simpa using d
        refine bX (fun r ⟨a,b,c⟩=>⟨a,by lia,c⟩) _ (jw hN f _ (m+1) (q+1) hp (by lia) (by lia) (mn.snoc O hd (by lia) d') fun i j a b c e=>?_)
        by_cases i1:i=m
        · subst i1
          by_cases j1:j=i
          · subst j1;exact O.irr _
          · exact O.tr c' (he _ _ (by lia) (by lia) (by lia) (by lia))
        · by_cases j1:j=m
          · subst j1;exact O.tr (he i (j - 1) (by lia) (by lia) (by lia) (by lia)) d'
          · exact he _ _ (by lia) (by lia) (by lia) (by lia)
abbrev Aa(lt:Nat→Nat→Bool)(n N:Nat)(r:Nat × Array Nat):Prop:=kG n r.2∧1≤r.1∧r.1≤N∧SA lt r.2 r.1
theorem mC{N m:Nat}(hN:N≤n){p:Array Nat}(hp:kG n p)(h1:1≤m)(hm:m≤N)(hd:mn lt p m):nZ lt n (kas_tail3 m N p) (Aa lt n N):=by
  have sz:=hp.sz
  refine eH _ (bX (fun r ⟨a,b,c,_⟩=>⟨hp.rev _ _,by show 1≤r;lia,b,c⟩) _ (n5 O (hp.rev 0 m) hN (N - m) m h1 (by lia) fun i j hij hj=>?_))
  rw [lP (by lia),lP (by lia),if_pos (by lia),if_pos (by lia)]
  exact hd _ _ (by lia) (by lia)
theorem ji{N m:Nat}(hN:N≤n){p:Array Nat}(hp:kG n p)(hm:m+1≤N)(hd:mn lt p (m+1)):nZ lt n (kas_descPart m N p) (Aa lt n N):=by
  refine eH _ (bX (fun r ⟨a,b,c,d,e,f⟩=>?_) _ (jw O hN (N - (m+1)) p (m+1) 0 hp (by lia) (by lia) hd fun i j a b c d=>by
    obtain rfl:i=j:=by lia
    exact O.irr _))
  have:=a.sz
  split
  · exact mC O hN (a.rev _ _) (by lia) c (mn.rev O d f (Nat.le_refl _) (by lia))
  · exact mC O hN a (by lia) c d
theorem qT{p:Array Nat}(hp:kG n p)(h1:1≤n):nZ lt n (kas_count n p) (Aa lt n n):=by
  refine eH _ (bX (fun m ⟨a,b,c,d⟩=>?_) _ (n5 O hp (Nat.le_refl n) (n - 1) 1 (Nat.le_refl _) (by lia) fun i j hij hj=>by lia))
  by_cases e:m=n
  · subst e
    rw [if_pos (by simp)]
    exact⟨hp,a,Nat.le_refl _,c⟩
  · rw [if_neg (by simpa using e)]
    have dl:=O.asy (d (by lia))
    have sz:=hp.sz
    split
    · refine⟨hp.lt (by lia),hp.lt (by lia),?_⟩
      dsimp only
      by_cases q:lt (gA p 0) (gA p (m - 1))=true
      · rw [if_pos q];exact⟨hp,a,b,c⟩
      · rw [if_neg q]
        have q':lt (gA p 0) (gA p (m - 1))=false:=by simpa using q
        have ea:EA lt p 0 m:=fun i j _ hi _ hj=>by
          have x1:lt (gA p i) (gA p 0)=false:=by
            by_cases z:i=0
            · rw [z];exact O.irr _
            · exact c 0 i (by lia) hi
          have x2:lt (gA p (m - 1)) (gA p j)=false:=by
            by_cases z:j=m - 1
            · rw [z];exact O.irr _
            · exact c j (m - 1) (by lia) (by lia)
          exact O.tr x1 (O.tr q' x2)
        have da:mn lt p (m+1):=mn.snoc O (fun i j hij hj=>ea i j (by lia) (by lia) (by lia) hj) a dl
        exact ji O (Nat.le_refl n) (hp.rev 0 m) (by lia) (mn.rev O da ea (by lia) (by lia))
    · obtain rfl:m=1:=by lia
      exact ji O (Nat.le_refl n) hp (by lia) (mn.snoc O (fun i j hij hj=>by lia) a dl)
theorem jJ{p:Array Nat}(hp:kG n p){k:Nat}(hk:k < n)(hs:SA lt p k):∀(f l r:Nat),l≤r→r≤k→r - l≤f→(∀i,i < l→lt (gA p k) (gA p i)=false)→(∀i,r≤i→i < k→lt (gA p k) (gA p i)=true)→
    nZ lt n (kas_place p k f l r) fun x=>x≤k∧(∀i,i < x→lt (gA p k) (gA p i)=false)∧∀i,x≤i→i < k→lt (gA p k) (gA p i)=true
  | 0,l,r,h1,h2,h3,hl,hr=>⟨by lia,hl,fun i a b=>hr i (by lia) b⟩
  | f+1,l,r,h1,h2,h3,hl,hr=>by
    unfold kas_place
    split
    · exact⟨by lia,hl,fun i a b=>hr i (by lia) b⟩
    · refine⟨hp.lt hk,hp.lt (by lia),?_⟩
      dsimp only
      by_cases c:lt (gA p k) (gA p ((l+r) / 2))=true
      · rw [if_pos c]
        refine jJ hp hk hs f l ((l+r) / 2) (by lia) (by lia) (by lia) hl fun i a b=>?_
        by_cases z:i=(l+r) / 2
        · rw [z];exact c
        · cases q:lt (gA p k) (gA p i) with
          | true=>rfl
          | false=>
            have:=O.tr q (hs ((l+r) / 2) i (by lia) b)
            rw [c] at this;cases this
      · rw [if_neg c]
        have c':lt (gA p k) (gA p ((l+r) / 2))=false:=by simpa using c
        refine jJ hp hk hs f ((l+r) / 2+1) r (by lia) h2 (by lia) (fun i a=>?_) hr
        by_cases z:i=(l+r) / 2
        · rw [z];exact c'
        · exact O.tr c' (hs i ((l+r) / 2) (by lia) (by lia))
theorem q5{p:Array Nat}{k d i:Nat}(hk:k < p.size)(hd:d≤k):gA (bubble p k d) i=if i=k - d then gA p k else if k - d < i∧i≤k then gA p (i - 1) else gA p i:=by
  have h:=getElem?_bubble hk d hd i
  by_cases c:i=k - d
  · rw [if_pos c] at h ⊢;exact mD h
  · rw [if_neg c] at h ⊢
    by_cases c2:k - d < i∧i≤k
    · rw [if_pos c2] at h ⊢;exact mD h
    · rw [if_neg c2] at h ⊢;exact mD h
theorem qR:∀(f:Nat) (p:Array Nat) (k:Nat),kG n p→k+f=n→SA lt p k→nZ lt n (kas_bin f p k) fun p'=>kG n p'∧SA lt p' n
  | 0,p,k,hp,hk,hs=>by
    obtain rfl:k=n:=by lia
    exact⟨hp,hs⟩
  | f+1,p,k,hp,hk,hs=>by
    have sz:=hp.sz
    refine eH _ (bX (fun l ⟨a,L,R⟩=>?_) _ (jJ O hp (by lia) hs k 0 k (by lia) (Nat.le_refl _) (by lia) (fun i h=>by lia) (fun i h1 h2=>by lia)))
    refine qR f _ (k+1) ⟨by rw [bubble_size];exact sz,(bubble_perm _ _ _).trans hp.pm⟩ (by lia) fun i j hij hj=>?_
    rw [q5 O (by lia) (by lia),q5 O (by lia) (by lia)]
    have e:k - (k - l)=l:=by lia
    rw [e]
    by_cases j1:j=l
    · rw [if_pos j1,if_neg (by lia),if_neg (by lia)]
      exact L i (by lia)
    · rw [if_neg j1]
      by_cases j2:l < j∧j≤k
      · rw [if_pos j2]
        by_cases i1:i=l
        · rw [if_pos i1];exact O.asy (R (j - 1) (by lia) (by lia))
        · rw [if_neg i1]
          by_cases i2:l < i∧i≤k
          · rw [if_pos i2];exact hs _ _ (by lia) (by lia)
          · rw [if_neg i2];exact hs _ _ (by lia) (by lia)
      · rw [if_neg j2,if_neg (by lia),if_neg (by lia)]
        exact hs _ _ hij (by lia)
theorem uo(h1:1≤n):nZ lt n (kas_sort n) fun p=>kG n p∧SA lt p n:=by
  refine eH _ (bX (fun r ⟨a,b,c,d⟩=>?_) _ (qT O (p:=List.toArray (List.range n)) ⟨by simp,Array.Perm.refl _⟩ h1))
  split
  · refine qR O _ _ _ a (by lia) ?_
    rw [show max r.1 1=r.1 by lia]
    exact d
  · obtain e:r.1=n:=by lia
    rw [e] at d
    exact⟨a,d⟩
end
end L2
namespace L2
open PySem PySem.Spec PyProof.Rows PySem.W
section
variable{prog:Program}{w:World}{A:Around}{E:Value→Shared→Prop}{s:Shared}
theorem ox{a:Addr}{vs:List Value}{n:Nat}{P:PySem.Fin→Shared→Prop}(ho:s.heap.get? a=some (seqObj "list" vs.toArray n))(h64:vs.length < 64){κ:SortKind}{lt:Nat→Nat→Bool}(O:ue lt)
    (hk:2≤vs.length→∀h':Heap,(∀b o,b≠a→s.heap.get? b=some o→h'.get? b=some o)→∀Q:SortKind→Shared→Prop,Q κ {s with heap:=h'}→wpAny (model prog w) A (keyKind' vs.toArray) Q (fun _ _=>False) {s with heap:=h'})
    (hlt:∀h':Heap,(∀b o,b≠a→s.heap.get? b=some o→h'.get? b=some o)→∀i j (C:Bool→Shared→Prop),i < vs.length→j < vs.length→C (lt i j) {s with heap:=h'}→wpAny (model prog w) A (keyLt' κ (vs.getD i Value.none) (vs.getD j Value.none)) C (fun _ _=>False) {s with heap:=h'})
    (h:∀p:Array Nat,kG vs.length p→SA lt p vs.length→P (.done (.ret .none)) {s with heap:=sortedHeap s.heap a vs (List.toArray (p.toList.map fun i=>vs.getD i Value.none))}):
    wpAny (model prog w) A (Builtin.«list.sort» ⟨[.ref a],[]⟩) P E s:=by
  rw [list_sort_plain]
  have ha:a < s.heap.objs.size:=Heap.lt_size ho
  refine wpAny_bind (listItems_at ho rfl ?_)
  refine wpAny_bind (listUpdate_at ho rfl ?_ (by rw [List.size_toArray,sizeLine_eq];lia) (Nat.zero_le _))
  obtain⟨e1,ho1⟩:∃e1,(s.heap.update a (Obj.mapSeq fun _=>#[])).get? a=some (seqObj "list" #[] e1):=⟨_,get?_update_seq ho (fun _=>#[])⟩
  refine wpAny_bind (seqEpoch_at ho1 rfl ?_)
  refine wpAny_bind (wpAny_newTuple ?_ (by show vs.length≤_;rw [sizeLine_eq];lia))
  refine wpAny_bind (wpAny_newList ?_ (Nat.zero_le _))
  refine wpAny_holding ?_
  have ho6:(((s.heap.update a (Obj.mapSeq fun _=>#[])).push (seqObj "tuple" vs.toArray 0)).push (seqObj "list" #[] 0)).get? a=some (seqObj "list" #[] e1):=by
    rw [Heap.get?_push_ne _ _ _ (by rw [size_push',Heap.size_update];exact Nat.ne_of_lt (Nat.lt_succ_of_lt ha)),Heap.get?_push_ne _ _ _ (by rw [Heap.size_update];exact Nat.ne_of_lt ha)]
    exact ho1
  have kp:∀b o,b≠a→s.heap.get? b=some o→(((s.heap.update a (Obj.mapSeq fun _=>#[])).push (seqObj "tuple" vs.toArray 0)).push (seqObj "list" #[] 0)).get? b=some o:=fun b o ne e=>
    Heap.get?_push_of_some _ (Heap.get?_push_of_some _ (by rw [Heap.get?_update_ne _ _ _ _ ne];exact e))
  show wpAny (model prog w) A _ P E {s with heap:=((s.heap.update a (Obj.mapSeq fun _=>#[])).push (seqObj "tuple" vs.toArray 0)).push (seqObj "list" #[] 0)}
  dsimp only
  by_cases h2:vs.toArray.size < 2
  · rw [if_pos h2,if_pos h2]
    refine wpAny_bind (wpAny_pure ?_)
    rw [StateT.run_pure]
    refine wpAny_bind (wpAny_pure ?_)
    dsimp only
    refine wpAny_bind (seqEpoch_at ho6 rfl ?_)
    refine wpAny_bind (listUpdate_at ho6 rfl ?_ (hsz2:=by rw [Array.size_map];show(vs.toArray.zip vs.toArray).size≤_;rw [show(vs.toArray.zip vs.toArray).size=vs.length by simp,sizeLine_eq];lia))
    simp only [bne_self_eq_false,Bool.false_eq_true,if_false]
    refine wpAny_pure ?_
    have q:=h (List.toArray (List.range vs.length)) ⟨by simp,Array.Perm.refl _⟩ (fun i j hij hj=>by simp at h2;lia)
    have e:(arrOf (SortSt.mk' general' (vs.toArray.zip vs.toArray) #[] 7 none)).map (·.2)=List.toArray ((List.toArray (List.range vs.length)).toList.map fun i=>vs.getD i Value.none):=by
      refine kat_snds (ks:=vs) rfl (p:=List.toArray (List.range vs.length)) ?_
      have e:=kas_range (vs.toArray.zip vs.toArray)
      rw [show(vs.toArray.zip vs.toArray).size=vs.length by simp] at e
      exact e.symm
    rw [e]
    exact q
  · have l2:2≤vs.length:=by simp at h2;lia
    rw [if_neg h2,if_neg h2]
    refine wpAny_bind (wpAny_mono (hk l2 _ kp (fun κ' s'=>κ'=κ∧s'={s with heap:=((s.heap.update a (Obj.mapSeq fun _=>#[])).push (seqObj "tuple" vs.toArray 0)).push (seqObj "list" #[] 0)}) ⟨rfl,rfl⟩) (fun κ' s0 hk=>?_) fun _ _ x=>x.elim)
    obtain⟨rfl,rfl⟩:=hk
    have ev:=qO (cmp:=kas_ask prog w A κ' vs) (s:={s with heap:=((s.heap.update a (Obj.mapSeq fun _=>#[])).push (seqObj "tuple" vs.toArray 0)).push (seqObj "list" #[] 0)}) (fun i j C hi hj hc=>hlt _ kp i j C hi hj hc) _ (uo O (n:=vs.length) (by lia))
    refine wpAny_bind (wpAny_mono (kat_run (E:=E) (Q:=fun st' s'=>∃p:Array Nat,arrOf st'=p.map (kas_item (vs.toArray.zip vs.toArray))∧failedOf st'=none∧s'={s with heap:=((s.heap.update a (Obj.mapSeq fun _=>#[])).push (seqObj "tuple" vs.toArray 0)).push (seqObj "list" #[] 0)}∧kG vs.length p∧SA lt p vs.length) (ks:=vs) rfl l2 h64 (fun p st' s' a1 a2 a3 a4=>⟨p,a2,a3,a4.1,a4.2⟩) ev) ?_ fun _ _ e=>e)
    rintro⟨⟨⟩,st'⟩ s' ⟨p,har,hf,rfl,hp,hs⟩
    dsimp only
    have hout:=kat_snds (ks:=vs) rfl har
    rw [hout]
    refine wpAny_bind (seqEpoch_at ho6 rfl ?_)
    refine wpAny_bind (listUpdate_at ho6 rfl ?_ (hsz2:=by rw [List.size_toArray,List.length_map,Array.length_toList,hp.sz,sizeLine_eq];lia))
    rw [hf]
    simp only [bne_self_eq_false,Bool.false_eq_true,if_false]
    exact wpAny_pure (h p hp hs)
theorem ni{t:Addr}{vs:List Value}{Q:Value→Shared→Prop}(ht:s.heap.IsList t vs.toArray)(h64:vs.length < 64){κ:SortKind}{lt:Nat→Nat→Bool}(O:ue lt)
    (hk:2≤vs.length→∀h':Heap,(∀b o,s.heap.get? b=some o→h'.get? b=some o)→∀Q:SortKind→Shared→Prop,Q κ {s with heap:=h'}→wpAny (model prog w) A.in1.in1 (keyKind' vs.toArray) Q (fun _ _=>False) {s with heap:=h'})
    (hlt:∀h':Heap,(∀b o,s.heap.get? b=some o→h'.get? b=some o)→∀i j (C:Bool→Shared→Prop),i < vs.length→j < vs.length→C (lt i j) {s with heap:=h'}→wpAny (model prog w) A.in1.in1 (keyLt' κ (vs.getD i Value.none) (vs.getD j Value.none)) C (fun _ _=>False) {s with heap:=h'})
    (h:∀p:Array Nat,kG vs.length p→SA lt p vs.length→Q (.ref (s.heap.objs.size+1)) {s with heap:=sortedAll s.heap vs (List.toArray (p.toList.map fun i=>vs.getD i Value.none))}):wpAny (model prog w) A (call (.builtin "sorted") [.ref t]) Q E s:=by
  refine Calls.call_function_entry kind_sorted plain_sorted entry_sorted (args_sorted1 _) ?_;unfold Builtin.«sorted»
  refine wpAny_bind (m:=checkCount "sorted" 1 1 _) (wpAny_pure ?_);refine wpAny_bind (jg ht ?_ (Nat.le_trans (Nat.le_of_lt h64) (by decide)))
  have z:((s.heap.push (seqObj "list" #[] 0)).update s.heap.objs.size (Obj.mapSeq (· ++vs.toArray))).objs.size=s.heap.objs.size+1:=by rw [Heap.size_update,size_push']
  have o:(((s.heap.push (seqObj "list" #[] 0)).update s.heap.objs.size (Obj.mapSeq (· ++vs.toArray))).push (seqObj "list" vs.toArray 0)).get? (s.heap.objs.size+1)=some (seqObj "list" vs.toArray 0):=by rw [←z];exact Heap.get?_push_size _ rfl
  have keep:∀b o,s.heap.get? b=some o→(((s.heap.push (seqObj "list" #[] 0)).update s.heap.objs.size (Obj.mapSeq (· ++vs.toArray))).push (seqObj "list" vs.toArray 0)).get? b=some o:=fun b o q=>by
    have hlt:b < s.heap.objs.size:=Heap.lt_size q
    rw [Heap.get?_push_ne _ _ _ (by rw [z];exact Nat.ne_of_lt (Nat.lt_succ_of_lt hlt)),Heap.get?_update_ne _ _ _ _ (Nat.ne_of_lt hlt),Heap.get?_push_ne _ _ _ (Nat.ne_of_lt hlt)]
    exact q
  have ne:∀b o,s.heap.get? b=some o→b≠s.heap.objs.size+1:=fun b o q=>Nat.ne_of_lt (Nat.lt_succ_of_lt (Heap.lt_size q))
  refine wpAny_bind (wpAny_newList ?_ (by rw [sizeLine_eq];lia));show wpAny _ _ _ _ _ {s with heap:=((s.heap.push (seqObj "list" #[] 0)).update s.heap.objs.size (Obj.mapSeq (· ++vs.toArray))).push (seqObj "list" vs.toArray 0)}
  rw [z];refine wpAny_bind (wpAny_holding (wpAny_call_entry slot_list_sort ⟨_,o,rfl⟩ entry_list_sort (ox (s:={s with heap:=((s.heap.push (seqObj "list" #[] 0)).update s.heap.objs.size (Obj.mapSeq (· ++vs.toArray))).push (seqObj "list" vs.toArray 0)}) o h64 O (fun l2 h' hh Q' hq=>hk l2 h' (fun b o e=>hh b o (ne b o e) (keep b o e)) Q' hq) (fun h' hh i j C hi hj hc=>hlt h' (fun b o e=>hh b o (ne b o e) (keep b o e)) i j C hi hj hc) fun p hp hs=>⟨_,rfl,?_⟩) (args_list_sort _)))
  exact wpAny_pure ⟨_,rfl,h p hp hs⟩
end
def wk(fin:Bool):List Int→List Int→Bool
  | a::r,b::t=>if a=b then wk fin r t else decide (a < b)
  | _,_=>fin
theorem rT:∀(r t:List Int),wk (decide (r.length < t.length)) r t=decide (r < t)
  | [],[]=>by simp [wk]
  | [],b::t=>by simp [wk]
  | a::r,[]=>by simp [wk]
  | a::r,b::t=>by
    unfold wk
    have e:decide ((a::r).length < (b::t).length)=decide (r.length < t.length):=by simp
    rw [e]
    by_cases c:a=b
    · rw [if_pos c,rT r t]
      subst c
      simp [List.cons_lt_cons_iff]
    · rw [if_neg c]
      simp [List.cons_lt_cons_iff,c]
theorem rP{prog:Program}{w:World}{A:Around}{fin:Bool}{Q:Bool→Shared→Prop}{s:Shared}:∀{xs ys:List Value} {r t:List Int} (i:Nat),IntsAre xs r→IntsAre ys t→Q (wk fin r t) s→KatLex prog w A true fin Q (xs.zip ys) i s
  | [],_,_,_,i,h1,h2,h=>by cases h1;exact kat_nil h
  | _::_,[],_,_,i,h1,h2,h=>by cases h2;cases h1;exact kat_nil h
  | _,_,_,_,i,.cons a u h1,.cons b v h2,h=>by
    refine kat_cons (wpAny_eqBool_int ?_)
    unfold wk at h
    by_cases c:a=b
    · rw [if_pos c] at h
      rw [beq_iff_eq.mpr c]
      exact kat_yes (rP (i+1) h1 h2 h)
    · rw [if_neg c] at h
      rw [beq_false_of_ne c]
      refine kat_no ?_
      cases i with
      | zero=>exact oneLt_int h
      | succ j=>exact kat_one _ _ (wpAny_lt_int h)
def bM(rs:List (List Int)):List (List Int):=rs.mergeSort fun a b=>decide (a≤b)
theorem tH{rs rs':List (List Int)}(p:rs'.Perm rs)(h:rs'.Pairwise (· ≤·)):rs'=bM rs:=by
  have h2:=List.pairwise_mergeSort (le:=fun a b:List Int=>decide (a≤b)) (fun a b c h1 h2=>by simp only [decide_eq_true_eq] at*;exact List.le_trans h1 h2) (fun a b=>by simp only [Bool.or_eq_true,decide_eq_true_eq];exact List.le_total a b) rs
  exact List.Perm.eq_of_pairwise (le:=(· ≤·)) (fun a b _ _ h1 h2=>List.le_antisymm h1 h2) h (h2.imp fun h=>by simpa using h) (p.trans (List.mergeSort_perm rs _).symm)
theorem Ay(rs:List (List Int)):ue fun i j=>decide (rs.getD i [] < rs.getD j []) where
  irr i:=decide_eq_false (List.lt_irrefl _)
  tr {i j k} h1 h2:=by
    simp only [decide_eq_false_iff_not,List.not_lt] at*
    exact List.le_trans h2 h1
  asy {i j} h:=by
    simp only [decide_eq_true_eq,decide_eq_false_iff_not] at*
    exact List.lt_asymm h
end L2
namespace L2
open PySem PySem.Spec PyProof.Rows PySem.W
section
variable{X:Cx}{K:PySem.W.Frag}
def yJ(K:PySem.W.Frag)(H:Hp)(us:List V)(rs:List (List Int)):Prop:=us.length=rs.length∧∀(i:Nat) (r:List Int),rs[i]?=some r→∃p,us[i]?=some (.ref p)∧cH K H p (r.map V.int)
def qz(h:Heap)(v:Value)(r:List Int):Prop:=∃(a:Addr) (o:Obj) (xs:List Value) (n:Nat),v=.ref a∧h.get? a=some o∧o.cls=.type "tuple"∧o.data=.seq xs.toArray n∧IntsAre xs r
theorem qz.kept{h h':Heap}{v:Value}{r:List Int}(x:qz h v r)(k:∀b o,h.get? b=some o→h'.get? b=some o):qz h' v r:=
  let ⟨a,o,xs,n,e1,e2,e3⟩:=x;⟨a,o,xs,n,e1,k _ _ e2,e3⟩
theorem jY{h:Heap}:∀(vs:List Value) (rs:List (List Int)),vs.length=rs.length→(∀(i:Nat) (r:List Int),rs[i]?=some r→r≠[]∧∃v,vs[i]?=some v∧qz h v r)→∃fs,KatTups h vs fs∧fs.length=vs.length∧∀v∈fs,∃n t,v=Value.int n t
  | [],[],_,_=>⟨[],.nil,rfl,fun v hv=>by cases hv⟩
  | [],_::_,hl,_=>by simp at hl
  | _::_,[],hl,_=>by simp at hl
  | v::vs,r::rs,hl,hh=>by
    obtain⟨fs,t,l,hf⟩:=jY vs rs (by simpa using hl) fun i r hr=>hh (i+1) r (by simpa using hr)
    obtain⟨ne,v',hv,a,o,xs,n,e1,e2,e3,e4,e5⟩:=hh 0 r rfl
    have:v'=v:=by simpa using hv.symm
    subst this
    subst e1
    cases e5 with
    | nil=>exact absurd rfl ne
    | cons m t' h5=>
      refine⟨_::fs,KatTups.cons e2 e3 e4 (by rfl) t,by simp [l],fun v hv=>?_⟩
      rcases List.mem_cons.mp hv with rfl | hv
      · exact⟨_,_,rfl⟩
      · exact hf v hv
theorem fK:∀{vs:List Value} {ns:List Int},IntsAre vs ns→vs.length=ns.length
  | _,_,.nil=>rfl
  | _,_,.cons _ _ h=>by simp [fK h]
theorem j9{rs:List (List Int)}{p:Array Nat}{n:Nat}(hp:kG n p)(hs:SA (fun i j=>decide (rs.getD i [] < rs.getD j [])) p n):(p.toList.map fun i=>rs.getD i []).Pairwise (· ≤·):=by
  rw [List.pairwise_iff_getElem]
  intro i j hi hj hij
  rw [List.length_map,Array.length_toList,hp.sz] at hi hj
  have:=hs i j hij hj
  simp only [decide_eq_false_iff_not,List.not_lt] at this
  have ei:gA p i=p[i]'(by rw [hp.sz];exact hi):=by simp [gA,Array.getD,hp.sz,hi]
  have ej:gA p j=p[j]'(by rw [hp.sz];exact hj):=by simp [gA,Array.getD,hp.sz,hj]
  rw [ei,ej] at this
  simpa using this
theorem j5{α:Type}(l:List α)(d:α):(List.range l.length).map (fun i=>l.getD i d)=l:=by
  refine List.ext_getElem? fun i=>?_
  rw [List.getElem?_map]
  by_cases h:i < l.length
  · rw [List.getElem?_range h];simp [h]
  · rw [List.getElem?_eq_none (by simp;lia),List.getElem?_eq_none (by lia)];rfl
theorem mX{rs:List (List Int)}{p:Array Nat}(hp:kG rs.length p)(hs:SA (fun i j=>decide (rs.getD i [] < rs.getD j [])) p rs.length):(p.toList.map fun i=>rs.getD i [])=bM rs:=by
  refine tH ?_ (j9 hp hs)
  have q:p.toList.Perm (List.range rs.length):=by simpa using Array.perm_iff_toList_perm.mp hp.pm
  have:=q.map fun i=>rs.getD i []
  rwa [j5] at this
theorem ly{us:List V}{vs:List Value}(h:aE us vs):∀(p:List Nat),(∀i∈p,i < us.length)→aE (p.map fun i=>us.getD i .non) (p.map fun i=>vs.getD i Value.none)
  | [],_=>.nil
  | i::p,hp=>by
    refine .cons ?_ (ly h p fun j hj=>hp j (List.mem_cons_of_mem _ hj))
    have hi:=hp i (by simp)
    obtain⟨u,h1,h2⟩:=h.get (i:=i) (x:=us[i]) (List.getElem?_eq_getElem hi)
    simp only [List.getD_eq_getElem?_getD,h1,List.getElem?_eq_getElem hi,Option.getD_some]
    exact h2
def me(K:PySem.W.Frag):List V→Hp→VK→Prop:=fun xs H Q=>∃(a:Addr) (us:List V) (rs:List (List Int)),xs=[.ref a]∧fx K H a us∧yJ K H us rs∧(∀r∈rs,r≠[])∧rs.length < 64∧
  ∀(p:List Nat) (l:Addr) (H':Hp),(∀i∈p,i < rs.length)→(p.map fun i=>rs.getD i [])=bM rs→am H H'→H l=none→H' l=some (.lst (p.map fun i=>us.getD i .non))→Q (.ref l) H'
theorem nU:cB X (.builtin "sorted") (me X.K):=by
  intro pins s σ H xs us0 Q I r h
  obtain⟨a,us,rs,rfl,hs,⟨ul,hr⟩,hne,h64,q⟩:=h
  obtain⟨u,rfl,ru⟩:=i3 r
  cases ru
  obtain⟨its,rv,p0,hz⟩:=I.list hs
  have hl:=rv.length
  have rows:∀(i:Nat) (r:List Int),rs[i]?=some r→r≠[]∧∃v,its[i]?=some v∧qz s.heap v r:=fun i r e=>by
    obtain⟨p,h1,h2⟩:=hr i r e
    obtain⟨v,h3,h4⟩:=rv.get h1
    obtain⟨xs,rx,⟨o,h5,h6,n,h7⟩,_⟩:=I.tuple h2
    exact⟨hne r (List.mem_of_getElem? e),v,h3,p,o,xs,n,h4,h5,h6,h7,gT rx⟩
  refine ni p0.isList (by lia) (κ:=tuples' true) (Ay rs) (fun l2 h' kp Q' hq=>?_) (fun h' kp i j C hi hj hc=>?_) fun p hp hss=>?_
  · obtain⟨fs,t,fl,hf⟩:=jY (h:=h') its rs (by lia) fun i r e=>let ⟨n,v,x,y⟩:=rows i r e;⟨n,v,x,y.kept kp⟩
    refine kat_kind (fs:=fs) (T:=.type "int") t (by lia) (fun v hv=>?_) rfl hq
    obtain⟨n,t,rfl⟩:=hf v hv
    exact Looks.of_pure rfl
  · have gi:rs[i]?=some rs[i]:=List.getElem?_eq_getElem (by lia)
    have gj:rs[j]?=some rs[j]:=List.getElem?_eq_getElem (by lia)
    obtain⟨-,v,h1,h2⟩:=rows i _ gi
    obtain⟨-,v2,h3,h4⟩:=rows j _ gj
    obtain⟨a1,o1,xs,n1,rfl,e2,e3,e4,e5⟩:=h2.kept kp
    obtain⟨a2,o2,ys,n2,rfl,f2,f3,f4,f5⟩:=h4.kept kp
    rw [List.getD_eq_getElem?_getD,List.getD_eq_getElem?_getD,h1,h3,Option.getD_some,Option.getD_some]
    refine kat_lt e2 e4 f2 f4 (rP 0 e5 f5 ?_)
    rw [List.size_toArray,List.size_toArray,fK e5,fK f5,rT]
    have e:(decide (rs.getD i [] < rs.getD j []))=decide (rs[i] < rs[j]):=by
      rw [List.getD_eq_getElem?_getD,List.getD_eq_getElem?_getD,gi,gj];rfl
    rw [e] at hc
    exact hc
  · have hn:its.length=rs.length:=by lia
    rw [hn] at hp hss
    have hpl:∀i∈p.toList,i < rs.length:=fun i hi=>by
      have q:p.toList.Perm (List.range rs.length):=by simpa using Array.perm_iff_toList_perm.mp hp.pm
      simpa using q.mem_iff.mp hi
    obtain⟨e,he⟩:=sortedAll_at s.heap its (List.toArray (p.toList.map fun i=>its.getD i Value.none))
    have hf:H (s.heap.objs.size+1)=none:=I.hok.fresh (Nat.le_succ _)
    refine⟨.ref (s.heap.objs.size+1),a_ H (s.heap.objs.size+1) (.lst (p.toList.map fun i=>us.getD i .non)),I.laid (t':=s.toks) (fun _ _=>sortedAll_old) (Nat.le_succ _) ⟨?_,p.toList.map (fun i=>its.getD i Value.none),e,ly rv _ (fun i hi=>by rw [ul];exact hpl i hi),?_⟩,rfl,q p.toList _ _ hpl (mX hp hss) (am.new hf) hf au⟩
    · rw [List.length_map,Array.length_toList,hp.sz]
      exact Nat.le_trans (Nat.le_of_lt h64) (by decide)
    · simpa [seqObj] using he
def bv(r:List Int):PyData:=.tuple (r.map .int)
def mW:PyData→Option (List Int)
  | .tuple ds=>(jk ds).bind fun ns=>if ns.isEmpty then none else some ns
  | _=>none
def i8:List PyData→Option (List (List Int))
  | []=>some []
  | d::ds=>(mW d).bind fun r=>(i8 ds).map fun rs=>r::rs
theorem tf{d:PyData}{r:List Int}(h:mW d=some r):d=bv r∧r≠[]:=by
  unfold mW at h
  split at h
  · obtain⟨ns,h1,h2⟩:=Option.bind_eq_some_iff.mp h
    split at h2
    · cases h2
    · rename_i c
      cases h2
      exact⟨by rw [ip h1];rfl,fun z=>c (by rw [z];rfl)⟩
  · cases h
theorem lj:∀{ds:List PyData} {rs:List (List Int)},i8 ds=some rs→ds=rs.map bv∧∀r∈rs,r≠[]
  | [],rs,h=>by cases h;exact⟨rfl,fun r hr=>by cases hr⟩
  | d::ds,rs,h=>by
    unfold i8 at h
    obtain⟨r,h1,h2⟩:=Option.bind_eq_some_iff.mp h
    obtain⟨rs',h3,rfl⟩:=Option.map_eq_some_iff.mp h2
    obtain⟨e1,e2⟩:=tf h1
    obtain⟨e3,e4⟩:=lj h3
    subst e1 e3
    exact⟨rfl,fun r' hr=>(List.mem_cons.mp hr).elim (fun z=>z ▸ e2) (e4 r')⟩
theorem kc:∀{rs:List (List Int)},(∀r∈rs,r≠[])→i8 (rs.map bv)=some rs
  | [],_=>rfl
  | r::rs,h=>by
    have ih:=kc fun r' hr=>h r' (List.mem_cons_of_mem r hr)
    have ne:=h r (by simp)
    have e:mW (bv r)=some r:=by
      show((jk (r.map .int)).bind fun ns=>if ns.isEmpty then none else some ns)=some r
      rw [iY]
      cases r with
      | nil=>exact absurd rfl ne
      | cons a t=>rfl
    show((mW (bv r)).bind fun r'=>(i8 (rs.map bv)).map fun rs'=>r'::rs')=_
    rw [e,ih];rfl
def jR:En→Rv→Option Rv:=fun e x=>(dg e x).bind fun z=>(i8 z.2).bind fun rs=>if z.1=true∧rs.length < 64 then some (.l ((bM rs).map bv)) else none
theorem mz{F:Hp}{ds:List PyData}{us:List V}(h:ax K F ds us):∀(p:List Nat),(∀i∈p,i < ds.length)→ax K F (p.map fun i=>ds.getD i .none) (p.map fun i=>us.getD i .non)
  | [],_=>ax.nil
  | i::p,hp=>by
    have hi:=hp i (by simp)
    obtain⟨v,h1,h2⟩:=h.get (List.getElem?_eq_getElem hi)
    refine ax.cons ?_ (mz h p fun j hj=>hp j (List.mem_cons_of_mem _ hj))
    simp only [List.getD_eq_getElem?_getD,h1,List.getElem?_eq_getElem hi,Option.getD_some]
    exact h2
theorem vH:cJ K (me K) (g1 jR):=dX fun σ H0 F H e x z v Q R A hg q=>by
  unfold jR at hg
  obtain⟨⟨b,ds⟩,h1,hg⟩:=Option.bind_eq_some_iff.mp hg
  obtain⟨rs,h6,hg⟩:=Option.bind_eq_some_iff.mp hg
  split at hg
  case isFalse=>cases hg
  case isTrue hl=>
  cases hg
  obtain⟨hb,hl⟩:=hl
  dsimp only at hb
  subst hb
  obtain⟨p,vs,rfl,d1,s1⟩:=cZ R A h1
  rw [if_pos rfl] at s1
  obtain⟨e1,ne⟩:=lj h6
  dsimp only at e1
  subst e1
  have dl:=d1.len
  rw [List.length_map] at dl
  refine⟨p,vs,rs,rfl,s1,⟨dl.symm,fun i r hr=>?_⟩,ne,hl,fun pl l H' hpl hs sm hn hl'=>?_⟩
  · obtain⟨v,h1,h2⟩:=d1.get (i:=i) (d:=bv r) (by rw [List.getElem?_map,hr];rfl)
    obtain⟨a,xs,rfl,h3,h4⟩:=cO.mp h2
    have:=ax.ints.mp h4
    subst this
    exact⟨a,h1,R.sm.tup h3⟩
  · obtain⟨R4,X4⟩:=R.same sm
    have dp:=mz d1 pl (fun i hi=>by rw [List.length_map];exact hpl i hi)
    have e:(pl.map fun i=>(rs.map bv).getD i .none)=(bM rs).map bv:=by
      rw [←hs,List.map_map]
      refine List.map_congr_left fun i hi=>?_
      have il:=hpl i hi
      simp [List.getD_eq_getElem?_getD,il]
    rw [e] at dp
    exact q F H' _ X4 R4 ⟨l,_,rfl,hn,R.freeF hn,hl',dp,fun z=>R.ownH l ((R.sameOwn sm l).mp z) hn⟩
theorem rA{e:En}{i:Nat}{rs:List (List Int)}(hi:e[i]?=some (some (.l (rs.map bv))))(hn:∀r∈rs,r≠[])(h:rs.length < 64):g1 jR e [.s i]=some (.l ((bM rs).map bv)):=by
  simp [g1,jR,dg,hi,kc hn,h]
def cQ:En→Rv→Option Rv:=fun e x=>match eV e x with
  | some z=>some z
  | none=>jR e x
theorem nV:cB X (.builtin "sorted") (fun xs H Q=>md X.K xs H Q∨me X.K xs H Q):=fun pins s σ H xs us Q I rv h=>h.elim (nS pins s σ H xs us Q I rv) (nU pins s σ H xs us Q I rv)
theorem vI:cJ K (fun xs H Q=>md K xs H Q∨me K xs H Q) (g1 cQ):=fun σ H0 F H e xs z vs Q R A hg q=>by
  match xs,A,hg with
  | [x],A,hg=>
    have hg':cQ e x=some z:=hg
    unfold cQ at hg'
    cases c:eV e x with
    | some y=>rw [c] at hg';exact .inl (vG σ H0 F H e [x] y vs Q R A c (fun F' H' w a b d=>q F' H' w a b (by cases hg';exact d)))
    | none=>rw [c] at hg';exact .inr (vH σ H0 F H e [x] z vs Q R A hg' q)
theorem o5(hK:X.K=K):kD X K "sorted" (g1 cQ):=by
  subst hK
  exact⟨.inl ⟨_,_,nV,vI,PyProof.Rows.boot_sorted⟩⟩
theorem mH{e:En}{i:Nat}{r:List Int}{rs:List (List Int)}(hi:e[i]?=some (some (.l ((r::rs).map bv))))(hn:∀x∈r::rs,x≠[])(h:(r::rs).length < 64):g1 cQ e [.s i]=some (.l ((bM (r::rs)).map bv)):=by
  have z:eV e (.s i)=none:=by
    have:dg e (.s i)=some (true,(r::rs).map bv):=by simp [dg,hi]
    unfold eV
    rw [this]
    rfl
  show cQ e (.s i)=_
  unfold cQ
  rw [z]
  exact rA hi hn h
theorem rB{e:En}{i:Nat}{ns:List Int}(hi:e[i]?=some (some (.l (ns.map .int))))(h:ns.length < 64):g1 cQ e [.s i]=some (.l ((eu ns).map .int)):=by
  have:=rq hi h
  show cQ e (.s i)=_
  unfold cQ
  rw [show eV e (.s i)=_ from this]
theorem mG{e:En}{i:Nat}{rs:List (List Int)}(hi:e[i]?=some (some (.l (rs.map bv))))(hn:∀x∈rs,x≠[])(h:rs.length < 64):g1 cQ e [.s i]=some (.l ((bM rs).map bv)):=by
  cases rs with
  | nil=>
    have:=rB (ns:=[]) hi (by decide)
    rw [this]
    have e1:bM []=[]:=by simp [bM]
    have e2:eu []=[]:=by simp [eu]
    rw [e1,e2];rfl
  | cons r rs=>exact mH hi hn h
end
end L2
namespace V55
open PySem PySem.Spec PyProof.Rows L2
variable{P:Program}{w:World}{K:W.Frag}{mg:Str→Option Value}{base:Heap}{f:Addr}{fd:FuncData}
local macro_rules|`(tactic|trivial)=>`(tactic|first|exact .inl rfl|exact .inr rfl|assumption)
local macro_rules|`(¬$n:num)=>`(@qw _ _ $n _ _ (by rfl) (by rfl) (by decide))
local macro_rules|`($a∘$b)=>`(@AB _ _ _ _ _ _ $a $b (by rfl))
def top(i:Nat):Stmt:=PySem.Challenge.pw_askedpairs_k55_orders_by_measures.main.body.getD i (.Pass ⟨0,0,0,0⟩)
theorem qX{α:Type u}{β:Type v}{f:α→β}:List.map f []=[]:=rfl
theorem qW{α:Type u}{β:Type v}{f:α→β}{a:α}{l:List α}:List.map f (a::l)=f a::List.map f l:=rfl
theorem qQ{α:Type u}{l:List α}:[]++l=l:=rfl
theorem qP{α:Type u}{a:α}{l m:List α}:(a::l)++m=a::(l++m):=rfl
theorem qU{α:Type u}{a:α}{l:List α}:(a::l)[0]?=some a:=rfl
theorem qV{α:Type u}{a:α}{l:List α}{i:Nat}:(a::l)[i+1]?=l[i]?:=rfl
theorem qS{α:Type u}{β:Type v}{a:α}{f:α→Option β}:Option.bind (some a) f=f a:=rfl
theorem qY{α:Type u}{β:Type v}{a:α}{f:α→β}:Option.map f (some a)=some (f a):=rfl
abbrev bw:Stmt:=top 1
abbrev fX:Stmt:=top 2
abbrev iD:Stmt:=top 3
abbrev aI:Stmt:=top 4
abbrev eM:Stmt:=top 6
abbrev cy:Stmt:=top 8
abbrev cV:Stmt:=top 9
abbrev dz:Stmt:=top 10
abbrev gB:Stmt:=top 12
abbrev iA:Stmt:=top 13
abbrev fV:Stmt:=top 14
abbrev mY:Stmt:=top 15
abbrev kg:Stmt:=top 16
abbrev iB:Stmt:=top 17
abbrev kf:Stmt:=top 18
abbrev kh:Stmt:=top 19
abbrev fU:Stmt:=top 20
abbrev iC:Stmt:=top 21
abbrev i9:Stmt:=top 22
abbrev mZ:Stmt:=top 23
abbrev ki:Stmt:=top 24
abbrev aM:Stmt:=top 25
abbrev ke:Stmt:=top 26
abbrev eg:Stmt:=top 27
abbrev kj:Stmt:=top 28
structure jd (mg:Str→Option Value):Prop where
  b_abs:mg "abs"=none
  b_len:mg "len"=none
  b_min:mg "min"=none
  b_max:mg "max"=none
  b_range:mg "range"=none
  b_repr:mg "repr"=none
  b_tuple:mg "tuple"=none
  b_int:mg "int"=none
  b_sorted:mg "sorted"=none
  b_enumerate:mg "enumerate"=none
noncomputable def a':FT:=(bh (aq (dD true) (ae 1) (vC (.int 0))))
noncomputable def bz:FS:=(oF 0 1 (aa (ae 1) (aa (aq aT (ae 0) (ae 1)) ai)))
noncomputable def eD:FS:=(aL (hG (2 ^ 4200) a' bz)
    (bL (aP (g1 n6) (aa (ae 0) ai))))
noncomputable def br:FM:=hV 2 0 ([0,1]++[]) eD
theorem en:ay ["one","other"] ["one","other"] (ah bw):=⟨rfl,rfl,rfl,by decide+kernel,rfl,by decide+kernel,by decide+kernel⟩
theorem iv(h:bi K mg "common_divisor" bw f fd ["one","other"])(T:jd mg):aF P w K mg base bU 1 f fd ["one","other"] (bW K 2 br):=by
  have nd:=en.nd
  exact h.fn en rfl rfl (fun cdv A outer s H E hr=>(@af _ _ _ _ _ _ _ _ (@ka _ _ _ _ _ _ _ _ _ PassesOwn.never (@cU _ _ _ _ _ _ _ _ _ (@wL _ _ _ rfl hr) (¬1) ab (bV _))
      (@aj _ _ _ _ _ (@sP _ _ _ _ _ 0 1 _ _ _ _ _ _ _ _ _ rfl nd rfl rfl (by decide) rfl rfl ((¬1)∘((@aN _ _ _ _ _ _ _ (¬0) (¬1))∘ac)) (by rfl) (by rfl))))
      (@aj _ _ _ _ _ (@aK _ _ _ _ _ (@bu _ _ _ _ _ _ _ _ _ (@b_abs _ _) (by rfl) T.b_abs ((¬0)∘ac) (by decide) (by decide) (by rfl) (by rfl))))))
noncomputable def mv:FS:=(aL (a7 2 (cz 2 br (aa (ae 0) (aa (ae 1) ai))))
    (aL (kB (bh (aq uu (ae 1) (vC (.int 0))))
    (a7 2 (vR p8 (ae 2)))
    fW)
    (bL (cA (aa (aq cE (ae 0) (ae 2)) (aa (aq cE (ae 1) (ae 2)) ai))))))
noncomputable def fN:FM:=hV 2 1 ([2]++(([2]++[])++[])) mv
theorem lp:ay ["top","bottom","divisor"] ["top","bottom"] (ah fX):=⟨rfl,rfl,rfl,by decide+kernel,rfl,by decide+kernel,by decide+kernel⟩
theorem qf(h:bi K mg "lowest" fX f fd ["top","bottom"])(T:jd mg){f_common_divisor:Addr}{e_common_divisor:FuncData}(h_common_divisor:bi K mg "common_divisor" bw f_common_divisor e_common_divisor ["one","other"])(G_common_divisor:aF P w K mg base bU 1 f_common_divisor e_common_divisor ["one","other"] (bW K 2 br)):aF P w K mg base bU 2 f fd ["top","bottom"] (bW K 2 fN):=by
  have nd:=lp.nd
  exact h.fn lp rfl rfl (fun cdv A outer s H E hr=>(@af _ _ _ _ _ _ _ _ (@aB _ _ _ _ _ 2 _ _ nd rfl (Or.inl rfl) (@aO _ _ _ _ _ _ _ _ _ _ _ _ _ _ _ h_common_divisor G_common_divisor (hr.mono (by decide)) ((¬0)∘((¬1)∘ac)) (by rfl) (by decide) (by rfl) (by rfl)) (by rfl) (by trivial))
      (@af _ _ _ _ _ _ _ _ (@fj _ _ _ _ _ _ _ _ _ _ _ (@cU _ _ _ _ _ _ _ _ _ (@uh _ _) (¬1) ab (bV _))
      (@aj _ _ _ _ _ (@aB _ _ _ _ _ 2 _ _ nd rfl (Or.inl rfl) (@wn _ _ _ _ _ (¬2)) (by rfl) (by trivial)))
      (@cc _ _))
      (@aj _ _ _ _ _ (@aK _ _ _ _ _ (@aZ _ _ _ _ _ _ ((@dM _ _ _ _ _ _ _ (¬0) (¬2))∘((@dM _ _ _ _ _ _ _ (¬1) (¬2))∘ac))))))))
noncomputable def o6:FS:=(bL (cz 2 fN (aa (aq bO (aq bY (ae 0) (vC (.int 0))) (aq bY (ae 1) (vC (.int 0)))) (aa (aq bO (aq bY (ae 0) (vC (.int 1))) (aq bY (ae 1) (vC (.int 1)))) ai))))
noncomputable def gy:FM:=hV 2 0 [] o6
theorem m_:ay ["one","other"] ["one","other"] (ah iD):=⟨rfl,rfl,rfl,by decide+kernel,rfl,by decide+kernel,by decide+kernel⟩
theorem sd(h:bi K mg "times" iD f fd ["one","other"])(T:jd mg){f_lowest:Addr}{e_lowest:FuncData}(h_lowest:bi K mg "lowest" fX f_lowest e_lowest ["top","bottom"])(G_lowest:aF P w K mg base bU 2 f_lowest e_lowest ["top","bottom"] (bW K 2 fN)):aF P w K mg base bU 3 f fd ["one","other"] (bW K 2 gy):=by
  have nd:=m_.nd
  exact h.fn m_ rfl rfl (fun cdv A outer s H E hr=>(@aj _ _ _ _ _ (@aK _ _ _ _ _ (@aO _ _ _ _ _ _ _ _ _ _ _ _ _ _ _ h_lowest G_lowest (hr.mono (by decide)) ((@df _ _ _ _ _ _ _ rfl (@aY _ _ _ _ _ _ _ rfl (¬0) ab (fun _ _=>rfl)) (@aY _ _ _ _ _ _ _ rfl (¬1) ab (fun _ _=>rfl)))∘((@df _ _ _ _ _ _ _ rfl (@aY _ _ _ _ _ _ _ rfl (¬0) ab (fun _ _=>rfl)) (@aY _ _ _ _ _ _ _ rfl (¬1) ab (fun _ _=>rfl)))∘ac)) (by rfl) (by decide) (by rfl) (by rfl)))))
noncomputable def cm:FI:=(fv (aP (g1 cQ) (aa (ae 3) ai)))
noncomputable def bf:FE:=(ae 1)
noncomputable def cn:FI:=(k9 (aa (ae 0) ai))
noncomputable def bg:FE:=(cA (aa (aq bO (vR p8 (aq bY (ae 2) (vC (.int 0)))) (aq cE (ae 0) (aq bY (ae 2) (vC (.int 1))))) (aa (ae 1) ai)))
noncomputable def cq:FI:=(fv (ae 0))
noncomputable def bA:FS:=(a7 1 (aq bO (ae 1) (aq bY (ae 2) (vC (.int 1)))))
noncomputable def eE:FS:=(aL (a7 1 (vC (.int 1)))
    (aL (dU ([2]++[1]) cq (ag 2) bA)
    (aL (a7 3 (bx [(1,"common")] 2 cn (bP (ar (ag 1) (ar (ag 2) bG))) bI bg))
    (bL (bx [] 2 cm (bP (ar (ag 0) (ar (ag 1) bG))) bI bf)))))
noncomputable def aG:FM:=hV 1 3 ([1]++(([2]++[1])++([3]++[]))) eE
theorem et:ay ["row","common","part","tops"] ["row"] (ah aI):=⟨rfl,rfl,rfl,by decide+kernel,rfl,by decide+kernel,by decide+kernel⟩
theorem iw(h:bi K mg "greatest_first" aI f fd ["row"])(T:jd mg):aF P w K mg base bU 1 f fd ["row"] (bW K 1 aG):=by
  have nd:=et.nd
  exact h.fn et rfl rfl (fun cdv A outer s H E hr=>(@af _ _ _ _ _ _ _ _ (@aB _ _ _ _ _ 1 _ _ nd rfl (Or.inr rfl) ab (by rfl) (by trivial))
      (@af _ _ _ _ _ _ _ _ (@e6 _ _ _ _ _ _ _ _ _ _ _ PassesOwn.never rfl (@eY _ _ _ _ _ rfl (¬0)) (@aH _ _ _ 2 _ nd rfl (Or.inl rfl) (by trivial))
      (@aj _ _ _ _ _ (@aB _ _ _ _ _ 1 _ _ nd rfl (Or.inr rfl) (@df _ _ _ _ _ _ _ rfl (¬1) (@aY _ _ _ _ _ _ _ rfl (¬2) ab (fun _ _=>rfl))) (by rfl) (by trivial))) (by intro _;rfl))
      (@af _ _ _ _ _ _ _ _ (@dy _ _ _ (3) _ _ _ _ _ _ _ _ _ _ _ _ _ (ah aI) ["row","common","part","tops"] [(1,"common")] ["at","part"] rfl rfl rfl (@ma _ _ _ _ _ _ _ _ _ rfl rfl T.b_enumerate ((¬0)∘ac) (by rfl))
        (fun C s0 H0 fp=>(@i7 _ _ _ _ _ _ _ _ rfl rfl (@bH _ _ _ _ _ _ _ _ (@aH _ _ _ 1 _ (show List.Nodup (["common","at","part"]:List Str) by decide+kernel) rfl (Or.inl rfl) (by trivial)) (@bH _ _ _ _ _ _ _ _ (@aH _ _ _ 2 _ (show List.Nodup (["common","at","part"]:List Str) by decide+kernel) rfl (Or.inl rfl) (by trivial)) (@gz _ _) (by rfl)) (by rfl)) (b7 (b7 iR)) (by rfl) (by rfl))) (fun C s0 H0 fp=>(@dq _ _))
        (fun C s0 H0 fp=>(@aZ _ _ _ _ _ _ ((@df _ _ _ _ _ _ _ rfl (@wn _ _ _ _ _ (@aY _ _ _ _ _ _ _ rfl (¬2) ab (fun _ _=>rfl))) (@dM _ _ _ _ _ _ _ (¬0) (@aY _ _ _ _ _ _ _ rfl (¬2) ab (fun _ _=>rfl))))∘((¬1)∘ac)))) rfl (by decide+kernel) (by decide+kernel) (by decide+kernel) (by decide+kernel) (by decide+kernel) (by decide+kernel) (by decide+kernel) nd rfl rfl (by rfl) (by intro _;rfl))
      (@aj _ _ _ _ _ (@aK _ _ _ _ _ (@j' _ _ _ _ _ _ _ _ _ _ _ _ _ (ah aI) ["row","common","part","tops"] [] ["top","at"] rfl rfl rfl (@eY _ _ _ _ _ rfl (@bu _ _ _ _ _ _ _ _ _ (@o5 _ _ rfl) (by rfl) T.b_sorted ((¬3)∘ac) (by decide) (by decide) (by rfl) (by rfl)))
        (fun C s0 H0 fp=>(@i7 _ _ _ _ _ _ _ _ rfl rfl (@bH _ _ _ _ _ _ _ _ (@aH _ _ _ 0 _ (show List.Nodup (["top","at"]:List Str) by decide+kernel) rfl (Or.inl rfl) (by trivial)) (@bH _ _ _ _ _ _ _ _ (@aH _ _ _ 1 _ (show List.Nodup (["top","at"]:List Str) by decide+kernel) rfl (Or.inl rfl) (by trivial)) (@gz _ _) (by rfl)) (by rfl)) (b7 (b7 iR)) (by rfl) (by rfl))) (fun C s0 H0 fp=>(@dq _ _))
        (fun C s0 H0 fp=>(¬1)) rfl (by decide+kernel) (by decide+kernel) (by decide+kernel) (by decide+kernel) (by decide+kernel) (by decide+kernel) (by decide+kernel) (by intro _;rfl))))))))
noncomputable def kT:FS:=(bL (cz 2 gy (aa (aq bY (ae 0) (vC (.int 2))) (aa (cA (aa (aq bY (ae 0) (vC (.int 3))) (aa (vC (.int 1)) ai))) ai))))
noncomputable def eJ:FM:=hV 1 0 [] kT
theorem km:ay ["tie"] ["tie"] (ah eM):=⟨rfl,rfl,rfl,by decide+kernel,rfl,by decide+kernel,by decide+kernel⟩
theorem oB(h:bi K mg "gain_of" eM f fd ["tie"])(T:jd mg){f_times:Addr}{e_times:FuncData}(h_times:bi K mg "times" iD f_times e_times ["one","other"])(G_times:aF P w K mg base bU 3 f_times e_times ["one","other"] (bW K 2 gy)):aF P w K mg base bU 4 f fd ["tie"] (bW K 1 eJ):=by
  have nd:=km.nd
  exact h.fn km rfl rfl (fun cdv A outer s H E hr=>(@aj _ _ _ _ _ (@aK _ _ _ _ _ (@aO _ _ _ _ _ _ _ _ _ _ _ _ _ _ _ h_times G_times (hr.mono (by decide)) ((@aY _ _ _ _ _ _ _ rfl (¬0) ab (fun _ _=>rfl))∘((@aZ _ _ _ _ _ _ ((@aY _ _ _ _ _ _ _ rfl (¬0) ab (fun _ _=>rfl))∘(ab∘ac)))∘ac)) (by rfl) (by decide) (by rfl) (by rfl)))))
noncomputable def ez:FI:=(fv (aq bY (ae 0) (vC (.int 1))))
noncomputable def cX:FE:=(aq bY (ae 0) (vC (.int 2)))
noncomputable def je:FS:=(bL (aP (g1 cF) (aa (cz 1 aG (aa (bx [] 1 ez (ag 0) bI cX) ai)) ai)))
noncomputable def dc:FM:=hV 1 0 [] je
theorem iE:ay ["web"] ["web"] (ah cy):=⟨rfl,rfl,rfl,by decide+kernel,rfl,by decide+kernel,by decide+kernel⟩
theorem l7(h:bi K mg "by_chance" cy f fd ["web"])(T:jd mg){f_greatest_first:Addr}{e_greatest_first:FuncData}(h_greatest_first:bi K mg "greatest_first" aI f_greatest_first e_greatest_first ["row"])(G_greatest_first:aF P w K mg base bU 1 f_greatest_first e_greatest_first ["row"] (bW K 1 aG)):aF P w K mg base bU 2 f fd ["web"] (bW K 1 dc):=by
  have nd:=iE.nd
  exact h.fn iE rfl rfl (fun cdv A outer s H E hr=>(@aj _ _ _ _ _ (@aK _ _ _ _ _ (@bu _ _ _ _ _ _ _ _ _ (@b_tuple _ _ rfl) (by rfl) T.b_tuple ((@aO _ _ _ _ _ _ _ _ _ _ _ _ _ _ _ h_greatest_first G_greatest_first (hr.mono (by decide)) ((@j' _ _ _ _ _ _ _ _ _ _ _ _ _ (ah cy) ["web"] [] ["tie"] rfl rfl rfl (@eY _ _ _ _ _ rfl (@aY _ _ _ _ _ _ _ rfl (¬0) ab (fun _ _=>rfl)))
        (fun C s0 H0 fp=>(@aH _ _ _ 0 _ (show List.Nodup (["tie"]:List Str) by decide+kernel) rfl (Or.inl rfl) (by trivial))) (fun C s0 H0 fp=>(@dq _ _))
        (fun C s0 H0 fp=>(@aY _ _ _ _ _ _ _ rfl (¬0) ab (fun _ _=>rfl))) rfl (by decide+kernel) (by decide+kernel) (by decide+kernel) (by decide+kernel) (by decide+kernel) (by decide+kernel) (by decide+kernel) (by intro _;rfl))∘ac) (by rfl) (by decide) (by rfl) (by rfl))∘ac) (by decide) (by decide) (by rfl) (by rfl)))))
noncomputable def eW:FI:=(fv (aq bY (ae 0) (vC (.int 1))))
noncomputable def dm:FE:=(cA (aa (aq bY (ae 0) (vC (.int 3))) (aa (vC (.int 1)) ai)))
noncomputable def jG:FS:=(bL (aP (g1 cF) (aa (cz 1 aG (aa (bx [] 1 eW (ag 0) bI dm) ai)) ai)))
noncomputable def dG:FM:=hV 1 0 [] jG
theorem jm:ay ["web"] ["web"] (ah cV):=⟨rfl,rfl,rfl,by decide+kernel,rfl,by decide+kernel,by decide+kernel⟩
theorem mQ(h:bi K mg "by_worth" cV f fd ["web"])(T:jd mg){f_greatest_first:Addr}{e_greatest_first:FuncData}(h_greatest_first:bi K mg "greatest_first" aI f_greatest_first e_greatest_first ["row"])(G_greatest_first:aF P w K mg base bU 1 f_greatest_first e_greatest_first ["row"] (bW K 1 aG)):aF P w K mg base bU 2 f fd ["web"] (bW K 1 dG):=by
  have nd:=jm.nd
  exact h.fn jm rfl rfl (fun cdv A outer s H E hr=>(@aj _ _ _ _ _ (@aK _ _ _ _ _ (@bu _ _ _ _ _ _ _ _ _ (@b_tuple _ _ rfl) (by rfl) T.b_tuple ((@aO _ _ _ _ _ _ _ _ _ _ _ _ _ _ _ h_greatest_first G_greatest_first (hr.mono (by decide)) ((@j' _ _ _ _ _ _ _ _ _ _ _ _ _ (ah cV) ["web"] [] ["tie"] rfl rfl rfl (@eY _ _ _ _ _ rfl (@aY _ _ _ _ _ _ _ rfl (¬0) ab (fun _ _=>rfl)))
        (fun C s0 H0 fp=>(@aH _ _ _ 0 _ (show List.Nodup (["tie"]:List Str) by decide+kernel) rfl (Or.inl rfl) (by trivial))) (fun C s0 H0 fp=>(@dq _ _))
        (fun C s0 H0 fp=>(@aZ _ _ _ _ _ _ ((@aY _ _ _ _ _ _ _ rfl (¬0) ab (fun _ _=>rfl))∘(ab∘ac)))) rfl (by decide+kernel) (by decide+kernel) (by decide+kernel) (by decide+kernel) (by decide+kernel) (by decide+kernel) (by decide+kernel) (by intro _;rfl))∘ac) (by rfl) (by decide) (by rfl) (by rfl))∘ac) (by decide) (by decide) (by rfl) (by rfl)))))
noncomputable def fJ:FI:=(fv (aq bY (ae 0) (vC (.int 1))))
noncomputable def dZ:FE:=(cz 1 eJ (aa (ae 0) ai))
noncomputable def kS:FS:=(bL (aP (g1 cF) (aa (cz 1 aG (aa (bx [] 1 fJ (ag 0) bI dZ) ai)) ai)))
noncomputable def eI:FM:=hV 1 0 [] kS
theorem kl:ay ["web"] ["web"] (ah dz):=⟨rfl,rfl,rfl,by decide+kernel,rfl,by decide+kernel,by decide+kernel⟩
theorem oA(h:bi K mg "by_both" dz f fd ["web"])(T:jd mg){f_greatest_first:Addr}{e_greatest_first:FuncData}(h_greatest_first:bi K mg "greatest_first" aI f_greatest_first e_greatest_first ["row"])(G_greatest_first:aF P w K mg base bU 1 f_greatest_first e_greatest_first ["row"] (bW K 1 aG)){f_gain_of:Addr}{e_gain_of:FuncData}(h_gain_of:bi K mg "gain_of" eM f_gain_of e_gain_of ["tie"])(G_gain_of:aF P w K mg base bU 4 f_gain_of e_gain_of ["tie"] (bW K 1 eJ)):aF P w K mg base bU 5 f fd ["web"] (bW K 1 eI):=by
  have nd:=kl.nd
  exact h.fn kl rfl rfl (fun cdv A outer s H E hr=>(@aj _ _ _ _ _ (@aK _ _ _ _ _ (@bu _ _ _ _ _ _ _ _ _ (@b_tuple _ _ rfl) (by rfl) T.b_tuple ((@aO _ _ _ _ _ _ _ _ _ _ _ _ _ _ _ h_greatest_first G_greatest_first (hr.mono (by decide)) ((@j' _ _ _ _ _ _ _ _ _ _ _ _ _ (ah dz) ["web"] [] ["tie"] rfl rfl rfl (@eY _ _ _ _ _ rfl (@aY _ _ _ _ _ _ _ rfl (¬0) ab (fun _ _=>rfl)))
        (fun C s0 H0 fp=>(@aH _ _ _ 0 _ (show List.Nodup (["tie"]:List Str) by decide+kernel) rfl (Or.inl rfl) (by trivial))) (fun C s0 H0 fp=>(@dq _ _))
        (fun C s0 H0 fp=>(@aO _ _ _ _ _ _ _ _ _ _ _ _ _ _ _ h_gain_of G_gain_of (hr.mono (by decide)) ((¬0)∘ac) (by rfl) (by decide) (by rfl) (by rfl))) rfl (by decide+kernel) (by decide+kernel) (by decide+kernel) (by decide+kernel) (by decide+kernel) (by decide+kernel) (by decide+kernel) (by intro _;rfl))∘ac) (by rfl) (by decide) (by rfl) (by rfl))∘ac) (by decide) (by decide) (by rfl) (by rfl)))))
noncomputable def oW:FS:=(aL (a7 2 (aq aT (aq c8 (aq c8 (aq bO (aq aT (ae 0) (vC (.int 2147483647))) (vC (.int 48271))) (aq bO (aq bO (vC (.int 7919)) (ae 1)) (ae 1))) (vC (.int 104729))) (vC (.int 2147483647))))
    (bL (aq aT (aq bO (ae 2) (ae 2)) (vC (.int 2147483629)))))
noncomputable def ed:FM:=hV 2 1 ([2]++[]) oW
theorem m5:ay ["_law_cell","_law_k","_law_number"] ["_law_cell","_law_k"] (ah gB):=⟨rfl,rfl,rfl,by decide+kernel,rfl,by decide+kernel,by decide+kernel⟩
theorem r6(h:bi K mg "_law_mixed" gB f fd ["_law_cell","_law_k"])(T:jd mg):aF P w K mg base bU 1 f fd ["_law_cell","_law_k"] (bW K 2 ed):=by
  have nd:=m5.nd
  exact h.fn m5 rfl rfl (fun cdv A outer s H E hr=>(@af _ _ _ _ _ _ _ _ (@aB _ _ _ _ _ 2 _ _ nd rfl (Or.inl rfl) (@aN _ _ _ _ _ _ _ (@cw _ _ _ _ _ _ _ rfl (@cw _ _ _ _ _ _ _ rfl (@df _ _ _ _ _ _ _ rfl (@aN _ _ _ _ _ _ _ (¬0) ab) ab) (@df _ _ _ _ _ _ _ rfl (@df _ _ _ _ _ _ _ rfl ab (¬1)) (¬1))) ab) ab) (by rfl) (by trivial))
      (@aj _ _ _ _ _ (@aK _ _ _ _ _ (@aN _ _ _ _ _ _ _ (@df _ _ _ _ _ _ _ rfl (¬2) (¬2)) ab)))))
noncomputable def dt:FT:=(ny (bh (aq yV (ae 3) (aq oi (vC (.int 10)) (vC (.int 18))))) (bh (aq uu (aP (g1 iO) (aa (ae 1) ai)) (vC (.int 900)))))
noncomputable def fZ:FS:=(aL (fR (dj bT (ae 1) (aa (aq aT (ae 3) (vC (.int 2147483629))) ai)))
    (a7 3 (aq cE (ae 3) (vC (.int 2147483629)))))
noncomputable def gp:FI:=(b_ (aa (vC (.int 12)) ai))
noncomputable def eA:FS:=(fR (dj bT (ae 1) (aa (cz 2 ed (aa (cz 2 ed (aa (ae 3) (aa (aq c8 (aq bO (vC (.int 3)) (ae 4)) (vC (.int 1))) ai))) (aa (aq c8 (aq c8 (ae 4) (ae 2)) (vC (.int 2))) ai))) ai)))
noncomputable def iS:FI:=(b_ (aa (aP (g2 ri) (aa (aP (g1 iO) (aa (ae 0) ai)) (aa (vC (.int 63)) ai))) ai))
noncomputable def dr:FS:=(aL (a7 3 (aP (g1 n6) (aa (aq bY (ae 0) (ae 2)) ai)))
    (aL (kB (bh (aq uu (ae 3) (aq oi (vC (.int 10)) (vC (.int 18)))))
    (dU ([4]++[]) gp (ag 4) eA)
    fW)
    (aL (hG (2 ^ 4200) dt fZ)
    (kB (bh (aq yV (ae 3) (vC (.int 2147483629))))
    (fR (dj bT (ae 1) (aa (aq aT (ae 3) (vC (.int 2147483629))) ai)))
    fW))))
noncomputable def oV:FS:=(aL (a7 1 (eQ ai))
    (aL (dU ([2]++([3]++((([4]++[])++[])++(([]++[3])++([]++[]))))) iS (ag 2) dr)
    (bL (ae 1))))
noncomputable def iq:FM:=hV 1 4 ([1]++(([2]++([3]++((([4]++[])++[])++(([]++[3])++([]++[])))))++[])) oV
theorem m4:ay ["_law_script","_law_drawn","_law_k","_law_cell","_law_j"] ["_law_script"] (ah iA):=⟨rfl,rfl,rfl,by decide+kernel,rfl,by decide+kernel,by decide+kernel⟩
theorem rZ(h:bi K mg "_law_draws" iA f fd ["_law_script"])(T:jd mg){fLmixed:Addr}{eLmixed:FuncData}(hLmixed:bi K mg "_law_mixed" gB fLmixed eLmixed ["_law_cell","_law_k"])(GLmixed:aF P w K mg base bU 1 fLmixed eLmixed ["_law_cell","_law_k"] (bW K 2 ed)):aF P w K mg base bU 2 f fd ["_law_script"] (bW K 1 iq):=by
  have nd:=m4.nd
  exact h.fn m4 rfl rfl (fun cdv A outer s H E hr=>(@af _ _ _ _ _ _ _ _ (@aB _ _ _ _ _ 1 _ _ nd rfl (Or.inl rfl) (@cu _ _ _ _ _ ac) (by rfl) (by trivial))
      (@af _ _ _ _ _ _ _ _ (@e6 _ _ _ _ _ _ _ _ _ _ _ PassesOwn.never rfl (@cx _ _ _ _ _ _ _ rfl T.b_range ((@bu _ _ _ _ _ _ _ _ _ (@b_min _ _ rfl) (by rfl) T.b_min ((@bu _ _ _ _ _ _ _ _ _ (@b_len _ _ rfl) (by rfl) T.b_len ((¬0)∘ac) (by decide) (by decide) (by rfl) (by rfl))∘(ab∘ac)) (by decide) (by decide) (by rfl) (by rfl))∘ac) (by rfl)) (@aH _ _ _ 2 _ nd rfl (Or.inl rfl) (by trivial))
      (@af _ _ _ _ _ _ _ _ (@aB _ _ _ _ _ 3 _ _ nd rfl (Or.inl rfl) (@bu _ _ _ _ _ _ _ _ _ (@b_abs _ _) (by rfl) T.b_abs ((@aY _ _ _ _ _ _ _ rfl (¬0) (¬2) (fun _ _=>rfl))∘ac) (by decide) (by decide) (by rfl) (by rfl)) (by rfl) (by trivial))
      (@af _ _ _ _ _ _ _ _ (@fj _ _ _ _ _ _ _ _ _ _ _ (@cU _ _ _ _ _ _ _ _ _ (@uh _ _) (¬3) (@wo _ _ _ _ _ _ _ ab ab) (bV _))
      (@aj _ _ _ _ _ (@e6 _ _ _ _ _ _ _ _ _ _ _ PassesOwn.never rfl (@cx _ _ _ _ _ _ _ rfl T.b_range (ab∘ac) (by rfl)) (@aH _ _ _ 4 _ nd rfl (Or.inl rfl) (by trivial))
      (@aj _ _ _ _ _ (@eZ _ _ _ _ _ (@dJ _ _ _ _ _ _ _ _ _ rfl (¬1) ((@aO _ _ _ _ _ _ _ _ _ _ _ _ _ _ _ hLmixed GLmixed (hr.mono (by decide)) ((@aO _ _ _ _ _ _ _ _ _ _ _ _ _ _ _ hLmixed GLmixed (hr.mono (by decide)) ((¬3)∘((@cw _ _ _ _ _ _ _ rfl (@df _ _ _ _ _ _ _ rfl ab (¬4)) ab)∘ac)) (by rfl) (by decide) (by rfl) (by rfl))∘((@cw _ _ _ _ _ _ _ rfl (@cw _ _ _ _ _ _ _ rfl (¬4) (¬2)) ab)∘ac)) (by rfl) (by decide) (by rfl) (by rfl))∘ac) (by rfl) (by rfl) (by rfl) (by rfl) (by rfl)) (by rfl))) (by intro _;rfl)))
      (@cc _ _))
      (@af _ _ _ _ _ _ _ _ (@ka _ _ _ _ _ _ _ _ _ PassesOwn.never (@vz _ _ _ _ (@sQ _ _ _ _ _ _ _ _ (@cU _ _ _ _ _ _ _ _ _ (@yS _ _) (¬3) (@wo _ _ _ _ _ _ _ ab ab) (bV _)) (@pA _ _ _ _ _ (@cU _ _ _ _ _ _ _ _ _ (@uh _ _) (@bu _ _ _ _ _ _ _ _ _ (@b_len _ _ rfl) (by rfl) T.b_len ((¬1)∘ac) (by decide) (by decide) (by rfl) (by rfl)) ab (bV _)))))
      (@af _ _ _ _ _ _ _ _ (@eZ _ _ _ _ _ (@dJ _ _ _ _ _ _ _ _ _ rfl (¬1) ((@aN _ _ _ _ _ _ _ (¬3) ab)∘ac) (by rfl) (by rfl) (by rfl) (by rfl) (by rfl)) (by rfl))
      (@aj _ _ _ _ _ (@aB _ _ _ _ _ 3 _ _ nd rfl (Or.inl rfl) (@dM _ _ _ _ _ _ _ (¬3) ab) (by rfl) (by trivial)))))
      (@aj _ _ _ _ _ (@fj _ _ _ _ _ _ _ _ _ _ _ (@cU _ _ _ _ _ _ _ _ _ (@yS _ _) (¬3) ab (bV _))
      (@aj _ _ _ _ _ (@eZ _ _ _ _ _ (@dJ _ _ _ _ _ _ _ _ _ rfl (¬1) ((@aN _ _ _ _ _ _ _ (¬3) ab)∘ac) (by rfl) (by rfl) (by rfl) (by rfl) (by rfl)) (by rfl)))
      (@cc _ _)))))) (by intro _;rfl))
      (@aj _ _ _ _ _ (@aK _ _ _ _ _ (¬1))))))
noncomputable def nP:FS:=(aL (kB (bh (aq (dD false) (ae 0) (eQ ai)))
    (bL (vC (.int 0)))
    fW)
    (bL (dj gX (ae 0) (aa (vC (.int 0)) ai))))
noncomputable def aX:FM:=hV 1 0 (([]++[])++[]) nP
theorem pH:ay ["_law_drawn"] ["_law_drawn"] (ah fV):=⟨rfl,rfl,rfl,by decide+kernel,rfl,by decide+kernel,by decide+kernel⟩
theorem uM(h:bi K mg "_law_next" fV f fd ["_law_drawn"])(T:jd mg):aF P w K mg base bU 1 f fd ["_law_drawn"] (bW K 1 aX):=by
  have nd:=pH.nd
  exact h.fn pH rfl rfl (fun cdv A outer s H E hr=>(@af _ _ _ _ _ _ _ _ (@fj _ _ _ _ _ _ _ _ _ _ _ (@cU _ _ _ _ _ _ _ _ _ (@pT _ _ _ rfl hr) (¬0) (@cu _ _ _ _ _ ac) (bV _))
      (@aj _ _ _ _ _ (@aK _ _ _ _ _ ab))
      (@cc _ _))
      (@aj _ _ _ _ _ (@aK _ _ _ _ _ (@vt _ _ _ _ _ _ _ _ _ rfl (¬0) (ab∘ac) (by rfl) (by rfl) (by rfl) (by rfl) (by rfl))))))
noncomputable def h9:FT:=(bh (aq (dD true) (ae 1) (vC (.int 0))))
noncomputable def js:FS:=(oF 0 1 (aa (ae 1) (aa (aq aT (ae 0) (ae 1)) ai)))
noncomputable def vY:FS:=(aL (hG (2 ^ 4200) h9 js)
    (bL (aP (g1 n6) (aa (ae 0) ai))))
noncomputable def mK:FM:=hV 2 0 ([0,1]++[]) vY
theorem ti:ay ["_law_one","_law_other"] ["_law_one","_law_other"] (ah mY):=⟨rfl,rfl,rfl,by decide+kernel,rfl,by decide+kernel,by decide+kernel⟩
theorem xi(h:bi K mg "_law_gcd" mY f fd ["_law_one","_law_other"])(T:jd mg):aF P w K mg base bU 1 f fd ["_law_one","_law_other"] (bW K 2 mK):=by
  have nd:=ti.nd
  exact h.fn ti rfl rfl (fun cdv A outer s H E hr=>(@af _ _ _ _ _ _ _ _ (@ka _ _ _ _ _ _ _ _ _ PassesOwn.never (@cU _ _ _ _ _ _ _ _ _ (@wL _ _ _ rfl hr) (¬1) ab (bV _))
      (@aj _ _ _ _ _ (@sP _ _ _ _ _ 0 1 _ _ _ _ _ _ _ _ _ rfl nd rfl rfl (by decide) rfl rfl ((¬1)∘((@aN _ _ _ _ _ _ _ (¬0) (¬1))∘ac)) (by rfl) (by rfl))))
      (@aj _ _ _ _ _ (@aK _ _ _ _ _ (@bu _ _ _ _ _ _ _ _ _ (@b_abs _ _) (by rfl) T.b_abs ((¬0)∘ac) (by decide) (by decide) (by rfl) (by rfl))))))
noncomputable def vZ:FS:=(aL (a7 2 (cz 2 mK (aa (ae 0) (aa (ae 1) ai))))
    (bL (cA (aa (aq cE (ae 0) (ae 2)) (aa (aq cE (ae 1) (ae 2)) ai)))))
noncomputable def gN:FM:=hV 2 1 ([2]++[]) vZ
theorem tj:ay ["_law_top","_law_bottom","_law_common"] ["_law_top","_law_bottom"] (ah kg):=⟨rfl,rfl,rfl,by decide+kernel,rfl,by decide+kernel,by decide+kernel⟩
theorem xj(h:bi K mg "_law_low" kg f fd ["_law_top","_law_bottom"])(T:jd mg){fLgcd:Addr}{eLgcd:FuncData}(hLgcd:bi K mg "_law_gcd" mY fLgcd eLgcd ["_law_one","_law_other"])(GLgcd:aF P w K mg base bU 1 fLgcd eLgcd ["_law_one","_law_other"] (bW K 2 mK)):aF P w K mg base bU 2 f fd ["_law_top","_law_bottom"] (bW K 2 gN):=by
  have nd:=tj.nd
  exact h.fn tj rfl rfl (fun cdv A outer s H E hr=>(@af _ _ _ _ _ _ _ _ (@aB _ _ _ _ _ 2 _ _ nd rfl (Or.inl rfl) (@aO _ _ _ _ _ _ _ _ _ _ _ _ _ _ _ hLgcd GLgcd (hr.mono (by decide)) ((¬0)∘((¬1)∘ac)) (by rfl) (by decide) (by rfl) (by rfl)) (by rfl) (by trivial))
      (@aj _ _ _ _ _ (@aK _ _ _ _ _ (@aZ _ _ _ _ _ _ ((@dM _ _ _ _ _ _ _ (¬0) (¬2))∘((@dM _ _ _ _ _ _ _ (¬1) (¬2))∘ac)))))))
noncomputable def oY:FS:=(bL (cz 2 gN (aa (aq bO (aq bY (ae 0) (vC (.int 0))) (aq bY (ae 1) (vC (.int 0)))) (aa (aq bO (aq bY (ae 0) (vC (.int 1))) (aq bY (ae 1) (vC (.int 1)))) ai))))
noncomputable def gw:FM:=hV 2 0 [] oY
theorem m7:ay ["_law_one","_law_other"] ["_law_one","_law_other"] (ah iB):=⟨rfl,rfl,rfl,by decide+kernel,rfl,by decide+kernel,by decide+kernel⟩
theorem r9(h:bi K mg "_law_times" iB f fd ["_law_one","_law_other"])(T:jd mg){fLlow:Addr}{eLlow:FuncData}(hLlow:bi K mg "_law_low" kg fLlow eLlow ["_law_top","_law_bottom"])(GLlow:aF P w K mg base bU 2 fLlow eLlow ["_law_top","_law_bottom"] (bW K 2 gN)):aF P w K mg base bU 3 f fd ["_law_one","_law_other"] (bW K 2 gw):=by
  have nd:=m7.nd
  exact h.fn m7 rfl rfl (fun cdv A outer s H E hr=>(@aj _ _ _ _ _ (@aK _ _ _ _ _ (@aO _ _ _ _ _ _ _ _ _ _ _ _ _ _ _ hLlow GLlow (hr.mono (by decide)) ((@df _ _ _ _ _ _ _ rfl (@aY _ _ _ _ _ _ _ rfl (¬0) ab (fun _ _=>rfl)) (@aY _ _ _ _ _ _ _ rfl (¬1) ab (fun _ _=>rfl)))∘((@df _ _ _ _ _ _ _ rfl (@aY _ _ _ _ _ _ _ rfl (¬0) ab (fun _ _=>rfl)) (@aY _ _ _ _ _ _ _ rfl (¬1) ab (fun _ _=>rfl)))∘ac)) (by rfl) (by decide) (by rfl) (by rfl)))))
noncomputable def qE:FS:=(bL (aq uu (aq bO (aq bY (ae 0) (vC (.int 0))) (aq bY (ae 1) (vC (.int 1)))) (aq bO (aq bY (ae 1) (vC (.int 0))) (aq bY (ae 0) (vC (.int 1))))))
noncomputable def fM:FM:=hV 2 0 [] qE
theorem pG:ay ["_law_one","_law_other"] ["_law_one","_law_other"] (ah kf):=⟨rfl,rfl,rfl,by decide+kernel,rfl,by decide+kernel,by decide+kernel⟩
theorem uL(h:bi K mg "_law_less" kf f fd ["_law_one","_law_other"])(T:jd mg):aF P w K mg base bU 1 f fd ["_law_one","_law_other"] (bW K 2 fM):=by
  have nd:=pG.nd
  exact h.fn pG rfl rfl (fun cdv A outer s H E hr=>(@aj _ _ _ _ _ (@aK _ _ _ _ _ (@sL _ _ _ _ _ _ _ _ _ (@uh _ _) (@df _ _ _ _ _ _ _ rfl (@aY _ _ _ _ _ _ _ rfl (¬0) ab (fun _ _=>rfl)) (@aY _ _ _ _ _ _ _ rfl (¬1) ab (fun _ _=>rfl))) (@df _ _ _ _ _ _ _ rfl (@aY _ _ _ _ _ _ _ rfl (¬1) ab (fun _ _=>rfl)) (@aY _ _ _ _ _ _ _ rfl (¬0) ab (fun _ _=>rfl))) (bV _)))))
noncomputable def qF:FS:=(bL (aq (dD false) (aP (g1 fH) (aa (ae 0) ai)) (aP (g1 fH) (aa (ae 1) ai))))
noncomputable def gU:FM:=hV 2 0 [] qF
theorem pI:ay ["_law_found","_law_due"] ["_law_found","_law_due"] (ah kh):=⟨rfl,rfl,rfl,by decide+kernel,rfl,by decide+kernel,by decide+kernel⟩
theorem uO(h:bi K mg "_law_same" kh f fd ["_law_found","_law_due"])(T:jd mg):aF P w K mg base bU 1 f fd ["_law_found","_law_due"] (bW K 2 gU):=by
  have nd:=pI.nd
  exact h.fn pI rfl rfl (fun cdv A outer s H E hr=>(@aj _ _ _ _ _ (@aK _ _ _ _ _ (@sL _ _ _ _ _ _ _ _ _ (@pT _ _ _ rfl hr) (@bu _ _ _ _ _ _ _ _ _ (@b_repr _ _ _ rfl hr) (by rfl) T.b_repr ((¬0)∘ac) (by decide) (by decide) (by rfl) (by rfl)) (@bu _ _ _ _ _ _ _ _ _ (@b_repr _ _ _ rfl hr) (by rfl) T.b_repr ((¬1)∘ac) (by decide) (by decide) (by rfl) (by rfl)) (bV _)))))
noncomputable def fB:FS:=(aL (kB (bh (aq (dD false) (ae 1) (vC (.int 0))))
    (bL (aq bY (eQ (aa (cA (aa (vC (.int 1)) (aa (vC (.int 2)) ai))) (aa (cA (aa (vC (.int 1)) (aa (vC (.int 3)) ai))) (aa (cA (aa (vC (.int 2)) (aa (vC (.int 3)) ai))) (aa (cA (aa (vC (.int 1)) (aa (vC (.int 1)) ai))) (aa (cA (aa (vC (.int 0)) (aa (vC (.int 1)) ai))) (aa (cA (aa (vC (.int 3)) (aa (vC (.int 4)) ai))) ai))))))) (aq aT (ae 0) (vC (.int 6)))))
    fW)
    (aL (kB (bh (aq (dD false) (ae 1) (vC (.int 1))))
    (aL (a7 2 (aq c8 (vC (.int 2)) (aq aT (ae 0) (vC (.int 9)))))
    (bL (cz 2 gN (aa (aq c8 (vC (.int 1)) (aq aT (aq cE (ae 0) (vC (.int 9))) (aq iP (ae 2) (vC (.int 1))))) (aa (ae 2) ai)))))
    fW)
    (aL (kB (bh (aq (dD false) (ae 1) (vC (.int 2))))
    (aL (a7 2 (aq c8 (vC (.int 1)) (aq aT (ae 0) (vC (.int 100)))))
    (bL (cz 2 gN (aa (aq aT (aq cE (ae 0) (vC (.int 100))) (aq c8 (ae 2) (vC (.int 1)))) (aa (ae 2) ai)))))
    fW)
    (bL (cA (aa (vC (.int 1)) (aa (vC (.int 1)) ai)))))))
noncomputable def c_:FM:=hV 2 1 (([]++[])++((([2]++[])++[])++((([2]++[])++[])++[]))) fB
theorem lm:ay ["_law_number","_law_kind","_law_bottom"] ["_law_number","_law_kind"] (ah fU):=⟨rfl,rfl,rfl,by decide+kernel,rfl,by decide+kernel,by decide+kernel⟩
theorem qe(h:bi K mg "_law_chance" fU f fd ["_law_number","_law_kind"])(T:jd mg){fLlow:Addr}{eLlow:FuncData}(hLlow:bi K mg "_law_low" kg fLlow eLlow ["_law_top","_law_bottom"])(GLlow:aF P w K mg base bU 2 fLlow eLlow ["_law_top","_law_bottom"] (bW K 2 gN)):aF P w K mg base bU 3 f fd ["_law_number","_law_kind"] (bW K 2 c_):=by
  have nd:=lm.nd
  exact h.fn lm rfl rfl (fun cdv A outer s H E hr=>(@af _ _ _ _ _ _ _ _ (@fj _ _ _ _ _ _ _ _ _ _ _ (@cU _ _ _ _ _ _ _ _ _ (@pT _ _ _ rfl hr) (¬1) ab (bV _))
      (@aj _ _ _ _ _ (@aK _ _ _ _ _ (@aY _ _ _ _ _ _ _ rfl (@cu _ _ _ _ _ ((@aZ _ _ _ _ _ _ (ab∘(ab∘ac)))∘((@aZ _ _ _ _ _ _ (ab∘(ab∘ac)))∘((@aZ _ _ _ _ _ _ (ab∘(ab∘ac)))∘((@aZ _ _ _ _ _ _ (ab∘(ab∘ac)))∘((@aZ _ _ _ _ _ _ (ab∘(ab∘ac)))∘((@aZ _ _ _ _ _ _ (ab∘(ab∘ac)))∘ac))))))) (@aN _ _ _ _ _ _ _ (¬0) ab) (fun _ _=>rfl))))
      (@cc _ _))
      (@af _ _ _ _ _ _ _ _ (@fj _ _ _ _ _ _ _ _ _ _ _ (@cU _ _ _ _ _ _ _ _ _ (@pT _ _ _ rfl hr) (¬1) ab (bV _))
      (@af _ _ _ _ _ _ _ _ (@aB _ _ _ _ _ 2 _ _ nd rfl (Or.inl rfl) (@cw _ _ _ _ _ _ _ rfl ab (@aN _ _ _ _ _ _ _ (¬0) ab)) (by rfl) (by trivial))
      (@aj _ _ _ _ _ (@aK _ _ _ _ _ (@aO _ _ _ _ _ _ _ _ _ _ _ _ _ _ _ hLlow GLlow (hr.mono (by decide)) ((@cw _ _ _ _ _ _ _ rfl ab (@aN _ _ _ _ _ _ _ (@dM _ _ _ _ _ _ _ (¬0) ab) (@sM _ _ _ _ _ _ _ (¬2) ab)))∘((¬2)∘ac)) (by rfl) (by decide) (by rfl) (by rfl)))))
      (@cc _ _))
      (@af _ _ _ _ _ _ _ _ (@fj _ _ _ _ _ _ _ _ _ _ _ (@cU _ _ _ _ _ _ _ _ _ (@pT _ _ _ rfl hr) (¬1) ab (bV _))
      (@af _ _ _ _ _ _ _ _ (@aB _ _ _ _ _ 2 _ _ nd rfl (Or.inl rfl) (@cw _ _ _ _ _ _ _ rfl ab (@aN _ _ _ _ _ _ _ (¬0) ab)) (by rfl) (by trivial))
      (@aj _ _ _ _ _ (@aK _ _ _ _ _ (@aO _ _ _ _ _ _ _ _ _ _ _ _ _ _ _ hLlow GLlow (hr.mono (by decide)) ((@aN _ _ _ _ _ _ _ (@dM _ _ _ _ _ _ _ (¬0) ab) (@cw _ _ _ _ _ _ _ rfl (¬2) ab))∘((¬2)∘ac)) (by rfl) (by decide) (by rfl) (by rfl)))))
      (@cc _ _))
      (@aj _ _ _ _ _ (@aK _ _ _ _ _ (@aZ _ _ _ _ _ _ (ab∘(ab∘ac)))))))))
noncomputable def oZ:FS:=(bL (aq bY (eQ (aa (aq aT (ae 0) (vC (.int 7))) (aa (aq c8 (vC (.int 5)) (aq aT (ae 0) (vC (.int 2)))) (aa (aq aT (ae 0) (vC (.int 1001))) (aa (aq iP (vC (.int 1000)) (aq aT (ae 0) (vC (.int 3)))) ai))))) (aq aT (ae 1) (vC (.int 4)))))
noncomputable def ir:FM:=hV 2 0 [] oZ
theorem m8:ay ["_law_number","_law_kind"] ["_law_number","_law_kind"] (ah iC):=⟨rfl,rfl,rfl,by decide+kernel,rfl,by decide+kernel,by decide+kernel⟩
theorem r_(h:bi K mg "_law_worth" iC f fd ["_law_number","_law_kind"])(T:jd mg):aF P w K mg base bU 1 f fd ["_law_number","_law_kind"] (bW K 2 ir):=by
  have nd:=m8.nd
  exact h.fn m8 rfl rfl (fun cdv A outer s H E hr=>(@aj _ _ _ _ _ (@aK _ _ _ _ _ (@aY _ _ _ _ _ _ _ rfl (@cu _ _ _ _ _ ((@aN _ _ _ _ _ _ _ (¬0) ab)∘((@cw _ _ _ _ _ _ _ rfl ab (@aN _ _ _ _ _ _ _ (¬0) ab))∘((@aN _ _ _ _ _ _ _ (¬0) ab)∘((@sM _ _ _ _ _ _ _ ab (@aN _ _ _ _ _ _ _ (¬0) ab))∘ac))))) (@aN _ _ _ _ _ _ _ (¬1) ab) (fun _ _=>rfl)))))
noncomputable def jW:FI:=(b_ (aa (ae 2) ai))
noncomputable def eC:FS:=(aL (a7 8 (cz 1 aX (aa (ae 0) ai)))
    (aL (a7 9 (aq bY (eQ (aa (aq aT (ae 8) (ae 1)) (aa (vC (.int 0)) (aa (aq aT (ae 7) (ae 1)) (aa (aq aT (ae 8) (ae 1)) (aa (aq aT (ae 8) (vC (.int 2))) (aa (aq aT (ae 8) (ae 1)) ai))))))) (ae 3)))
    (aL (a7 10 (aq aT (aq c8 (aq c8 (ae 9) (vC (.int 1))) (aq aT (aq cE (ae 8) (vC (.int 12))) (aq iP (ae 1) (vC (.int 1))))) (ae 1)))
    (aL (kB (bh (aq (dD false) (ae 3) (vC (.int 4))))
    (ql (cA (aa (vC (.int 0)) (aa (vC (.int 1)) ai))) (bP (ar (ag 9) (ar (ag 10) bG))))
    fW)
    (aL (a7 11 (cz 1 aX (aa (ae 0) ai)))
    (aL (a7 12 (cA (aa (aP (g2 ri) (aa (ae 9) (aa (ae 10) ai))) (aa (aP (g2 p7) (aa (ae 9) (aa (ae 10) ai))) ai))))
    (fR (dj bT (ae 6) (aa (aq c8 (ae 12) (cA (aa (cz 2 c_ (aa (ae 11) (aa (ae 4) ai))) (aa (cz 2 ir (aa (aq cE (ae 11) (vC (.int 10007))) (aa (ae 5) ai))) ai)))) ai)))))))))
noncomputable def qG:FS:=(aL (a7 3 (aq aT (cz 1 aX (aa (ae 0) ai)) (vC (.int 6))))
    (aL (a7 4 (aq aT (cz 1 aX (aa (ae 0) ai)) (vC (.int 4))))
    (aL (a7 5 (aq aT (cz 1 aX (aa (ae 0) ai)) (vC (.int 4))))
    (aL (a7 6 (eQ ai))
    (aL (dU ([7]++([8]++([9]++([10]++((([9]++([10]++[]))++[])++([11]++([12]++[]))))))) jW (ag 7) eC)
    (bL (aP (g1 cF) (aa (ae 6) ai))))))))
noncomputable def gW:FM:=hV 3 10 ([3]++([4]++([5]++([6]++(([7]++([8]++([9]++([10]++((([9]++([10]++[]))++[])++([11]++([12]++[])))))))++[]))))) qG
theorem pJ:ay ["_law_drawn","_law_things","_law_many","_law_shape","_law_odds","_law_worths","_law_found","_law_k","_law_number","_law_one","_law_other","_law_cell","_law_ends"] ["_law_drawn","_law_things","_law_many"] (ah i9):=⟨rfl,rfl,rfl,by decide+kernel,rfl,by decide+kernel,by decide+kernel⟩
theorem uP(h:bi K mg "_law_ties" i9 f fd ["_law_drawn","_law_things","_law_many"])(T:jd mg){fLnext:Addr}{eLnext:FuncData}(hLnext:bi K mg "_law_next" fV fLnext eLnext ["_law_drawn"])(GLnext:aF P w K mg base bU 1 fLnext eLnext ["_law_drawn"] (bW K 1 aX)){fLchance:Addr}{eLchance:FuncData}(hLchance:bi K mg "_law_chance" fU fLchance eLchance ["_law_number","_law_kind"])(GLchance:aF P w K mg base bU 3 fLchance eLchance ["_law_number","_law_kind"] (bW K 2 c_)){fLworth:Addr}{eLworth:FuncData}(hLworth:bi K mg "_law_worth" iC fLworth eLworth ["_law_number","_law_kind"])(GLworth:aF P w K mg base bU 1 fLworth eLworth ["_law_number","_law_kind"] (bW K 2 ir)):aF P w K mg base bU 4 f fd ["_law_drawn","_law_things","_law_many"] (bW K 3 gW):=by
  have nd:=pJ.nd
  exact h.fn pJ rfl rfl (fun cdv A outer s H E hr=>(@af _ _ _ _ _ _ _ _ (@aB _ _ _ _ _ 3 _ _ nd rfl (Or.inl rfl) (@aN _ _ _ _ _ _ _ (@aO _ _ _ _ _ _ _ _ _ _ _ _ _ _ _ hLnext GLnext (hr.mono (by decide)) ((¬0)∘ac) (by rfl) (by decide) (by rfl) (by rfl)) ab) (by rfl) (by trivial))
      (@af _ _ _ _ _ _ _ _ (@aB _ _ _ _ _ 4 _ _ nd rfl (Or.inl rfl) (@aN _ _ _ _ _ _ _ (@aO _ _ _ _ _ _ _ _ _ _ _ _ _ _ _ hLnext GLnext (hr.mono (by decide)) ((¬0)∘ac) (by rfl) (by decide) (by rfl) (by rfl)) ab) (by rfl) (by trivial))
      (@af _ _ _ _ _ _ _ _ (@aB _ _ _ _ _ 5 _ _ nd rfl (Or.inl rfl) (@aN _ _ _ _ _ _ _ (@aO _ _ _ _ _ _ _ _ _ _ _ _ _ _ _ hLnext GLnext (hr.mono (by decide)) ((¬0)∘ac) (by rfl) (by decide) (by rfl) (by rfl)) ab) (by rfl) (by trivial))
      (@af _ _ _ _ _ _ _ _ (@aB _ _ _ _ _ 6 _ _ nd rfl (Or.inl rfl) (@cu _ _ _ _ _ ac) (by rfl) (by trivial))
      (@af _ _ _ _ _ _ _ _ (@e6 _ _ _ _ _ _ _ _ _ _ _ PassesOwn.never rfl (@cx _ _ _ _ _ _ _ rfl T.b_range ((¬2)∘ac) (by rfl)) (@aH _ _ _ 7 _ nd rfl (Or.inl rfl) (by trivial))
      (@af _ _ _ _ _ _ _ _ (@aB _ _ _ _ _ 8 _ _ nd rfl (Or.inl rfl) (@aO _ _ _ _ _ _ _ _ _ _ _ _ _ _ _ hLnext GLnext (hr.mono (by decide)) ((¬0)∘ac) (by rfl) (by decide) (by rfl) (by rfl)) (by rfl) (by trivial))
      (@af _ _ _ _ _ _ _ _ (@aB _ _ _ _ _ 9 _ _ nd rfl (Or.inl rfl) (@aY _ _ _ _ _ _ _ rfl (@cu _ _ _ _ _ ((@aN _ _ _ _ _ _ _ (¬8) (¬1))∘(ab∘((@aN _ _ _ _ _ _ _ (¬7) (¬1))∘((@aN _ _ _ _ _ _ _ (¬8) (¬1))∘((@aN _ _ _ _ _ _ _ (¬8) ab)∘((@aN _ _ _ _ _ _ _ (¬8) (¬1))∘ac))))))) (¬3) (fun _ _=>rfl)) (by rfl) (by trivial))
      (@af _ _ _ _ _ _ _ _ (@aB _ _ _ _ _ 10 _ _ nd rfl (Or.inl rfl) (@aN _ _ _ _ _ _ _ (@cw _ _ _ _ _ _ _ rfl (@cw _ _ _ _ _ _ _ rfl (¬9) ab) (@aN _ _ _ _ _ _ _ (@dM _ _ _ _ _ _ _ (¬8) ab) (@sM _ _ _ _ _ _ _ (¬1) ab))) (¬1)) (by rfl) (by trivial))
      (@af _ _ _ _ _ _ _ _ (@fj _ _ _ _ _ _ _ _ _ _ _ (@cU _ _ _ _ _ _ _ _ _ (@pT _ _ _ rfl hr) (¬3) ab (bV _))
      (@aj _ _ _ _ _ (@xW _ _ _ _ _ _ _ _ (@aZ _ _ _ _ _ _ (ab∘(ab∘ac))) (@i7 _ _ _ _ _ _ _ _ rfl rfl (@bH _ _ _ _ _ _ _ _ (@aH _ _ _ 9 _ nd rfl (Or.inl rfl) (by trivial)) (@bH _ _ _ _ _ _ _ _ (@aH _ _ _ 10 _ nd rfl (Or.inl rfl) (by trivial)) (@gz _ _) (by rfl)) (by rfl)) (b7 (b7 iR)) (by rfl) (by rfl)) (by rfl) (by rfl) (by rfl)))
      (@cc _ _))
      (@af _ _ _ _ _ _ _ _ (@aB _ _ _ _ _ 11 _ _ nd rfl (Or.inl rfl) (@aO _ _ _ _ _ _ _ _ _ _ _ _ _ _ _ hLnext GLnext (hr.mono (by decide)) ((¬0)∘ac) (by rfl) (by decide) (by rfl) (by rfl)) (by rfl) (by trivial))
      (@af _ _ _ _ _ _ _ _ (@aB _ _ _ _ _ 12 _ _ nd rfl (Or.inl rfl) (@aZ _ _ _ _ _ _ ((@bu _ _ _ _ _ _ _ _ _ (@b_min _ _ rfl) (by rfl) T.b_min ((¬9)∘((¬10)∘ac)) (by decide) (by decide) (by rfl) (by rfl))∘((@bu _ _ _ _ _ _ _ _ _ (@b_max _ _ rfl) (by rfl) T.b_max ((¬9)∘((¬10)∘ac)) (by decide) (by decide) (by rfl) (by rfl))∘ac))) (by rfl) (by trivial))
      (@aj _ _ _ _ _ (@eZ _ _ _ _ _ (@dJ _ _ _ _ _ _ _ _ _ rfl (¬6) ((@cw _ _ _ _ _ _ _ rfl (¬12) (@aZ _ _ _ _ _ _ ((@aO _ _ _ _ _ _ _ _ _ _ _ _ _ _ _ hLchance GLchance (hr.mono (by decide)) ((¬11)∘((¬4)∘ac)) (by rfl) (by decide) (by rfl) (by rfl))∘((@aO _ _ _ _ _ _ _ _ _ _ _ _ _ _ _ hLworth GLworth (hr.mono (by decide)) ((@dM _ _ _ _ _ _ _ (¬11) ab)∘((¬5)∘ac)) (by rfl) (by decide) (by rfl) (by rfl))∘ac))))∘ac) (by rfl) (by rfl) (by rfl) (by rfl) (by rfl)) (by rfl))))))))) (by intro _;rfl))
      (@aj _ _ _ _ _ (@aK _ _ _ _ _ (@bu _ _ _ _ _ _ _ _ _ (@b_tuple _ _ rfl) (by rfl) T.b_tuple ((¬6)∘ac) (by decide) (by decide) (by rfl) (by rfl))))))))))
noncomputable def lZ:FI:=(b_ (aa (ae 3) ai))
noncomputable def jt:FS:=(fR (dj bT (ae 7) (aa (aq bY (eQ (aa (vC (.int 20)) (aa (aq c8 (vC (.int 1)) (aq aT (cz 1 aX (aa (ae 0) ai)) (vC (.int 3)))) (aa (aq aT (cz 1 aX (aa (ae 0) ai)) (vC (.int 21))) ai)))) (ae 6)) ai)))
noncomputable def v0:FS:=(aL (a7 3 (aq aT (cz 1 aX (aa (ae 0) ai)) (aq c8 (ae 1) (vC (.int 1)))))
    (aL (a7 4 (aq bO (aq aT (cz 1 aX (aa (ae 0) ai)) (aq c8 (ae 2) (vC (.int 1)))) (aP (g1 p6) (aa (aq z8 (ae 3) (vC (.int 1))) ai))))
    (aL (a7 5 (cz 3 gW (aa (ae 0) (aa (aP (g2 p7) (aa (vC (.int 2)) (aa (ae 3) ai))) (aa (ae 4) ai)))))
    (aL (a7 6 (aq aT (cz 1 aX (aa (ae 0) ai)) (vC (.int 3))))
    (aL (a7 7 (eQ ai))
    (aL (dU ([8]++[]) lZ (ag 8) jt)
    (aL (a7 9 (aq bY (eQ (aa (vC (.int 40)) (aa (aq c8 (vC (.int 1)) (aq aT (cz 1 aX (aa (ae 0) ai)) (aP (g2 p7) (aa (vC (.int 1)) (aa (ae 4) ai))))) (aa (aq aT (cz 1 aX (aa (ae 0) ai)) (vC (.int 41))) ai)))) (aq aT (cz 1 aX (aa (ae 0) ai)) (vC (.int 3)))))
    (bL (cA (aa (ae 3) (aa (ae 5) (aa (aP (g1 cF) (aa (ae 7) ai)) (aa (ae 9) ai)))))))))))))
noncomputable def mL:FM:=hV 3 7 ([3]++([4]++([5]++([6]++([7]++(([8]++[])++([9]++[]))))))) v0
theorem tu:ay ["_law_drawn","_law_most","_law_ties_here","_law_things","_law_many","_law_rows","_law_way","_law_patience","_law_k","_law_asks"] ["_law_drawn","_law_most","_law_ties_here"] (ah mZ):=⟨rfl,rfl,rfl,by decide+kernel,rfl,by decide+kernel,by decide+kernel⟩
theorem xk(h:bi K mg "_law_web" mZ f fd ["_law_drawn","_law_most","_law_ties_here"])(T:jd mg){fLties:Addr}{eLties:FuncData}(hLties:bi K mg "_law_ties" i9 fLties eLties ["_law_drawn","_law_things","_law_many"])(GLties:aF P w K mg base bU 4 fLties eLties ["_law_drawn","_law_things","_law_many"] (bW K 3 gW)){fLnext:Addr}{eLnext:FuncData}(hLnext:bi K mg "_law_next" fV fLnext eLnext ["_law_drawn"])(GLnext:aF P w K mg base bU 1 fLnext eLnext ["_law_drawn"] (bW K 1 aX)):aF P w K mg base bU 5 f fd ["_law_drawn","_law_most","_law_ties_here"] (bW K 3 mL):=by
  have nd:=tu.nd
  exact h.fn tu rfl rfl (fun cdv A outer s H E hr=>(@af _ _ _ _ _ _ _ _ (@aB _ _ _ _ _ 3 _ _ nd rfl (Or.inl rfl) (@aN _ _ _ _ _ _ _ (@aO _ _ _ _ _ _ _ _ _ _ _ _ _ _ _ hLnext GLnext (hr.mono (by decide)) ((¬0)∘ac) (by rfl) (by decide) (by rfl) (by rfl)) (@cw _ _ _ _ _ _ _ rfl (¬1) ab)) (by rfl) (by trivial))
      (@af _ _ _ _ _ _ _ _ (@aB _ _ _ _ _ 4 _ _ nd rfl (Or.inl rfl) (@df _ _ _ _ _ _ _ rfl (@aN _ _ _ _ _ _ _ (@aO _ _ _ _ _ _ _ _ _ _ _ _ _ _ _ hLnext GLnext (hr.mono (by decide)) ((¬0)∘ac) (by rfl) (by decide) (by rfl) (by rfl)) (@cw _ _ _ _ _ _ _ rfl (¬2) ab)) (@bu _ _ _ _ _ _ _ _ _ (@b_int _ _) (by rfl) T.b_int ((@sL _ _ _ _ _ _ _ _ _ (@Ak _ _) (¬3) ab (bV _))∘ac) (by decide) (by decide) (by rfl) (by rfl))) (by rfl) (by trivial))
      (@af _ _ _ _ _ _ _ _ (@aB _ _ _ _ _ 5 _ _ nd rfl (Or.inl rfl) (@aO _ _ _ _ _ _ _ _ _ _ _ _ _ _ _ hLties GLties (hr.mono (by decide)) ((¬0)∘((@bu _ _ _ _ _ _ _ _ _ (@b_max _ _ rfl) (by rfl) T.b_max (ab∘((¬3)∘ac)) (by decide) (by decide) (by rfl) (by rfl))∘((¬4)∘ac))) (by rfl) (by decide) (by rfl) (by rfl)) (by rfl) (by trivial))
      (@af _ _ _ _ _ _ _ _ (@aB _ _ _ _ _ 6 _ _ nd rfl (Or.inl rfl) (@aN _ _ _ _ _ _ _ (@aO _ _ _ _ _ _ _ _ _ _ _ _ _ _ _ hLnext GLnext (hr.mono (by decide)) ((¬0)∘ac) (by rfl) (by decide) (by rfl) (by rfl)) ab) (by rfl) (by trivial))
      (@af _ _ _ _ _ _ _ _ (@aB _ _ _ _ _ 7 _ _ nd rfl (Or.inl rfl) (@cu _ _ _ _ _ ac) (by rfl) (by trivial))
      (@af _ _ _ _ _ _ _ _ (@e6 _ _ _ _ _ _ _ _ _ _ _ PassesOwn.never rfl (@cx _ _ _ _ _ _ _ rfl T.b_range ((¬3)∘ac) (by rfl)) (@aH _ _ _ 8 _ nd rfl (Or.inl rfl) (by trivial))
      (@aj _ _ _ _ _ (@eZ _ _ _ _ _ (@dJ _ _ _ _ _ _ _ _ _ rfl (¬7) ((@aY _ _ _ _ _ _ _ rfl (@cu _ _ _ _ _ (ab∘((@cw _ _ _ _ _ _ _ rfl ab (@aN _ _ _ _ _ _ _ (@aO _ _ _ _ _ _ _ _ _ _ _ _ _ _ _ hLnext GLnext (hr.mono (by decide)) ((¬0)∘ac) (by rfl) (by decide) (by rfl) (by rfl)) ab))∘((@aN _ _ _ _ _ _ _ (@aO _ _ _ _ _ _ _ _ _ _ _ _ _ _ _ hLnext GLnext (hr.mono (by decide)) ((¬0)∘ac) (by rfl) (by decide) (by rfl) (by rfl)) ab)∘ac)))) (¬6) (fun _ _=>rfl))∘ac) (by rfl) (by rfl) (by rfl) (by rfl) (by rfl)) (by rfl))) (by intro _;rfl))
      (@af _ _ _ _ _ _ _ _ (@aB _ _ _ _ _ 9 _ _ nd rfl (Or.inl rfl) (@aY _ _ _ _ _ _ _ rfl (@cu _ _ _ _ _ (ab∘((@cw _ _ _ _ _ _ _ rfl ab (@aN _ _ _ _ _ _ _ (@aO _ _ _ _ _ _ _ _ _ _ _ _ _ _ _ hLnext GLnext (hr.mono (by decide)) ((¬0)∘ac) (by rfl) (by decide) (by rfl) (by rfl)) (@bu _ _ _ _ _ _ _ _ _ (@b_max _ _ rfl) (by rfl) T.b_max (ab∘((¬4)∘ac)) (by decide) (by decide) (by rfl) (by rfl))))∘((@aN _ _ _ _ _ _ _ (@aO _ _ _ _ _ _ _ _ _ _ _ _ _ _ _ hLnext GLnext (hr.mono (by decide)) ((¬0)∘ac) (by rfl) (by decide) (by rfl) (by rfl)) ab)∘ac)))) (@aN _ _ _ _ _ _ _ (@aO _ _ _ _ _ _ _ _ _ _ _ _ _ _ _ hLnext GLnext (hr.mono (by decide)) ((¬0)∘ac) (by rfl) (by decide) (by rfl) (by rfl)) ab) (fun _ _=>rfl)) (by rfl) (by trivial))
      (@aj _ _ _ _ _ (@aK _ _ _ _ _ (@aZ _ _ _ _ _ _ ((¬3)∘((¬5)∘((@bu _ _ _ _ _ _ _ _ _ (@b_tuple _ _ rfl) (by rfl) T.b_tuple ((¬7)∘ac) (by decide) (by decide) (by rfl) (by rfl))∘((¬9)∘ac)))))))))))))))
noncomputable def qH:FS:=(aL (a7 2 (aq bY (eQ (aa (vC (.int 2)) (aa (vC (.int 4)) (aa (vC (.int 7)) (aa (vC (.int 12)) ai))))) (aq aT (cz 1 aX (aa (ae 0) ai)) (vC (.int 4)))))
    (aL (a7 3 (cz 3 gW (aa (ae 0) (aa (ae 2) (aa (ae 1) ai)))))
    (aL (a7 4 (aq aT (cz 1 aX (aa (ae 0) ai)) (vC (.int 3))))
    (bL (cA (aa (ae 2) (aa (ae 3) (aa (aq bO (cA (aa (aq bY (eQ (aa (vC (.int 20)) (aa (vC (.int 1)) (aa (vC (.int 2)) ai)))) (ae 4)) ai)) (ae 2)) (aa (aq bY (eQ (aa (vC (.int 40)) (aa (vC (.int 40)) (aa (aq cE (ae 1) (vC (.int 2))) ai)))) (ae 4)) ai)))))))))
noncomputable def j3:FM:=hV 2 3 ([2]++([3]++([4]++[]))) qH
theorem pK:ay ["_law_drawn","_law_many","_law_things","_law_rows","_law_way"] ["_law_drawn","_law_many"] (ah ki):=⟨rfl,rfl,rfl,by decide+kernel,rfl,by decide+kernel,by decide+kernel⟩
theorem uQ(h:bi K mg "_law_wide" ki f fd ["_law_drawn","_law_many"])(T:jd mg){fLties:Addr}{eLties:FuncData}(hLties:bi K mg "_law_ties" i9 fLties eLties ["_law_drawn","_law_things","_law_many"])(GLties:aF P w K mg base bU 4 fLties eLties ["_law_drawn","_law_things","_law_many"] (bW K 3 gW)){fLnext:Addr}{eLnext:FuncData}(hLnext:bi K mg "_law_next" fV fLnext eLnext ["_law_drawn"])(GLnext:aF P w K mg base bU 1 fLnext eLnext ["_law_drawn"] (bW K 1 aX)):aF P w K mg base bU 5 f fd ["_law_drawn","_law_many"] (bW K 2 j3):=by
  have nd:=pK.nd
  exact h.fn pK rfl rfl (fun cdv A outer s H E hr=>(@af _ _ _ _ _ _ _ _ (@aB _ _ _ _ _ 2 _ _ nd rfl (Or.inl rfl) (@aY _ _ _ _ _ _ _ rfl (@cu _ _ _ _ _ (ab∘(ab∘(ab∘(ab∘ac))))) (@aN _ _ _ _ _ _ _ (@aO _ _ _ _ _ _ _ _ _ _ _ _ _ _ _ hLnext GLnext (hr.mono (by decide)) ((¬0)∘ac) (by rfl) (by decide) (by rfl) (by rfl)) ab) (fun _ _=>rfl)) (by rfl) (by trivial))
      (@af _ _ _ _ _ _ _ _ (@aB _ _ _ _ _ 3 _ _ nd rfl (Or.inl rfl) (@aO _ _ _ _ _ _ _ _ _ _ _ _ _ _ _ hLties GLties (hr.mono (by decide)) ((¬0)∘((¬2)∘((¬1)∘ac))) (by rfl) (by decide) (by rfl) (by rfl)) (by rfl) (by trivial))
      (@af _ _ _ _ _ _ _ _ (@aB _ _ _ _ _ 4 _ _ nd rfl (Or.inl rfl) (@aN _ _ _ _ _ _ _ (@aO _ _ _ _ _ _ _ _ _ _ _ _ _ _ _ hLnext GLnext (hr.mono (by decide)) ((¬0)∘ac) (by rfl) (by decide) (by rfl) (by rfl)) ab) (by rfl) (by trivial))
      (@aj _ _ _ _ _ (@aK _ _ _ _ _ (@aZ _ _ _ _ _ _ ((¬2)∘((¬3)∘((@df _ _ _ _ _ _ _ rfl (@aZ _ _ _ _ _ _ ((@aY _ _ _ _ _ _ _ rfl (@cu _ _ _ _ _ (ab∘(ab∘(ab∘ac)))) (¬4) (fun _ _=>rfl))∘ac)) (¬2))∘((@aY _ _ _ _ _ _ _ rfl (@cu _ _ _ _ _ (ab∘(ab∘((@dM _ _ _ _ _ _ _ (¬1) ab)∘ac)))) (¬4) (fun _ _=>rfl))∘ac)))))))))))
noncomputable def cg:FI:=(fv (aP (g1 cQ) (aa (ae 1) ai)))
noncomputable def ba:FE:=(ae 1)
noncomputable def bB:FI:=(b_ (aa (ae 2) ai))
noncomputable def aD:FT:=(ny (jb (bh (cz 2 fM (aa (ae 0) (aa (aq bY (ae 1) (ae 2)) ai))))) (jb (bh (cz 2 fM (aa (aq bY (ae 1) (ae 2)) (aa (ae 0) ai))))))
noncomputable def bc:FE:=(ae 2)
noncomputable def bD:FI:=(b_ (aa (aP (g1 iO) (aa (ae 0) ai)) ai))
noncomputable def aR:FT:=(bh (cz 2 fM (aa (ae 0) (aa (aq bY (ae 1) (ae 2)) ai))))
noncomputable def be:FE:=(ae 2)
noncomputable def ck:FI:=(k9 (aa (ae 0) ai))
noncomputable def bj:FS:=(aL (a7 4 (bx [(3,"_law_one"),(0,"_law_measures")] 1 bD (ag 2) aR be))
    (aL (a7 5 (bx [(3,"_law_one"),(0,"_law_measures")] 1 bB (ag 2) aD bc))
    (fR (dj bT (ae 1) (aa (cA (aa (aq c8 (aP (g1 iO) (aa (ae 4) ai)) (aP (g1 iO) (aa (ae 5) ai))) (aa (ae 2) ai))) ai)))))
noncomputable def eB:FS:=(aL (a7 1 (eQ ai))
    (aL (dU (([2]++([3]++[]))++([4]++([5]++[]))) ck (bP (ar (ag 2) (ar (ag 3) bG))) bj)
    (bL (aP (g1 cF) (aa (bx [] 2 cg (bP (ar (ag 0) (ar (ag 1) bG))) bI ba) ai)))))
noncomputable def aw:FM:=hV 1 5 ([1]++((([2]++([3]++[]))++([4]++([5]++[])))++[])) eB
theorem el:ay ["_law_measures","_law_ahead","_law_at","_law_one","_law_great","_law_alike"] ["_law_measures"] (ah aM):=⟨rfl,rfl,rfl,by decide+kernel,rfl,by decide+kernel,by decide+kernel⟩
theorem iu(h:bi K mg "_law_greatest_first" aM f fd ["_law_measures"])(T:jd mg){fLless:Addr}{eLless:FuncData}(hLless:bi K mg "_law_less" kf fLless eLless ["_law_one","_law_other"])(GLless:aF P w K mg base bU 1 fLless eLless ["_law_one","_law_other"] (bW K 2 fM)):aF P w K mg base bU 2 f fd ["_law_measures"] (bW K 1 aw):=by
  have nd:=el.nd
  exact h.fn el rfl rfl (fun cdv A outer s H E hr=>(@af _ _ _ _ _ _ _ _ (@aB _ _ _ _ _ 1 _ _ nd rfl (Or.inl rfl) (@cu _ _ _ _ _ ac) (by rfl) (by trivial))
      (@af _ _ _ _ _ _ _ _ (@e6 _ _ _ _ _ _ _ _ _ _ _ PassesOwn.never rfl (@ma _ _ _ _ _ _ _ _ _ rfl rfl T.b_enumerate ((¬0)∘ac) (by rfl)) (@i7 _ _ _ _ _ _ _ _ rfl rfl (@bH _ _ _ _ _ _ _ _ (@aH _ _ _ 2 _ nd rfl (Or.inl rfl) (by trivial)) (@bH _ _ _ _ _ _ _ _ (@aH _ _ _ 3 _ nd rfl (Or.inr rfl) (by trivial)) (@gz _ _) (by rfl)) (by rfl)) (b7 (b7 iR)) (by rfl) (by rfl))
      (@af _ _ _ _ _ _ _ _ (@dy _ _ _ (4) _ _ _ _ _ _ _ _ _ _ _ _ _ (ah aM) ["_law_measures","_law_ahead","_law_at","_law_one","_law_great","_law_alike"] [(3,"_law_one"),(0,"_law_measures")] ["_law_k"] rfl rfl rfl (@cx _ _ _ _ _ _ _ rfl T.b_range ((@bu _ _ _ _ _ _ _ _ _ (@b_len _ _ rfl) (by rfl) T.b_len ((¬0)∘ac) (by decide) (by decide) (by rfl) (by rfl))∘ac) (by rfl))
        (fun C s0 H0 fp=>(@aH _ _ _ 2 _ (show List.Nodup (["_law_one","_law_measures","_law_k"]:List Str) by decide+kernel) rfl (Or.inl rfl) (by trivial))) (fun C s0 H0 fp=>(@pz _ _ _ _ (@fQ _ _ _ _ (@aO _ _ _ _ _ _ _ _ _ _ _ _ _ _ _ hLless GLless (hr.mono (by decide)) ((¬0)∘((@aY _ _ _ _ _ _ _ rfl (¬1) (¬2) (fun _ _=>rfl))∘ac)) (by rfl) (by decide) (by rfl) (by rfl)) (by intro _;rfl))))
        (fun C s0 H0 fp=>(¬2)) rfl (by decide+kernel) (by decide+kernel) (by decide+kernel) (by decide+kernel) (by decide+kernel) (by decide+kernel) (by decide+kernel) nd rfl rfl (by rfl) (by intro _;rfl))
      (@af _ _ _ _ _ _ _ _ (@dy _ _ _ (5) _ _ _ _ _ _ _ _ _ _ _ _ _ (ah aM) ["_law_measures","_law_ahead","_law_at","_law_one","_law_great","_law_alike"] [(3,"_law_one"),(0,"_law_measures")] ["_law_k"] rfl rfl rfl (@cx _ _ _ _ _ _ _ rfl T.b_range ((¬2)∘ac) (by rfl))
        (fun C s0 H0 fp=>(@aH _ _ _ 2 _ (show List.Nodup (["_law_one","_law_measures","_law_k"]:List Str) by decide+kernel) rfl (Or.inl rfl) (by trivial))) (fun C s0 H0 fp=>(@pz _ _ _ _ (@vz _ _ _ _ (@sQ _ _ _ _ _ _ _ _ (@g_ _ _ _ _ _ (@fQ _ _ _ _ (@aO _ _ _ _ _ _ _ _ _ _ _ _ _ _ _ hLless GLless (hr.mono (by decide)) ((¬0)∘((@aY _ _ _ _ _ _ _ rfl (¬1) (¬2) (fun _ _=>rfl))∘ac)) (by rfl) (by decide) (by rfl) (by rfl)) (by intro _;rfl))) (@pA _ _ _ _ _ (@g_ _ _ _ _ _ (@fQ _ _ _ _ (@aO _ _ _ _ _ _ _ _ _ _ _ _ _ _ _ hLless GLless (hr.mono (by decide)) ((@aY _ _ _ _ _ _ _ rfl (¬1) (¬2) (fun _ _=>rfl))∘((¬0)∘ac)) (by rfl) (by decide) (by rfl) (by rfl)) (by intro _;rfl))))))))
        (fun C s0 H0 fp=>(¬2)) rfl (by decide+kernel) (by decide+kernel) (by decide+kernel) (by decide+kernel) (by decide+kernel) (by decide+kernel) (by decide+kernel) nd rfl rfl (by rfl) (by intro _;rfl))
      (@aj _ _ _ _ _ (@eZ _ _ _ _ _ (@dJ _ _ _ _ _ _ _ _ _ rfl (¬1) ((@aZ _ _ _ _ _ _ ((@cw _ _ _ _ _ _ _ rfl (@bu _ _ _ _ _ _ _ _ _ (@b_len _ _ rfl) (by rfl) T.b_len ((¬4)∘ac) (by decide) (by decide) (by rfl) (by rfl)) (@bu _ _ _ _ _ _ _ _ _ (@b_len _ _ rfl) (by rfl) T.b_len ((¬5)∘ac) (by decide) (by decide) (by rfl) (by rfl)))∘((¬2)∘ac)))∘ac) (by rfl) (by rfl) (by rfl) (by rfl) (by rfl)) (by rfl))))) (by intro _;rfl))
      (@aj _ _ _ _ _ (@aK _ _ _ _ _ (@bu _ _ _ _ _ _ _ _ _ (@b_tuple _ _ rfl) (by rfl) T.b_tuple ((@j' _ _ _ _ _ _ _ _ _ _ _ _ _ (ah aM) ["_law_measures","_law_ahead","_law_at","_law_one","_law_great","_law_alike"] [] ["_law_many","_law_at"] rfl rfl rfl (@eY _ _ _ _ _ rfl (@bu _ _ _ _ _ _ _ _ _ (@o5 _ _ rfl) (by rfl) T.b_sorted ((¬1)∘ac) (by decide) (by decide) (by rfl) (by rfl)))
        (fun C s0 H0 fp=>(@i7 _ _ _ _ _ _ _ _ rfl rfl (@bH _ _ _ _ _ _ _ _ (@aH _ _ _ 0 _ (show List.Nodup (["_law_many","_law_at"]:List Str) by decide+kernel) rfl (Or.inl rfl) (by trivial)) (@bH _ _ _ _ _ _ _ _ (@aH _ _ _ 1 _ (show List.Nodup (["_law_many","_law_at"]:List Str) by decide+kernel) rfl (Or.inl rfl) (by trivial)) (@gz _ _) (by rfl)) (by rfl)) (b7 (b7 iR)) (by rfl) (by rfl))) (fun C s0 H0 fp=>(@dq _ _))
        (fun C s0 H0 fp=>(¬1)) rfl (by decide+kernel) (by decide+kernel) (by decide+kernel) (by decide+kernel) (by decide+kernel) (by decide+kernel) (by decide+kernel) (by intro _;rfl))∘ac) (by decide) (by decide) (by rfl) (by rfl)))))))
noncomputable def jV:FI:=(k9 (aa (aq bY (ae 0) (vC (.int 1))) ai))
noncomputable def h8:FS:=(aL (a7 5 (aq bY (eQ (aa (vC (.int 1)) (aa (vC (.int 2)) (aa (vC (.int 3)) (aa (vC (.int 4)) (aa (vC (.int 6)) (aa (vC (.int 12)) ai))))))) (aq aT (cz 2 ed (aa (ae 1) (aa (aq c8 (ae 3) (vC (.int 1))) ai))) (vC (.int 6)))))
    (fR (dj bT (ae 2) (aa (aq c8 (yv (ae 4) mP (lc (vC (.int 2)))) (cA (aa (cz 2 gN (aa (vC (.int 1)) (aa (ae 5) ai))) (aa (aq bO (vC (.int 12)) (ae 5)) ai)))) ai))))
noncomputable def qD:FS:=(aL (a7 2 (eQ ai))
    (aL (dU (([3]++([4]++[]))++([5]++[])) jV (bP (ar (ag 3) (ar (ag 4) bG))) h8)
    (bL (cA (aa (aq bY (ae 0) (vC (.int 0))) (aa (aP (g1 cF) (aa (ae 2) ai)) (aa (aq bY (ae 0) (vC (.int 2))) (aa (aq bY (ae 0) (vC (.int 3))) ai))))))))
noncomputable def j0:FM:=hV 2 4 ([2]++((([3]++([4]++[]))++([5]++[]))++[])) qD
theorem pF:ay ["_law_web_here","_law_number","_law_ties_here","_law_at","_law_tie","_law_part"] ["_law_web_here","_law_number"] (ah ke):=⟨rfl,rfl,rfl,by decide+kernel,rfl,by decide+kernel,by decide+kernel⟩
theorem uK(h:bi K mg "_law_even" ke f fd ["_law_web_here","_law_number"])(T:jd mg){fLmixed:Addr}{eLmixed:FuncData}(hLmixed:bi K mg "_law_mixed" gB fLmixed eLmixed ["_law_cell","_law_k"])(GLmixed:aF P w K mg base bU 1 fLmixed eLmixed ["_law_cell","_law_k"] (bW K 2 ed)){fLlow:Addr}{eLlow:FuncData}(hLlow:bi K mg "_law_low" kg fLlow eLlow ["_law_top","_law_bottom"])(GLlow:aF P w K mg base bU 2 fLlow eLlow ["_law_top","_law_bottom"] (bW K 2 gN)):aF P w K mg base bU 3 f fd ["_law_web_here","_law_number"] (bW K 2 j0):=by
  have nd:=pF.nd
  exact h.fn pF rfl rfl (fun cdv A outer s H E hr=>(@af _ _ _ _ _ _ _ _ (@aB _ _ _ _ _ 2 _ _ nd rfl (Or.inl rfl) (@cu _ _ _ _ _ ac) (by rfl) (by trivial))
      (@af _ _ _ _ _ _ _ _ (@e6 _ _ _ _ _ _ _ _ _ _ _ PassesOwn.never rfl (@ma _ _ _ _ _ _ _ _ _ rfl rfl T.b_enumerate ((@aY _ _ _ _ _ _ _ rfl (¬0) ab (fun _ _=>rfl))∘ac) (by rfl)) (@i7 _ _ _ _ _ _ _ _ rfl rfl (@bH _ _ _ _ _ _ _ _ (@aH _ _ _ 3 _ nd rfl (Or.inl rfl) (by trivial)) (@bH _ _ _ _ _ _ _ _ (@aH _ _ _ 4 _ nd rfl (Or.inl rfl) (by trivial)) (@gz _ _) (by rfl)) (by rfl)) (b7 (b7 iR)) (by rfl) (by rfl))
      (@af _ _ _ _ _ _ _ _ (@aB _ _ _ _ _ 5 _ _ nd rfl (Or.inl rfl) (@aY _ _ _ _ _ _ _ rfl (@cu _ _ _ _ _ (ab∘(ab∘(ab∘(ab∘(ab∘(ab∘ac))))))) (@aN _ _ _ _ _ _ _ (@aO _ _ _ _ _ _ _ _ _ _ _ _ _ _ _ hLmixed GLmixed (hr.mono (by decide)) ((¬1)∘((@cw _ _ _ _ _ _ _ rfl (¬3) ab)∘ac)) (by rfl) (by decide) (by rfl) (by rfl)) ab) (fun _ _=>rfl)) (by rfl) (by trivial))
      (@aj _ _ _ _ _ (@eZ _ _ _ _ _ (@dJ _ _ _ _ _ _ _ _ _ rfl (¬2) ((@cw _ _ _ _ _ _ _ rfl (@vw _ _ _ _ _ _ _ _ _ _ rfl (¬4) (@vx _ _) (@vy _ _ _ _ ab)) (@aZ _ _ _ _ _ _ ((@aO _ _ _ _ _ _ _ _ _ _ _ _ _ _ _ hLlow GLlow (hr.mono (by decide)) (ab∘((¬5)∘ac)) (by rfl) (by decide) (by rfl) (by rfl))∘((@df _ _ _ _ _ _ _ rfl ab (¬5))∘ac))))∘ac) (by rfl) (by rfl) (by rfl) (by rfl) (by rfl)) (by rfl)))) (by intro _;rfl))
      (@aj _ _ _ _ _ (@aK _ _ _ _ _ (@aZ _ _ _ _ _ _ ((@aY _ _ _ _ _ _ _ rfl (¬0) ab (fun _ _=>rfl))∘((@bu _ _ _ _ _ _ _ _ _ (@b_tuple _ _ rfl) (by rfl) T.b_tuple ((¬2)∘ac) (by decide) (by decide) (by rfl) (by rfl))∘((@aY _ _ _ _ _ _ _ rfl (¬0) ab (fun _ _=>rfl))∘((@aY _ _ _ _ _ _ _ rfl (¬0) ab (fun _ _=>rfl))∘ac))))))))))
noncomputable def iU:FI:=(b_ (aa (vC (.int 2)) ai))
noncomputable def f9:FS:=(aL (kB (jb (bh (cz 2 gU (aa (cz 1 dc (aa (ae 0) ai)) (aa (cz 1 aw (aa (ae 2) ai)) ai)))))
    (bL (vC (.bool false)))
    fW)
    (aL (kB (jb (bh (cz 2 gU (aa (cz 1 eI (aa (ae 0) ai)) (aa (cz 1 aw (aa (ae 4) ai)) ai)))))
    (bL (vC (.bool false)))
    fW)
    (kB (wA (jb (bh (cz 2 gU (aa (cz 1 dG (aa (ae 0) ai)) (aa (cz 1 aw (aa (ae 3) ai)) ai))))) (bh (aq (dD true) (aP (g1 fH) (aa (ae 0) ai)) (ae 1))))
    (bL (vC (.bool false)))
    fW)))
noncomputable def iV:FI:=(fv (aq bY (ae 0) (vC (.int 1))))
noncomputable def f_:FE:=(cz 2 gw (aa (aq bY (ae 0) (vC (.int 2))) (aa (cA (aa (aq bY (ae 0) (vC (.int 3))) (aa (vC (.int 1)) ai))) ai)))
noncomputable def iW:FI:=(fv (aq bY (ae 0) (vC (.int 1))))
noncomputable def gb:FE:=(cA (aa (aq bY (ae 0) (vC (.int 3))) (aa (vC (.int 1)) ai)))
noncomputable def iX:FI:=(fv (aq bY (ae 0) (vC (.int 1))))
noncomputable def gg:FE:=(aq bY (ae 0) (vC (.int 2)))
noncomputable def oX:FS:=(aL (a7 1 (aP (g1 fH) (aa (ae 0) ai)))
    (aL (a7 2 (bx [] 1 iX (ag 0) bI gg))
    (aL (a7 3 (bx [] 1 iW (ag 0) bI gb))
    (aL (a7 4 (bx [] 1 iV (ag 0) bI f_))
    (aL (dU ([5]++(([]++[])++(([]++[])++([]++[])))) iU (ag 5) f9)
    (bL (vC (.bool true))))))))
noncomputable def ee:FM:=hV 1 5 ([1]++([2]++([3]++([4]++(([5]++(([]++[])++(([]++[])++([]++[]))))++[]))))) oX
theorem m6:ay ["_law_web_here","_law_handed","_law_chances","_law_worths","_law_both","_law_k"] ["_law_web_here"] (ah eg):=⟨rfl,rfl,rfl,by decide+kernel,rfl,by decide+kernel,by decide+kernel⟩
theorem r8(h:bi K mg "_law_right" eg f fd ["_law_web_here"])(T:jd mg){fLtimes:Addr}{eLtimes:FuncData}(hLtimes:bi K mg "_law_times" iB fLtimes eLtimes ["_law_one","_law_other"])(GLtimes:aF P w K mg base bU 3 fLtimes eLtimes ["_law_one","_law_other"] (bW K 2 gw)){fLsame:Addr}{eLsame:FuncData}(hLsame:bi K mg "_law_same" kh fLsame eLsame ["_law_found","_law_due"])(GLsame:aF P w K mg base bU 1 fLsame eLsame ["_law_found","_law_due"] (bW K 2 gU)){f_by_chance:Addr}{e_by_chance:FuncData}(h_by_chance:bi K mg "by_chance" cy f_by_chance e_by_chance ["web"])(G_by_chance:aF P w K mg base bU 2 f_by_chance e_by_chance ["web"] (bW K 1 dc)){fLgreatest_first:Addr}{eLgreatest_first:FuncData}(hLgreatest_first:bi K mg "_law_greatest_first" aM fLgreatest_first eLgreatest_first ["_law_measures"])(GLgreatest_first:aF P w K mg base bU 2 fLgreatest_first eLgreatest_first ["_law_measures"] (bW K 1 aw)){f_by_both:Addr}{e_by_both:FuncData}(h_by_both:bi K mg "by_both" dz f_by_both e_by_both ["web"])(G_by_both:aF P w K mg base bU 5 f_by_both e_by_both ["web"] (bW K 1 eI)){f_by_worth:Addr}{e_by_worth:FuncData}(h_by_worth:bi K mg "by_worth" cV f_by_worth e_by_worth ["web"])(G_by_worth:aF P w K mg base bU 2 f_by_worth e_by_worth ["web"] (bW K 1 dG)):aF P w K mg base bU 6 f fd ["_law_web_here"] (bW K 1 ee):=by
  have nd:=m6.nd
  exact h.fn m6 rfl rfl (fun cdv A outer s H E hr=>(@af _ _ _ _ _ _ _ _ (@aB _ _ _ _ _ 1 _ _ nd rfl (Or.inl rfl) (@bu _ _ _ _ _ _ _ _ _ (@b_repr _ _ _ rfl hr) (by rfl) T.b_repr ((¬0)∘ac) (by decide) (by decide) (by rfl) (by rfl)) (by rfl) (by trivial))
      (@af _ _ _ _ _ _ _ _ (@dy _ _ _ (2) _ _ _ _ _ _ _ _ _ _ _ _ _ (ah eg) ["_law_web_here","_law_handed","_law_chances","_law_worths","_law_both","_law_k"] [] ["_law_tie"] rfl rfl rfl (@eY _ _ _ _ _ rfl (@aY _ _ _ _ _ _ _ rfl (¬0) ab (fun _ _=>rfl)))
        (fun C s0 H0 fp=>(@aH _ _ _ 0 _ (show List.Nodup (["_law_tie"]:List Str) by decide+kernel) rfl (Or.inl rfl) (by trivial))) (fun C s0 H0 fp=>(@dq _ _))
        (fun C s0 H0 fp=>(@aY _ _ _ _ _ _ _ rfl (¬0) ab (fun _ _=>rfl))) rfl (by decide+kernel) (by decide+kernel) (by decide+kernel) (by decide+kernel) (by decide+kernel) (by decide+kernel) (by decide+kernel) nd rfl rfl (by rfl) (by intro _;rfl))
      (@af _ _ _ _ _ _ _ _ (@dy _ _ _ (3) _ _ _ _ _ _ _ _ _ _ _ _ _ (ah eg) ["_law_web_here","_law_handed","_law_chances","_law_worths","_law_both","_law_k"] [] ["_law_tie"] rfl rfl rfl (@eY _ _ _ _ _ rfl (@aY _ _ _ _ _ _ _ rfl (¬0) ab (fun _ _=>rfl)))
        (fun C s0 H0 fp=>(@aH _ _ _ 0 _ (show List.Nodup (["_law_tie"]:List Str) by decide+kernel) rfl (Or.inl rfl) (by trivial))) (fun C s0 H0 fp=>(@dq _ _))
        (fun C s0 H0 fp=>(@aZ _ _ _ _ _ _ ((@aY _ _ _ _ _ _ _ rfl (¬0) ab (fun _ _=>rfl))∘(ab∘ac)))) rfl (by decide+kernel) (by decide+kernel) (by decide+kernel) (by decide+kernel) (by decide+kernel) (by decide+kernel) (by decide+kernel) nd rfl rfl (by rfl) (by intro _;rfl))
      (@af _ _ _ _ _ _ _ _ (@dy _ _ _ (4) _ _ _ _ _ _ _ _ _ _ _ _ _ (ah eg) ["_law_web_here","_law_handed","_law_chances","_law_worths","_law_both","_law_k"] [] ["_law_tie"] rfl rfl rfl (@eY _ _ _ _ _ rfl (@aY _ _ _ _ _ _ _ rfl (¬0) ab (fun _ _=>rfl)))
        (fun C s0 H0 fp=>(@aH _ _ _ 0 _ (show List.Nodup (["_law_tie"]:List Str) by decide+kernel) rfl (Or.inl rfl) (by trivial))) (fun C s0 H0 fp=>(@dq _ _))
        (fun C s0 H0 fp=>(@aO _ _ _ _ _ _ _ _ _ _ _ _ _ _ _ hLtimes GLtimes (hr.mono (by decide)) ((@aY _ _ _ _ _ _ _ rfl (¬0) ab (fun _ _=>rfl))∘((@aZ _ _ _ _ _ _ ((@aY _ _ _ _ _ _ _ rfl (¬0) ab (fun _ _=>rfl))∘(ab∘ac)))∘ac)) (by rfl) (by decide) (by rfl) (by rfl))) rfl (by decide+kernel) (by decide+kernel) (by decide+kernel) (by decide+kernel) (by decide+kernel) (by decide+kernel) (by decide+kernel) nd rfl rfl (by rfl) (by intro _;rfl))
      (@af _ _ _ _ _ _ _ _ (@e6 _ _ _ _ _ _ _ _ _ _ _ PassesOwn.never rfl (@cx _ _ _ _ _ _ _ rfl T.b_range (ab∘ac) (by rfl)) (@aH _ _ _ 5 _ nd rfl (Or.inl rfl) (by trivial))
      (@af _ _ _ _ _ _ _ _ (@fj _ _ _ _ _ _ _ _ _ _ _ (@g_ _ _ _ _ _ (@fQ _ _ _ _ (@aO _ _ _ _ _ _ _ _ _ _ _ _ _ _ _ hLsame GLsame (hr.mono (by decide)) ((@aO _ _ _ _ _ _ _ _ _ _ _ _ _ _ _ h_by_chance G_by_chance (hr.mono (by decide)) ((¬0)∘ac) (by rfl) (by decide) (by rfl) (by rfl))∘((@aO _ _ _ _ _ _ _ _ _ _ _ _ _ _ _ hLgreatest_first GLgreatest_first (hr.mono (by decide)) ((¬2)∘ac) (by rfl) (by decide) (by rfl) (by rfl))∘ac)) (by rfl) (by decide) (by rfl) (by rfl)) (by intro _;rfl)))
      (@aj _ _ _ _ _ (@aK _ _ _ _ _ (@mT _ _ _ _ _)))
      (@cc _ _))
      (@af _ _ _ _ _ _ _ _ (@fj _ _ _ _ _ _ _ _ _ _ _ (@g_ _ _ _ _ _ (@fQ _ _ _ _ (@aO _ _ _ _ _ _ _ _ _ _ _ _ _ _ _ hLsame GLsame (hr.mono (by decide)) ((@aO _ _ _ _ _ _ _ _ _ _ _ _ _ _ _ h_by_both G_by_both (hr.mono (by decide)) ((¬0)∘ac) (by rfl) (by decide) (by rfl) (by rfl))∘((@aO _ _ _ _ _ _ _ _ _ _ _ _ _ _ _ hLgreatest_first GLgreatest_first (hr.mono (by decide)) ((¬4)∘ac) (by rfl) (by decide) (by rfl) (by rfl))∘ac)) (by rfl) (by decide) (by rfl) (by rfl)) (by intro _;rfl)))
      (@aj _ _ _ _ _ (@aK _ _ _ _ _ (@mT _ _ _ _ _)))
      (@cc _ _))
      (@aj _ _ _ _ _ (@fj _ _ _ _ _ _ _ _ _ _ _ (@vz _ _ _ _ (@wu _ _ _ _ _ _ _ _ (@g_ _ _ _ _ _ (@fQ _ _ _ _ (@aO _ _ _ _ _ _ _ _ _ _ _ _ _ _ _ hLsame GLsame (hr.mono (by decide)) ((@aO _ _ _ _ _ _ _ _ _ _ _ _ _ _ _ h_by_worth G_by_worth (hr.mono (by decide)) ((¬0)∘ac) (by rfl) (by decide) (by rfl) (by rfl))∘((@aO _ _ _ _ _ _ _ _ _ _ _ _ _ _ _ hLgreatest_first GLgreatest_first (hr.mono (by decide)) ((¬3)∘ac) (by rfl) (by decide) (by rfl) (by rfl))∘ac)) (by rfl) (by decide) (by rfl) (by rfl)) (by intro _;rfl))) (@sR _ _ _ _ _ (@cU _ _ _ _ _ _ _ _ _ (@wL _ _ _ rfl hr) (@bu _ _ _ _ _ _ _ _ _ (@b_repr _ _ _ rfl hr) (by rfl) T.b_repr ((¬0)∘ac) (by decide) (by decide) (by rfl) (by rfl)) (¬1) (bV _)))))
      (@aj _ _ _ _ _ (@aK _ _ _ _ _ (@mT _ _ _ _ _)))
      (@cc _ _))))) (by intro _;rfl))
      (@aj _ _ _ _ _ (@aK _ _ _ _ _ (@mT _ _ _ _ _)))))))))
noncomputable def A7:FI:=(b_ (aa (vC (.int 4)) ai))
noncomputable def yP:FS:=(aL (a7 3 (cz 3 mL (aa (ae 1) (aa (vC (.int 12)) (aa (vC (.int 16)) ai)))))
    (kB (wA (jb (bh (cz 1 ee (aa (ae 3) ai)))) (jb (bh (cz 1 ee (aa (cz 2 j0 (aa (ae 3) (aa (cz 1 aX (aa (ae 1) ai)) ai))) ai)))))
    (bL (vC (.bool false)))
    fW))
noncomputable def v6:FS:=(aL (a7 1 (cz 1 iq (aa (ae 0) ai)))
    (aL (dU ([2]++([3]++([]++[]))) A7 (ag 2) yP)
    (aL (a7 4 (cz 2 j3 (aa (ae 1) (aa (vC (.int 16)) ai))))
    (bL (lx (cz 1 ee (aa (ae 4) ai)) (cz 1 ee (aa (cA (aa (aq bY (ae 4) (vC (.int 0))) (aa (aq bO (cA (aa (aq bY (aq bY (ae 4) (vC (.int 1))) (vC (.int 0))) ai)) (vC (.int 16))) (aa (aq bY (ae 4) (vC (.int 2))) (aa (aq bY (ae 4) (vC (.int 3))) ai))))) ai)))))))
noncomputable def j4:FM:=hV 1 4 ([1]++(([2]++([3]++([]++[])))++([4]++[]))) v6
theorem tD:ay ["_law_script","_law_drawn","_law_k","_law_web_here","_law_alike"] ["_law_script"] (ah kj):=⟨rfl,rfl,rfl,by decide+kernel,rfl,by decide+kernel,by decide+kernel⟩
theorem xl(h:bi K mg "law" kj f fd ["_law_script"])(T:jd mg){fLdraws:Addr}{eLdraws:FuncData}(hLdraws:bi K mg "_law_draws" iA fLdraws eLdraws ["_law_script"])(GLdraws:aF P w K mg base bU 2 fLdraws eLdraws ["_law_script"] (bW K 1 iq)){fLwide:Addr}{eLwide:FuncData}(hLwide:bi K mg "_law_wide" ki fLwide eLwide ["_law_drawn","_law_many"])(GLwide:aF P w K mg base bU 5 fLwide eLwide ["_law_drawn","_law_many"] (bW K 2 j3)){fLweb:Addr}{eLweb:FuncData}(hLweb:bi K mg "_law_web" mZ fLweb eLweb ["_law_drawn","_law_most","_law_ties_here"])(GLweb:aF P w K mg base bU 5 fLweb eLweb ["_law_drawn","_law_most","_law_ties_here"] (bW K 3 mL)){fLright:Addr}{eLright:FuncData}(hLright:bi K mg "_law_right" eg fLright eLright ["_law_web_here"])(GLright:aF P w K mg base bU 6 fLright eLright ["_law_web_here"] (bW K 1 ee)){fLeven:Addr}{eLeven:FuncData}(hLeven:bi K mg "_law_even" ke fLeven eLeven ["_law_web_here","_law_number"])(GLeven:aF P w K mg base bU 3 fLeven eLeven ["_law_web_here","_law_number"] (bW K 2 j0)){fLnext:Addr}{eLnext:FuncData}(hLnext:bi K mg "_law_next" fV fLnext eLnext ["_law_drawn"])(GLnext:aF P w K mg base bU 1 fLnext eLnext ["_law_drawn"] (bW K 1 aX)):aF P w K mg base bU 7 f fd ["_law_script"] (bW K 1 j4):=by
  have nd:=tD.nd
  exact h.fn tD rfl rfl (fun cdv A outer s H E hr=>(@af _ _ _ _ _ _ _ _ (@aB _ _ _ _ _ 1 _ _ nd rfl (Or.inl rfl) (@aO _ _ _ _ _ _ _ _ _ _ _ _ _ _ _ hLdraws GLdraws (hr.mono (by decide)) ((¬0)∘ac) (by rfl) (by decide) (by rfl) (by rfl)) (by rfl) (by trivial))
      (@af _ _ _ _ _ _ _ _ (@e6 _ _ _ _ _ _ _ _ _ _ _ PassesOwn.never rfl (@cx _ _ _ _ _ _ _ rfl T.b_range (ab∘ac) (by rfl)) (@aH _ _ _ 2 _ nd rfl (Or.inl rfl) (by trivial))
      (@af _ _ _ _ _ _ _ _ (@aB _ _ _ _ _ 3 _ _ nd rfl (Or.inl rfl) (@aO _ _ _ _ _ _ _ _ _ _ _ _ _ _ _ hLweb GLweb (hr.mono (by decide)) ((¬1)∘(ab∘(ab∘ac))) (by rfl) (by decide) (by rfl) (by rfl)) (by rfl) (by trivial))
      (@aj _ _ _ _ _ (@fj _ _ _ _ _ _ _ _ _ _ _ (@vz _ _ _ _ (@wu _ _ _ _ _ _ _ _ (@g_ _ _ _ _ _ (@fQ _ _ _ _ (@aO _ _ _ _ _ _ _ _ _ _ _ _ _ _ _ hLright GLright (hr.mono (by decide)) ((¬3)∘ac) (by rfl) (by decide) (by rfl) (by rfl)) (by intro _;rfl))) (@sR _ _ _ _ _ (@g_ _ _ _ _ _ (@fQ _ _ _ _ (@aO _ _ _ _ _ _ _ _ _ _ _ _ _ _ _ hLright GLright (hr.mono (by decide)) ((@aO _ _ _ _ _ _ _ _ _ _ _ _ _ _ _ hLeven GLeven (hr.mono (by decide)) ((¬3)∘((@aO _ _ _ _ _ _ _ _ _ _ _ _ _ _ _ hLnext GLnext (hr.mono (by decide)) ((¬1)∘ac) (by rfl) (by decide) (by rfl) (by rfl))∘ac)) (by rfl) (by decide) (by rfl) (by rfl))∘ac) (by rfl) (by decide) (by rfl) (by rfl)) (by intro _;rfl))))))
      (@aj _ _ _ _ _ (@aK _ _ _ _ _ (@mT _ _ _ _ _)))
      (@cc _ _)))) (by intro _;rfl))
      (@af _ _ _ _ _ _ _ _ (@aB _ _ _ _ _ 4 _ _ nd rfl (Or.inl rfl) (@aO _ _ _ _ _ _ _ _ _ _ _ _ _ _ _ hLwide GLwide (hr.mono (by decide)) ((¬1)∘(ab∘ac)) (by rfl) (by decide) (by rfl) (by rfl)) (by rfl) (by trivial))
      (@aj _ _ _ _ _ (@aK _ _ _ _ _ (@xT _ _ _ _ _ _ _ _ (@aO _ _ _ _ _ _ _ _ _ _ _ _ _ _ _ hLright GLright (hr.mono (by decide)) ((¬4)∘ac) (by rfl) (by decide) (by rfl) (by rfl)) (@xV _ _ _ _ _ _ (@aO _ _ _ _ _ _ _ _ _ _ _ _ _ _ _ hLright GLright (hr.mono (by decide)) ((@aZ _ _ _ _ _ _ ((@aY _ _ _ _ _ _ _ rfl (¬4) ab (fun _ _=>rfl))∘((@df _ _ _ _ _ _ _ rfl (@aZ _ _ _ _ _ _ ((@aY _ _ _ _ _ _ _ rfl (@aY _ _ _ _ _ _ _ rfl (¬4) ab (fun _ _=>rfl)) ab (fun _ _=>rfl))∘ac)) ab)∘((@aY _ _ _ _ _ _ _ rfl (¬4) ab (fun _ _=>rfl))∘((@aY _ _ _ _ _ _ _ rfl (¬4) ab (fun _ _=>rfl))∘ac)))))∘ac) (by rfl) (by decide) (by rfl) (by rfl))))))))))
local macro_rules | `(tactic| simp? [$ts,*]) => `(tactic| simp [$ts,*, hV, lb, aL, kB, bL, fW, a7, fR, ql, oF, sI, bh, aq, vR, ae, vC, eQ, ai, aa, cA, aP, cz, ny, wA, jb, AN, lx, yt, tW, yv, mP, lc, dj, bT, xc, gX, gL, nX, eT, bZ, qN, pP, bP, ar, ag, bG, ce, av, aW, uH, dB, jN, gS, lQ, lW, lU, lS, lR, jQ, jP, ij, iN, jM, rg, jO, n_, rh, oh, lV, oe, og, jT, jS, iQ, jU, rp, lE, lF, lG, lH, qL, iL, iK, ig, lT, List.replicate, -List.map_nil, -List.map_cons, -List.nil_append, -List.cons_append, -Option.bind_some, -Option.map_some, -getElem?_pos, -List.append_nil, qX, qW, qQ, qP, qU, qV, qS, qY])
theorem pY{n k:Int}(h:0 < k):0≤n % k:=Int.emod_nonneg _ (Int.ne_of_gt h)
theorem pZ{n k:Int}(h:0 < k):n % k < k:=Int.emod_lt_of_pos _ h
def nx:List Int→Int
  | []=>0
  | d::_=>d
def hU(ds:List Int):Prop:=∀d∈ds,0≤d∧d < 2147483648
theorem wm{ds:List Int}(h:hU ds):0≤nx ds∧nx ds < 2147483648:=by
  cases ds with
  | nil=>exact⟨Int.le_refl 0,by show(0:Int) < 2147483648;decide⟩
  | cons d r=>exact h d (by simp)
theorem zV{ds:List Int}(h:hU ds):hU ds.tail:=fun d hd=>h d (List.mem_of_mem_tail hd)
theorem yn(ds:List Int):aX [.l (ds.map .int)]=some (.d (.int (nx ds)),[.l (ds.tail.map .int)]):=by
  have hq:∀e:En,e[0]?=some (some (.l (ds.map .int)))→dD false e (.s 0) (.l [])=some (.d (.bool (ds.map PyData.int).isEmpty)):=fun e he=>rc he (ng ds).1
  cases ds with
  | nil=>simp? [aX,nP,hq,nx]
  | cons d r=>simp? [aX,nP,hq,nx]
theorem gJ{ds:List Int}(hd:hU ds):∃(n:Int) (ds':List Int),aX [.l (ds.map .int)]=some (.d (.int n),[.l (ds'.map .int)])∧0≤n∧n < 2147483648∧hU ds':=⟨nx ds,ds.tail,yn ds,(wm hd).1,(wm hd).2,zV hd⟩
theorem mh(cell k:Int)(h0:0≤k)(h1:k≤1000):∃r,ed [.d (.int cell),.d (.int k)]=some (.d (.int r),[.d (.int cell),.d (.int k)])∧0≤r∧r < 2147483648:=by
  have a1:gY (cell % 2147483647) 48271=true:=l6 (by decide) (by decide)
  have a2:gY 7919 k=true:=oz (by decide) (by decide)
  have a3:gY (7919*k) k=true:=l6 (by lia) (by lia)
  have a4:gY ((cell % 2147483647*48271+7919*k*k+104729) % 2147483647) ((cell % 2147483647*48271+7919*k*k+104729) % 2147483647)=true:=l6 (by lia) (by lia)
  refine⟨_,by simp? [ed,oW,aJ,bF,a1,a2,a3,a4];rfl,?_,?_⟩
  · lia
  · lia
theorem lM{ds:List Int}(h:hU ds){r:Int}(h0:0≤r)(h1:r < 2147483648):hU (ds++[r]):=fun d hd=>by
  rcases List.mem_append.mp hd with hd | hd
  · exact h d hd
  · simp at hd;subst hd;exact⟨h0,h1⟩
abbrev dE(ns ds:List Int)(v2 v3 v4:Option Sv):En:=[some (.d (.list (ns.map .int))),some (.l (ds.map .int)),v2,v3,v4]
inductive DI (ns:List Int) (i:Nat):En→Prop
  | mk {ds v2 v3 v4} (hd:hU ds) (hl:ds.length≤1000*i):DI ns i (dE ns ds v2 v3 v4)
inductive DJ (ns:List Int) (k cell:Int) (n i:Nat):En→Prop
  | mk {ds v4} (hd:hU ds) (hl:ds.length=n+i):DJ ns k cell n i (dE ns ds (some (.d (.int k))) (some (.d (.int cell))) v4)
inductive DW (ns:List Int) (k:Int) (v4:Option Sv) (n:Nat):En→Prop
  | mk {cell ds} (hc:0≤cell) (hd:hU ds) (hl:ds.length≤max n 900):DW ns k v4 n (dE ns ds (some (.d (.int k))) (some (.d (.int cell))) v4)
theorem vL(ns:List Int)(hn:ns.length≤63):∃ds,iq [.d (.list (ns.map .int))]=some (.l (ds.map .int),[.d (.list (ns.map .int))])∧hU ds:=by
  have inner:∀(cell k:Int) (ds:List Int) (v4:Option Sv),0≤k→k≤63→hU ds→ds.length≤63000→∃ds' v4',(∀W,dU W gp (ag 4) eA (dE ns ds (some (.d (.int k))) (some (.d (.int cell))) v4)=some (.nx (dE ns ds' (some (.d (.int k))) (some (.d (.int cell))) v4')))∧hU ds'∧ds'.length=ds.length+12:=by
    intro cell k ds v4 k0 k1 hd hl
    obtain⟨e',h1,h2⟩:=cD (own:=[]) (g:=ag 4) (f:=eA) (DJ ns k cell ds.length) (a8 0 12) 0 (dE ns ds (some (.d (.int k))) (some (.d (.int cell))) v4) (fun i x e hx hI=>by
      obtain⟨rfl,hi⟩:=e7 hx
      obtain⟨hd',hl'⟩:=hI
      rename_i ds' v4'
      obtain⟨r1,c1,_,_⟩:=mh cell (3*(0+(i:Int))+1) (by lia) (by lia)
      obtain⟨r2,c2,c3,c4⟩:=mh r1 (0+(i:Int)+k+2) (by lia) (by lia)
      have a1:gY 3 (0+(i:Int))=true:=oz (by decide) (by decide)
      refine⟨_,dE ns (ds'++[r2]) (some (.d (.int k))) (some (.d (.int cell))) (some (.d (.int (0+(i:Int))))),rfl,?_,bS,.mk (lM hd' c3 c4) (by simp;lia)⟩
      have hlen:ds'.length < 1000000:=by lia
      simp only [Int.zero_add] at a1 c1 c2
      simp? [dE,eA,c1,c2,bF,a1,hlen]) (.mk hd rfl)
    obtain⟨hd',hl'⟩:=h2
    rename_i ds' v4'
    rw [dN] at hl'
    refine⟨ds',v4',fun W=>?_,hd',by lia⟩
    rw [ef (show gp _=some (a8 0 12,[],_) from cR (n:=12) rfl (by decide) (by decide))]
    exact h1
  have wh:∀(cell k:Int) (ds:List Int) (v4:Option Sv),0≤cell→hU ds→ds.length≤63100→∃cell' ds',hG (2 ^ 4200) dt fZ (dE ns ds (some (.d (.int k))) (some (.d (.int cell))) v4)=some (.nx (dE ns ds' (some (.d (.int k))) (some (.d (.int cell'))) v4))∧0≤cell'∧hU ds'∧ds'.length≤max ds.length 900:=by
    intro cell k ds v4 hc hd hl
    have tst:∀(cell:Int) (ds:List Int),dt (dE ns ds (some (.d (.int k))) (some (.d (.int cell))) v4)=some (decide (1000000000000000000≤cell)&&decide ((ds.length:Int) < 900),dE ns ds (some (.d (.int k))) (some (.d (.int cell))) v4):=by
      intro cell ds
      by_cases h:(1000000000000000000:Int)≤cell
      · simp? [dE,dt,ik,iy,h]
      · simp? [dE,dt,ik,iy,h]
    obtain⟨e0,e',h1,hI,h3⟩:=hR (ft:=dt) (f:=fZ) (DW ns k v4 ds.length)
      (fun e=>1000000 - wg 1 e) (fun e hI=>by
        obtain⟨hc',hd',hl'⟩:=hI
        rename_i cell' ds'
        rw [tst]
        by_cases c1:(1000000000000000000:Int)≤cell'
        · by_cases c2:(ds'.length:Int) < 900
          · refine .inr ⟨_,dE ns (ds'++[cell' % 2147483629]) (some (.d (.int k))) (some (.d (.int (cell' / 2147483629)))) v4,by rw [decide_eq_true c1,decide_eq_true c2];rfl,?_,.mk (by lia) (lM hd' (by lia) (by lia)) (by simp;lia),?_⟩
            · have hlen:ds'.length < 1000000:=by lia
              have b8:Bt 8000 2147483629:=iJ (by decide) (by decide)
              simp? [dE,fZ,aJ,cP,b8,hlen]
            · simp [wg,dE];lia
          · exact .inl ⟨_,by rw [decide_eq_true c1,decide_eq_false c2];rfl,trivial⟩
        · exact .inl ⟨_,by rw [decide_eq_false c1];rfl,trivial⟩) (2 ^ 4200) _ (.mk hc hd (by lia)) (l4 (m:=20) (Nat.lt_of_le_of_lt (Nat.sub_le _ _) (by decide)) (by decide))
    obtain⟨hc',hd',hl'⟩:=hI
    rename_i cell' ds'
    rw [tst] at h3
    have h4:=(Prod.mk.inj (Option.some.inj h3)).2
    subst h4
    exact⟨cell',ds',h1,hc',hd',hl'⟩
  have turn:∀(i:Nat) (ds:List Int) (v3 v4:Option Sv) (hi:i < ns.length),hU ds→ds.length≤1000*i→∃ds2 v3' v4',dr (dE ns ds (some (.d (.int (i:Int)))) v3 v4)=some (.nx (dE ns ds2 (some (.d (.int (i:Int)))) v3' v4'))∧hU ds2∧ds2.length≤1000*(i+1):=by
    intro i ds v3 v4 hi hd hl
    have hcell:atI (ns.map PyData.int) (i:Int)=some (.int ns[i]):=by
      rw [gP (by lia) (by rw [List.length_map];lia)]
      simp [hi]
    have c0:(0:Int)≤(ns[i].natAbs:Int):=by lia
    have st:a7 3 (aP (g1 n6) (aa (aq bY (ae 0) (ae 2)) ai)) (dE ns ds (some (.d (.int (i:Int)))) v3 v4)=some (.nx (dE ns ds (some (.d (.int (i:Int)))) (some (.d (.int (ns[i].natAbs:Int)))) v4)):=by
      simp? [dE,hcell]
    generalize (ns[i].natAbs:Int)=cell at c0 st
    have mid:∃ds1 v4',kB (bh (aq uu (ae 3) (aq oi (vC (.int 10)) (vC (.int 18))))) (dU ([4]++[]) gp (ag 4) eA) fW (dE ns ds (some (.d (.int (i:Int)))) (some (.d (.int cell))) v4)=some (.nx (dE ns ds1 (some (.d (.int (i:Int)))) (some (.d (.int cell))) v4'))∧hU ds1∧ds1.length≤ds.length+12:=by
      by_cases cb:cell < 1000000000000000000
      · obtain⟨ds1,v4',f1,f2,f3⟩:=inner cell (i:Int) ds v4 (by lia) (by lia) hd (by lia)
        refine⟨ds1,v4',?_,f2,by lia⟩
        rw [zE (e1:=dE ns ds (some (.d (.int (i:Int)))) (some (.d (.int cell))) v4) (by simp? [dE,ik,iy,cb])]
        exact f1 _
      · refine⟨ds,v4,?_,hd,by lia⟩
        rw [zD (e1:=dE ns ds (some (.d (.int (i:Int)))) (some (.d (.int cell))) v4) (by simp? [dE,ik,iy,cb])]
        rfl
    obtain⟨ds1,v4',m1,m2,m3⟩:=mid
    obtain⟨cell2,ds2,w1,w2,w3,w4⟩:=wh cell (i:Int) ds1 v4' c0 m2 (by lia)
    by_cases c2:(2147483629:Int)≤cell2
    · refine⟨ds2++[cell2 % 2147483629],some (.d (.int cell2)),v4',?_,lM w3 (by lia) (by lia),by simp;lia⟩
      have hlen:ds2.length < 1000000:=by lia
      unfold dr
      rw [eh st,eh m1,eh w1]
      simp? [dE,c2,aJ,hlen]
    · refine⟨ds2,some (.d (.int cell2)),v4',?_,w3,by lia⟩
      unfold dr
      rw [eh st,eh m1,eh w1]
      simp? [dE,c2]
  obtain⟨e',h1,hI⟩:=cD (own:=[]) (g:=ag 2) (f:=dr) (DI ns) (a8 0 (min (ns.length:Int) 63).toNat) 0 (dE ns [] none none none) (fun i x e hx hI=>by
    obtain⟨rfl,hi⟩:=e7 hx
    obtain⟨hd,hl⟩:=hI
    rename_i ds v2 v3 v4
    rw [Nat.zero_add] at hl ⊢
    obtain⟨ds2,v3',v4',t1,t2,t3⟩:=turn i ds v3 v4 (by lia) hd hl
    exact⟨dE ns ds (some (.d (.int (i:Int)))) v3 v4,_,by simp [ag,dE],t1,bS,.mk t2 t3⟩) (.mk (fun d hd=>by cases hd) (by simp))
  obtain⟨hd,hl⟩:=hI
  rename_i ds v2 v3 v4
  refine⟨ds,?_,hd⟩
  have hf:∀W,dU W iS (ag 2) dr (dE ns [] none none none)=some (.nx (dE ns ds v2 v3 v4)):=fun W=>by
    rw [ef (show iS _=some (a8 0 (min (ns.length:Int) 63).toNat,[],dE ns [] none none none) from cR (n:=min (ns.length:Int) 63) (by simp? [dE]) (by lia) (by lia))]
    exact h1
  unfold dE at hf
  simp only [List.map_nil] at hf
  simp? [iq,oV,hf]
theorem zS(a b:Int)(hb:Bt 4000 b):mK [.d (.int a),.d (.int b)]=some (.d (.int (Int.gcd a b)),[.d (.int a),.d (.int b)]):=by
  have tst:∀x y:Int,h9 [some (.d (.int x)),some (.d (.int y))]=some (!(y==0),[some (.d (.int x)),some (.d (.int y))]):=fun x y=>by simp? [h9]
  obtain⟨e0,e',h1,⟨x,y,he,hg,hy⟩,h3⟩:=hR (ft:=h9) (f:=js) (fun e=>∃x y,e=[some (.d (.int x)),some (.d (.int y))]∧Int.gcd x y=Int.gcd a b∧Bt 4000 y) (k' 1) (fun e ⟨x,y,he,hg,hy⟩=>by
    subst he
    rw [tst]
    by_cases c:y=0
    · subst c;exact .inl ⟨_,rfl,trivial⟩
    · refine .inr ⟨_,[some (.d (.int y)),some (.d (.int (x.fmod y)))],by rw [beq_false_of_ne c];rfl,by simp? [js,rj c],⟨y,x.fmod y,rfl,by rw [mI,hg],?_⟩,?_⟩
      · have:=ec x c
        exact Bt.of_le hy (by lia)
      · have:=ec x c
        simpa [k'] using this) (2 ^ 4200) _ ⟨a,b,rfl,rfl,hb⟩ (l4 (m:=4000) (by simpa [k',Bt] using hb) (by decide))
  subst he
  rw [tst] at h3
  have h4:=Prod.mk.inj (Option.some.inj h3)
  have hy0:y=0:=by simpa using h4.1
  subst hy0
  have h5:=h4.2
  subst h5
  have hs:hG (2 ^ 4200) h9 js [some (.d (.int a)),some (.d (.int b))]=some (.nx [some (.d (.int x)),some (.d (.int 0))]):=h1
  have hg':(x.natAbs:Int)=(Int.gcd a b:Int):=by rw [←hg];simp
  simp only [mK,vY,hV,lb,aL,kB,bL,fW,a7,fR,ql,oF,sI,bh,aq,vR,ae,vC,eQ,ai,aa,cA,aP,cz,ny,wA,jb,AN,lx,yt,tW,yv,mP,lc,dj,bT,xc,gX,gL,nX,eT,bZ,qN,pP,bP,ar,ag,bG,ce,av,aW,uH,dB,jN,gS,lQ,lW,lU,lS,lR,jQ,jP,ij,iN,jM,rg,jO,n_,rh,oh,lV,oe,og,jT,jS,iQ,jU,rp,lE,lF,lG,lH,qL,iL,iK,ig,lT,List.replicate, -List.map_nil, -List.map_cons, -List.nil_append, -List.cons_append, -Option.bind_some, -Option.map_some, -getElem?_pos, -List.append_nil,qX,qW,qQ,qP,qU,qV,qS,qY]
  simp? [hs,hg']
theorem pO(t b:Int)(hb:0 < b)(h:Bt 4000 b):gN [.d (.int t),.d (.int b)]=some (.d (.tuple [.int (lowM t b).1,.int (lowM t b).2]),[.d (.int t),.d (.int b)]):=by
  have g0:=lX (t:=t) (b:=b) (by lia)
  have g1:(Int.gcd t b:Int)≠0:=by lia
  have g8:Bt 8000 (Int.gcd t b:Int):=(rD (t:=t) (by lia) h).mono (by decide)
  have e:lowM t b=(t.fdiv (Int.gcd t b:Int),b.fdiv (Int.gcd t b:Int)):=by unfold lowM;rw [if_neg (by lia)]
  rw [e]
  simp? [gN,vZ,zS t b h,pq g1 g8]
theorem v_{i:Int}{n:Nat}(h1: -2147483648 < i)(h2:i < 2147483648)(hn:31≤n):Bt n i:=Bt.mono (m:=31) (by unfold Bt;lia) hn
def qJ(t b:Int):Prop:=0≤t∧t≤b∧1≤b∧b≤100∧Int.gcd t b=1
theorem tM(n k:Int)(hn:0≤n):∃t b,c_ [.d (.int n),.d (.int k)]=some (.d (.tuple [.int t,.int b]),[.d (.int n),.d (.int k)])∧qJ t b:=by
  have b9:Bt 8000 9:=iJ (by decide) (by decide)
  have b100:Bt 8000 100:=iJ (by decide) (by decide)
  have low:∀t b:Int,0 < b→0≤t→t≤b→b≤100→qJ (lowM t b).1 (lowM t b).2:=fun t b hb h0 h1 h2=>by
    obtain⟨r1,r2,r3,r4⟩:=oy hb h0 h1 h2
    exact⟨r1,r2,r3,r4,mJ (by lia)⟩
  by_cases c0:k=0
  · subst c0
    obtain⟨x,hx,ha⟩:=eS (xs:=[PyData.tuple [.int 1,.int 2],.tuple [.int 1,.int 3],.tuple [.int 2,.int 3],.tuple [.int 1,.int 1],.tuple [.int 0,.int 1],.tuple [.int 3,.int 4]]) (i:=n % 6) (by lia) (by simp;lia)
    obtain⟨t,b,rfl,hc⟩:∃t b,x=.tuple [.int t,.int b]∧qJ t b:=by
      simp only [List.mem_cons,List.not_mem_nil,or_false] at hx
      rcases hx with rfl | rfl | rfl | rfl | rfl | rfl<;>exact⟨_,_,rfl,by unfold qJ;decide⟩
    exact⟨t,b,by simp? [c_,fB,aJ,ha],hc⟩
  · by_cases c1:k=1
    · subst c1
      have hm:(n / 9) % (2+n % 9 - 1) < 2+n % 9 - 1:=Int.emod_lt_of_pos _ (by lia)
      have hm0:0≤(n / 9) % (2+n % 9 - 1):=Int.emod_nonneg _ (by lia)
      refine⟨_,_,?_,low (1+(n / 9) % (2+n % 9 - 1)) (2+n % 9) (by lia) (by lia) (by lia) (by lia)⟩
      have hpos:∀e:En,aT e (.d (.int (n / 9))) (.d (.int (2+n % 9 - 1)))=_:=fun e=>aJ (by lia)
      have hl:=pO (1+(n / 9) % (2+n % 9 - 1)) (2+n % 9) (by lia) (v_ (by lia) (by lia) (by decide))
      simp? [c_,fB,aJ,cP,b9,hpos,hl]
    · by_cases c2:k=2
      · subst c2
        have hm:(n / 100) % (1+n % 100+1) < 1+n % 100+1:=Int.emod_lt_of_pos _ (by lia)
        have hm0:0≤(n / 100) % (1+n % 100+1):=Int.emod_nonneg _ (by lia)
        refine⟨_,_,?_,low ((n / 100) % (1+n % 100+1)) (1+n % 100) (by lia) (by lia) (by lia) (by lia)⟩
        have hpos:∀e:En,aT e (.d (.int (n / 100))) (.d (.int (1+n % 100+1)))=_:=fun e=>aJ (by lia)
        have hl:=pO ((n / 100) % (1+n % 100+1)) (1+n % 100) (by lia) (v_ (by lia) (by lia) (by decide))
        simp? [c_,fB,aJ,cP,b100,hpos,hl]
      · refine⟨1,1,?_,by unfold qJ;decide⟩
        simp? [c_,fB,c0,c1,c2]
theorem vN(n k:Int):∃r,ir [.d (.int n),.d (.int k)]=some (.d (.int r),[.d (.int n),.d (.int k)])∧0≤r∧r≤1000:=by
  obtain⟨x,hx,ha⟩:=eS (xs:=[PyData.int (n % 7),.int (5+n % 2),.int (n % 1001),.int (1000 - n % 3)]) (i:=k % 4) (by lia) (by simp;lia)
  obtain⟨r,rfl,hr⟩:∃r,x=.int r∧0≤r∧r≤1000:=by
    simp only [List.mem_cons,List.not_mem_nil,or_false] at hx
    rcases hx with rfl | rfl | rfl | rfl<;>exact⟨_,rfl,by lia,by lia⟩
  exact⟨r,by simp? [ir,oZ,aJ,ha],hr⟩
abbrev tE(ds:List Int)(things many shape odds ws:Int)(ts:List iI)(v7 v8 v9 v10 v11 v12:Option Sv):En:=[some (.l (ds.map .int)),some (.d (.int things)),some (.d (.int many)),some (.d (.int shape)),some (.d (.int odds)),some (.d (.int ws)),some (.l (ts.map aU)),v7,v8,v9,v10,v11,v12]
inductive TR (things many shape odds ws:Int) (ts:List iI) (k:Option Sv):En→Prop
  | mk {t ds w8 w9 w10 w11 w12} (hd:hU ds) (ht:t.Ok things):TR things many shape odds ws ts k (tE ds things many shape odds ws (ts++[t]) k w8 w9 w10 w11 w12)
inductive TI (things many a b c:Int) (i:Nat):En→Prop
  | mk {ts ds w7 w8 w9 w10 w11 w12} (hd:hU ds) (hl:ts.length=i) (ht:∀t∈ts,t.Ok things):TI things many a b c i (tE ds things many a b c ts w7 w8 w9 w10 w11 w12)
theorem zT(ds:List Int)(things many shape odds ws:Int)(ts:List iI)(k:Int)(v8 v9 v10 v11 v12:Option Sv)(hd:hU ds)(h2:2≤things)(h12:things≤100)(s0:0≤shape)(s1:shape < 6)(k0:0≤k)(hl:ts.length≤1000):
    ∃e',eC (tE ds things many shape odds ws ts (some (.d (.int k))) v8 v9 v10 v11 v12)=some (.nx e')∧TR things many shape odds ws ts (some (.d (.int k))) e':=by
  obtain⟨n,d1,tn, -, -,hd1⟩:=gJ hd
  obtain⟨m,d2,tm,m0, -,hd2⟩:=gJ hd1
  obtain⟨x,hx,ha⟩:=eS (xs:=[PyData.int (n % things),.int 0,.int (k % things),.int (n % things),.int (n % 2),.int (n % things)]) (i:=shape) s0 (by simp;lia)
  have tp:0 < things:=Int.lt_of_lt_of_le (by decide) h2
  have tq:0 < things - 1:=Int.sub_pos_of_lt (Int.lt_of_lt_of_le (by decide) h2)
  have nt:0≤n % things∧n % things < things:=⟨pY tp,pZ tp⟩
  have kt:0≤k % things∧k % things < things:=⟨pY tp,pZ tp⟩
  obtain⟨one,rfl,o0,o1⟩:∃r,x=.int r∧0≤r∧r < things:=by
    simp only [List.mem_cons,List.not_mem_nil,or_false] at hx
    rcases hx with rfl | rfl | rfl | rfl | rfl | rfl<;>exact⟨_,rfl,by lia,by lia⟩
  have r0:0≤(n / 12) % (things - 1):=pY tq
  have r1:(n / 12) % (things - 1) < things - 1:=pZ tq
  have q0:0≤(one+1+(n / 12) % (things - 1)) % things:=pY tp
  have q1:(one+1+(n / 12) % (things - 1)) % things < things:=pZ tp
  have qn:(one+1+(n / 12) % (things - 1)) % things≠one:=fun z=>by
    by_cases c:one+1+(n / 12) % (things - 1) < things
    · rw [Int.emod_eq_of_lt (by lia) c] at z;lia
    · have e:(one+1+(n / 12) % (things - 1)) % things=(one+1+(n / 12) % (things - 1) - things) % things:=by rw [Int.sub_emod_right]
      rw [e,Int.emod_eq_of_lt (by lia) (by lia)] at z;lia
  obtain⟨t,b,c1,c2,c3,c4,c5,c6⟩:=tM m odds m0
  obtain⟨w,w1,w2,w3⟩:=vN (m / 10007) ws
  have b12:Bt 8000 12:=iJ (by decide) (by decide)
  have b107:Bt 8000 10007:=iJ (by decide) (by decide)
  have g1:∀(e:En) (i:Int),aT e (.d (.int i)) (.d (.int things))=some (.d (.int (i % things))):=fun e i=>aJ tp
  have g2:∀(e:En) (i:Int),aT e (.d (.int i)) (.d (.int (things - 1)))=some (.d (.int (i % (things - 1)))):=fun e i=>aJ tq
  have hlen:ts.length < 1000000:=by lia
  by_cases c:shape=4
  · subst c
    refine⟨tE d2 things many 4 odds ws (ts++[⟨0,1,t,b,w⟩]) (some (.d (.int k))) (some (.d (.int n))) (some (.d (.int 0))) (some (.d (.int 1))) (some (.d (.int m))) (some (.d (.tuple [.int 0,.int 1]))),?_,.mk hd2 ⟨by show(0:Int)≤0;decide,by show(0:Int) < 1;decide,by show(1:Int) < things;lia,c2,c3,c4,c5,w2,w3,c6⟩⟩
    simp? [tE,eC,tn,tm,aJ,g1,g2,cP,b12,b107,ha,c1,w1,n9,aU,hlen]
    decide
  · refine⟨tE d2 things many shape odds ws (ts++[⟨min one ((one+1+(n / 12) % (things - 1)) % things),max one ((one+1+(n / 12) % (things - 1)) % things),t,b,w⟩]) (some (.d (.int k))) (some (.d (.int n))) (some (.d (.int one))) (some (.d (.int ((one+1+(n / 12) % (things - 1)) % things)))) (some (.d (.int m))) (some (.d (.tuple [.int (min one ((one+1+(n / 12) % (things - 1)) % things)),.int (max one ((one+1+(n / 12) % (things - 1)) % things))]))),?_,.mk hd2 ⟨by show 0≤min _ _;lia,by show min _ _ < max _ _;lia,by show max _ _ < _;lia,c2,c3,c4,c5,w2,w3,c6⟩⟩
    simp? [tE,eC,tn,tm,aJ,g1,g2,cP,b12,b107,ha,c1,w1,n9,aU,hlen,c]
theorem tQ(ds:List Int)(things many:Int)(hd:hU ds)(h2:2≤things)(h12:things≤100)(m0:0≤many)(m1:many≤1000):∃(ts:List iI) (ds':List Int),gW [.l (ds.map .int),.d (.int things),.d (.int many)]=some (.d (.tuple (ts.map aU)),[.l (ds'.map .int),.d (.int things),.d (.int many)])∧hU ds'∧(ts.length:Int)=many∧∀t∈ts,t.Ok things:=by
  obtain⟨n0,d1,t0, -, -,hd1⟩:=gJ hd
  obtain⟨n1,d2,t1, -, -,hd2⟩:=gJ hd1
  obtain⟨n2,d3,t2, -, -,hd3⟩:=gJ hd2
  obtain⟨e',h1,hI⟩:=cD (own:=[]) (g:=ag 7) (f:=eC) (TI things many (n0 % 6) (n1 % 4) (n2 % 4)) (a8 0 many.toNat) 0 (tE d3 things many (n0 % 6) (n1 % 4) (n2 % 4) [] none none none none none none) (fun i x e hx hI=>by
    obtain⟨rfl,hi⟩:=e7 hx
    obtain⟨hd',hl,ht⟩:=hI
    rename_i ts ds' w7 w8 w9 w10 w11 w12
    obtain⟨e9,s1,⟨s2,s3⟩⟩:=zT ds' things many (n0 % 6) (n1 % 4) (n2 % 4) ts (0+(i:Int)) w8 w9 w10 w11 w12 hd' h2 h12 (pY (by decide)) (pZ (by decide)) (by lia) (by lia)
    exact⟨_,_,rfl,s1,bS,.mk s2 (by simp;lia) fun z hz=>by
      rcases List.mem_append.mp hz with hz | hz
      · exact ht z hz
      · simp at hz;subst hz;exact s3⟩) (.mk hd3 rfl fun t ht=>by cases ht)
  obtain⟨hd',hl,ht⟩:=hI
  rename_i ts ds' w7 w8 w9 w10 w11 w12
  refine⟨ts,ds',?_,hd',by rw [hl,dN];lia,ht⟩
  have hf:∀W,dU W jW (ag 7) eC (tE d3 things many (n0 % 6) (n1 % 4) (n2 % 4) [] none none none none none none)=some (.nx (tE ds' things many (n0 % 6) (n1 % 4) (n2 % 4) ts w7 w8 w9 w10 w11 w12)):=fun W=>by
    rw [ef (show jW _=some (a8 0 many.toNat,[],tE d3 things many (n0 % 6) (n1 % 4) (n2 % 4) [] none none none none none none) from cR (n:=many) (by simp? [tE]) (by lia) (by lia))]
    exact h1
  unfold tE at hf
  simp only [List.map_nil] at hf
  simp? [gW,qG,t0,t1,t2,aJ,hf]
abbrev wE(ds:List Int)(most tn things many:Int)(ts:List iI)(way:Int)(ps:List Int)(v8 v9:Option Sv):En:=[some (.l (ds.map .int)),some (.d (.int most)),some (.d (.int tn)),some (.d (.int things)),some (.d (.int many)),some (.d (.tuple (ts.map aU))),some (.d (.int way)),some (.l (ps.map .int)),v8,v9]
inductive WI (most tn things many:Int) (ts:List iI) (way:Int) (i:Nat):En→Prop
  | mk {ps ds w8} (hd:hU ds) (hpl:ps.length=i) (hps:∀p∈ps,0≤p∧p≤20):WI most tn things many ts way i (wE ds most tn things many ts way ps w8 none)
theorem zU(ds:List Int)(most tn:Int)(hd:hU ds)(m0:0≤most)(m1:most≤12)(k0:0≤tn)(k1:tn≤16):∃(W:bE) (ds':List Int),mL [.l (ds.map .int),.d (.int most),.d (.int tn)]=some (.d (aS W),[.l (ds'.map .int),.d (.int most),.d (.int tn)])∧hU ds'∧W.Ok∧W.things≤most∧(W.ties.length:Int)≤tn:=by
  obtain⟨n0,d1,t0, -, -,hd1⟩:=gJ hd
  obtain⟨n1,d2,t1, -, -,hd2⟩:=gJ hd1
  have mp:0 < most+1:=Int.lt_add_one_of_le m0
  have kp:0 < tn+1:=Int.lt_add_one_of_le k0
  have g0:∀(e:En),aT e (.d (.int n0)) (.d (.int (most+1)))=some (.d (.int (n0 % (most+1)))):=fun e=>aJ mp
  have g1':∀(e:En),aT e (.d (.int n1)) (.d (.int (tn+1)))=some (.d (.int (n1 % (tn+1)))):=fun e=>aJ kp
  have th0:0≤n0 % (most+1):=pY mp
  have th1:n0 % (most+1) < most+1:=pZ mp
  have ti0:0≤n1 % (tn+1):=pY kp
  have ti1:n1 % (tn+1) < tn+1:=pZ kp
  clear mp kp
  generalize n0 % (most+1)=things at th0 th1 g0
  generalize n1 % (tn+1)=tm at ti0 ti1 g1'
  obtain⟨many,hmany,mm,m00,m01⟩:∃many:Int,many=tm*(if decide (1 < things)=true then 1 else 0)∧(1 < things∨many=0)∧0≤many∧many≤tn:=by
    by_cases c:1 < things
    · exact⟨tm,by simp [c],.inl c,ti0,by lia⟩
    · exact⟨0,by simp [c],.inr rfl,by lia,by lia⟩
  have gm:∀e:En,bO e (.d (.int tm)) (.d (.int (if decide (1 < things)=true then 1 else 0)))=some (.d (.int many)):=fun e=>by
    rw [bF (l6 (by split<;>decide) (by split<;>decide)),hmany]
  have gi:∀e:En,g1 p6 e [.d (.bool (decide (1 < things)))]=some (.d (.int (if decide (1 < things)=true then 1 else 0))):=fun e=>rfl
  generalize (if decide (1 < things)=true then 1 else 0:Int)=one at gm gi
  obtain⟨ts,d3,t3,hd3,hlen,hts⟩:=tQ d2 (max 2 things) many hd2 (by lia) (by lia) m00 (by lia)
  obtain⟨n4,d4,t4, -, -,hd4⟩:=gJ hd3
  obtain⟨e',h1,hI⟩:=cD (own:=[]) (g:=ag 8) (f:=jt) (WI most tn things many ts (n4 % 3)) (a8 0 things.toNat) 0 (wE d4 most tn things many ts (n4 % 3) [] none none) (fun i x e hx hI=>by
    obtain⟨rfl,hi⟩:=e7 hx
    obtain⟨hd5,hpl,hps⟩:=hI
    rename_i ps d5 w8
    obtain⟨p1,d6,t6, -, -,hd6⟩:=gJ hd5
    obtain⟨p2,d7,t7, -, -,hd7⟩:=gJ hd6
    obtain⟨z,hz,ha⟩:=eS (xs:=[PyData.int 20,.int (1+p1 % 3),.int (p2 % 21)]) (i:=n4 % 3) (pY (by decide)) (pZ (k:=3) (by decide))
    obtain⟨p,rfl,hp⟩:∃r,z=.int r∧0≤r∧r≤20:=by
      simp only [List.mem_cons,List.not_mem_nil,or_false] at hz
      rcases hz with rfl | rfl | rfl<;>exact⟨_,rfl,by lia,by lia⟩
    refine⟨wE d5 most tn things many ts (n4 % 3) ps (some (.d (.int (0+(i:Int))))) none,wE d7 most tn things many ts (n4 % 3) (ps++[p]) (some (.d (.int (0+(i:Int))))) none,rfl,?_,bS,.mk hd7 (by simp;lia) fun q hq=>by
      rcases List.mem_append.mp hq with hq | hq
      · exact hps q hq
      · simp at hq;subst hq;exact hp⟩
    have hlen:ps.length < 1000000:=by lia
    simp? [wE,jt,t6,t7,aJ,ha,hlen]) (.mk hd4 rfl fun p hp=>by cases hp)
  obtain⟨hd5,hpl,hps⟩:=hI
  rename_i ps d5 w8
  have hf:∀W,dU W lZ (ag 8) jt (wE d4 most tn things many ts (n4 % 3) [] none none)=some (.nx (wE d5 most tn things many ts (n4 % 3) ps w8 none)):=fun W=>by
    rw [ef (show lZ _=some (a8 0 things.toNat,[],wE d4 most tn things many ts (n4 % 3) [] none none) from cR (n:=things) (by simp? [wE]) (by lia) (by lia))]
    exact h1
  obtain⟨p1,d6,t6, -, -,hd6⟩:=gJ hd5
  obtain⟨p2,d7,t7, -, -,hd7⟩:=gJ hd6
  obtain⟨p3,d8,t8, -, -,hd8⟩:=gJ hd7
  have xp:0 < max 1 many:=Int.lt_of_lt_of_le Int.zero_lt_one (Int.le_max_left _ _)
  have gx:∀(e:En),aT e (.d (.int p1)) (.d (.int (max 1 many)))=some (.d (.int (p1 % max 1 many))):=fun e=>aJ xp
  have x0:0≤p1 % max 1 many:=pY xp
  have x1:p1 % max 1 many < max 1 many:=pZ xp
  obtain⟨z,hz,ha⟩:=eS (xs:=[PyData.int 40,.int (1+p1 % max 1 many),.int (p2 % 41)]) (i:=p3 % 3) (pY (by decide)) (pZ (k:=3) (by decide))
  obtain⟨asks,rfl,hasks⟩:∃r,z=.int r∧0≤r∧r≤40:=by
    simp only [List.mem_cons,List.not_mem_nil,or_false] at hz
    rcases hz with rfl | rfl | rfl<;>exact⟨_,rfl,by lia,by lia⟩
  rw [dN] at hpl
  refine⟨⟨things,ts,ps,asks⟩,d8,?_,hd8,⟨th0,by show things≤12;lia,fun t ht=>?_,by show ts.length≤16;lia,by show(ps.length:Int)=things;lia,hps,hasks.1,hasks.2⟩,by show things≤most;lia,by show(ts.length:Int)≤tn;lia⟩
  · unfold wE at hf
    simp only [List.map_nil] at hf
    simp? [mL,v0,t0,t1,g0,g1',gm,gi,t3,t4,aJ,hf,t6,t7,t8,gx,ha,aS]
  · rcases mm with c | c
    · have:=hts t ht
      rw [show max 2 things=things by lia] at this
      exact this
    · have:ts=[]:=List.length_eq_zero_iff.mp (by lia)
      subst this;cases ht
theorem ja(a b:Int)(hb:Bt 4000 b):br [.d (.int a),.d (.int b)]=some (.d (.int (Int.gcd a b)),[.d (.int a),.d (.int b)]):=by
  have tst:∀x y:Int,a' [some (.d (.int x)),some (.d (.int y))]=some (!(y==0),[some (.d (.int x)),some (.d (.int y))]):=fun x y=>by simp? [a']
  obtain⟨e0,e',h1,⟨x,y,he,hg,hy⟩,h3⟩:=hR (ft:=a') (f:=bz) (fun e=>∃x y,e=[some (.d (.int x)),some (.d (.int y))]∧Int.gcd x y=Int.gcd a b∧Bt 4000 y) (k' 1) (fun e ⟨x,y,he,hg,hy⟩=>by
    subst he
    rw [tst]
    by_cases c:y=0
    · subst c;exact .inl ⟨_,rfl,trivial⟩
    · refine .inr ⟨_,[some (.d (.int y)),some (.d (.int (x.fmod y)))],by rw [beq_false_of_ne c];rfl,by simp? [bz,rj c],⟨y,x.fmod y,rfl,by rw [mI,hg],?_⟩,?_⟩
      · have:=ec x c
        exact Bt.of_le hy (by lia)
      · have:=ec x c
        simpa [k'] using this) (2 ^ 4200) _ ⟨a,b,rfl,rfl,hb⟩ (l4 (m:=4000) (by simpa [k',Bt] using hb) (by decide))
  subst he
  rw [tst] at h3
  have h4:=Prod.mk.inj (Option.some.inj h3)
  have hy0:y=0:=by simpa using h4.1
  subst hy0
  have h5:=h4.2
  subst h5
  have hs:hG (2 ^ 4200) a' bz [some (.d (.int a)),some (.d (.int b))]=some (.nx [some (.d (.int x)),some (.d (.int 0))]):=h1
  have hg':(x.natAbs:Int)=(Int.gcd a b:Int):=by rw [←hg];simp
  simp only [br,eD,hV,lb,aL,kB,bL,fW,a7,fR,ql,oF,sI,bh,aq,vR,ae,vC,eQ,ai,aa,cA,aP,cz,ny,wA,jb,AN,lx,yt,tW,yv,mP,lc,dj,bT,xc,gX,gL,nX,eT,bZ,qN,pP,bP,ar,ag,bG,ce,av,aW,uH,dB,jN,gS,lQ,lW,lU,lS,lR,jQ,jP,ij,iN,jM,rg,jO,n_,rh,oh,lV,oe,og,jT,jS,iQ,jU,rp,lE,lF,lG,lH,qL,iL,iK,ig,lT,List.replicate, -List.map_nil, -List.map_cons, -List.nil_append, -List.cons_append, -Option.bind_some, -Option.map_some, -getElem?_pos, -List.append_nil,qX,qW,qQ,qP,qU,qV,qS,qY]
  simp? [hs,hg']
theorem tO(t b:Int)(hb:0 < b)(h:Bt 4000 b):fN [.d (.int t),.d (.int b)]=some (.d (dF (lowM t b)),[.d (.int t),.d (.int b)]):=by
  have g0:=lX (t:=t) (b:=b) (by lia)
  have g1:(Int.gcd t b:Int)≠0:=by lia
  have g8:Bt 8000 (Int.gcd t b:Int):=(rD (t:=t) (by lia) h).mono (by decide)
  have e:lowM t b=(t.fdiv (Int.gcd t b:Int),b.fdiv (Int.gcd t b:Int)):=by unfold lowM;rw [if_neg (by lia)]
  have nb:¬b < 0:=by lia
  rw [e]
  simp? [fN,mv,ja t b h,pq g1 g8,nb,dF]
theorem vM{a b:Fr}{n:Nat}(a2:0 < a.2)(b2:0 < b.2)(ha1:Bt n a.1)(ha:Bt n a.2)(hb1:Bt n b.1)(hb:Bt n b.2)(hn:n≤1900):gy [.d (dF a),.d (dF b)]=some (.d (dF (tm a b)),[.d (dF a),.d (dF b)]):=by
  have g1:∀e:En,bO e (.d (.int a.1)) (.d (.int b.1))=some (.d (.int (a.1*b.1))):=fun e=>bF (fP (ha1.mono (by lia)) (hb1.mono (by lia)))
  have g2:∀e:En,bO e (.d (.int a.2)) (.d (.int b.2))=some (.d (.int (a.2*b.2))):=fun e=>bF (fP (ha.mono (by lia)) (hb.mono (by lia)))
  have tl:=tO (a.1*b.1) (a.2*b.2) (Int.mul_pos a2 b2) ((ha.mul hb).mono (by lia))
  unfold tm
  unfold dF at*
  simp? [gy,o6,g1,g2,tl]
theorem vJ{a b:Fr}{n:Nat}(a2:0 < a.2)(b2:0 < b.2)(ha1:Bt n a.1)(ha:Bt n a.2)(hb1:Bt n b.1)(hb:Bt n b.2)(hn:n≤1900):gw [.d (dF a),.d (dF b)]=some (.d (dF (tm a b)),[.d (dF a),.d (dF b)]):=by
  have g1:∀e:En,bO e (.d (.int a.1)) (.d (.int b.1))=some (.d (.int (a.1*b.1))):=fun e=>bF (fP (ha1.mono (by lia)) (hb1.mono (by lia)))
  have g2:∀e:En,bO e (.d (.int a.2)) (.d (.int b.2))=some (.d (.int (a.2*b.2))):=fun e=>bF (fP (ha.mono (by lia)) (hb.mono (by lia)))
  have tl:=pO (a.1*b.1) (a.2*b.2) (Int.mul_pos a2 b2) ((ha.mul hb).mono (by lia))
  unfold tm
  unfold dF at*
  simp? [gw,oY,g1,g2,tl]
theorem yy{W:bE}(ok:W.Ok)(b:Bool):Sw b 64025 5 (aS W):=by
  have t0:=ok.t0;have t1:=ok.t1;have a0:=ok.a0;have a1:=ok.a1;have wl:=ok.len;have pl:=ok.pl
  have T2:∀d∈W.ties.map aU,Sw b 1000 3 d:=fun d hd=>by
    obtain⟨t,ht,rfl⟩:=List.mem_map.mp hd
    have o:=ok.ties t ht
    have o0:=o.o0;have o1:=o.o1;have o2:=o.o2;have c0:=o.c0;have c1:=o.c1;have b1:=o.b1;have w0:=o.w0;have w1:=o.w1
    have hd:t_ 2 (aU t)=true:=by
      simp only [aU,t_,lg,Bool.and_eq_true,decide_eq_true_eq,Nat.reducePow]
      exact⟨by decide,by lia,by lia,⟨by decide,by lia,by lia,trivial⟩,by lia,trivial⟩
    exact((nO hd).swF rfl b).mono (by simp [aU,wt,lz]) (by decide)
  have T3:Sw b 16005 4 (.tuple (W.ties.map aU)):=Sw.tup (n:=1000) (dep:=3) (m:=16) T2 (by simpa using wl)
  have P1:Sw b 16005 4 (.tuple (W.pat.map .int)):=(Sw.ints (m:=12) (fun r hr=>by have:=ok.pat r hr;lia) (by lia)).mono (by decide) (by decide)
  have i1:Sw b 16005 4 (.int W.things):=(Sw.int (by lia)).mono (by decide) (by decide)
  have i2:Sw b 16005 4 (.int W.asks):=(Sw.int (by lia)).mono (by decide) (by decide)
  exact Sw.tup (n:=16005) (dep:=4) (m:=4) (fun d hd=>by
    simp only [List.mem_cons,List.not_mem_nil,or_false] at hd
    rcases hd with rfl | rfl | rfl | rfl
    · exact i1
    · exact T3
    · exact P1
    · exact i2) (by simp)
theorem A0{W:bE}(e:En):bY e (.d (aS W)) (.d (.int 0))=some (.d (.int W.things)):=by rw [ib,jO,lE];rfl
theorem Aq{W:bE}(e:En):bY e (.d (aS W)) (.d (.int 1))=some (.d (.tuple (W.ties.map aU))):=by rw [ib,jO,lF];rfl
theorem A4{W:bE}(e:En):bY e (.d (aS W)) (.d (.int 2))=some (.d (.tuple (W.pat.map .int))):=by rw [ib,jO,lG];rfl
theorem A6{W:bE}(e:En):bY e (.d (aS W)) (.d (.int 3))=some (.d (.int W.asks)):=by rw [ib,jO,lH];rfl
def tT:PyData→En
  | .tuple [a,b]=>[some (.d a),some (.d b)]
  | _=>[]
theorem tU{cs:En}{i j:Nat}(hi:i=cs.length)(hj:j=cs.length+1){x a b:PyData}(hx:x=.tuple [a,b])(t:En)(ht:t.length=2):bP (ar (ag i) (ar (ag j) bG)) x (cs++t)=some (cs++tT x):=by
  subst hx hi hj
  match t,ht with
  | [p,q],_=>simp [bP,ar,ag,bG,tT]
def zF(r:List Int):Int:=r.getD 1 0
def gH(key:Nat→Int)(n:Nat):List Int:=(bM ((List.range n).map fun i=>[key i,(i:Int)])).map zF
theorem jX(key:Nat→Int)(n:Nat):(gH key n).Perm ((List.range n).map fun(i:Nat)=>(i:Int)):=by
  have:=(List.mergeSort_perm ((List.range n).map fun i=>[key i,(i:Int)]) fun a b=>decide (a≤b)).map zF
  rw [List.map_map] at this
  exact this
theorem tI(rs:List (List Int)):(bM rs).Pairwise (· ≤·):=by
  have h2:=List.pairwise_mergeSort (le:=fun a b:List Int=>decide (a≤b)) (fun a b c h1 h2=>by simp only [decide_eq_true_eq] at*;exact List.le_trans h1 h2) (fun a b=>by simp only [Bool.or_eq_true,decide_eq_true_eq];exact List.le_total a b) rs
  exact h2.imp fun h=>by simpa using h
theorem ya{a b c d:Int}(h:[a,b]≤[c,d]):a < c∨a=c∧b≤d:=by
  rw [←List.not_lt,List.cons_lt_cons_iff,List.cons_lt_cons_iff] at h
  have n0:¬([]:List Int) < []:=List.lt_irrefl _
  by_cases x:a < c
  · exact .inl x
  · by_cases y:a=c
    · refine .inr ⟨y,?_⟩
      by_cases z:b≤d
      · exact z
      · exact absurd (.inr ⟨y.symm,.inl (by lia)⟩) h
    · exact absurd (.inl (by lia)) h
theorem rH(key:Nat→Int)(n:Nat):(gH key n).Pairwise fun a b=>key a.toNat < key b.toNat∨key a.toNat=key b.toNat∧a≤b:=by
  unfold gH
  rw [List.pairwise_map]
  have p:=List.mergeSort_perm ((List.range n).map fun i=>[key i,(i:Int)]) fun a b=>decide (a≤b)
  refine(tI _).imp_of_mem fun{a b} ha hb h=>?_
  obtain⟨i, -,rfl⟩:=List.mem_map.mp (p.mem_iff.mp ha)
  obtain⟨j, -,rfl⟩:=List.mem_map.mp (p.mem_iff.mp hb)
  have:=ya h
  show key ((i:Int)).toNat < key ((j:Int)).toNat∨key ((i:Int)).toNat=key ((j:Int)).toNat∧(i:Int)≤(j:Int)
  rw [Int.toNat_natCast,Int.toNat_natCast]
  exact this
theorem ph{p q:Nat→Bool}:∀(l:List Nat),(∀k∈l,p k=true→q k=false)→(l.filter fun k=>p k || q k).length=(l.filter p).length+(l.filter q).length
  | [],_=>rfl
  | k::l,h=>by
    have ih:=ph l fun j hj=>h j (List.mem_cons_of_mem _ hj)
    have hk:=h k (by simp)
    cases a:p k<;>cases b:q k
    · simp [List.filter_cons,a,b,ih]
    · simp [List.filter_cons,a,b,ih];lia
    · simp [List.filter_cons,a,b,ih];lia
    · exact absurd (hk a) (by simp [b])
theorem pe{p q:Nat→Bool}:∀(l:List Nat),(∀k∈l,p k=true→q k=true)→(l.filter p).length≤(l.filter q).length∧((∃j∈l,p j=false∧q j=true)→(l.filter p).length < (l.filter q).length)
  | [],_=>⟨Nat.le_refl _,fun⟨j,hj,_⟩=>by cases hj⟩
  | k::l,h=>by
    obtain⟨i1,i2⟩:=pe l fun j hj=>h j (List.mem_cons_of_mem _ hj)
    have hk:=h k (by simp)
    cases a:p k<;>cases b:q k
    · simp only [List.filter_cons,a,b,Bool.false_eq_true,if_false]
      refine⟨i1,fun⟨j,hj,e1,e2⟩=>i2 ?_⟩
      rcases List.mem_cons.mp hj with rfl | hj
      · rw [b] at e2;cases e2
      · exact⟨j,hj,e1,e2⟩
    · simp only [List.filter_cons,a,b,Bool.false_eq_true,if_false,if_true,List.length_cons]
      exact⟨by lia,fun _=>by lia⟩
    · exact absurd (hk a) (by simp [b])
    · simp only [List.filter_cons,a,b,if_true,List.length_cons]
      refine⟨by lia,fun⟨j,hj,e1,e2⟩=>?_⟩
      have:=i2 (by
        rcases List.mem_cons.mp hj with rfl | hj
        · rw [a] at e1;cases e1
        · exact⟨j,hj,e1,e2⟩)
      lia
theorem p5{p:Nat→Bool}{i n:Nat}(h:i≤n):(List.range n).filter (fun k=>decide (k < i)&&p k)=(List.range i).filter p:=by
  obtain⟨m,rfl⟩:∃m,n=i+m:=⟨n - i,by lia⟩
  rw [List.range_add,List.filter_append]
  have e1:(List.range i).filter (fun k=>decide (k < i)&&p k)=(List.range i).filter p:=List.filter_congr fun k hk=>by
    simp [List.mem_range.mp hk]
  have e2:((List.range m).map (i+·)).filter (fun k=>decide (k < i)&&p k)=[]:=List.filter_eq_nil_iff.mpr fun k hk=>by
    obtain⟨j, -,rfl⟩:=List.mem_map.mp hk
    simp
    intro h;lia
  rw [e1,e2,List.append_nil]
def ug(t:Nat→Int)(k i:Nat):Bool:=decide (t i < t k) || (decide (k < i)&&decide (t k=t i))
def oE(t:Nat→Int)(n i:Nat):Nat:=((List.range n).filter fun k=>decide (t i < t k)).length+((List.range i).filter fun k=>decide (t k=t i)).length
theorem s_{t:Nat→Int}{n i:Nat}(h:i≤n):oE t n i=((List.range n).filter fun k=>ug t k i).length:=by
  unfold oE ug
  rw [ph (p:=fun k=>decide (t i < t k)) (q:=fun k=>decide (k < i)&&decide (t k=t i)) (List.range n) (fun k _ e=>by
    simp only [decide_eq_true_eq] at e
    simp only [Bool.and_eq_false_iff,decide_eq_false_iff_not]
    exact .inr (by lia)),p5 (p:=fun k=>decide (t k=t i)) h]
theorem x_{t:Nat→Int}{n i j:Nat}(hi:i < n)(hj:j < n)(h:ug t j i=true):oE t n j < oE t n i:=by
  rw [s_ (by lia),s_ (by lia)]
  simp only [ug,Bool.or_eq_true,Bool.and_eq_true,decide_eq_true_eq] at h
  refine(pe (List.range n) fun k _ e=>?_).2 ⟨j,List.mem_range.mpr hj,?_,?_⟩
  · simp only [ug,Bool.or_eq_true,Bool.and_eq_true,decide_eq_true_eq] at e ⊢
    lia
  · simp only [ug,Bool.or_eq_false_iff,Bool.and_eq_false_iff,decide_eq_false_iff_not]
    lia
  · simp only [ug,Bool.or_eq_true,Bool.and_eq_true,decide_eq_true_eq]
    lia
theorem yX(t:Nat→Int)(n:Nat):gH (fun i=>(oE t n i:Int)) n=gH (fun i=> -(t i)) n:=by
  have p1:=jX (fun i=>(oE t n i:Int)) n
  have p2:=jX (fun i=> -(t i)) n
  refine List.Perm.eq_of_pairwise (le:=fun a b=>t b.toNat < t a.toNat∨t a.toNat=t b.toNat∧a≤b) (fun a b _ _ h1 h2=>by lia) ?_ ?_ (p1.trans p2.symm)
  · refine(rH _ n).imp_of_mem fun{a b} ha hb h=>?_
    obtain⟨i,hi,rfl⟩:=List.mem_map.mp (p1.mem_iff.mp ha)
    obtain⟨j,hj,rfl⟩:=List.mem_map.mp (p1.mem_iff.mp hb)
    have hi:=List.mem_range.mp hi
    have hj:=List.mem_range.mp hj
    simp only [Int.toNat_natCast] at h ⊢
    by_cases c:ug t j i=true
    · have:=x_ hi hj c
      lia
    · simp only [ug,Bool.or_eq_true,Bool.and_eq_true,decide_eq_true_eq] at c
      lia
  · exact(rH _ n).imp fun h=>by lia
theorem rR{t b:Int}{n:Nat}(hb:0 < b)(h1:Bt n t)(h2:Bt n b):Bt n (lowM t b).1∧Bt n (lowM t b).2∧0 < (lowM t b).2:=
  ⟨(pw (by lia) h1 h2).1,(pw (by lia) h1 h2).2,(zZ.lowM hb).pos⟩
structure FQ (n:Nat) (f:Fr):Prop where
  pos:0 < f.2
  top:Bt n f.1
  bot:Bt n f.2
theorem FQ.mono{n m:Nat}{f:Fr}(h:FQ n f)(hm:n≤m):FQ m f:=⟨h.pos,h.top.mono hm,h.bot.mono hm⟩
theorem FQ.tm{n m:Nat}{a b:Fr}(ha:FQ n a)(hb:FQ m b):FQ (n+m) (L2.tm a b):=by
  obtain⟨r1,r2,r3⟩:=rR (t:=a.1*b.1) (b:=a.2*b.2) (n:=n+m) (Int.mul_pos ha.pos hb.pos) (ha.top.mul hb.top) (ha.bot.mul hb.bot)
  exact⟨r3,r1,r2⟩
def gM(t:iI):Fr:=tm (wa t) (t.worth,1)
theorem ui{W:bE}(ok:W.Ok){t:iI}(ht:t∈W.ties):FQ 7 (wa t):=by
  have s:=wO ok ht
  exact⟨s.low.pos,s.top.mono (by decide),s.bt⟩
theorem wV{W:bE}(ok:W.Ok){t:iI}(ht:t∈W.ties):FQ 17 (gM t):=by
  have o:=ok.ties t ht
  exact((ui ok ht).tm (m:=10) (b:=(t.worth,1)) ⟨by show(0:Int) < 1;decide,by have:=o.w0;have:=o.w1;show Bt 10 t.worth;unfold Bt;lia,by show Bt 10 1;unfold Bt;decide⟩)
theorem iH{W:bE}(ok:W.Ok){t:iI}(ht:t∈W.ties):FQ 10 ((t.worth,1):Fr):=by
  have o:=ok.ties t ht
  exact⟨by show(0:Int) < 1;decide,by have:=o.w0;have:=o.w1;show Bt 10 t.worth;unfold Bt;lia,by show Bt 10 1;unfold Bt;decide⟩
theorem yl{W:bE}(ok:W.Ok){t:iI}(ht:t∈W.ties):eJ [.d (aU t)]=some (.d (dF (gM t)),[.d (aU t)]):=by
  have fc:=ui ok ht
  have tg:=vM (n:=1000) fc.pos (iH ok ht).pos (fc.top.mono (by decide)) (fc.bot.mono (by decide)) ((iH ok ht).top.mono (by decide)) ((iH ok ht).bot.mono (by decide)) (by decide)
  change gy [.d (.tuple [.int t.top,.int t.bot]),.d (.tuple [.int t.worth,.int 1])]=some (.d (dF (gM t)),[.d (.tuple [.int t.top,.int t.bot]),.d (.tuple [.int t.worth,.int 1])]) at tg
  generalize dF (gM t)=R at*
  unfold aU
  simp? [eJ,kT,tg]
theorem yh{a b:Fr}(h1:Bt 4000 a.1)(h2:Bt 4000 a.2)(h3:Bt 4000 b.1)(h4:Bt 4000 b.2):fM [.d (dF a),.d (dF b)]=some (.d (.bool (decide (a.1*b.2 < b.1*a.2))),[.d (dF a),.d (dF b)]):=by
  have g1:∀e:En,bO e (.d (.int a.1)) (.d (.int b.2))=some (.d (.int (a.1*b.2))):=fun e=>bF (fP h1 h4)
  have g2:∀e:En,bO e (.d (.int b.1)) (.d (.int a.2))=some (.d (.int (b.1*a.2))):=fun e=>bF (fP h3 h2)
  have gl:∀e:En,uu e (.d (.int (a.1*b.2))) (.d (.int (b.1*a.2)))=some (.d (.bool (decide (a.1*b.2 < b.1*a.2)))):=fun e=>rfl
  generalize decide (a.1*b.2 < b.1*a.2)=bb at*
  unfold dF
  simp? [fM,qE,g1,g2,gl]
def bK(fs:List Fr)(i:Nat):Fr:=fs.getD i (0,1)
def tP(fs:List Fr)(i:Nat):Int:=(bK fs i).1*(dh fs / (bK fs i).2)
theorem hZ{fs:List Fr}{i:Nat}(h:i < fs.length):bK fs i∈fs:=by
  unfold bK
  rw [List.getD_eq_getElem?_getD,List.getElem?_eq_getElem h]
  exact List.getElem_mem h
theorem oT{fs:List Fr}{i:Nat}{f:Fr}(h:fs[i]?=some f):bK fs i=f:=by
  unfold bK
  rw [List.getD_eq_getElem?_getD,h];rfl
theorem vB{x y p q:Int}(hp:0 < p)(hq:0 < q)(h:x*p=y*q):0 < x↔ 0 < y:=by
  constructor
  · intro hx
    have h1:=Int.mul_pos hx hp
    rcases Int.lt_or_le 0 y with z | z
    · exact z
    · have:=Int.mul_le_mul_of_nonneg_right z (Int.le_of_lt hq)
      lia
  · intro hy
    have h1:=Int.mul_pos hy hq
    rcases Int.lt_or_le 0 x with z | z
    · exact z
    · have:=Int.mul_le_mul_of_nonneg_right z (Int.le_of_lt hp)
      lia
theorem uE{fs:List Fr}{n:Nat}(h:∀f∈fs,FQ n f){i k:Nat}(hi:i < fs.length)(hk:k < fs.length):(bK fs i).1*(bK fs k).2 < (bK fs k).1*(bK fs i).2↔ tP fs i < tP fs k:=by
  have mi:=hZ hi
  have mk:=hZ hk
  unfold tP
  obtain⟨a,ha⟩:=l9 mi
  obtain⟨b,hb⟩:=l9 mk
  have pi:=(h _ mi).pos
  have pk:=(h _ mk).pos
  have pC:0 < dh fs:=l_ fun f hf=>(h f hf).pos
  have ea:dh fs / (bK fs i).2=a:=by rw [ha];exact Int.mul_ediv_cancel_left a (by lia)
  have eb:dh fs / (bK fs k).2=b:=by rw [hb];exact Int.mul_ediv_cancel_left b (by lia)
  rw [ea,eb]
  generalize dh fs=C at*
  generalize (bK fs i).1=x at*
  generalize (bK fs k).1=y at*
  generalize (bK fs i).2=u at*
  generalize (bK fs k).2=v at*
  have key:(y*u - x*v)*C=(y*b - x*a)*(u*v):=by
    have e1:y*b*(u*v)=y*u*(v*b):=by simp only [Int.mul_assoc,Int.mul_comm,Int.mul_left_comm]
    have e2:x*a*(u*v)=x*v*(u*a):=by simp only [Int.mul_assoc,Int.mul_comm,Int.mul_left_comm]
    rw [Int.sub_mul,Int.sub_mul,e1,e2,←hb,←ha]
  have:=vB pC (Int.mul_pos pi pk) key
  lia
theorem ic(fs:List Fr):cL 0 (fs.map dF)=(List.range fs.length).map fun(i:Nat)=>.tuple [.int (i:Int),dF (bK fs i)]:=by
  refine List.ext_getElem? fun i=>?_
  rw [eG,List.getElem?_map,List.getElem?_map]
  by_cases h:i < fs.length
  · have e:=oT (List.getElem?_eq_getElem h)
    rw [List.getElem?_range h,List.getElem?_eq_getElem h];simp [e]
  · rw [List.getElem?_eq_none (by lia),List.getElem?_eq_none (by simp;lia)];rfl
theorem mS:∀(l:List Fr) (f:Fr),dh (l++[f])=dh l*f.2
  | [],f=>by show f.2*1=1*f.2;lia
  | g::l,f=>by
    show g.2*dh (l++[f])=g.2*dh l*f.2
    rw [mS l f,Int.mul_assoc]
def cM(fs:List Fr):List (List Int):=(List.range fs.length).map fun i=>[-(tP fs i),(i:Int)]
theorem dO{key:Nat→Int}{n:Nat}{r:List Int}(h:r∈bM ((List.range n).map fun i=>[key i,(i:Int)])):∃i:Nat,r=[key i,(i:Int)]:=by
  obtain⟨i, -,e⟩:=List.mem_map.mp ((List.mergeSort_perm ((List.range n).map fun i=>[key i,(i:Int)]) fun a b=>decide (a≤b)).mem_iff.mp h)
  exact⟨i,e.symm⟩
def tG:PyData→PyData
  | .tuple [_,d]=>d
  | _=>.none
theorem nh{key:Nat→Int}{n:Nat}:((bM ((List.range n).map fun i=>[key i,(i:Int)])).map bv).map tG=(gH key n).map .int:=by
  unfold gH
  rw [List.map_map,List.map_map]
  refine List.map_congr_left fun r hr=>?_
  obtain⟨i,rfl⟩:=dO hr
  rfl
theorem ym{fs:List Fr}(h:∀f∈fs,FQ 20 f)(hl:fs.length≤16):aG [.d (.list (fs.map dF))]=some (.l ((gH (fun i=> -(tP fs i)) fs.length).map .int),[.d (.list (fs.map dF))]):=by
  have bt:∀i,Bt 330 (dh (fs.take i)):=fun i=>(sD (n:=20) fun f hf=>(h f (List.mem_of_mem_take hf)).bot).mono (by rw [List.length_take];lia)
  obtain⟨e',h1,⟨v2,he⟩⟩:=cD (own:=[]) (g:=ag 2) (f:=bA) (fun i e=>∃v2,e=[some (.d (.list (fs.map dF))),some (.d (.int (dh (fs.take i)))),v2,none]) (fs.map dF) 0 [some (.d (.list (fs.map dF))),some (.d (.int 1)),none,none] (fun i x e hx ⟨v2,he⟩=>by
    subst he
    rw [Nat.zero_add] at*
    rw [List.getElem?_map] at hx
    obtain⟨f,hf,rfl⟩:=Option.map_eq_some_iff.mp hx
    have gm:∀e:En,bO e (.d (.int (dh (fs.take i)))) (.d (.int f.2))=some (.d (.int (dh (fs.take i)*f.2))):=fun e=>bF (fP ((bt i).mono (by decide)) ((h f (List.mem_of_getElem? hf)).bot.mono (by decide)))
    refine⟨[some (.d (.list (fs.map dF))),some (.d (.int (dh (fs.take i)))),some (.d (dF f)),none],[some (.d (.list (fs.map dF))),some (.d (.int (dh (fs.take i)*f.2))),some (.d (dF f)),none],rfl,?_,bS,some (.d (dF f)),?_⟩
    · generalize dh (fs.take i)=c at*
      generalize fs.map dF=FF at*
      unfold dF
      simp? [bA,gm]
    · have ek:dh (fs.take (i+1))=dh (fs.take i)*f.2:=by rw [List.take_succ,hf];exact mS _ _
      rw [ek]) ⟨none,rfl⟩
  rw [Nat.zero_add,List.length_map,List.take_length] at he
  subst he
  have hs1:∀Wl,dU Wl cq (ag 2) bA [some (.d (.list (fs.map dF))),some (.d (.int 1)),none,none]=some (.nx [some (.d (.list (fs.map dF))),some (.d (.int (dh fs))),v2,none]):=fun Wl=>by
    rw [ef (show cq _=_ from uw rfl)]
    exact h1
  have bC:Bt 330 (dh fs):=by have:=bt fs.length;rwa [List.take_length] at this
  have pC:0 < dh fs:=l_ fun f hf=>(h f hf).pos
  obtain⟨t',_,hf⟩:=dC (cs:=[some (.d (.int (dh fs)))]) (g:=bP (ar (ag 1) (ar (ag 2) bG))) (ft:=bI) (fe:=bg) (b:=fun _=>true) (y:=fun x=>match x with | .tuple [.int i,.tuple [.int a,.int b]]=>bv [-(a*(dh fs / b)),i] | _=>.none) (u:=tT) 2 (cL 0 (fs.map dF)) [none,none] [] rfl (fun x hx t ht=>by
      rw [ic] at hx
      obtain⟨i,hi,rfl⟩:=List.mem_map.mp hx
      exact tU (cs:=[some (.d (.int (dh fs)))]) rfl rfl rfl t ht) (fun x hx=>by
      rw [ic] at hx
      obtain⟨i,hi,rfl⟩:=List.mem_map.mp hx
      rfl) (fun x hx=>rfl) (fun x hx _=>by
      rw [ic] at hx
      obtain⟨i,hi,rfl⟩:=List.mem_map.mp hx
      have hf:=h _ (hZ (List.mem_range.mp hi))
      have fp:=hf.pos
      have ft:=hf.top
      have fb:=hf.bot
      show bg [some (.d (.int (dh fs))),some (.d (.int (i:Int))),some (.d (dF (bK fs i)))]=some (.d (.tuple [.int (-((bK fs i).1*(dh fs / (bK fs i).2))),.int (i:Int)]),[some (.d (.int (dh fs))),some (.d (.int (i:Int))),some (.d (dF (bK fs i)))])
      have bq:Bt 330 (dh fs / (bK fs i).2):=bC.of_le (by
        have a1:0≤dh fs / (bK fs i).2:=Int.ediv_nonneg (by lia) (by lia)
        have a2:dh fs / (bK fs i).2≤dh fs:=Int.ediv_le_self _ (by lia)
        lia)
      rw [←Int.neg_mul]
      have gd:∀e:En,cE e (.d (.int (dh fs))) (.d (.int (bK fs i).2))=some (.d (.int (dh fs / (bK fs i).2))):=fun e=>cP fp (fb.mono (by decide))
      have gm:∀e:En,bO e (.d (.int (-(bK fs i).1))) (.d (.int (dh fs / (bK fs i).2)))=some (.d (.int (-(bK fs i).1*(dh fs / (bK fs i).2)))):=fun e=>bF (fP (Bt.mono (m:=20) (by unfold Bt at*;lia) (by decide)) (bq.mono (by decide)))
      have gn:∀e:En,p8 e (.d (.int (bK fs i).1))=some (.d (.int (-(bK fs i).1))):=fun e=>ij
      unfold dF
      generalize dh fs / (bK fs i).2=qq at*
      generalize dh fs=c at*
      generalize (bK fs i).1=a at*
      generalize (bK fs i).2=b at*
      simp? [bg,gd,gm,gn]) (by simp [du];lia)
  have hv:=eP (cp:=[(1,"common")]) (nT:=2) (fi:=cn) (g:=bP (ar (ag 1) (ar (ag 2) bG))) (ft:=bI) (fe:=bg) (cs:=[some (.d (.int (dh fs)))]) (t:=[none,none]) (t':=t') (show cn [some (.d (.list (fs.map dF))),some (.d (.int (dh fs))),v2,none]=some (cL 0 (fs.map dF),[],[some (.d (.list (fs.map dF))),some (.d (.int (dh fs))),v2,none]) from rfl) rfl rfl hf
  have eo:[]++((cL 0 (fs.map dF)).filter fun _=>true).map (fun x=>match x with | .tuple [.int i,.tuple [.int a,.int b]]=>bv [-(a*(dh fs / b)),i] | _=>.none)=(cM fs).map bv:=by
    rw [List.nil_append,List.filter_eq_self.mpr (fun _ _=>rfl),ic]
    unfold cM
    rw [List.map_map,List.map_map]
    rfl
  rw [eo] at hv
  have rne:∀r∈cM fs,r≠[]:=fun r hr=>by obtain⟨i, -,rfl⟩:=List.mem_map.mp hr;simp
  have rl:(cM fs).length < 64:=by simp [cM];lia
  obtain⟨t2,_,hf2⟩:=dC (cs:=[]) (g:=bP (ar (ag 0) (ar (ag 1) bG))) (ft:=bI) (fe:=bf) (b:=fun _=>true) (y:=tG) (u:=tT) 2 ((bM (cM fs)).map bv) [none,none] [] rfl (fun x hx t ht=>by
      obtain⟨r,hr,rfl⟩:=List.mem_map.mp hx
      obtain⟨i,rfl⟩:=dO hr
      exact tU (cs:=[]) rfl rfl rfl t ht) (fun x hx=>by
      obtain⟨r,hr,rfl⟩:=List.mem_map.mp hx
      obtain⟨i,rfl⟩:=dO hr
      rfl) (fun x hx=>rfl) (fun x hx _=>by
      obtain⟨r,hr,rfl⟩:=List.mem_map.mp hx
      obtain⟨i,rfl⟩:=dO hr
      show bf [some (.d (.int (-(tP fs i)))),some (.d (.int (i:Int)))]=some (.d (.int (i:Int)),[some (.d (.int (-(tP fs i)))),some (.d (.int (i:Int)))])
      simp? [bf]) (by
      have:=(List.mergeSort_perm (cM fs) fun a b=>decide (a≤b)).length_eq
      simp [bM,this];lia)
  have hi2:cm [some (.d (.list (fs.map dF))),some (.d (.int (dh fs))),v2,some (.l ((cM fs).map bv))]=some ((bM (cM fs)).map bv,[],[some (.d (.list (fs.map dF))),some (.d (.int (dh fs))),v2,some (.l ((cM fs).map bv))]):=by
    have gs:=mG (e:=[some (.d (.list (fs.map dF))),some (.d (.int (dh fs))),v2,some (.l ((cM fs).map bv))]) (i:=3) (rs:=cM fs) rfl rne rl
    refine rG ?_
    generalize (bM (cM fs)).map bv=SS at*
    generalize (cM fs).map bv=RR at*
    simp? [gs]
  have hv2:=eP (cp:=[]) (nT:=2) (fi:=cm) (g:=bP (ar (ag 0) (ar (ag 1) bG))) (ft:=bI) (fe:=bf) (cs:=[]) (t:=[none,none]) (t':=t2) hi2 rfl rfl hf2
  rw [List.nil_append,List.filter_eq_self.mpr (fun _ _=>rfl),show((bM (cM fs)).map bv).map tG=_ from nh] at hv2
  generalize (gH (fun i=> -(tP fs i)) fs.length).map PyData.int=OUT at*
  generalize (cM fs).map bv=RR at*
  generalize fs.map dF=FF at*
  generalize dh fs=c at*
  simp? [aG,eE,hs1,hv,hv2]
theorem qB{fs:List Fr}{k:Nat}(h:k < fs.length):atI (fs.map dF) (k:Int)=some (dF (bK fs k)):=by
  unfold atI yB
  rw [List.length_map,if_pos (by lia),if_pos (by lia)]
  simp [oT (List.getElem?_eq_getElem h),h]
theorem oK{fs:List Fr}(h:∀f∈fs,FQ 20 f){i k:Nat}(hi:i < fs.length)(hk:k < fs.length):fM [.d (dF (bK fs i)),.d (dF (bK fs k))]=some (.d (.bool (decide (tP fs i < tP fs k))),[.d (dF (bK fs i)),.d (dF (bK fs k))]):=by
  have fi:=h _ (hZ hi)
  have fk:=h _ (hZ hk)
  have t:=yh (a:=bK fs i) (b:=bK fs k) (fi.top.mono (by decide)) (fi.bot.mono (by decide)) (fk.top.mono (by decide)) (fk.bot.mono (by decide))
  have e:decide ((bK fs i).1*(bK fs k).2 < (bK fs k).1*(bK fs i).2)=decide (tP fs i < tP fs k):=by
    have:=uE h hi hk
    by_cases c:tP fs i < tP fs k
    · rw [decide_eq_true c,decide_eq_true (this.mpr c)]
    · rw [decide_eq_false c,decide_eq_false fun z=>c (this.mp z)]
  rw [e] at t
  exact t
abbrev gE(fs:List Fr)(rs:List (List Int))(v2 v3 v4 v5:Option Sv):En:=[some (.l (fs.map dF)),some (.l (rs.map bv)),v2,v3,v4,v5]
def xh:PyData→Nat
  | .int i=>i.toNat
  | _=>0
theorem jl(p:Nat→Bool)(n:Nat):((a8 0 n).filter fun x=>p (xh x)).length=((List.range n).filter p).length:=by
  unfold a8
  rw [List.filter_map,List.length_map]
  refine congrArg List.length (List.filter_congr fun i _=>?_)
  show p (((0:Int)+(i:Int)).toNat)=p i
  rw [Int.zero_add,Int.toNat_natCast]
theorem ol{fs:List Fr}(h:∀f∈fs,FQ 20 f)(hl:fs.length≤16){rs:List (List Int)}{i:Nat}(hi:i < fs.length){v4 v5:Option Sv}:∃out:List PyData,bx [(3,"_law_one"),(0,"_law_measures")] 1 bD (ag 2) aR be (gE fs rs (some (.d (.int (i:Int)))) (some (.d (dF (bK fs i)))) v4 v5)=some (.l out,gE fs rs (some (.d (.int (i:Int)))) (some (.d (dF (bK fs i)))) v4 v5)∧out.length=((List.range fs.length).filter fun k=>decide (tP fs i < tP fs k)).length:=by
  obtain⟨t',hf⟩:=eF (cs:=[some (.d (dF (bK fs i))),some (.l (fs.map dF))]) (ft:=aR) (fe:=be) (b:=fun x=>decide (tP fs i < tP fs (xh x))) (y:=id) (a8 0 fs.length) none [] (fun x hx=>by
    obtain⟨k,hk,rfl⟩:=List.mem_map.mp hx
    have hk:=List.mem_range.mp hk
    rw [Int.zero_add]
    have tl:=oK h hi hk
    have a:=qB hk
    show aR [some (.d (dF (bK fs i))),some (.l (fs.map dF)),some (.d (.int (k:Int)))]=some (decide (tP fs i < tP fs ((k:Int)).toNat),[some (.d (dF (bK fs i))),some (.l (fs.map dF)),some (.d (.int (k:Int)))])
    rw [Int.toNat_natCast]
    generalize decide (tP fs i < tP fs k)=bb at*
    generalize dF (bK fs i)=x1 at*
    generalize dF (bK fs k)=x2 at*
    generalize fs.map dF=FF at*
    simp? [aR,tl,a]) (fun x hx _=>by simp? [be]) (by simp [dN];lia)
  have hi6:bD (gE fs rs (some (.d (.int (i:Int)))) (some (.d (dF (bK fs i)))) v4 v5)=some (a8 0 fs.length,[],gE fs rs (some (.d (.int (i:Int)))) (some (.d (dF (bK fs i)))) v4 v5):=by
    have:=cR (fs:=aa (aP (g1 iO) (aa (ae 0) ai)) ai) (e:=gE fs rs (some (.d (.int (i:Int)))) (some (.d (dF (bK fs i)))) v4 v5) (e1:=gE fs rs (some (.d (.int (i:Int)))) (some (.d (dF (bK fs i)))) v4 v5) (n:=(fs.length:Int)) (by simp? [List.replicate]) (by lia) (by lia)
    rw [Int.toNat_natCast] at this
    exact this
  have hv:=eP (cp:=[(3,"_law_one"),(0,"_law_measures")]) (nT:=1) (fi:=bD) (g:=ag 2) (ft:=aR) (fe:=be) (cs:=[some (.d (dF (bK fs i))),some (.l (fs.map dF))]) (t:=[none]) (t':=[t']) hi6 rfl rfl hf
  refine⟨_,hv,?_⟩
  rw [List.nil_append,List.length_map]
  exact jl (fun k=>decide (tP fs i < tP fs k)) fs.length
theorem nM{fs:List Fr}(h:∀f∈fs,FQ 20 f)(hl:fs.length≤16){rs:List (List Int)}{i:Nat}(hi:i < fs.length){v4 v5:Option Sv}:∃out:List PyData,bx [(3,"_law_one"),(0,"_law_measures")] 1 bB (ag 2) aD bc (gE fs rs (some (.d (.int (i:Int)))) (some (.d (dF (bK fs i)))) v4 v5)=some (.l out,gE fs rs (some (.d (.int (i:Int)))) (some (.d (dF (bK fs i)))) v4 v5)∧out.length=((List.range i).filter fun k=>decide (tP fs k=tP fs i)).length:=by
  obtain⟨t',hf⟩:=eF (cs:=[some (.d (dF (bK fs i))),some (.l (fs.map dF))]) (ft:=aD) (fe:=bc) (b:=fun x=>decide (tP fs (xh x)=tP fs i)) (y:=id) (a8 0 i) none [] (fun x hx=>by
    obtain⟨k,hk,rfl⟩:=List.mem_map.mp hx
    have hk:k < fs.length:=by have:=List.mem_range.mp hk;lia
    rw [Int.zero_add]
    have tl:=oK h hi hk
    have tr:=oK h hk hi
    have a:=qB hk
    show aD [some (.d (dF (bK fs i))),some (.l (fs.map dF)),some (.d (.int (k:Int)))]=some (decide (tP fs ((k:Int)).toNat=tP fs i),[some (.d (dF (bK fs i))),some (.l (fs.map dF)),some (.d (.int (k:Int)))])
    rw [Int.toNat_natCast]
    generalize tP fs i=p at*
    generalize tP fs k=q at*
    generalize dF (bK fs i)=x1 at*
    generalize dF (bK fs k)=x2 at*
    generalize fs.map dF=FF at*
    by_cases c1:p < q
    · rw [decide_eq_true c1] at tl
      rw [decide_eq_false (show ¬q=p by lia)]
      simp? [aD,tl,a]
    · rw [decide_eq_false c1] at tl
      by_cases c2:q < p
      · rw [decide_eq_true c2] at tr
        rw [decide_eq_false (show ¬q=p by lia)]
        simp? [aD,tl,tr,a]
      · rw [decide_eq_false c2] at tr
        rw [decide_eq_true (show q=p by lia)]
        simp? [aD,tl,tr,a]) (fun x hx _=>by simp? [bc]) (by simp [dN];lia)
  have hi3:bB (gE fs rs (some (.d (.int (i:Int)))) (some (.d (dF (bK fs i)))) v4 v5)=some (a8 0 i,[],gE fs rs (some (.d (.int (i:Int)))) (some (.d (dF (bK fs i)))) v4 v5):=by
    have:=cR (fs:=aa (ae 2) ai) (e:=gE fs rs (some (.d (.int (i:Int)))) (some (.d (dF (bK fs i)))) v4 v5) (e1:=gE fs rs (some (.d (.int (i:Int)))) (some (.d (dF (bK fs i)))) v4 v5) (n:=(i:Int)) (by simp? [List.replicate]) (by lia) (by lia)
    rw [Int.toNat_natCast] at this
    exact this
  have hv:=eP (cp:=[(3,"_law_one"),(0,"_law_measures")]) (nT:=1) (fi:=bB) (g:=ag 2) (ft:=aD) (fe:=bc) (cs:=[some (.d (dF (bK fs i))),some (.l (fs.map dF))]) (t:=[none]) (t':=[t']) hi3 rfl rfl hf
  refine⟨_,hv,?_⟩
  rw [List.nil_append,List.length_map]
  exact jl (fun k=>decide (tP fs k=tP fs i)) i
def aV(fs:List Fr)(m:Nat):List (List Int):=(List.range m).map fun i=>[((oE (tP fs) fs.length i:Nat):Int),(i:Int)]
theorem tN{fs:List Fr}(h:∀f∈fs,FQ 20 f)(hl:fs.length≤16):aw [.l (fs.map dF)]=some (.d (.tuple ((gH (fun i=> -(tP fs i)) fs.length).map .int)),[.l (fs.map dF)]):=by
  obtain⟨e',h1,⟨v2,v3,v4,v5,he⟩⟩:=cD (own:=[(0,fs.map dF)]) (g:=bP (ar (ag 2) (ar (ag 3) bG))) (f:=bj) (fun i e=>∃v2 v3 v4 v5,e=gE fs (aV fs i) v2 v3 v4 v5) (cL 0 (fs.map dF)) 0 (gE fs [] none none none none) (fun i x e hx ⟨v2,v3,v4,v5,he⟩=>by
    subst he
    rw [Nat.zero_add] at*
    rw [ic,List.getElem?_map] at hx
    obtain⟨j,hj,rfl⟩:=Option.map_eq_some_iff.mp hx
    obtain⟨il,ej⟩:=List.getElem?_eq_some_iff.mp hj
    rw [List.length_range] at il
    rw [List.getElem_range] at ej
    subst ej
    obtain⟨o1,c1,l1⟩:=ol h hl (rs:=aV fs i) il (v4:=v4) (v5:=v5)
    obtain⟨o2,c2,l2⟩:=nM h hl (rs:=aV fs i) il (v4:=some (.l o1)) (v5:=v5)
    have er:aV fs (i+1)=aV fs i++[[((oE (tP fs) fs.length i:Nat):Int),(i:Int)]]:=by
      unfold aV
      rw [List.range_succ,List.map_append];rfl
    have rl:(aV fs i).length < 1000000:=by simp [aV];lia
    have lr:(o1.length:Int)+(o2.length:Int)=((oE (tP fs) fs.length i:Nat):Int):=by
      rw [l1,l2];unfold oE;lia
    refine⟨gE fs (aV fs i) (some (.d (.int (i:Int)))) (some (.d (dF (bK fs i)))) v4 v5,gE fs (aV fs (i+1)) (some (.d (.int (i:Int)))) (some (.d (dF (bK fs i)))) (some (.l o1)) (some (.l o2)),rfl,?_,fun p hp=>by simp at hp;subst hp;rfl,_,_,_,_,rfl⟩
    rw [er]
    have rl':((aV fs i).map bv).length < 1000000:=by rw [List.length_map];exact rl
    have em:(aV fs i++[[((oE (tP fs) fs.length i:Nat):Int),(i:Int)]]).map bv=(aV fs i).map bv++[PyData.tuple [.int ((o1.length:Int)+(o2.length:Int)),.int (i:Int)]]:=by
      rw [List.map_append,lr];rfl
    unfold bj
    refine(eh (e1:=gE fs (aV fs i) (some (.d (.int (i:Int)))) (some (.d (dF (bK fs i)))) (some (.l o1)) v5) ?_).trans ?_
    · simp? [c1]
    refine(eh (e1:=gE fs (aV fs i) (some (.d (.int (i:Int)))) (some (.d (dF (bK fs i)))) (some (.l o1)) (some (.l o2))) ?_).trans ?_
    · simp? [c2]
    simp only [gE]
    rw [em]
    generalize (aV fs i).map bv=RR at*
    generalize dF (bK fs i)=x1 at*
    generalize fs.map dF=FF at*
    simp? [rl']) ⟨none,none,none,none,rfl⟩
  subst he
  rw [Nat.zero_add,du,List.length_map] at h1
  have hs1:∀Wl,Wl.contains 0=false→dU Wl ck (bP (ar (ag 2) (ar (ag 3) bG))) bj (gE fs [] none none none none)=some (.nx (gE fs (aV fs fs.length) v2 v3 v4 v5)):=fun Wl hw=>by
    unfold dU
    rw [show ck (gE fs [] none none none none)=some (cL 0 (fs.map dF),[(0,fs.map dF)],gE fs [] none none none none) from rfl]
    simp only [Option.bind_some,List.all_cons,List.all_nil,hw]
    exact h1
  have hs2:=hs1 (([2]++([3]++[]))++([4]++([5]++[]))) rfl
  have rne:∀r∈aV fs fs.length,r≠[]:=fun r hr=>by obtain⟨i, -,rfl⟩:=List.mem_map.mp hr;simp
  have rl:(aV fs fs.length).length < 64:=by simp [aV];lia
  obtain⟨t2,_,hf2⟩:=dC (cs:=[]) (g:=bP (ar (ag 0) (ar (ag 1) bG))) (ft:=bI) (fe:=ba) (b:=fun _=>true) (y:=tG) (u:=tT) 2 ((bM (aV fs fs.length)).map bv) [none,none] [] rfl (fun x hx t ht=>by
      obtain⟨r,hr,rfl⟩:=List.mem_map.mp hx
      obtain⟨i,rfl⟩:=dO (key:=fun i=>((oE (tP fs) fs.length i:Nat):Int)) hr
      exact tU (cs:=[]) rfl rfl rfl t ht) (fun x hx=>by
      obtain⟨r,hr,rfl⟩:=List.mem_map.mp hx
      obtain⟨i,rfl⟩:=dO (key:=fun i=>((oE (tP fs) fs.length i:Nat):Int)) hr
      rfl) (fun x hx=>rfl) (fun x hx _=>by
      obtain⟨r,hr,rfl⟩:=List.mem_map.mp hx
      obtain⟨i,rfl⟩:=dO (key:=fun i=>((oE (tP fs) fs.length i:Nat):Int)) hr
      show ba [some (.d (.int _)),some (.d (.int (i:Int)))]=some (.d (.int (i:Int)),[some (.d (.int _)),some (.d (.int (i:Int)))])
      simp? [ba]) (by
      have:=(List.mergeSort_perm (aV fs fs.length) fun a b=>decide (a≤b)).length_eq
      simp [bM,this];lia)
  have hi2:cg (gE fs (aV fs fs.length) v2 v3 v4 v5)=some ((bM (aV fs fs.length)).map bv,[],gE fs (aV fs fs.length) v2 v3 v4 v5):=by
    have gs:=mG (e:=gE fs (aV fs fs.length) v2 v3 v4 v5) (i:=1) (rs:=aV fs fs.length) rfl rne rl
    refine rG ?_
    simp only [gE] at gs ⊢
    generalize (bM (aV fs fs.length)).map bv=SS at*
    generalize (aV fs fs.length).map bv=RR at*
    simp? [gs]
  have hv2:=eP (cp:=[]) (nT:=2) (fi:=cg) (g:=bP (ar (ag 0) (ar (ag 1) bG))) (ft:=bI) (fe:=ba) (cs:=[]) (t:=[none,none]) (t':=t2) hi2 rfl rfl hf2
  rw [List.nil_append,List.filter_eq_self.mpr (fun _ _=>rfl),show((bM (aV fs fs.length)).map bv).map tG=_ from nh (key:=fun i=>((oE (tP fs) fs.length i:Nat):Int)),yX] at hv2
  simp only [gE,List.map_nil] at hs2 hv2
  generalize (gH (fun i=> -(tP fs i)) fs.length).map PyData.int=OUT at*
  generalize (aV fs fs.length).map bv=RR at*
  generalize fs.map dF=FF at*
  simp at hs2
  simp? [aw,eB,hs2,hv2]
theorem dA{W:bE}(wl:W.ties.length≤16){fi:FI}{fe:FE}{F:iI→Fr}{e:En}(hi:fi e=some (W.ties.map aU,[],e))(he:∀t∈W.ties,fe [some (.d (aU t))]=some (.d (dF (F t)),[some (.d (aU t))])):bx [] 1 fi (ag 0) bI fe e=some (.l ((W.ties.map F).map dF),e):=by
  obtain⟨t',hf⟩:=eF (cs:=[]) (ft:=bI) (fe:=fe) (b:=fun _=>true) (y:=fun x=>match x with | .tuple [.int a,.int b,.tuple [.int c,.int d],.int w]=>dF (F ⟨a,b,c,d,w⟩) | _=>.none) (W.ties.map aU) none [] (fun x hx=>rfl) (fun x hx _=>by
    obtain⟨t,ht,rfl⟩:=List.mem_map.mp hx
    exact he t ht) (by simp;lia)
  have hv:=eP (cp:=[]) (nT:=1) (fi:=fi) (g:=ag 0) (ft:=bI) (fe:=fe) (cs:=[]) (t:=[none]) (t':=[t']) hi rfl rfl hf
  rw [hv]
  have eo:[]++((W.ties.map aU).filter fun _=>true).map (fun x=>match x with | .tuple [.int a,.int b,.tuple [.int c,.int d],.int w]=>dF (F ⟨a,b,c,d,w⟩) | _=>.none)=(W.ties.map F).map dF:=by
    rw [List.nil_append,List.filter_eq_self.mpr (fun _ _=>rfl),List.map_map,List.map_map]
    rfl
  rw [eo]
def nE(W:bE):List Fr:=W.ties.map wa
def zW(t:iI):Fr:=(t.worth,1)
def nG(W:bE):List Fr:=W.ties.map zW
def nF(W:bE):List Fr:=W.ties.map gM
theorem qK{W:bE}(ok:W.Ok):∀f∈nE W,FQ 20 f:=fun f hf=>by obtain⟨t,ht,rfl⟩:=List.mem_map.mp hf;exact(ui ok ht).mono (by decide)
theorem tX{W:bE}(ok:W.Ok):∀f∈nG W,FQ 20 f:=fun f hf=>by obtain⟨t,ht,rfl⟩:=List.mem_map.mp hf;exact(iH ok ht).mono (by decide)
theorem rC{W:bE}(ok:W.Ok):∀f∈nF W,FQ 20 f:=fun f hf=>by obtain⟨t,ht,rfl⟩:=List.mem_map.mp hf;exact(wV ok ht).mono (by decide)
def dR(fs:List Fr):List Int:=gH (fun i=> -(tP fs i)) fs.length
theorem iT{W:bE}{e:En}(h:∃r,e=some (.d (aS W))::r):fv (aq bY (ae 0) (vC (.int 1))) e=some (W.ties.map aU,[],e):=by
  obtain⟨r,rfl⟩:=h
  have g1':=Aq (W:=W)
  refine wX ?_
  generalize W.ties.map aU=TT at*
  generalize aS W=WW at*
  simp? [g1']
theorem nu{W:bE}(ok:W.Ok):dc [.d (aS W)]=some (.d (.tuple ((dR (nE W)).map .int)),[.d (aS W)]):=by
  have c:=dA ok.len (F:=wa) (fi:=ez) (fe:=cX) (e:=[some (.d (aS W))]) (iT ⟨_,rfl⟩) (fun t ht=>by unfold aU;simp? [cX,dF,wa])
  have g:=ym (qK ok) (by simp [nE];exact ok.len)
  change bx [] 1 ez (ag 0) bI cX [some (.d (aS W))]=some (.l ((nE W).map dF),[some (.d (aS W))]) at c
  unfold dR
  generalize (gH (fun i=> -(tP (nE W) i)) (nE W).length).map PyData.int=OUT at*
  generalize (nE W).map dF=FF at*
  generalize aS W=WW at*
  simp? [dc,je,c,g]
theorem oJ{W:bE}(ok:W.Ok):dG [.d (aS W)]=some (.d (.tuple ((dR (nG W)).map .int)),[.d (aS W)]):=by
  have c:=dA ok.len (F:=zW) (fi:=eW) (fe:=dm) (e:=[some (.d (aS W))]) (iT ⟨_,rfl⟩) (fun t ht=>by unfold aU;simp? [dm,dF,zW])
  have g:=ym (tX ok) (by simp [nG];exact ok.len)
  change bx [] 1 eW (ag 0) bI dm [some (.d (aS W))]=some (.l ((nG W).map dF),[some (.d (aS W))]) at c
  unfold dR
  generalize (gH (fun i=> -(tP (nG W) i)) (nG W).length).map PyData.int=OUT at*
  generalize (nG W).map dF=FF at*
  generalize aS W=WW at*
  simp? [dG,jG,c,g]
theorem qr{W:bE}(ok:W.Ok):eI [.d (aS W)]=some (.d (.tuple ((dR (nF W)).map .int)),[.d (aS W)]):=by
  have c:=dA ok.len (F:=gM) (fi:=fJ) (fe:=dZ) (e:=[some (.d (aS W))]) (iT ⟨_,rfl⟩) (fun t ht=>by
    have tg:=yl ok ht
    generalize dF (gM t)=G at*
    generalize aU t=T at*
    simp? [dZ,tg])
  have g:=ym (rC ok) (by simp [nF];exact ok.len)
  change bx [] 1 fJ (ag 0) bI dZ [some (.d (aS W))]=some (.l ((nF W).map dF),[some (.d (aS W))]) at c
  unfold dR
  generalize (gH (fun i=> -(tP (nF W) i)) (nF W).length).map PyData.int=OUT at*
  generalize (nF W).map dF=FF at*
  generalize aS W=WW at*
  simp? [eI,kS,c,g]
theorem j8{fs:List Fr}(hl:fs.length≤16):gU [.d (.tuple ((dR fs).map .int)),.d (.tuple ((dR fs).map .int))]=some (.d (.bool true),[.d (.tuple ((dR fs).map .int)),.d (.tuple ((dR fs).map .int))]):=by
  have pm:=jX (fun i=> -(tP fs i)) fs.length
  have hz:Sz (16*4+3) 4 (.tuple ((dR fs).map .int)):=Sz.ints (by
    have:=pm.length_eq
    show(gH _ _).length≤16
    simp at this;lia) (fun r hr=>by
    obtain⟨i,hi,rfl⟩:=List.mem_map.mp (pm.mem_iff.mp hr)
    have:=List.mem_range.mp hi
    lia)
  have r:∀e,g1 fH e [.d (.tuple ((dR fs).map .int))]=some (.d (.str (PyData.tuple ((dR fs).map .int)).shown)):=fun e=>pv (hz.ok (by decide) (by decide))
  have q:∀e,dD false e (.d (.str (PyData.tuple ((dR fs).map .int)).shown)) (.d (.str (PyData.tuple ((dR fs).map .int)).shown))=some (.d (.bool true)):=fun e=>ut hz.so
  generalize PyData.tuple ((dR fs).map .int)=D at*
  simp? [gU,qF,r,q]
theorem jz{W:bE}(ok:W.Ok):ee [.d (aS W)]=some (.d (.bool true),[.d (aS W)]):=by
  have wl:=ok.len
  have sA:=yy ok true
  have gr:=sA.repr (by decide) (by decide)
  have ge:=fun e=>rf (e:=e) sA.so
  have c1:=fun v1 v2 v3 v4 v5=>dA wl (F:=wa) (fi:=iX) (fe:=gg) (e:=[some (.d (aS W)),v1,v2,v3,v4,v5]) (iT ⟨_,rfl⟩) (fun t ht=>by unfold aU;simp? [gg,dF,wa])
  have c2:=fun v1 v2 v3 v4 v5=>dA wl (F:=zW) (fi:=iW) (fe:=gb) (e:=[some (.d (aS W)),v1,v2,v3,v4,v5]) (iT ⟨_,rfl⟩) (fun t ht=>by unfold aU;simp? [gb,dF,zW])
  have c3:=fun v1 v2 v3 v4 v5=>dA wl (F:=gM) (fi:=iV) (fe:=f_) (e:=[some (.d (aS W)),v1,v2,v3,v4,v5]) (iT ⟨_,rfl⟩) (fun t ht=>by
    have fc:=ui ok ht
    have fw:=iH ok ht
    have tt:=vJ (n:=100) fc.pos fw.pos (fc.top.mono (by decide)) (fc.bot.mono (by decide)) (fw.top.mono (by decide)) (fw.bot.mono (by decide)) (by decide)
    change gw [.d (.tuple [.int t.top,.int t.bot]),.d (.tuple [.int t.worth,.int 1])]=some (.d (dF (gM t)),[.d (.tuple [.int t.top,.int t.bot]),.d (.tuple [.int t.worth,.int 1])]) at tt
    generalize dF (gM t)=G at*
    unfold aU
    simp? [f_,tt])
  have b1:=nu ok
  have b2:=oJ ok
  have b3:=qr ok
  have l1:=tN (qK ok) (by simp [nE];exact wl)
  have l2:=tN (tX ok) (by simp [nG];exact wl)
  have l3:=tN (rC ok) (by simp [nF];exact wl)
  have s1:=j8 (fs:=nE W) (by simp [nE];exact wl)
  have s2:=j8 (fs:=nG W) (by simp [nG];exact wl)
  have s3:=j8 (fs:=nF W) (by simp [nF];exact wl)
  change aw [.l ((nE W).map dF)]=some (.d (.tuple ((dR (nE W)).map .int)),[.l ((nE W).map dF)]) at l1
  change aw [.l ((nG W).map dF)]=some (.d (.tuple ((dR (nG W)).map .int)),[.l ((nG W).map dF)]) at l2
  change aw [.l ((nF W).map dF)]=some (.d (.tuple ((dR (nF W)).map .int)),[.l ((nF W).map dF)]) at l3
  change ∀v1 v2 v3 v4 v5,bx [] 1 iX (ag 0) bI gg [some (.d (aS W)),v1,v2,v3,v4,v5]=some (.l ((nE W).map dF),[some (.d (aS W)),v1,v2,v3,v4,v5]) at c1
  change ∀v1 v2 v3 v4 v5,bx [] 1 iW (ag 0) bI gb [some (.d (aS W)),v1,v2,v3,v4,v5]=some (.l ((nG W).map dF),[some (.d (aS W)),v1,v2,v3,v4,v5]) at c2
  change ∀v1 v2 v3 v4 v5,bx [] 1 iV (ag 0) bI f_ [some (.d (aS W)),v1,v2,v3,v4,v5]=some (.l ((nF W).map dF),[some (.d (aS W)),v1,v2,v3,v4,v5]) at c3
  generalize (dR (nE W)).map PyData.int=O1 at*
  generalize (dR (nG W)).map PyData.int=O2 at*
  generalize (dR (nF W)).map PyData.int=O3 at*
  generalize (nE W).map dF=F1 at*
  generalize (nG W).map dF=F2 at*
  generalize (nF W).map dF=F3 at*
  generalize (aS W).shown=SH at*
  generalize aS W=WW at*
  have turn:∀v5,f9 [some (.d WW),some (.d (.str SH)),some (.l F1),some (.l F2),some (.l F3),v5]=some (.nx [some (.d WW),some (.d (.str SH)),some (.l F1),some (.l F2),some (.l F3),v5]):=fun v5=>by
    simp? [f9,b1,b2,b3,l1,l2,l3,s1,s2,s3,gr,ge]
  have hs:∀Wl,dU Wl iU (ag 5) f9 [some (.d WW),some (.d (.str SH)),some (.l F1),some (.l F2),some (.l F3),none]=some (.nx [some (.d WW),some (.d (.str SH)),some (.l F1),some (.l F2),some (.l F3),some (.d (.int 1))]):=fun Wl=>by
    rw [ef (show iU [some (.d WW),some (.d (.str SH)),some (.l F1),some (.l F2),some (.l F3),none]=some ([.int 0,.int 1],[],[some (.d WW),some (.d (.str SH)),some (.l F1),some (.l F2),some (.l F3),none]) from rfl)]
    have ga:∀(i:Int) (v5:Option Sv),ag 5 (.int i) [some (.d WW),some (.d (.str SH)),some (.l F1),some (.l F2),some (.l F3),v5]=some [some (.d WW),some (.d (.str SH)),some (.l F1),some (.l F2),some (.l F3),some (.d (.int i))]:=fun i v5=>rfl
    simp only [kN,ga,Option.bind_some,turn]
    rw [if_pos bS,if_pos bS]
  simp? [ee,oX,gr,c1,c2,c3,hs]
abbrev lN(W:bE)(n:Int)(ts:List iI)(v3 v4 v5:Option Sv):En:=[some (.d (aS W)),some (.d (.int n)),some (.l (ts.map aU)),v3,v4,v5]
theorem yk{W:bE}(ok:W.Ok)(n:Int):∃ts:List iI,j0 [.d (aS W),.d (.int n)]=some (.d (aS ⟨W.things,ts,W.pat,W.asks⟩),[.d (aS W),.d (.int n)])∧(⟨W.things,ts,W.pat,W.asks⟩:bE).Ok:=by
  have wl:=ok.len
  have g0':=A0 (W:=W)
  have g1':=Aq (W:=W)
  have g2':=A4 (W:=W)
  have g3':=A6 (W:=W)
  obtain⟨e',h1,⟨ts,v3,v4,v5,he,tl,tok⟩⟩:=cD (own:=[]) (g:=bP (ar (ag 3) (ar (ag 4) bG))) (f:=h8) (fun i e=>∃(ts:List iI) (v3 v4 v5:Option Sv),e=lN W n ts v3 v4 v5∧ts.length=i∧∀t∈ts,t.Ok W.things) (cL 0 (W.ties.map aU)) 0 (lN W n [] none none none) (fun i x e hx ⟨ts,v3,v4,v5,he,tl,tok⟩=>by
    subst he
    rw [Nat.zero_add] at*
    rw [eG,List.getElem?_map,Option.map_map] at hx
    obtain⟨t,ht,rfl⟩:=Option.map_eq_some_iff.mp hx
    have il:=(List.getElem?_eq_some_iff.mp ht).1
    have to:=ok.ties t (List.mem_of_getElem? ht)
    obtain⟨r,tm,r0, -⟩:=mh n (((0+i:Nat):Int)+1) (by lia) (by lia)
    have gm:∀e:En,aT e (.d (.int r)) (.d (.int 6))=some (.d (.int (r % 6))):=fun e=>aJ (by decide)
    obtain⟨z,hz,az⟩:=eS (xs:=[PyData.int 1,.int 2,.int 3,.int 4,.int 6,.int 12]) (i:=r % 6) (pY (by decide)) (by have:=pZ (n:=r) (k:=6) (by decide);simpa using this)
    obtain⟨p,rfl,p1,p2,pl⟩:∃p:Int,z=.int p∧1≤p∧p≤12∧lowM 1 p=(1,p):=by
      simp only [List.mem_cons,List.not_mem_nil,or_false] at hz
      rcases hz with rfl | rfl | rfl | rfl | rfl | rfl<;>exact⟨_,rfl,by decide,by decide,by decide⟩
    have lo:=pO 1 p (by lia) (Bt.mono (m:=64) (by unfold Bt;lia) (by decide))
    rw [pl] at lo
    have gu:∀e:En,bO e (.d (.int 12)) (.d (.int p))=some (.d (.int (12*p))):=fun e=>bF (oz (by decide) (by decide))
    refine⟨lN W n ts (some (.d (.int ((0+i:Nat):Int)))) (some (.d (aU t))) v5,lN W n (ts++[⟨t.one,t.other,1,p,12*p⟩]) (some (.d (.int ((0+i:Nat):Int)))) (some (.d (aU t))) (some (.d (.int p))),rfl,?_,bS,_,_,_,_,rfl,by simp;lia,fun t' ht'=>?_⟩
    · have ll:(ts.map aU).length < 1000000:=by rw [List.length_map];lia
      have gc:∀(e:En) (x y:PyData),c8 e (.d (.tuple [.int t.one,.int t.other])) (.d (.tuple [x,y]))=some (.d (.tuple [.int t.one,.int t.other,x,y])):=fun e x y=>n9 (xs:=[.int t.one,.int t.other]) (ys:=[x,y]) (by simp)
      simp only [lN,List.map_append,List.map_cons,List.map_nil]
      generalize ((0+i:Nat):Int)=ii at*
      generalize ts.map aU=TS at*
      generalize aS W=WW at*
      unfold aU
      simp? [h8,tm,gm,az,lo,gu,gc,ll]
    · rcases List.mem_append.mp ht' with q | q
      · exact tok t' q
      · simp at q;subst q
        exact⟨to.o0,to.o1,to.o2,by show(0:Int)≤1;decide,p1,p1,by show p≤100;lia,by show 0≤12*p;lia,by show 12*p≤1000;lia,by show Int.gcd 1 p=1;exact Int.one_gcd⟩) ⟨[],none,none,none,rfl,rfl,fun t ht=>by cases ht⟩
  rw [Nat.zero_add,du,List.length_map] at tl
  subst he
  have hi:jV (lN W n [] none none none)=some (cL 0 (W.ties.map aU),[],lN W n [] none none none):=by
    simp only [lN,List.map_nil]
    generalize W.ties.map aU=TT at*
    generalize aS W=WW at*
    simp? [jV,k9,tJ,g1']
  have hs:=fun Wl=>(ef (W:=Wl) (g:=bP (ar (ag 3) (ar (ag 4) bG))) (f:=h8) hi).trans h1
  refine⟨ts,?_,⟨ok.t0,ok.t1,tok,by show ts.length≤16;lia,ok.pl,ok.pat,ok.a0,ok.a1⟩⟩
  show _=some (Rv.d (.tuple [.int W.things,.tuple (ts.map aU),.tuple (W.pat.map .int),.int W.asks]),_)
  simp only [lN,List.map_nil] at hs
  generalize W.pat.map PyData.int=PP at*
  generalize W.ties.map aU=TT at*
  generalize ts.map aU=TS at*
  generalize aS W=WW at*
  simp? [j0,qD,hs,g0',g2',g3']
theorem yo{ds:List Int}(hd:hU ds):∃(W:bE) (ds':List Int),j3 [.l (ds.map .int),.d (.int 16)]=some (.d (aS W),[.l (ds'.map .int),.d (.int 16)])∧hU ds'∧W.Ok∧W.ties.length=16:=by
  obtain⟨n1,d1,t1,a1, -,hd1⟩:=gJ hd
  have gm:∀e:En,aT e (.d (.int n1)) (.d (.int 4))=some (.d (.int (n1 % 4))):=fun e=>aJ (by decide)
  obtain⟨z,hz,az⟩:=eS (xs:=[PyData.int 2,.int 4,.int 7,.int 12]) (i:=n1 % 4) (pY (by decide)) (by have:=pZ (n:=n1) (k:=4) (by decide);simpa using this)
  obtain⟨th,rfl,th1,th2⟩:∃p:Int,z=.int p∧2≤p∧p≤12:=by
    simp only [List.mem_cons,List.not_mem_nil,or_false] at hz
    rcases hz with rfl | rfl | rfl | rfl<;>exact⟨_,rfl,by decide,by decide⟩
  obtain⟨ts,d2,t2,hd2,tl,tok⟩:=tQ d1 th 16 hd1 th1 (by lia) (by decide) (by decide)
  obtain⟨n3,d3,t3,a3, -,hd3⟩:=gJ hd2
  have gm3:∀e:En,aT e (.d (.int n3)) (.d (.int 3))=some (.d (.int (n3 % 3))):=fun e=>aJ (by decide)
  have q0:=pY (n:=n3) (k:=3) (by decide);have q1:=pZ (n:=n3) (k:=3) (by decide)
  generalize n3 % 3=q at*
  obtain⟨p,hp,ap⟩:=eS (xs:=[PyData.int 20,.int 1,.int 2]) (i:=q) q0 (by simpa using q1)
  obtain⟨pa,rfl,pa0,pa1⟩:∃x:Int,p=.int x∧0≤x∧x≤20:=by
    simp only [List.mem_cons,List.not_mem_nil,or_false] at hp
    rcases hp with rfl | rfl | rfl<;>exact⟨_,rfl,by decide,by decide⟩
  obtain⟨s,hs,as⟩:=eS (xs:=[PyData.int 40,.int 40,.int 8]) (i:=q) q0 (by simpa using q1)
  obtain⟨ak,rfl,ak0,ak1⟩:∃x:Int,s=.int x∧0≤x∧x≤40:=by
    simp only [List.mem_cons,List.not_mem_nil,or_false] at hs
    rcases hs with rfl | rfl | rfl<;>exact⟨_,rfl,by decide,by decide⟩
  have gf:∀e:En,cE e (.d (.int 16)) (.d (.int 2))=some (.d (.int 8)):=fun e=>cP (by decide) (iJ (by decide) (by decide))
  have gr:∀e:En,bO e (.d (.tuple [.int pa])) (.d (.int th))=some (.d (.tuple (List.replicate th.toNat (.int pa)))):=fun e=>ro (by lia) (by lia)
  refine⟨⟨th,ts,List.replicate th.toNat pa,ak⟩,d3,?_,hd3,⟨by show 0≤th;lia,th2,tok,by show ts.length≤16;lia,by show((List.replicate th.toNat pa).length:Int)=th;rw [List.length_replicate];lia,fun x hx=>by
    have:=List.eq_of_mem_replicate hx
    subst this;exact⟨pa0,pa1⟩,ak0,ak1⟩,by show ts.length=16;lia⟩
  show _=some (Rv.d (.tuple [.int th,.tuple (ts.map aU),.tuple ((List.replicate th.toNat pa).map .int),.int ak]),_)
  rw [List.map_replicate]
  generalize List.replicate th.toNat (PyData.int pa)=RP at*
  generalize ts.map aU=TS at*
  simp? [j3,qH,t1,gm,az,t2,t3,gm3,ap,as,gf,gr]
inductive LI (ns:List Int):En→Prop
  | mk {ds v2 v3 v4} (hd:hU ds):LI ns [some (.d (.list (ns.map .int))),some (.l (ds.map .int)),v2,v3,v4]
theorem rO{ns ds:List Int}{v2 v3 v4:Option Sv}(hd:hU ds):∃e2,yP [some (.d (.list (ns.map .int))),some (.l (ds.map .int)),v2,v3,v4]=some (.nx e2)∧LI ns e2:=by
  obtain⟨W,d1,tw,hd1,ok, -, -⟩:=zU ds 12 16 hd (by decide) (by decide) (by decide) (by decide)
  obtain⟨n1,d2,t1,a1, -,hd2⟩:=gJ hd1
  obtain⟨ts,te,ok2⟩:=yk ok n1
  have r1:=jz ok
  have r2:=jz ok2
  refine⟨[some (.d (.list (ns.map .int))),some (.l (d2.map .int)),v2,some (.d (aS W)),v4],?_,.mk hd2⟩
  generalize aS ⟨W.things,ts,W.pat,W.asks⟩=W2 at*
  generalize aS W=WW at*
  simp? [yP,tw,t1,te,r1,r2]
theorem rM(ns:List Int)(hl:ns.length≤63):∃as',j4 [.d (.list (ns.map .int))]=some (.d (.bool true),as'):=by
  obtain⟨ds,td,hd⟩:=vL ns hl
  obtain⟨e2,h1,hI⟩:=cD (own:=[]) (g:=ag 2) (f:=yP) (fun _=>LI ns) (a8 0 4) 0 [some (.d (.list (ns.map .int))),some (.l (ds.map .int)),none,none,none] (fun i x e hx hI=>by
    obtain⟨hd⟩:=hI
    rename_i ds v2 v3 v4
    obtain⟨e2,k1,k2⟩:=rO (ns:=ns) (v2:=some (.d x)) (v3:=v3) (v4:=v4) hd
    exact⟨_,e2,rfl,k1,bS,k2⟩) (.mk hd)
  obtain⟨hd2⟩:=hI
  rename_i d2 v2 v3 v4
  have hfor:=fun Wl=>ef (W:=Wl) (g:=ag 2) (f:=yP) (show A7 [some (.d (.list (ns.map .int))),some (.l (ds.map .int)),none,none,none]=some (a8 0 4,[],[some (.d (.list (ns.map .int))),some (.l (ds.map .int)),none,none,none]) from rfl)
  rw [h1] at hfor
  obtain⟨W,d3,tw,hd3,ok,tl⟩:=yo hd2
  have r1:=jz ok
  have g0':=A0 (W:=W)
  have g1':=Aq (W:=W)
  have g2':=A4 (W:=W)
  have g3':=A6 (W:=W)
  have i0:nJ W 0:=⟨by decide,by lia⟩
  have at0:=qC i0
  have ok2:(⟨W.things,List.replicate 16 (W.tie 0),W.pat,W.asks⟩:bE).Ok:=⟨ok.t0,ok.t1,fun t ht=>by
    have:=List.eq_of_mem_replicate ht
    subst this;exact i0.ok ok,by show(List.replicate 16 (W.tie 0)).length≤16;rw [List.length_replicate];decide,ok.pl,ok.pat,ok.a0,ok.a1⟩
  have r2:=jz ok2
  have ew:aS ⟨W.things,List.replicate 16 (W.tie 0),W.pat,W.asks⟩=.tuple [.int W.things,.tuple (List.replicate 16 (aU (W.tie 0))),.tuple (W.pat.map .int),.int W.asks]:=by
    show PyData.tuple [.int W.things,.tuple ((List.replicate 16 (W.tie 0)).map aU),.tuple (W.pat.map .int),.int W.asks]=_
    rw [List.map_replicate]
  rw [ew] at r2
  have gr:∀e:En,bO e (.d (.tuple [aU (W.tie 0)])) (.d (.int 16))=some (.d (.tuple (List.replicate 16 (aU (W.tie 0))))):=fun e=>ro (n:=16) (by decide) (by decide)
  generalize List.replicate 16 (aU (W.tie 0))=RP at*
  generalize aU (W.tie 0)=T0 at*
  generalize W.pat.map PyData.int=PP at*
  generalize W.ties.map aU=TT at*
  generalize aS W=WW at*
  simp? [j4,v6,td,hfor,tw,r1,r2,g0',g1',g2',g3',at0,gr]
def kE(P:Params)(k:Str)(t:Tok)(v:Value):DictEntry:=⟨PyData.keyHash P k,.str k t,v⟩
def kF(n:Str)(s:Stmt)(doc pm:Value)(c:Addr):Obj:=⟨.type "function",none,.func (W.fnOf n n (cC s) (bR s) (ah s) .none .none doc pm none (.ref c) .none),#[]⟩
def kI(n:Int):Value:=.int n 0
def kC(n:Str)(a:Nat)(l:List Value)(z:Nat):Obj:=⟨.type "code",none,.fields (Value.str n a::Value.str n (a+1)::Value.str "/claim/cut.py" (a+2)::l++[Value.str "/claim/cut.py" z]).toArray,#[]⟩
def wf:Value:=.str "askedpairs.fractions" 187
def A8:Value:=.str "askedpairs.worthpaper" 220
def yC:Value:=.str "askedpairs.greedy" 229
def fL:Value:=.str "law_askedpairs_k55_orders_by_measures" 249
def kK(P:Params):W.Frag:=[(3,⟨.type "dict",none,.dict (List.toArray [kE P "__name__" 165 (.str "law_askedpairs_k55_orders_by_measures" 249),kE P "__doc__" 166 (.none),kE P "__package__" 167 (.none),kE P "__loader__" 168 (.builtin "__main__.__loader__#opaque"),kE P "__spec__" 169 (.none),kE P "__annotations__" 170 (.ref 6),kE P "__builtins__" 171 (.ref 4),kE P "__file__" 173 (.str "/claim/cut.py" 172),kE P "__cached__" 174 (.none),kE P "common_divisor" 196 (.ref 21),kE P "lowest" 205 (.ref 28),kE P "times" 213 (.ref 35),kE P "greatest_first" 219 (.ref 40),kE P "gain_of" 228 (.ref 47),kE P "by_chance" 236 (.ref 52),kE P "by_worth" 242 (.ref 57),kE P "by_both" 248 (.ref 62),kE P "_law_mixed" 259 (.ref 69),kE P "_law_draws" 270 (.ref 76),kE P "_law_next" 277 (.ref 83),kE P "_law_gcd" 285 (.ref 90),kE P "_law_low" 294 (.ref 97),kE P "_law_times" 302 (.ref 104),kE P "_law_less" 310 (.ref 111),kE P "_law_same" 318 (.ref 118),kE P "_law_chance" 327 (.ref 125),kE P "_law_worth" 335 (.ref 132),kE P "_law_ties" 354 (.ref 139),kE P "_law_web" 370 (.ref 146),kE P "_law_wide" 381 (.ref 153),kE P "_law_greatest_first" 387 (.ref 158),kE P "_law_even" 399 (.ref 165),kE P "_law_right" 405 (.ref 170),kE P "law" 416 (.ref 177)]) 34,#[]⟩),
  (21,kF "common_divisor" bw (.none) wf 20),
  (20,kC "common_divisor" 189 [kI 2,kI 2,kI 0,kI 0,kI 3,.ref 15,.bool true,kI 181,.ref 16,.none,.ref 17,.ref 18,.ref 19,kI 194,kI 2] 195),
  (28,kF "lowest" fX (.none) wf 27),
  (27,kC "lowest" 197 [kI 6,kI 2,kI 0,kI 0,kI 3,.ref 22,.bool true,kI 181,.ref 23,.none,.ref 24,.ref 25,.ref 26,kI 203,kI 6] 204),
  (35,kF "times" iD (.none) wf 34),
  (34,kC "times" 206 [kI 11,kI 2,kI 0,kI 0,kI 3,.ref 29,.bool true,kI 181,.ref 30,.none,.ref 31,.ref 32,.ref 33,kI 211,kI 11] 212),
  (40,kF "greatest_first" aI (.none) wf 39),
  (39,kC "greatest_first" 214 [kI 13,kI 1,kI 0,kI 0,kI 3,.ref 36,.bool true,kI 181,.ref 37,.none,.none,.none,.ref 38,kI 217,kI 13] 218),
  (47,kF "gain_of" eM (.none) A8 46),
  (46,kC "gain_of" 222 [kI 20,kI 1,kI 0,kI 0,kI 3,.ref 41,.bool true,kI 181,.ref 42,.none,.ref 43,.ref 44,.ref 45,kI 226,kI 20] 227),
  (52,kF "by_chance" cy (.none) yC 51),
  (51,kC "by_chance" 231 [kI 23,kI 1,kI 0,kI 0,kI 3,.ref 48,.bool true,kI 181,.ref 49,.none,.none,.none,.ref 50,kI 234,kI 23] 235),
  (57,kF "by_worth" cV (.none) yC 56),
  (56,kC "by_worth" 237 [kI 25,kI 1,kI 0,kI 0,kI 3,.ref 53,.bool true,kI 181,.ref 54,.none,.none,.none,.ref 55,kI 240,kI 25] 241),
  (62,kF "by_both" dz (.none) yC 61),
  (61,kC "by_both" 243 [kI 27,kI 1,kI 0,kI 0,kI 3,.ref 58,.bool true,kI 181,.ref 59,.none,.none,.none,.ref 60,kI 246,kI 27] 247),
  (69,kF "_law_mixed" gB (.none) fL 68),
  (68,kC "_law_mixed" 251 [kI 30,kI 2,kI 0,kI 0,kI 3,.ref 63,.bool true,kI 181,.ref 64,.none,.ref 65,.ref 66,.ref 67,kI 257,kI 30] 258),
  (76,kF "_law_draws" iA (.none) fL 75),
  (75,kC "_law_draws" 260 [kI 33,kI 1,kI 0,kI 0,kI 3,.ref 70,.bool true,kI 181,.ref 71,.none,.ref 72,.ref 73,.ref 74,kI 268,kI 33] 269),
  (83,kF "_law_next" fV (.none) fL 82),
  (82,kC "_law_next" 271 [kI 46,kI 1,kI 0,kI 0,kI 3,.ref 77,.bool true,kI 181,.ref 78,.none,.ref 79,.ref 80,.ref 81,kI 275,kI 46] 276),
  (90,kF "_law_gcd" mY (.none) fL 89),
  (89,kC "_law_gcd" 278 [kI 50,kI 2,kI 0,kI 0,kI 3,.ref 84,.bool true,kI 181,.ref 85,.none,.ref 86,.ref 87,.ref 88,kI 283,kI 50] 284),
  (97,kF "_law_low" kg (.none) fL 96),
  (96,kC "_law_low" 286 [kI 54,kI 2,kI 0,kI 0,kI 3,.ref 91,.bool true,kI 181,.ref 92,.none,.ref 93,.ref 94,.ref 95,kI 292,kI 54] 293),
  (104,kF "_law_times" iB (.none) fL 103),
  (103,kC "_law_times" 295 [kI 57,kI 2,kI 0,kI 0,kI 3,.ref 98,.bool true,kI 181,.ref 99,.none,.ref 100,.ref 101,.ref 102,kI 300,kI 57] 301),
  (111,kF "_law_less" kf (.none) fL 110),
  (110,kC "_law_less" 303 [kI 59,kI 2,kI 0,kI 0,kI 3,.ref 105,.bool true,kI 181,.ref 106,.none,.ref 107,.ref 108,.ref 109,kI 308,kI 59] 309),
  (118,kF "_law_same" kh (.none) fL 117),
  (117,kC "_law_same" 311 [kI 61,kI 2,kI 0,kI 0,kI 3,.ref 112,.bool true,kI 181,.ref 113,.none,.ref 114,.ref 115,.ref 116,kI 316,kI 61] 317),
  (125,kF "_law_chance" fU (.none) fL 124),
  (124,kC "_law_chance" 319 [kI 63,kI 2,kI 0,kI 0,kI 3,.ref 119,.bool true,kI 181,.ref 120,.none,.ref 121,.ref 122,.ref 123,kI 325,kI 63] 326),
  (132,kF "_law_worth" iC (.none) fL 131),
  (131,kC "_law_worth" 328 [kI 73,kI 2,kI 0,kI 0,kI 3,.ref 126,.bool true,kI 181,.ref 127,.none,.ref 128,.ref 129,.ref 130,kI 333,kI 73] 334),
  (139,kF "_law_ties" i9 (.none) fL 138),
  (138,kC "_law_ties" 336 [kI 75,kI 3,kI 0,kI 0,kI 3,.ref 133,.bool true,kI 181,.ref 134,.none,.ref 135,.ref 136,.ref 137,kI 352,kI 75] 353),
  (146,kF "_law_web" mZ (.none) fL 145),
  (145,kC "_law_web" 355 [kI 90,kI 3,kI 0,kI 0,kI 3,.ref 140,.bool true,kI 181,.ref 141,.none,.ref 142,.ref 143,.ref 144,kI 368,kI 90] 369),
  (153,kF "_law_wide" ki (.none) fL 152),
  (152,kC "_law_wide" 371 [kI 100,kI 2,kI 0,kI 0,kI 3,.ref 147,.bool true,kI 181,.ref 148,.none,.ref 149,.ref 150,.ref 151,kI 379,kI 100] 380),
  (158,kF "_law_greatest_first" aM (.none) fL 157),
  (157,kC "_law_greatest_first" 382 [kI 105,kI 1,kI 0,kI 0,kI 3,.ref 154,.bool true,kI 181,.ref 155,.none,.none,.none,.ref 156,kI 385,kI 105] 386),
  (165,kF "_law_even" ke (.none) fL 164),
  (164,kC "_law_even" 388 [kI 112,kI 2,kI 0,kI 0,kI 3,.ref 159,.bool true,kI 181,.ref 160,.none,.ref 161,.ref 162,.ref 163,kI 397,kI 112] 398),
  (170,kF "_law_right" eg (.none) fL 169),
  (169,kC "_law_right" 400 [kI 118,kI 1,kI 0,kI 0,kI 3,.ref 166,.bool true,kI 181,.ref 167,.none,.none,.none,.ref 168,kI 403,kI 118] 404),
  (177,kF "law" kj (.none) fL 176),
  (176,kC "law" 406 [kI 131,kI 1,kI 0,kI 0,kI 3,.ref 171,.bool true,kI 181,.ref 172,.none,.ref 173,.ref 174,.ref 175,kI 414,kI 131] 415)]
def kA:List Addr:=[3,21,20,28,27,35,34,40,39,47,46,52,51,57,56,62,61,69,68,76,75,83,82,90,89,97,96,104,103,111,110,118,117,125,124,132,131,139,138,146,145,153,152,158,157,165,164,170,169,177,176]
def kq:Program:={PySem.Challenge.pw_askedpairs_k55_orders_by_measures with main:={PySem.Challenge.pw_askedpairs_k55_orders_by_measures.main with body:=[top 1,top 2,top 3,top 4,top 6,top 8,top 9,top 10,top 12,top 13,top 14,top 15,top 16,top 17,top 18,top 19,top 20,top 21,top 22,top 23,top 24,top 25,top 26,top 27,top 28]}}
def kH:W.Hook:=W.kHook kK kA (fun _=>by kernel_rfl)
theorem left:W.LeftO PySem.Challenge.pw_askedpairs_k55_orders_by_measures kq [] (fun s=>W.xlAt kq [] s&&W.recOk (W.RowW.records (W.OpenRow.toRowW (W.OpenLaw.row PySem.Challenge.rw_askedpairs_k55_orders_by_measures))) s) (W.Hook.obs kH) (W.Hook.val kH) 1718:=fun w=>by kernel_rfl
theorem t9{P:List Value→Prop}(h:∀a0,P [a0]):∀us:List Value,us.length=1→P us:=fun us e=>match us,e with | [a0],_=>h a0
theorem qb{P:List Value→Prop}(h:∀a0 a1,P [a0,a1]):∀us:List Value,us.length=2→P us:=fun us e=>match us,e with | [a0,a1],_=>h a0 a1
theorem A9{P:List Value→Prop}(h:∀a0 a1 a2,P [a0,a1,a2]):∀us:List Value,us.length=3→P us:=fun us e=>match us,e with | [a0,a1,a2],_=>h a0 a1 a2
theorem hm{w:World}{h:Heap}{mg:Str→Option Value}{n:Str}{s:Stmt}{a:Addr}{ps:List Str}(c:Addr)(d p:Value)(X:(kK w.params).In h)(G:h.Ns mainGlobals mg)
    (e:(W.nsIn (kK w.params) mainGlobals n,List.lookup a (kK w.params),W.codeIn (kK w.params) (.ref c) n,W.keepIn (kK w.params) (.ref a))=(some (some (.ref a)),some (kF n s d p c),true,true))
    (b:∀(kV doc pm:Value) (an:Option Addr) (cdv ct:Value) (us:List Value),us.length=ps.length→bindArgs (W.fnOf n n (cC s) (bR s) (ah s) .none kV doc pm an cdv ct) ⟨us,[]⟩=pure (ps.zip us)):
    bi (kK w.params) mg n s a (W.fnOf n n (cC s) (bR s) (ah s) .none .none d p none (.ref c) .none) ps:=wW X G (congrArg (·.1) e) (congrArg (·.2.1) e) (congrArg (·.2.2.1) e) (congrArg (·.2.2.2) e) b
theorem all_mk{l:W.OpenLaw}{w:World}{h:Heap}{mg:Str→Option Value}{fa:Addr}(X:(kK w.params).In h)(G:h.Ns mainGlobals mg)(hfa:mg "law"=some (.ref fa)):
    ∃fd:FuncData,(∀(s:Shared) (v:Value),BindsTo s fd ⟨[v],[]⟩ [("_law_script",v)])∧∀base:Heap,(kK w.params).In base→base.Ns mainGlobals mg→aF l.prog w (kK w.params) mg base bU 7 fa fd ["_law_script"] (bW (kK w.params) 1 j4):=by
  have e:=hfa.symm.trans (W.mg_of X G (show W.nsIn (kK w.params) mainGlobals "law"=some (some (.ref 177)) by kernel_rfl))
  cases e
  have T:jd mg:=⟨W.mg_none_of X G (show W.nsIn (kK w.params) mainGlobals "abs"=some none by kernel_rfl),W.mg_none_of X G (show W.nsIn (kK w.params) mainGlobals "len"=some none by kernel_rfl),W.mg_none_of X G (show W.nsIn (kK w.params) mainGlobals "min"=some none by kernel_rfl),W.mg_none_of X G (show W.nsIn (kK w.params) mainGlobals "max"=some none by kernel_rfl),W.mg_none_of X G (show W.nsIn (kK w.params) mainGlobals "range"=some none by kernel_rfl),W.mg_none_of X G (show W.nsIn (kK w.params) mainGlobals "repr"=some none by kernel_rfl),W.mg_none_of X G (show W.nsIn (kK w.params) mainGlobals "tuple"=some none by kernel_rfl),W.mg_none_of X G (show W.nsIn (kK w.params) mainGlobals "int"=some none by kernel_rfl),W.mg_none_of X G (show W.nsIn (kK w.params) mainGlobals "sorted"=some none by kernel_rfl),W.mg_none_of X G (show W.nsIn (kK w.params) mainGlobals "enumerate"=some none by kernel_rfl)⟩
  have h_common_divisor:bi (kK w.params) mg "common_divisor" bw 21 _ ["one","other"]:=hm 20 (.none) wf X G (by kernel_rfl) fun _ _ _ _ _ _=>qb fun _ _=>rfl
  have h_lowest:bi (kK w.params) mg "lowest" fX 28 _ ["top","bottom"]:=hm 27 (.none) wf X G (by kernel_rfl) fun _ _ _ _ _ _=>qb fun _ _=>rfl
  have h_times:bi (kK w.params) mg "times" iD 35 _ ["one","other"]:=hm 34 (.none) wf X G (by kernel_rfl) fun _ _ _ _ _ _=>qb fun _ _=>rfl
  have h_greatest_first:bi (kK w.params) mg "greatest_first" aI 40 _ ["row"]:=hm 39 (.none) wf X G (by kernel_rfl) fun _ _ _ _ _ _=>t9 fun _=>rfl
  have h_gain_of:bi (kK w.params) mg "gain_of" eM 47 _ ["tie"]:=hm 46 (.none) A8 X G (by kernel_rfl) fun _ _ _ _ _ _=>t9 fun _=>rfl
  have h_by_chance:bi (kK w.params) mg "by_chance" cy 52 _ ["web"]:=hm 51 (.none) yC X G (by kernel_rfl) fun _ _ _ _ _ _=>t9 fun _=>rfl
  have h_by_worth:bi (kK w.params) mg "by_worth" cV 57 _ ["web"]:=hm 56 (.none) yC X G (by kernel_rfl) fun _ _ _ _ _ _=>t9 fun _=>rfl
  have h_by_both:bi (kK w.params) mg "by_both" dz 62 _ ["web"]:=hm 61 (.none) yC X G (by kernel_rfl) fun _ _ _ _ _ _=>t9 fun _=>rfl
  have hLmixed:bi (kK w.params) mg "_law_mixed" gB 69 _ ["_law_cell","_law_k"]:=hm 68 (.none) fL X G (by kernel_rfl) fun _ _ _ _ _ _=>qb fun _ _=>rfl
  have hLdraws:bi (kK w.params) mg "_law_draws" iA 76 _ ["_law_script"]:=hm 75 (.none) fL X G (by kernel_rfl) fun _ _ _ _ _ _=>t9 fun _=>rfl
  have hLnext:bi (kK w.params) mg "_law_next" fV 83 _ ["_law_drawn"]:=hm 82 (.none) fL X G (by kernel_rfl) fun _ _ _ _ _ _=>t9 fun _=>rfl
  have hLgcd:bi (kK w.params) mg "_law_gcd" mY 90 _ ["_law_one","_law_other"]:=hm 89 (.none) fL X G (by kernel_rfl) fun _ _ _ _ _ _=>qb fun _ _=>rfl
  have hLlow:bi (kK w.params) mg "_law_low" kg 97 _ ["_law_top","_law_bottom"]:=hm 96 (.none) fL X G (by kernel_rfl) fun _ _ _ _ _ _=>qb fun _ _=>rfl
  have hLtimes:bi (kK w.params) mg "_law_times" iB 104 _ ["_law_one","_law_other"]:=hm 103 (.none) fL X G (by kernel_rfl) fun _ _ _ _ _ _=>qb fun _ _=>rfl
  have hLless:bi (kK w.params) mg "_law_less" kf 111 _ ["_law_one","_law_other"]:=hm 110 (.none) fL X G (by kernel_rfl) fun _ _ _ _ _ _=>qb fun _ _=>rfl
  have hLsame:bi (kK w.params) mg "_law_same" kh 118 _ ["_law_found","_law_due"]:=hm 117 (.none) fL X G (by kernel_rfl) fun _ _ _ _ _ _=>qb fun _ _=>rfl
  have hLchance:bi (kK w.params) mg "_law_chance" fU 125 _ ["_law_number","_law_kind"]:=hm 124 (.none) fL X G (by kernel_rfl) fun _ _ _ _ _ _=>qb fun _ _=>rfl
  have hLworth:bi (kK w.params) mg "_law_worth" iC 132 _ ["_law_number","_law_kind"]:=hm 131 (.none) fL X G (by kernel_rfl) fun _ _ _ _ _ _=>qb fun _ _=>rfl
  have hLties:bi (kK w.params) mg "_law_ties" i9 139 _ ["_law_drawn","_law_things","_law_many"]:=hm 138 (.none) fL X G (by kernel_rfl) fun _ _ _ _ _ _=>A9 fun _ _ _=>rfl
  have hLweb:bi (kK w.params) mg "_law_web" mZ 146 _ ["_law_drawn","_law_most","_law_ties_here"]:=hm 145 (.none) fL X G (by kernel_rfl) fun _ _ _ _ _ _=>A9 fun _ _ _=>rfl
  have hLwide:bi (kK w.params) mg "_law_wide" ki 153 _ ["_law_drawn","_law_many"]:=hm 152 (.none) fL X G (by kernel_rfl) fun _ _ _ _ _ _=>qb fun _ _=>rfl
  have hLgreatest_first:bi (kK w.params) mg "_law_greatest_first" aM 158 _ ["_law_measures"]:=hm 157 (.none) fL X G (by kernel_rfl) fun _ _ _ _ _ _=>t9 fun _=>rfl
  have hLeven:bi (kK w.params) mg "_law_even" ke 165 _ ["_law_web_here","_law_number"]:=hm 164 (.none) fL X G (by kernel_rfl) fun _ _ _ _ _ _=>qb fun _ _=>rfl
  have hLright:bi (kK w.params) mg "_law_right" eg 170 _ ["_law_web_here"]:=hm 169 (.none) fL X G (by kernel_rfl) fun _ _ _ _ _ _=>t9 fun _=>rfl
  have h_law:bi (kK w.params) mg "law" kj 177 _ ["_law_script"]:=hm 176 (.none) fL X G (by kernel_rfl) fun _ _ _ _ _ _=>t9 fun _=>rfl
  refine⟨W.fnOf "law" "law" (cC kj) (bR kj) (ah kj) .none .none (.none) fL none (.ref 176) .none,fun s v=>.of_eq rfl,fun base _ _=>?_⟩
  have G_common_divisor:=iv (P:=l.prog) (w:=w) (base:=base) h_common_divisor T
  have G_lowest:=qf (P:=l.prog) (w:=w) (base:=base) h_lowest T h_common_divisor G_common_divisor
  have G_times:=sd (P:=l.prog) (w:=w) (base:=base) h_times T h_lowest G_lowest
  have G_greatest_first:=iw (P:=l.prog) (w:=w) (base:=base) h_greatest_first T
  have G_gain_of:=oB (P:=l.prog) (w:=w) (base:=base) h_gain_of T h_times G_times
  have G_by_chance:=l7 (P:=l.prog) (w:=w) (base:=base) h_by_chance T h_greatest_first G_greatest_first
  have G_by_worth:=mQ (P:=l.prog) (w:=w) (base:=base) h_by_worth T h_greatest_first G_greatest_first
  have G_by_both:=oA (P:=l.prog) (w:=w) (base:=base) h_by_both T h_greatest_first G_greatest_first h_gain_of G_gain_of
  have GLmixed:=r6 (P:=l.prog) (w:=w) (base:=base) hLmixed T
  have GLdraws:=rZ (P:=l.prog) (w:=w) (base:=base) hLdraws T hLmixed GLmixed
  have GLnext:=uM (P:=l.prog) (w:=w) (base:=base) hLnext T
  have GLgcd:=xi (P:=l.prog) (w:=w) (base:=base) hLgcd T
  have GLlow:=xj (P:=l.prog) (w:=w) (base:=base) hLlow T hLgcd GLgcd
  have GLtimes:=r9 (P:=l.prog) (w:=w) (base:=base) hLtimes T hLlow GLlow
  have GLless:=uL (P:=l.prog) (w:=w) (base:=base) hLless T
  have GLsame:=uO (P:=l.prog) (w:=w) (base:=base) hLsame T
  have GLchance:=qe (P:=l.prog) (w:=w) (base:=base) hLchance T hLlow GLlow
  have GLworth:=r_ (P:=l.prog) (w:=w) (base:=base) hLworth T
  have GLties:=uP (P:=l.prog) (w:=w) (base:=base) hLties T hLnext GLnext hLchance GLchance hLworth GLworth
  have GLweb:=xk (P:=l.prog) (w:=w) (base:=base) hLweb T hLties GLties hLnext GLnext
  have GLwide:=uQ (P:=l.prog) (w:=w) (base:=base) hLwide T hLties GLties hLnext GLnext
  have GLgreatest_first:=iu (P:=l.prog) (w:=w) (base:=base) hLgreatest_first T hLless GLless
  have GLeven:=uK (P:=l.prog) (w:=w) (base:=base) hLeven T hLmixed GLmixed hLlow GLlow
  have GLright:=r8 (P:=l.prog) (w:=w) (base:=base) hLright T hLtimes GLtimes hLsame GLsame h_by_chance G_by_chance hLgreatest_first GLgreatest_first h_by_both G_by_both h_by_worth G_by_worth
  have G_law:=xl (P:=l.prog) (w:=w) (base:=base) h_law T hLdraws GLdraws hLwide GLwide hLweb GLweb hLright GLright hLeven GLeven hLnext GLnext
  exact G_law
def zG(K:W.Frag):Sp:=fun vs H Q _=>∃(a:Addr) (ns:List Int),vs=[.ref a]∧fx K H a (ns.map V.int)∧ns.length≤63∧∀H',Q (.bl true) H'
theorem xb{K:W.Frag}{vs:List V}{H:Hp}{Q:VK}{E:XK}(h:zG K vs H Q E):bW K 1 j4 vs H Q E:=by
  obtain⟨a,ns,rfl,hS,hl,q⟩:=h
  obtain⟨as',hm⟩:=rM ns hl
  exact oI hS hm q
theorem walk{l:W.OpenLaw}{q:Program}{loose:List Str}{XP:(Str→Option Value)→Heap→Prop}{YP:World→Heap→Prop}{d:DefRec}{K:Params→W.Frag}(hn:l.most=some 63)(hdf:d.params.defaults=[])
    (hY:∀(w:World) (h:Heap),YP w h→(K w.params).In h)
    (F:∀(w:World) (mg:Str→Option Value) (fa:Addr) (h:Heap),(K w.params).In h→h.Ns mainGlobals mg→mg d.name=some (.ref fa)→
      ∃fd:FuncData,(∀(s:Shared) (u:Value),BindsTo s fd ⟨[u],[]⟩ [("_law_script",u)])∧∀base:Heap,(K w.params).In base→base.Ns mainGlobals mg→aF l.prog w (K w.params) mg base bU 7 fa fd ["_law_script"] (bW (K w.params) 1 j4)):
    W.WalkO q loose XP YP l.row.toRowW d [] (fun f vs=>PySem.call f vs):=
  L2.walk_of (n:=63) (k:=7) (x:="_law_script") (CX:=fun _=>bU) (sp:=fun w=>bW (K w.params) 1 j4) hn (by decide) hdf ⟨rfl,by decide,by decide,rfl⟩ hY F (fun _ _ a ns hl _ hS=>xb ⟨a,ns,rfl,hS,hl,fun _=>rfl⟩) fun _ _ _ _ _ z=>z
end V55
open PySem PySem.W PyProof.Rows
set_option maxRecDepth 100000 in
set_option maxHeartbeats 0 in
theorem PySem.Challenge.cw_askedpairs_k55_orders_by_measures_holds : PySem.Challenge.rw_askedpairs_k55_orders_by_measures.Holds := by
  w_on;o_law
  refine holds_open (q:=V55.kq) (loose:=[]) (Xt:=fun s=>xlAt V55.kq [] s&&recOk (RowW.records (OpenRow.toRowW (OpenLaw.row PySem.Challenge.rw_askedpairs_k55_orders_by_measures))) s) (XP:=XL V55.kq []) (Yf:=Hook.obs V55.kH) (Ya:=Hook.val V55.kH) (YP:=Hook.says V55.kH) (N:=1718) V55.left (Hook.of V55.kH) (Hook.keeps V55.kH) (fun s e=>xl_of s (Bool.and_eq_true_iff.mp e).1) XL.keeps (by rfl) (by rfl) (by rfl) (fun s e=>recFacts_of (Bool.and_eq_true_iff.mp e).2) (by rfl) (by assumption) (by decide+kernel) ⟨rfl,rfl,rfl,rfl,rfl,by decide+kernel⟩ ?hw ?hc
  case hw=>w_witness2
  case hc=>exact V55.walk (l:=PySem.Challenge.rw_askedpairs_k55_orders_by_measures) rfl rfl (fun w h Y=>kIn_of Y) (fun w mg fa h KX G hmg=>V55.all_mk KX G hmg)
