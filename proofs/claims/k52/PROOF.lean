import PyProof.Rows.All
import Wide.All
import OpenK.AllK
import Wide.FinOn
import Lean
import PyProof.EqAt
import PyProof.EqKinds
import PyProof.TupleCall
import PyProof.ReprRoads
import PyProof.IsInstance
import PyProof.IsInstanceH
import PyProof.FitsBits
import PyProof.CompFree
import PyProof.Rows.SumAny
import PyProof.Rows.SortShell
import PyProof.Rows.TupAdd
import PyProof.NeKinds
import PyProof.ConsumeWalk
import PyProof.ZipIter
import PyProof.TupleIter
import PyProof.LayNew
import PyProof.CollectWalk
import PyProof.ListNew
import PyProof.Draws
import PyProof.EnumFor
import PyProof.EnumMake
import PyProof.ListRange
import PyProof.CollectIter
import KE.KRevIter
import PyProof.ListMulRoad
import PyProof.TupleOps
import PyProof.TupleOfStr
import PyProof.WalksMore
import PyProof.FactsAll.range_iterator
import PyProof.IsRules
import PyProof.CompUse
import PyProof.P3In
import PyProof.EqLayable
import KE.KIsAll
import PyProof.Rows.FactsN_isinstance
import PyProof.CallStr
import PyProof.Rows.StrWeight2
import PyProof.Rows.FStr
import PyProof.StrLawsRepr
import PyProof.Rows.SetFrom
import KE.KIntText
import KE.KRevSl
import PyProof.Rows.SeqMore2
import PySem.Challenge.RW_askedpairs_k52_orders_by_shares
set_option Elab.async false
set_option linter.all false
set_option maxRecDepth 100000
namespace L2
open PySem PySem.Spec PyProof.Rows
abbrev jV:=Sum Int Str
def tf:jV→Value→Bool
  | .inl k,v=>Value.isInt k v
  | .inr x,v=>Value.isStrOf x v
def CD(w:World):jV→Int
  | .inl k=>hashInt k
  | .inr x=>hashStr w x
theorem aY:∀{k:jV} {v:Value},tf k v=true→(∃i t,k=Sum.inl i∧v=Value.int i t)∨(∃x t,k=Sum.inr x∧v=Value.str x t)
  | .inl i,v,h=>by
    obtain⟨t,e⟩:=Value.isInt_shape (k:=i) (v:=v) h
    exact .inl ⟨i,t,rfl,e⟩
  | .inr x,v,h=>by
    obtain⟨t,e⟩:=Value.isStrOf_shape (x:=x) (v:=v) h
    exact .inr ⟨x,t,rfl,e⟩
theorem yQ(a b:Int):decide ((Sum.inl a:jV)=Sum.inl b)=(a==b):=by
  by_cases e:a=b
  · subst e;simp
  · have h:¬(Sum.inl a:jV)=Sum.inl b:=fun q=>e (Sum.inl.inj q)
    rw [decide_eq_false h]
    exact(beq_eq_false_iff_ne.mpr e).symm
theorem yT(a b:Str):decide ((Sum.inr a:jV)=Sum.inr b)=decide (a=b):=by
  by_cases e:a=b
  · subst e;simp
  · have h:¬(Sum.inr a:jV)=Sum.inr b:=fun q=>e (Sum.inr.inj q)
    rw [decide_eq_false h,decide_eq_false e]
theorem yR(a:Int)(b:Str):decide ((Sum.inl a:jV)=Sum.inr b)=false:=decide_eq_false (fun q=>nomatch q)
theorem yS(a:Str)(b:Int):decide ((Sum.inr a:jV)=Sum.inl b)=false:=decide_eq_false (fun q=>nomatch q)
def mE(prog:Program)(w:World):PySem.KeyKind prog w jV where
  is:=tf
  hash:=CD w
  inj:=fun v a b ha hb=>by
    rcases aY ha with ⟨i,t,rfl,rfl⟩ | ⟨x,t,rfl,rfl⟩
    · rcases aY hb with ⟨j,u,rfl,e⟩ | ⟨y,u,rfl,e⟩
      · injection e with e1 _;rw [e1]
      · exact nomatch e
    · rcases aY hb with ⟨j,u,rfl,e⟩ | ⟨y,u,rfl,e⟩
      · exact nomatch e
      · injection e with e1 _;rw [e1]
  byValue:=fun k v h=>by
    rcases aY h with ⟨i,t,rfl,rfl⟩ | ⟨x,t,rfl,rfl⟩<;>rfl
  pyHash:=fun hv h=>by
    rcases aY hv with ⟨i,t,rfl,rfl⟩ | ⟨x,t,rfl,rfl⟩
    · exact wpAny_pyHash_int h
    · exact wpAny_pyHash_str h
  eqBool:=fun hu hv h=>by
    rcases aY hu with ⟨i,t,rfl,rfl⟩ | ⟨x,t,rfl,rfl⟩
    · rcases aY hv with ⟨j,u,rfl,rfl⟩ | ⟨y,u,rfl,rfl⟩
      · rw [yQ] at h;exact wpAny_eqBool_int h
      · rw [yR] at h;exact SeqAt.EqAt.int_str i t y u _ _ _ _ h
    · rcases aY hv with ⟨j,u,rfl,rfl⟩ | ⟨y,u,rfl,rfl⟩
      · rw [yS] at h;exact SeqAt.EqAt.str_int x t j u _ _ _ _ h
      · rw [yT] at h;exact wpAny_eqBool_str h
  «strs»:=fun k x t v h=>by
    rcases aY h with ⟨i,u,rfl,e⟩ | ⟨y,u,rfl,e⟩
    · exact nomatch e
    · injection e with e1 _
      subst e1
      cases v<;>rfl
end L2
namespace L2
open PySem PySem.Spec PyProof.Rows
inductive V where
  | non | bl (b:Bool) | int (i:Int) | str (x:Str) | byt (b:Array UInt8) | flt (b:UInt64) | ref (a:Addr) | ty (n:String)
  deriving DecidableEq
def bg:V→Value→Prop
  | .non,u=>u=Value.none
  | .bl b,u=>u=Value.bool b
  | .int i,u=>∃t,u=Value.int i t
  | .str x,u=>∃t,u=Value.str x t
  | .byt b,u=>∃t,u=Value.bytes b t
  | .flt b,u=>∃t,u=Value.float b t
  | .ref a,u=>u=Value.ref a
  | .ty n,u=>u=Value.type n
abbrev aD:List V→List Value→Prop:=Paired bg
theorem aD.length{xs:List V}{us:List Value}(r:aD xs us):xs.length=us.length:=Paired.length r
theorem aD.get:∀{xs:List V} {us:List Value} {i:Nat} {x:V},aD xs us→xs[i]?=some x→∃u,us[i]?=some u∧bg x u
  | _,_,_,_,.nil,e=>by simp at e
  | _,_,0,_,.cons r _,e=>by simp at e;subst e;exact⟨_,rfl,r⟩
  | _,_,i+1,x,.cons _ t,e=>by
    obtain⟨u,h1,h2⟩:=aD.get (i:=i) (x:=x) t (by simpa using e)
    exact⟨u,by simpa using h1,h2⟩
theorem aD.append:∀{xs ys:List V} {us ws:List Value},aD xs us→aD ys ws→aD (xs++ys) (us++ws)
  | _,_,_,_,.nil,s=>s
  | _,_,_,_,.cons r t,s=>.cons r (aD.append t s)
theorem aD.take:∀{xs:List V} {us:List Value} (n:Nat),aD xs us→aD (xs.take n) (us.take n)
  | _,_,0,_=>.nil
  | _,_,_+1,.nil=>.nil
  | _,_,n+1,.cons r t=>.cons r (aD.take n t)
theorem aD.drop:∀{xs:List V} {us:List Value} (n:Nat),aD xs us→aD (xs.drop n) (us.drop n)
  | _,_,0,r=>r
  | _,_,_+1,.nil=>.nil
  | _,_,n+1,.cons _ t=>aD.drop n t
def Ay:Option V→Option Value→Prop
  | some v,some u=>bg v u
  | none,none=>True
  | _,_=>False
def KV{κ:Type}:List (κ × V)→List (κ × Value)→Prop:=Paired fun(p:κ × V) (q:κ × Value)=>p.1=q.1∧bg p.2 q.2
def kV:jV→V
  | .inl i=>.int i
  | .inr x=>.str x
inductive HO where
  /-- a list -/
  | lst (xs:List V)
  /-- a tuple (never changes) -/
  | tup (xs:List V)
  /-- a dict whose keys are ints and texts; one whose keys are tuples of ints and texts (the empty one is both) -/
  | dK (kvs:List (jV × V)) | dT (kvs:List (List jV × V))
  /-- a set of ints: its members, its size -/
  | set (S:Int→Bool) (n:Nat)
  /-- an instance of the class at C, its dict at dx, its attributes -/
  | ins (C dx:Addr) (fs:List (Str × V))
  /-- the dict of the instance at x -/
  | own (x:Addr)
  /-- the dict of an exception -/
  | xd (fs:List (Str × V))
  /-- a bound method, f of x -/
  | met (f x:Addr)
  /-- a range object lo, lo + 1, .. below hi -/
  | rng (lo hi:Int)
  /-- a thing that is known to the object (the script; a dict while a loop walks it): read, never written while it is so -/
  | frz (o:Obj) (u:HO)
  /-- a code object's table -/
  | tbl (ps:Array Value)
  /-- any other thing, by what is true of its one object (a def of one's own: SetO a S n := HO.ext fun h => ..) -/
  | ext (φ:Heap→Prop)
abbrev Hp:=Addr→Option HO
def aS(H:Hp)(a:Addr)(o:HO):Hp:=fun b=>if b=a then some o else H b
theorem av{H:Hp}{a:Addr}{o:HO}:aS H a o a=some o:=by unfold aS;rw [if_pos rfl]
theorem aA{H:Hp}{a b:Addr}{o:HO}(h:b≠a):aS H a o b=H b:=by unfold aS;rw [if_neg h]
theorem dc{H:Hp}{a b:Addr}{o:HO}(h:H a=some o)(h':H b=none):a≠b:=by
  intro e;subst e;rw [h] at h';cases h'
def jB(h:Heap)(a:Addr)(items:Array Value):Prop:=∃o,h.get? a=some o∧o.cls=.type "tuple"∧∃n,o.data=.seq items n∧o.dict=none
theorem jB.tup{h:Heap}{a:Addr}{items:Array Value}(x:jB h a items):IsTup h a items:=let ⟨o,ho,hc,n,hd,_⟩:=x;⟨o,ho,hc,n,hd⟩
theorem jB.new(h:Heap)(items:Array Value):jB (h.push {cls:=.type "tuple",data:=.seq items}) h.objs.size items:=⟨_,Heap.get?_push_size _ rfl,rfl,_,rfl,rfl⟩
section
variable(P:Program)(w:World)
def el(H:Hp)(h:Heap)(a:Addr):HO→Prop
  | .lst xs=>xs.length≤sizeLine∧∃(its:List Value) (n:Nat),aD xs its∧h.get? a=some {cls:=.type "list",data:=.seq its.toArray n}
  | .tup xs=>xs.length≤sizeLine∧∃its:List Value,aD xs its∧jB h a its.toArray
  | .dK kvs=>kvs.length≤sizeLine∧(a==sysModules)=false∧∃vs,KV kvs vs∧h.DictOf (mE P w) a vs
  | .dT kvs=>kvs.length≤sizeLine∧(a==sysModules)=false∧∃xs:List (List jV × Addr × Value),
      Paired (fun(p:List jV × V) (q:List jV × Addr × Value)=>p.1=q.1∧H q.2.1=some (.tup (p.1.map kV))∧bg p.2 q.2.2) kvs xs∧
      ∃o es ep,h.get? a=some o∧o.ExactDict∧o.data=.dict es ep∧es.toList=xs.map (entryOfKey (tupleKind (mE P w)))∧(xs.map (·.1)).Nodup
  | .set S n=>h.SetOf (intKind P w) a S n
  | .ins C dx fs=>H dx=some (.own a)∧fs.length≤1000∧dx≠a∧h.get? a=some (PySem.W.instObj C dx)∧
      ∃mA,h.Ns1 dx mA∧(∀f,Ay (fs.lookup f) (mA f))∧PySem.Within mA (fs.map (·.1))
  | .own _=>∃o,h.get? a=some o
  | .xd fs=>∃mA,h.Ns1 a mA∧∀f,Ay (fs.lookup f) (mA f)
  | .rng lo hi=>∃t u v,h.get? a=some {cls:=.type "range",data:=.fields #[.int lo t,.int hi u,.int 1 v]}
  | .frz o u=>h.get? a=some o∧el H h a u
  | .tbl ps=>h.get? a=some {cls:=.none,data:=.fields ps}
  | .met f x=>h.get? a=some (PySem.W.methodObj (.ref f) (.ref x))
  | .ext φ=>φ h∧(∃o,h.get? a=some o)∧∀h1 h2:Heap,φ h1→(∀o,h1.get? a=some o→h2.get? a=some o)→φ h2
def jU(H:Hp)(h:Heap):Prop:=∀a o,H a=some o→el P w H h a o
end
section
variable{P:Program}{w:World}{H H':Hp}{h h':Heap}{a:Addr}{o:HO}
theorem el.lt(x:el P w H h a o):a < h.objs.size:=by
  cases o with
  | lst xs=>obtain⟨_,_,_,_,e⟩:=x;exact Heap.lt_size e
  | tup xs=>obtain⟨_,_,_,p⟩:=x;exact p.tup.lt
  | dK kvs=>obtain⟨_,_,_,_,o,_,_,e,_⟩:=x;exact Heap.lt_size e
  | dT kvs=>obtain⟨_,_,_,_,o,_,_,e,_⟩:=x;exact Heap.lt_size e
  | set S n=>obtain⟨o,_,_,_,e,_⟩:=x;exact Heap.lt_size e
  | ins C dx fs=>obtain⟨_,_,_,e,_⟩:=x;exact Heap.lt_size e
  | own y=>obtain⟨_,e⟩:=x;exact Heap.lt_size e
  | xd fs=>obtain⟨_,⟨_,_,_,e,_⟩,_⟩:=x;exact Heap.lt_size e
  | rng lo hi=>obtain⟨_,_,_,e⟩:=x;exact Heap.lt_size e
  | frz ob u=>obtain⟨e,_⟩:=x;exact Heap.lt_size e
  | tbl ps=>exact Heap.lt_size (show h.get? a=some _ from x)
  | met f y=>exact Heap.lt_size (show h.get? a=some _ from x)
  | ext φ=>obtain⟨_,⟨_,e⟩,_⟩:=x;exact Heap.lt_size e
theorem Paired.mapP{α β:Type}{F G:α→β→Prop}:∀{l₁:List α} {l₂:List β},Paired F l₁ l₂→(∀a b,F a b→G a b)→Paired G l₁ l₂
  | _,_,.nil,_=>.nil
  | _,_,.cons r t,f=>.cons (f _ _ r) (Paired.mapP t f)
theorem el.stay(x:el P w H h a o)(k:∀b u,(b=a∨H b=some (.own a))→h.get? b=some u→h'.get? b=some u)
    (ho:∀b,H b=some (.own a)→H' b=some (.own a))(ht:∀b xs,H b=some (.tup xs)→H' b=some (.tup xs)):el P w H' h' a o:=by
  induction o with
  | lst xs=>obtain⟨z,its,n,r,e⟩:=x;exact⟨z,its,n,r,k _ _ (.inl rfl) e⟩
  | tup xs=>obtain⟨z,its,r,ob,e,c⟩:=x;exact⟨z,its,r,ob,k _ _ (.inl rfl) e,c⟩
  | dK kvs=>obtain⟨z,y,vs,r,ob,es,ep,e,c⟩:=x;exact⟨z,y,vs,r,ob,es,ep,k _ _ (.inl rfl) e,c⟩
  | dT kvs=>
    obtain⟨z,y,xs,r,ob,es,ep,e,c⟩:=x
    exact⟨z,y,xs,Paired.mapP r fun p q z=>⟨z.1,ht _ _ z.2.1,z.2.2⟩,ob,es,ep,k _ _ (.inl rfl) e,c⟩
  | set S n=>obtain⟨ob,es,ep,t,e,c⟩:=x;exact⟨ob,es,ep,t,k _ _ (.inl rfl) e,c⟩
  | ins C dx fs=>
    obtain⟨d,z,ne,e,mA,⟨od,es,ep,e2,c⟩,r⟩:=x
    exact⟨ho _ d,z,ne,k _ _ (.inl rfl) e,mA,⟨od,es,ep,k _ _ (.inr d) e2,c⟩,r⟩
  | own y=>obtain⟨ob,e⟩:=x;exact⟨ob,k _ _ (.inl rfl) e⟩
  | xd fs=>obtain⟨mA,⟨od,es,ep,e,c⟩,r⟩:=x;exact⟨mA,⟨od,es,ep,k _ _ (.inl rfl) e,c⟩,r⟩
  | rng lo hi=>obtain⟨t,u,v,e⟩:=x;exact⟨t,u,v,k _ _ (.inl rfl) e⟩
  | frz ob u ih=>obtain⟨e,q⟩:=x;exact⟨k _ _ (.inl rfl) e,ih q⟩
  | tbl ps=>
    have e:h.get? a=some {cls:=.none,data:=.fields ps}:=x
    show h'.get? a=some {cls:=.none,data:=.fields ps}
    exact k a _ (.inl rfl) e
  | met f y=>
    have e:h.get? a=some (PySem.W.methodObj (.ref f) (.ref y)):=x
    show h'.get? a=some (PySem.W.methodObj (.ref f) (.ref y))
    exact k a _ (.inl rfl) e
  | ext φ=>obtain⟨p,⟨o,e⟩,st⟩:=x;exact⟨st _ _ p fun o q=>k _ _ (.inl rfl) q,⟨o,k _ _ (.inl rfl) e⟩,st⟩
theorem jU.lt(x:jU P w H h)(e:H a=some o):a < h.objs.size:=(x a o e).lt
theorem jU.fresh(x:jU P w H h)(e:h.objs.size≤a):H a=none:=by
  cases q:H a with
  | none=>rfl
  | some u=>exact absurd (Nat.lt_of_lt_of_le (x.lt q) e) (Nat.lt_irrefl _)
theorem jU.kept(x:jU P w H h)(k:∀b u,h.get? b=some u→h'.get? b=some u):jU P w H h':=fun a o e=>
  (x a o e).stay (fun b u _ q=>k b u q) (fun _ q=>q) fun _ _ q=>q
theorem jU.laid(x:jU P w H h)(k:∀b u,h.get? b=some u→h'.get? b=some u)(hp:h.objs.size≤a)(new:el P w (aS H a o) h' a o):jU P w (aS H a o) h':=fun b u e=>by
  have hn:=x.fresh hp
  by_cases hb:b=a
  · subst hb;rw [av] at e;cases e;exact new
  · rw [aA hb] at e
    exact(x b u e).stay (fun c v _ q=>k c v q) (fun c q=>by rw [aA (dc q hn)];exact q) fun c xs q=>by rw [aA (dc q hn)];exact q
end
def Rd(H:Hp)(a:Addr)(u:HO):Prop:=H a=some u∨∃o,H a=some (.frz o u)
theorem Rd.ok{P:Program}{w:World}{H:Hp}{h:Heap}{a:Addr}{u:HO}(r:Rd H a u)(x:jU P w H h):el P w H h a u:=by
  rcases r with r | ⟨o,r⟩
  · exact x a u r
  · obtain⟨_,q⟩:=x a _ r
    exact q
def B0:Option HO→Prop
  | some (.lst _)=>True
  | some (.dK _)=>True
  | some (.dT _)=>True
  | some (.set _ _)=>True
  | some (.ins _ _ _)=>True
  | some (.ext _)=>True
  | _=>False
section
variable{P:Program}{w:World}{H:Hp}{h h':Heap}{x e:Addr}{o':HO}
theorem jU.write(ok:jU P w H h)(mu:B0 (H x))(he:e=x∨H e=some (.own x))(k:∀b u,b≠e→h.get? b=some u→h'.get? b=some u)(heo:∃u,h'.get? e=some u)
    (new:el P w (aS H x o') h' x o'):jU P w (aS H x o') h':=fun b u q=>by
  have nown:∀c y,H c=some (.own y)→c≠x:=fun c y r z=>by subst z;rw [r] at mu;exact mu
  have ntup:∀c xs,H c=some (.tup xs)→c≠x:=fun c xs r z=>by subst z;rw [r] at mu;exact mu
  by_cases hb:b=x
  · subst hb;rw [av] at q;cases q;exact new
  · rw [aA hb] at q
    by_cases hbe:b=e
    · have q':H b=some (.own x):=by
        rcases he with z | z
        · exact absurd (hbe.trans z) hb
        · rw [hbe];exact z
      rw [q] at q';cases q'
      obtain⟨v,hv⟩:=heo
      exact⟨v,by rw [hbe];exact hv⟩
    · refine(ok b u q).stay (fun c v hc r=>k c v ?_ r) (fun c r=>by rw [aA (nown c b r)];exact r) fun c xs r=>by rw [aA (ntup c xs r)];exact r
      rcases hc with rfl | hc
      · exact hbe
      · rintro rfl
        rcases he with z | z
        · exact nown c b hc z
        · rw [hc] at z;cases z;exact hb rfl
end
structure Un (fs ex:List Addr) (H H':Hp) (h h':Heap):Prop where
  keep:∀b o,h.get? b=some o→H b=none→b∉fs→b∉ex→h'.get? b=some o
  slot:∀b o,h.get? b=some o→H b=none→b∈fs→b∉ex→∃sl,h'.get? b=some {o with slots:=sl}
  free:∀b o,h.get? b=some o→H b=none→b∉ex→H' b=none
  there:∀b o,h.get? b=some o→b∉ex→∃o',h'.get? b=some o'
  tups:∀b xs,H b=some (.tup xs)→H' b=some (.tup xs)
  frzs:∀b o u,H b=some (.frz o u)→H' b=some (.frz o u)
  tbls:∀b ps,H b=some (.tbl ps)→∃more,H' b=some (.tbl (ps++more))
section
variable{fs fs' ex ex':List Addr}{H H1 H2:Hp}{h h1 h2 h':Heap}{a x e:Addr}{o:HO}
theorem Un.any(u:Un fs ex H H1 h h1){b:Addr}{ob:Obj}(q:h.get? b=some ob)(n:H b=none)(hx:b∉ex):∃sl,h1.get? b=some {ob with slots:=sl}:=by
  by_cases hb:b∈fs
  · exact u.slot b ob q n hb hx
  · exact⟨ob.slots,u.keep b ob q n hb hx⟩
theorem Un.kept(k:∀b u,h.get? b=some u→h'.get? b=some u):Un fs ex H H h h':=
  ⟨fun b ob q _ _ _=>k b ob q,fun b ob q _ _ _=>⟨ob.slots,k b ob q⟩,fun _ _ _ n _=>n,fun b ob q _=>⟨ob,k b ob q⟩,fun _ _ q=>q,fun _ _ _ q=>q,fun _ ps q=>⟨#[],by rw [q];simp⟩⟩
theorem Un.refl:Un fs ex H H h h:=Un.kept fun _ _ q=>q
theorem Un.laid(k:∀b u,h.get? b=some u→h'.get? b=some u)(hp:h.objs.size≤a)(hn:H a=none):Un fs ex H (aS H a o) h h' where
  keep:=fun b u q _ _ _=>k b u q
  slot:=fun b u q _ _ _=>⟨u.slots,k b u q⟩
  free:=fun b u q n _=>by rw [aA (Nat.ne_of_lt (Nat.lt_of_lt_of_le (Heap.lt_size q) hp))];exact n
  there:=fun b u q _=>⟨u,k b u q⟩
  tups:=fun b xs q=>by rw [aA (dc q hn)];exact q
  frzs:=fun b u xs q=>by rw [aA (dc q hn)];exact q
  tbls:=fun b ps q=>⟨#[],by rw [aA (dc q hn),q];simp⟩
theorem Un.write(mu:B0 (H x))(he:e=x∨H e=some (.own x))(k:∀b u,b≠e→h.get? b=some u→h'.get? b=some u)(heo:∃u,h'.get? e=some u):Un fs ex H (aS H x o) h h':=by
  have hx:∀b,H b=none→b≠x:=fun b n z=>by subst z;rw [n] at mu;exact mu
  have hb:∀b,H b=none→b≠e:=fun b n z=>by
    subst z
    rcases he with r | r
    · exact hx b n r
    · rw [n] at r;cases r
  have hm:∀b u,H b=some u→¬B0 (some u)→b≠x:=fun b u q nm z=>by subst z;rw [q] at mu;exact nm mu
  refine⟨fun b u q n _ _=>k b u (hb b n) q,fun b u q n _ _=>⟨u.slots,k b u (hb b n) q⟩,fun b u q n _=>by rw [aA (hx b n)];exact n,fun b u q _=>?_,
    fun b xs q=>by rw [aA (hm b _ q fun z=>z)];exact q,fun b u xs q=>by rw [aA (hm b _ q fun z=>z)];exact q,fun b ps q=>⟨#[],by rw [aA (hm b _ q fun z=>z),q];simp⟩⟩
  by_cases hbe:b=e
  · subst hbe;exact heo
  · exact⟨u,k b u hbe q⟩
end
def Cb(h:Heap)(H:Hp):List Addr:=(List.range h.objs.size).filter fun a=>(H a).isSome
def ms(h:Heap)(H:Hp):Heap:=PySem.W.hideAll h (Cb h H)
theorem qV(h:Heap)(H:Hp):(ms h H).objs.size=h.objs.size:=PySem.W.hideAll_size _ _
theorem sW{h:Heap}{H:Hp}{b:Addr}{o:Obj}(e:h.get? b=some o)(n:H b=none):(ms h H).get? b=some o:=
  PySem.W.hideAll_get _ e fun hm=>by
    have q:(H b).isSome=true:=(List.mem_filter.mp hm).2
    rw [n] at q;simp at q
theorem vX{h:Heap}{H:Hp}{b:Addr}{o:Obj}(e:(ms h H).get? b=some o):h.get? b=some o∧H b=none:=by
  have e':h.get? b=some o:=PySem.W.of_hideAll (Cb h H) e
  refine⟨e',?_⟩
  cases q:H b with
  | none=>rfl
  | some x=>
    have hm:b∈Cb h H:=List.mem_filter.mpr ⟨List.mem_range.mpr (Heap.lt_size e'),by simp [q]⟩
    have z:(ms h H).get? b=none:=PySem.W.hideAll_none (Cb h H) hm
    rw [z] at e;cases e
def l7(g h:Heap)(L:Addr):List (Addr × Obj):=(List.range h.objs.size).filterMap fun a=>if a=L∨(g.get? a).isSome=true then none else(h.get? a).map fun o=>(a,o)
theorem kB{g h:Heap}{L:Addr}{p:Addr × Obj}(hp:p∈l7 g h L):p.1≠L∧g.get? p.1=none∧h.get? p.1=some p.2:=by
  obtain⟨b,_,e⟩:=List.mem_filterMap.mp hp
  split at e
  · cases e
  · rename_i hn
    cases q:h.get? b with
    | none=>rw [q] at e;simp at e
    | some u=>
      rw [q] at e
      simp only [Option.map_some,Option.some.injEq] at e
      subst e
      refine⟨fun z=>hn (.inl z),?_,q⟩
      show g.get? b=none
      cases r:g.get? b with
      | none=>rfl
      | some v=>exact(hn (.inr (by simp [r]))).elim
def fM(g h:Heap)(L d:Addr):List (Addr × Obj):=(l7 g h L).filter fun p=>decide (p.1≠d)
theorem tN{g h:Heap}{L:Addr}:News g L h (l7 g h L):=fun p hp=>let ⟨a,b,c⟩:=kB hp;⟨c,a,b⟩
end L2
namespace L2
open PySem PySem.Spec PyProof.Rows
structure Mod (K:PySem.W.Frag) (mg:Str→Option Value) (base:Heap):Prop where
  kin:K.In base
  glob:base.Ns mainGlobals mg
  blt:∃mb,base.Ns builtinsNs mb∧∀x:Str,x≠"__name__"→mb x=bootBuiltins x
  nolimit:base.NoLimit
structure Cx where
  prog:Program
  w:World
  K:PySem.W.Frag
  mg:Str→Option Value
  base:Heap
  A:Around
  N:List Str
  s₀:Shared
  H₀:Hp
  env:Env
  outer:List Env
  stack:List Env
  ex:List Addr
  fn:Str→Bool
  calm:Bool
  pn:List (Addr × Obj)
  xe:Value→Shared→Prop
def sr(l:List Env):List Addr:=l.filterMap (·.frame)
abbrev Cx.fs(X:Cx):List Addr:=sr X.outer
def AC(sc:Scope)(x:Str):Prop:=sc.names.lookup x=some .local∨sc.names.lookup x=some .cell∨sc.names.lookup x=some .free
def Ap(sc:Scope)(x:Str):Prop:=sc.names.lookup x=some .local∨sc.names.lookup x=some .cell
def Ci(env:Env)(h:Heap)(m:Str→Option Value)(x:Str)(u:Value):Prop:=
  (env.kindOf x=some .local∧m x=some u)∨((env.kindOf x=some .cell∨env.kindOf x=some .free)∧∃c,env.cells.lookup x=some c∧h.IsCell c (some u))
structure Cx.Ok (X:Cx):Prop where
  mod:Mod X.K X.mg X.base
  kind:X.env.scope.kind=.function
  glob:X.env.globals=mainGlobals
  blt:X.env.builtins=builtinsNs
  above:X.s₀.heap.objs.size≤X.env.locals
  inj:∀x y c,X.env.cells.lookup x=some c→X.env.cells.lookup y=some c→x=y
  has:∀x,(X.env.kindOf x=some .cell∨X.env.kindOf x=some .free)→∃c,X.env.cells.lookup x=some c
  cab:∀x c,X.fn x=true→X.env.cells.lookup x=some c→X.s₀.heap.objs.size≤c
  hd:X.calm=true→X.A.handled=none
  frames:X.A.frames=some X.stack
  stk:X.stack=X.outer∨(X.stack=X.env::X.outer∧X.env.frame=some X.env.locals)
  exf:∀b∈X.ex,b≠X.env.locals∧∀x c,X.env.cells.lookup x=some c→c≠b
  bs:∀b o,X.base.get? b=some o→X.s₀.heap.get? b=some o∧X.H₀ b=none
  bsz:X.base.objs.size≤X.s₀.heap.objs.size
  noex:∀b o,X.base.get? b=some o→b∉X.ex
  exfs:∀b∈X.ex,b∉X.fs
  funs:X.s₀.heap.FunFrames X.base X.outer
  frf:∀b∈X.fs,X.H₀ b=none
structure aq (X:Cx) (pins:List (Addr × Obj)) (σ:List (Option V)) (H:Hp) (s:Shared):Prop where
  ok:X.Ok
  os:s.os=X.s₀.os
  bare:AllBare s.gens
  base:Un X.fs X.ex X.H₀ H X.s₀.heap s.heap
  loc:∃m,s.heap.Ns X.env.locals m∧∀(i:Nat) (x:Str) (v:V),X.N[i]?=some x→σ[i]?=some (some v)→AC X.env.scope x→∃u,bg v u∧Ci X.env s.heap m x u
  cell:∀x c,X.env.cells.lookup x=some c→∃v,s.heap.IsCell c v
  free:H X.env.locals=none
  freeC:∀x c,X.env.cells.lookup x=some c→H c=none
  pin:∀p∈X.pn++pins,s.heap.get? p.1=some p.2∧H p.1=none∧p.1≠X.env.locals∧p.1∉X.fs∧∀v,p.2.data≠.cell v
  hok:jU X.prog X.w H s.heap
  len:σ.length=X.N.length
section
variable{X:Cx}{pins:List (Addr × Obj)}{σ:List (Option V)}{H H':Hp}{s:Shared}{h':Heap}
theorem Cx.Ok.nofr(ok:X.Ok){b:Addr}{o:Obj}(e:X.base.get? b=some o):b∉X.fs:=fun hb=>by
  have:=(ok.funs.mem hb).1
  rw [e] at this;cases this
theorem aq.bs(I:aq X pins σ H s):∀b o,X.base.get? b=some o→s.heap.get? b=some o∧H b=none:=fun b o e=>
  ⟨I.base.keep b o (I.ok.bs b o e).1 (I.ok.bs b o e).2 (I.ok.nofr e) (I.ok.noex b o e),I.base.free b o (I.ok.bs b o e).1 (I.ok.bs b o e).2 (I.ok.noex b o e)⟩
theorem aq.bk(I:aq X pins σ H s):∀b o,X.base.get? b=some o→s.heap.get? b=some o:=fun b o e=>(I.bs b o e).1
theorem aq.mod(I:aq X pins σ H s):Mod X.K X.mg X.base:=I.ok.mod
theorem aq.kIn(I:aq X pins σ H s):X.K.In s.heap:=I.ok.mod.kin.keeps I.bk
theorem aq.fr(I:aq X pins σ H s):∃m,Fr X.base X.env.locals s.heap m:=
  let ⟨m,hn,_⟩:=I.loc
  ⟨m,hn,I.bk,Nat.le_trans I.ok.bsz I.ok.above⟩
theorem aq.lt(I:aq X pins σ H s):X.env.locals < s.heap.objs.size:=let ⟨_,hn,_⟩:=I.loc;hn.lt
theorem aq.sz(I:aq X pins σ H s):X.s₀.heap.objs.size≤s.heap.objs.size:=Nat.le_trans I.ok.above (Nat.le_of_lt I.lt)
theorem aq.nofs(I:aq X pins σ H s){a:Addr}(h:s.heap.objs.size≤a):a∉X.fs:=fun hb=>by
  obtain⟨_,o,ho,_⟩:=I.ok.funs.mem hb
  exact absurd (Nat.lt_of_lt_of_le (Heap.lt_size ho) (Nat.le_trans I.sz h)) (Nat.lt_irrefl _)
theorem aq.cne(I:aq X pins σ H s):∀x c,X.env.cells.lookup x=some c→c≠X.env.locals:=fun x c e z=>by
  obtain⟨v,o,ho,hd⟩:=I.cell x c e
  obtain⟨m,⟨o',es,ep,ho',hd',_⟩,_⟩:=I.loc
  rw [z,ho'] at ho;cases ho;rw [hd'] at hd;cases hd
theorem aq.funs(I:aq X pins σ H s):s.heap.FunFrames X.base X.outer:=by
  have all:∀(l:List Env),(∀b∈sr l,b∈X.fs)→X.s₀.heap.FunFrames X.base l→s.heap.FunFrames X.base l:=by
    intro l
    induction l with
    | nil=>intro _ _;trivial
    | cons env r ih=>
      intro hs hl
      obtain⟨hk,⟨L,o,hf,hn,ho,hd⟩,hr⟩:=hl
      have hL:L∈X.fs:=hs L (by unfold sr;rw [List.filterMap_cons,hf];exact List.mem_cons_self)
      obtain⟨sl,e⟩:=I.base.slot L o ho (I.ok.frf L hL) hL fun z=>I.ok.exfs L z hL
      exact⟨hk,⟨L,_,hf,hn,e,hd⟩,ih (fun b hb=>hs b (by unfold sr;rw [List.filterMap_cons,hf];exact List.mem_cons_of_mem _ hb)) hr⟩
  exact all X.outer (fun _ hb=>hb) I.ok.funs
theorem aq.stack(I:aq X pins σ H s):s.heap.FunFrames X.base X.stack:=by
  rcases I.ok.stk with e | ⟨e,hf⟩
  · rw [e];exact I.funs
  · rw [e]
    obtain⟨m,hn,_⟩:=I.loc
    refine .cons (by rw [I.ok.kind];decide) hf hn ?_ I.funs
    exact Heap.get?_none_of_le (Nat.le_trans I.ok.bsz I.ok.above)
theorem aq.stkSub(I:aq X pins σ H s):∀b∈sr X.stack,b∈X.env.locals::X.fs:=fun b hb=>by
  rcases I.ok.stk with e | ⟨e,hf⟩
  · rw [e] at hb;exact List.mem_cons_of_mem _ hb
  · rw [e] at hb
    unfold sr at hb
    rw [List.filterMap_cons,hf] at hb
    exact hb
theorem aq.stkFree(I:aq X pins σ H s):∀b∈sr X.stack,H b=none:=fun b hb=>by
  rcases List.mem_cons.mp (I.stkSub b hb) with e | hb
  · rw [e];exact I.free
  · obtain⟨_,o,ho,_⟩:=I.ok.funs.mem hb
    exact I.base.free b o ho (I.ok.frf b hb) fun z=>I.ok.exfs b z hb
theorem aq.step{g':Array GenState}{t':Nat}{d':Drawn}{ch:List Addr}(I:aq X pins σ H s)
    (hch:∀b∈ch,(b∈X.ex∨X.s₀.heap.objs.size≤b)∧b≠X.env.locals∧(∀x c,X.env.cells.lookup x=some c→c≠b)∧∀p∈X.pn++pins,p.1≠b)
    (keep:∀b o,b≠X.env.locals→b∉X.fs→b∉ch→s.heap.get? b=some o→H b=none→h'.get? b=some o)
    (slot:∀b o,b≠X.env.locals→b∈X.fs→b∉ch→s.heap.get? b=some o→H b=none→∃sl,h'.get? b=some {o with slots:=sl})(free:∀b o,b∉ch→s.heap.get? b=some o→H b=none→H' b=none)
    (there:∀b o,b∉ch→s.heap.get? b=some o→∃o',h'.get? b=some o')
    (tups:∀b xs,H b=some (.tup xs)→H' b=some (.tup xs))(frzs:∀b o u,H b=some (.frz o u)→H' b=some (.frz o u))(tbls:∀b ps,H b=some (.tbl ps)→∃more,H' b=some (.tbl (ps++more)))
    (ns:∀m,s.heap.Ns X.env.locals m→h'.Ns X.env.locals m)(hok:jU X.prog X.w H' h')(hg:AllBare g'):
    aq X pins σ H' {s with heap:=h',gens:=g',drawn:=d',toks:=t'}:=by
  have neL:∀b o,X.s₀.heap.get? b=some o→b≠X.env.locals:=fun b o e=>Nat.ne_of_lt (Nat.lt_of_lt_of_le (Heap.lt_size e) I.ok.above)
  have neC:∀b o,X.s₀.heap.get? b=some o→b∉X.ex→b∉ch:=fun b o e hx hb=>by
    rcases(hch b hb).1 with z | z
    · exact hx z
    · exact absurd (Nat.lt_of_lt_of_le (Heap.lt_size e) z) (Nat.lt_irrefl _)
  have cellK:∀x c,X.env.cells.lookup x=some c→∀v,s.heap.IsCell c v→h'.IsCell c v:=fun x c e v ⟨o,ho,hd⟩=>by
    have nch:c∉ch:=fun z=>(hch c z).2.2.1 x c e rfl
    by_cases hc:c∈X.fs
    · obtain⟨sl,q⟩:=slot c o (I.cne x c e) hc nch ho (I.freeC x c e)
      exact⟨_,q,hd⟩
    · exact⟨o,keep c o (I.cne x c e) hc nch ho (I.freeC x c e),hd⟩
  refine⟨I.ok,I.os,hg,⟨fun b o e n hb hx=>?_,fun b o e n hb hx=>?_,fun b o e n hx=>?_,fun b o e hx=>?_,fun b xs e=>tups b xs (I.base.tups b xs e),fun b o xs e=>frzs b o xs (I.base.frzs b o xs e),fun b ps e=>?_⟩,?_,fun x c e=>?_,?_,fun x c e=>?_,fun p hp=>?_,hok,I.len⟩
  · exact keep b o (neL b o e) hb (neC b o e hx) (I.base.keep b o e n hb hx) (I.base.free b o e n hx)
  · obtain⟨sl,e1⟩:=I.base.slot b o e n hb hx
    obtain⟨sl',e2⟩:=slot b _ (neL b o e) hb (neC b o e hx) e1 (I.base.free b o e n hx)
    exact⟨sl',e2⟩
  · obtain⟨o',e1⟩:=I.base.there b o e hx
    exact free b o' (neC b o e hx) e1 (I.base.free b o e n hx)
  · obtain⟨o',e1⟩:=I.base.there b o e hx
    exact there b o' (neC b o e hx) e1
  · obtain⟨m1,e1⟩:=I.base.tbls b ps e
    obtain⟨m2,e2⟩:=tbls b _ e1
    exact⟨m1++m2,by rw [e2,Array.append_assoc]⟩
  · obtain⟨m,hn,hl⟩:=I.loc
    refine⟨m,ns m hn,fun i x v e1 e2 e3=>?_⟩
    obtain⟨u,r,l⟩:=hl i x v e1 e2 e3
    refine⟨u,r,?_⟩
    rcases l with l | ⟨k,c,e,z⟩
    · exact .inl l
    · exact .inr ⟨k,c,e,cellK x c e _ z⟩
  · obtain⟨v,z⟩:=I.cell x c e
    exact⟨v,cellK x c e v z⟩
  · obtain⟨m,⟨o,_,_,ho,_⟩,_⟩:=I.loc
    exact free _ o (fun z=>(hch _ z).2.1 rfl) ho I.free
  · obtain⟨v,o,ho,hd⟩:=I.cell x c e
    exact free c o (fun z=>(hch c z).2.2.1 x c e rfl) ho (I.freeC x c e)
  · obtain⟨e,n,ne,nf,d⟩:=I.pin p hp
    have nch:p.1∉ch:=fun z=>(hch p.1 z).2.2.2 p hp rfl
    exact⟨keep p.1 p.2 ne nf nch e n,free p.1 p.2 nch e n,ne,nf,d⟩
theorem aq.un{t':Nat}(I:aq X pins σ H s)(u:Un X.fs [] H H' s.heap h')(hok:jU X.prog X.w H' h'):aq X pins σ H' {s with heap:=h',toks:=t'}:=by
  obtain⟨m,⟨o,es,ep,ho,r⟩,_⟩:=id I.loc
  obtain⟨sl,hL⟩:=u.any ho I.free (by simp)
  exact I.step (g':=s.gens) (d':=s.drawn) (ch:=[]) (fun _ z=>nomatch z) (fun b o _ hb _ e n=>u.keep b o e n hb (by simp)) (fun b o _ hb _ e n=>u.slot b o e n hb (by simp)) (fun b o _ e n=>u.free b o e n (by simp)) (fun b o _ e=>u.there b o e (by simp)) u.tups u.frzs u.tbls (fun m' hm=>by
    obtain⟨o',es',ep',ho',r'⟩:=hm
    rw [ho] at ho';cases ho'
    exact⟨_,es',ep',hL,r'⟩) hok I.bare
theorem aq.call{g':Array GenState}{t':Nat}{d':Drawn}{ch:List Addr}(I:aq X pins σ H s)(u:Un (sr X.stack) ch H H' s.heap h')(hok:jU X.prog X.w H' h')(hg:AllBare g')
    (hch:∀b∈ch,(b∈X.ex∨X.s₀.heap.objs.size≤b)∧b≠X.env.locals∧(∀x c,X.env.cells.lookup x=some c→c≠b)∧∀p∈X.pn++pins,p.1≠b):
    aq X pins σ H' {s with heap:=h',gens:=g',drawn:=d',toks:=t'}:=by
  obtain⟨m,⟨o,es,ep,ho,r⟩,_⟩:=id I.loc
  obtain⟨sl,hL⟩:=u.any ho I.free fun z=>(hch _ z).2.1 rfl
  exact I.step (ch:=ch) hch (fun b o hL hb hc e n=>u.keep b o e n (fun z=>(List.mem_cons.mp (I.stkSub b z)).elim hL hb) hc) (fun b o _ _ hc e n=>u.any e n hc) (fun b o hc e n=>u.free b o e n hc) (fun b o hc e=>u.there b o e hc) u.tups u.frzs u.tbls (fun m' hm=>by
    obtain⟨o',es',ep',ho',r'⟩:=hm
    rw [ho] at ho';cases ho'
    exact⟨_,es',ep',hL,r'⟩) hok hg
theorem aq.turned{t':Nat}{it:Addr}(I:aq X pins σ H s)(k:∀b o,b≠it→s.heap.get? b=some o→h'.get? b=some o)(hn:H it=none)(hL:it≠X.env.locals)
    (h1:it∈X.ex∨X.s₀.heap.objs.size≤it)(h2:∀x c,X.env.cells.lookup x=some c→c≠it)(h3:∀p∈X.pn++pins,p.1≠it):aq X pins σ H {s with heap:=h',toks:=t'}:=by
  have nit:∀b u,H b=some u→b≠it:=fun b u e z=>by rw [z,hn] at e;cases e
  refine I.step (g':=s.gens) (d':=s.drawn) (ch:=[it]) (fun b hb=>?_) (fun b o _ _ hc e _=>k b o (fun z=>hc (by simp [z])) e) (fun b o _ _ hc e _=>⟨o.slots,k b o (fun z=>hc (by simp [z])) e⟩) (fun _ _ _ _ n=>n)
    (fun b o hc e=>⟨o,k b o (fun z=>hc (by simp [z])) e⟩) (fun _ _ e=>e) (fun _ _ _ e=>e) (fun b ps e=>⟨#[],by rw [e];simp⟩) (fun m hm=>?_) (fun b u e=>?_) I.bare
  · have e:b=it:=by simpa using hb
    subst e
    exact⟨h1,hL,h2,h3⟩
  · obtain⟨o,es,ep,ho,r⟩:=hm
    exact⟨o,es,ep,k _ o (Ne.symm hL) ho,r⟩
  · refine(I.hok b u e).stay (fun c v hc q=>k c v ?_ q) (fun _ q=>q) fun _ _ q=>q
    rcases hc with z | z
    · rw [z];exact nit b u e
    · exact nit c _ z
theorem aq.tok(I:aq X pins σ H s)(t:Nat):aq X pins σ H {s with toks:=t}:=I.un (h':=s.heap) (t':=t) Un.refl I.hok
theorem aq.kept{t':Nat}(I:aq X pins σ H s)(k:∀b u,s.heap.get? b=some u→h'.get? b=some u):aq X pins σ H {s with heap:=h',toks:=t'}:=I.un (Un.kept k) (I.hok.kept k)
theorem aq.laid{a:Addr}{o:HO}{t':Nat}(I:aq X pins σ H s)(k:∀b u,s.heap.get? b=some u→h'.get? b=some u)(hp:s.heap.objs.size≤a)(new:el X.prog X.w (aS H a o) h' a o):
    aq X pins σ (aS H a o) {s with heap:=h',toks:=t'}:=I.un (Un.laid k hp (I.hok.fresh hp)) (I.hok.laid k hp new)
theorem aq.write{x e:Addr}{o:HO}{t':Nat}(I:aq X pins σ H s)(mu:B0 (H x))(he:e=x∨H e=some (.own x))(k:∀b u,b≠e→s.heap.get? b=some u→h'.get? b=some u)(heo:∃u,h'.get? e=some u)
    (new:el X.prog X.w (aS H x o) h' x o):aq X pins σ (aS H x o) {s with heap:=h',toks:=t'}:=I.un (Un.write mu he k heo) (I.hok.write mu he k heo new)
theorem aq.pins_of{pins':List (Addr × Obj)}(I:aq X pins σ H s)(h:∀p∈pins',s.heap.get? p.1=some p.2∧H p.1=none∧p.1≠X.env.locals∧p.1∉X.fs∧∀v,p.2.data≠.cell v):aq X pins' σ H s:=
  ⟨I.ok,I.os,I.bare,I.base,I.loc,I.cell,I.free,I.freeC,fun p hp=>(List.mem_append.mp hp).elim (fun z=>I.pin p (List.mem_append_left _ z)) (h p),I.hok,I.len⟩
theorem nK{N:List Str}(hN:N.Nodup){i j:Nat}{x:Str}(a:N[i]?=some x)(b:N[j]?=some x):i=j:=by
  obtain⟨h1,e1⟩:=List.getElem?_eq_some_iff.mp a
  obtain⟨h2,e2⟩:=List.getElem?_eq_some_iff.mp b
  exact(List.getElem_inj hN).mp (e1.trans e2.symm)
theorem lX{M:Model}{A:Around}{E:Value→Shared→Prop}{i:Nat}{x:Str}{v:V}{u:Value}{Q:Unit→Shared→Prop}(I:aq X pins σ H s)(hN:X.N.Nodup)(hi:X.N[i]?=some x)(hx:Ap X.env.scope x)(r:bg v u)
    (h:∀s',aq X pins (σ.set i (some v)) H s'→(∃a,Heap.SameBut a s.heap s'.heap∧(a=X.env.locals∨X.env.cells.lookup x=some a))→Q () s')(hf:X.fn x=true∨X.env.scope.names.lookup x=some .local:=by first | exact .inl rfl | exact .inr rfl | assumption):wpAny M A (storeName X.env x u) Q E s:=by
  obtain⟨m,hn,hl⟩:=id I.loc
  have hcls:(X.env.scope.kind==.class || (X.env.scope.kind==.module&&X.env.locals != X.env.globals))=false:=by rw [I.ok.kind];rfl
  have hiσ:i < σ.length:=by rw [I.len];exact(List.getElem?_eq_some_iff.mp hi).1
  have cne:=I.cne
  have tracked:∀{a:Addr} {h':Heap},(∃o,s.heap.get? a=some o∧H a=none)→Heap.SameBut a s.heap h'→jU X.prog X.w H h':=fun{a h'} ha hs b ob e=>by
    obtain⟨_,_,hfree⟩:=ha
    refine(I.hok b ob e).stay (fun c w' hc q=>(hs.2 c ?_).trans q) (fun _ q=>q) fun _ _ q=>q
    rintro rfl
    rcases hc with rfl | hc
    · rw [hfree] at e;cases e
    · rw [hfree] at hc;cases hc
  rcases hx with hk | hk
  · refine wpAny_storeName_local hk hn (fun h' hn' hs=>?_) hcls
    obtain⟨oL,_,_,hoL,_⟩:=id hn
    refine h _ ⟨I.ok,I.os,I.bare,⟨fun b o e n hb hx=>?_,fun b o e n hb hx=>?_,I.base.free,fun b o e hx=>?_,I.base.tups,I.base.frzs,I.base.tbls⟩,⟨_,hn',fun j y v' e1 e2 e3=>?_⟩,fun y c e=>?_,I.free,I.freeC,fun p hp=>?_,tracked ⟨oL,hoL,I.free⟩ hs,by simpa using I.len⟩ ⟨_,hs,.inl rfl⟩
    · exact(hs.2 b (Nat.ne_of_lt (Nat.lt_of_lt_of_le (Heap.lt_size e) I.ok.above))).trans (I.base.keep b o e n hb hx)
    · obtain⟨sl,e1⟩:=I.base.slot b o e n hb hx
      exact⟨sl,(hs.2 b (Nat.ne_of_lt (Nat.lt_of_lt_of_le (Heap.lt_size e) I.ok.above))).trans e1⟩
    · obtain⟨o',e1⟩:=I.base.there b o e hx
      exact⟨o',(hs.2 b (Nat.ne_of_lt (Nat.lt_of_lt_of_le (Heap.lt_size e) I.ok.above))).trans e1⟩
    · by_cases hj:j=i
      · subst hj
        rw [hi] at e1;cases e1
        rw [List.getElem?_set_self hiσ] at e2
        cases e2
        exact⟨u,r,.inl ⟨hk,by simp⟩⟩
      · rw [List.getElem?_set_ne (Ne.symm hj)] at e2
        obtain⟨u',r',q⟩:=hl j y v' e1 e2 e3
        refine⟨u',r',?_⟩
        rcases q with ⟨k,e⟩ | ⟨k,c,e,z⟩
        · refine .inl ⟨k,?_⟩
          have:y≠x:=fun e=>hj (nK hN e1 (e ▸ hi))
          simp [this,e]
        · exact .inr ⟨k,c,e,z.sameBut hs (cne y c e)⟩
    · obtain⟨w',z⟩:=I.cell y c e
      exact⟨w',z.sameBut hs (cne y c e)⟩
    · obtain⟨e,n,ne,nf,d⟩:=I.pin p hp
      exact⟨(hs.2 p.1 ne).trans e,n,ne,nf,d⟩
  · have hfn:X.fn x=true:=by
      rcases hf with z | z
      · exact z
      · rw [z] at hk;cases hk
    obtain⟨c,hc⟩:=I.ok.has x (.inl hk)
    obtain⟨w',z⟩:=I.cell x c hc
    refine wpAny_storeName_cell I.ok.kind hk hc z (fun h' hc' hs=>?_)
    obtain⟨oc,hoc,hocd⟩:=id z
    refine h {s with heap:=h'} ⟨I.ok,I.os,I.bare,⟨fun b o e n hb hx=>?_,fun b o e n hb hx=>?_,I.base.free,fun b o e hx=>?_,I.base.tups,I.base.frzs,I.base.tbls⟩,⟨m,hn.sameBut hs (Ne.symm (cne x c hc)),fun j y v' e1 e2 e3=>?_⟩,fun y c' e=>?_,I.free,I.freeC,fun p hp=>?_,tracked ⟨oc,hoc,I.freeC x c hc⟩ hs,by simpa using I.len⟩ ⟨c,hs,.inr hc⟩
    · exact(hs.2 b (Nat.ne_of_lt (Nat.lt_of_lt_of_le (Heap.lt_size e) (I.ok.cab x c hfn hc)))).trans (I.base.keep b o e n hb hx)
    · obtain⟨sl,e1⟩:=I.base.slot b o e n hb hx
      exact⟨sl,(hs.2 b (Nat.ne_of_lt (Nat.lt_of_lt_of_le (Heap.lt_size e) (I.ok.cab x c hfn hc)))).trans e1⟩
    · obtain⟨o',e1⟩:=I.base.there b o e hx
      exact⟨o',(hs.2 b (Nat.ne_of_lt (Nat.lt_of_lt_of_le (Heap.lt_size e) (I.ok.cab x c hfn hc)))).trans e1⟩
    · by_cases hj:j=i
      · subst hj
        rw [hi] at e1;cases e1
        rw [List.getElem?_set_self hiσ] at e2
        cases e2
        exact⟨u,r,.inr ⟨.inl hk,c,hc,hc'⟩⟩
      · rw [List.getElem?_set_ne (Ne.symm hj)] at e2
        obtain⟨u',r',q⟩:=hl j y v' e1 e2 e3
        refine⟨u',r',?_⟩
        rcases q with q | ⟨k,c',e,z'⟩
        · exact .inl q
        · refine .inr ⟨k,c',e,z'.sameBut hs ?_⟩
          rintro rfl
          exact hj (nK hN e1 (I.ok.inj _ _ _ e hc ▸ hi))
    · by_cases hcc:c'=c
      · subst hcc;exact⟨_,hc'⟩
      · obtain⟨w2,z2⟩:=I.cell y c' e
        exact⟨w2,z2.sameBut hs hcc⟩
    · obtain⟨e,n,ne,nf,d⟩:=I.pin p hp
      refine⟨(hs.2 p.1 ?_).trans e,n,ne,nf,d⟩
      intro q
      rw [q,hoc] at e
      have q':oc=p.2:=Option.some.inj e
      exact d w' (by rw [←q'];exact hocd)
theorem iV{M:Model}{A:Around}{E:Value→Shared→Prop}{i:Nat}{x:Str}{v:V}{u:Value}{Q:Unit→Shared→Prop}(I:aq X pins σ H s)(hN:X.N.Nodup)(hi:X.N[i]?=some x)(hx:Ap X.env.scope x)(r:bg v u)
    (h:∀s',aq X pins (σ.set i (some v)) H s'→Q () s')(hf:X.fn x=true∨X.env.scope.names.lookup x=some .local:=by first | exact .inl rfl | exact .inr rfl | assumption):wpAny M A (storeName X.env x u) Q E s:=
  lX I hN hi hx r (fun s' I' _=>h s' I') hf
theorem aq.call'{s':Shared}{ch:List Addr}(I:aq X pins σ H s)(ho:s'.os=s.os)(u:Un (sr X.stack) ch H H' s.heap s'.heap)(hok:jU X.prog X.w H' s'.heap)(hg:AllBare s'.gens)
    (hch:∀b∈ch,(b∈X.ex∨X.s₀.heap.objs.size≤b)∧b≠X.env.locals∧(∀x c,X.env.cells.lookup x=some c→c≠b)∧∀p∈X.pn++pins,p.1≠b):aq X pins σ H' s':=by
  obtain⟨h',g',d',t',o'⟩:=s'
  have e:o'=s.os:=ho
  subst e
  exact I.call (g':=g') (t':=t') (d':=d') u hok hg hch
end
abbrev XK:=Value→Option Addr→Hp→Prop
abbrev St:=List (Option V)
abbrev VK:=V→Hp→Prop
abbrev TE:=St→Hp→VK→Prop
abbrev TT:=St→Hp→(Bool→Hp→Prop)→Prop
abbrev TA:=St→Hp→(List V→Hp→Prop)→Prop
structure oI where
  nx:St→Hp→Prop
  rt:VK
  bk:St→Hp→Prop:=fun _ _=>False
  ct:St→Hp→Prop:=fun _ _=>False
abbrev TS:=oI→St→Hp→Prop
def EP(X:Cx)(pins:List (Addr × Obj))(σ:St)(Q:VK)(u:Value)(s':Shared):Prop:=∃v H',aq X pins σ H' s'∧bg v u∧Q v H'
def TP(X:Cx)(pins:List (Addr × Obj))(σ:St)(Q:Bool→Hp→Prop)(b:Bool)(s':Shared):Prop:=∃H',aq X pins σ H' s'∧Q b H'
def AP(X:Cx)(pins:List (Addr × Obj))(σ:St)(Q:List V→Hp→Prop)(us:List Value)(s':Shared):Prop:=∃vs H',aq X pins σ H' s'∧aD vs us∧Q vs H'
def SP(X:Cx)(pins:List (Addr × Obj))(D:oI)(f:Flow)(s':Shared):Prop:=
  match f with
  | .next=>∃σ' H',aq X pins σ' H' s'∧D.nx σ' H'
  | .brk=>∃σ' H',aq X pins σ' H' s'∧D.bk σ' H'
  | .cont=>∃σ' H',aq X pins σ' H' s'∧D.ct σ' H'
  | .ret u=>∃v σ' H',aq X pins σ' H' s'∧bg v u∧D.rt v H'
def PE(X:Cx)(e:Expr)(t:TE):Prop:=
  ∀(pins:List (Addr × Obj)) (s:Shared) (σ:St) (H:Hp) (Q:VK),aq X pins σ H s→t σ H Q→wpAny (model X.prog X.w) X.A (eval e X.env) (EP X pins σ Q) X.xe s
def PT(X:Cx)(e:Expr)(t:TT):Prop:=
  ∀(pins:List (Addr × Obj)) (s:Shared) (σ:St) (H:Hp) (Q:Bool→Hp→Prop),aq X pins σ H s→t σ H Q→wpAny (model X.prog X.w) X.A (isTrue e X.env (eval e X.env)) (TP X pins σ Q) X.xe s
def PW(X:Cx)(e:Expr)(t:TT):Prop:=
  ∀(whole:Sem Value) (pins:List (Addr × Obj)) (s:Shared) (σ:St) (H:Hp) (Q:Bool→Hp→Prop),aq X pins σ H s→t σ H Q→wpAny (model X.prog X.w) X.A (isTrue e X.env whole) (TP X pins σ Q) X.xe s
theorem PW.pt{X:Cx}{e:Expr}{t:TT}(h:PW X e t):PT X e t:=h _
def PA(X:Cx)(es:List Expr)(t:TA):Prop:=
  ∀(pos:Pos) (pins:List (Addr × Obj)) (s:Shared) (σ:St) (H:Hp) (Q:List V→Hp→Prop),aq X pins σ H s→t σ H Q→wpAny (model X.prog X.w) X.A (spliced (backTo pos (starEach es X.env))) (AP X pins σ Q) X.xe s
def PS(X:Cx)(st:Stmt)(t:TS):Prop:=
  ∀(pins:List (Addr × Obj)) (s:Shared) (σ:St) (H:Hp) (D:oI),aq X pins σ H s→t D σ H→wpAny (model X.prog X.w) X.A (exec st X.env) (SP X pins D) X.xe s
def jC(X:Cx)(st:List Stmt)(t:TS):Prop:=
  ∀(pins:List (Addr × Obj)) (s:Shared) (σ:St) (H:Hp) (D:oI),aq X pins σ H s→t D σ H→wpAny (model X.prog X.w) X.A (execs st X.env) (SP X pins D) X.xe s
theorem cy{α:Type}{t:Sem α}{Q Q':α→Shared→Prop}{M:Model}{A:Around}{E:Value→Shared→Prop}{s:Shared}(h:wpAny M A t Q E s)(hQ:∀a s,Q a s→Q' a s):wpAny M A t Q' E s:=wpAny_mono h hQ fun _ _ x=>x
end L2
namespace L2
open PySem PySem.Spec PyProof.Rows
section
variable{X:Cx}
def BP(i:Nat):TE:=fun σ H Q=>∃v,σ[i]?=some (some v)∧Q v H
def tC(v:V):TE:=fun _ H Q=>Q v H
theorem zv{i:Nat}{x:Str}{pos:Pos}(hN:X.N[i]?=some x)(hv:AC X.env.scope x)(hd:(x==("__debug__":Str))=false:=by decide)(hcd:(x==("__classdict__":Str))=false:=by decide):PE X (.Name x pos) (BP i):=by
  intro pins s σ H Q I h
  obtain⟨v,e,h⟩:=h
  obtain⟨m,hn,hl⟩:=I.loc
  obtain⟨u,r,l⟩:=hl i x v hN e hv
  have fin:EP X pins σ Q u s:=⟨v,H,I,r,h⟩
  rcases l with ⟨hk,hm⟩ | ⟨hk,c,hc,hcell⟩
  · exact wpAny_Name (wpAny_loadName_local I.ok.kind hk hn hm fin) hd
  · rcases hk with hk | hk
    · exact wpAny_Name (wpAny_loadName_cell I.ok.kind hk hc hcell fin) hd
    · exact wpAny_Name (wpAny_loadName_free I.ok.kind hk hc hcell fin hcd) hd
theorem zq{i j pos}:PE X (.Constant (.int i) j pos) (tC (.int i)):=fun _ _ _ H _ I h=>wpAny_Constant_int ⟨.int i,H,I.tok _,⟨_,rfl⟩,h⟩
theorem Bh{b j pos}:PE X (.Constant (.bool b) j pos) (tC (.bl b)):=fun _ _ _ H _ I h=>Constant_bool ⟨.bl b,H,I,rfl,h⟩
def Gl(X:Cx)(x:Str):Prop:=X.env.kindOf x=some .globalImplicit
theorem vR{E:Value→Shared→Prop}{pins:List (Addr × Obj)}{s:Shared}{σ:St}{H:Hp}{x:Str}{u:Value}{pos:Pos}{Q:Value→Shared→Prop}(I:aq X pins σ H s)(hg:Gl X x)(hm:X.mg x=some u)(h:Q u s)
    (hd:(x==("__debug__":Str))=false:=by decide):wpAny (model X.prog X.w) X.A (eval (.Name x pos) X.env) Q E s:=
  Calls.Name_function_global I.ok.kind hg (Calls.loadGlobal_global (by rw [I.ok.glob];exact I.mod.glob.keeps I.bk) hm h) hd
theorem i5{E:Value→Shared→Prop}{pins:List (Addr × Obj)}{s:Shared}{σ:St}{H:Hp}{x:Str}{u:Value}{pos:Pos}{Q:Value→Shared→Prop}(I:aq X pins σ H s)(hg:Gl X x)(hm:X.mg x=none)(hv:bootBuiltins x=some u)(h:Q u s)
    (hn:x≠"__name__":=by decide)(hd:(x==("__debug__":Str))=false:=by decide):wpAny (model X.prog X.w) X.A (eval (.Name x pos) X.env) Q E s:=by
  obtain⟨mb,h1,h2⟩:=I.mod.blt
  exact Calls.Name_function_global I.ok.kind hg (Calls.loadGlobal_builtin (by rw [I.ok.glob];exact I.mod.glob.keeps I.bk) hm (by rw [I.ok.blt];exact h1.keeps I.bk) ((h2 x hn).trans hv) h) hd
variable{a b:Expr}{ta tb:TE}{pos:Pos}
def tB(t:TE):TT:=fun σ H Q=>t σ H fun x H1=>∃c,x=.bl c∧Q c H1
theorem zF{e:Expr}{t:TE}(h:PE X e t)(he:∀whole,isTrue e X.env whole=(do let v ←whole;standAt e.pos;holding [v] (truthy v)):=by intro _;rfl):PT X e (tB t):=by
  intro pins s σ H Q I hw
  refine isTrue_plain (cy (h pins s σ H _ I hw) fun v s1 ⟨x,H1,I1,r1,q1⟩=>?_) (he _)
  obtain⟨d,rfl,q⟩:=q1
  cases r1
  exact wpAny_truthy_bool ⟨H1,I1,q⟩
variable{tA tB':TT}{fM:List Expr}
def BH(t u:TT):TT:=fun σ H Q=>t σ H fun c H1=>if c=true then u σ H1 Q else Q false H1
def BK(t:TT):TT:=fun σ H Q=>t σ H fun c H1=>Q (!c) H1
theorem wQ(ha:PT X a tA):PW X (.BoolOp .And [a] pos) tA:=by
  intro wh pins s σ H Q I h
  refine isTrue_and (cy (ha pins s σ H Q I h) fun c s1 e=>?_)
  cases c with
  | true=>exact isTrue_and_nil e
  | false=>exact e
theorem zG(ha:PT X a tA)(hb:PW X (.BoolOp .And (b::fM) pos) tB'):PW X (.BoolOp .And (a::b::fM) pos) (BH tA tB'):=by
  intro wh pins s σ H Q I h
  refine isTrue_and (cy (ha pins s σ H _ I h) fun c s1 ⟨H1,I1,q1⟩=>?_)
  cases c with
  | true=>exact hb wh pins s1 σ H1 Q I1 q1
  | false=>exact⟨H1,I1,q1⟩
theorem zE(ha:PT X a tA):PT X (.UnaryOp .Not a pos) (BK tA):=by
  intro pins s σ H Q I h
  exact isTrue_not (ha pins s σ H (fun c H1=>Q (!c) H1) I h)
def CV(ta tb:TE):TE:=fun σ H Q=>ta σ H fun x H1=>∃c,x=.bl c∧if c=true then Q (.bl true) H1 else tb σ H1 Q
theorem zt{op}{t:TE}(h:PE X a t):PE X (.BoolOp op [a] pos) t:=fun pins s σ H Q I hw=>BoolOp_one (h pins s σ H Q I hw)
theorem Bl(ha:PE X a ta)(hb:PE X (.BoolOp .Or (b::fM) pos) tb):PE X (.BoolOp .Or (a::b::fM) pos) (CV ta tb):=by
  intro pins s σ H Q I h
  refine BoolOp_or (cy (ha pins s σ H _ I h) fun v s1 ⟨x,H1,I1,r1,q1⟩=>?_)
  obtain⟨c,rfl,q1⟩:=q1
  cases r1
  refine wpAny_truthy_bool ?_
  cases c with
  | false=>exact hb pins s1 σ H1 Q I1 q1
  | true=>exact⟨.bl true,H1,I1,rfl,q1⟩
end
end L2
namespace L2
open PySem PySem.Spec PyProof.Rows
def fH(K:PySem.W.Frag)(H:Hp)(a:Addr)(xs:List V):Prop:=
  Rd H a (.lst xs)∨
    ∃(o:Obj) (its:Array Value) (n:Nat),K.lookup a=some o∧o.cls=.type "list"∧o.dict=none∧o.data=.seq its n∧its.size≤sizeLine∧aD xs its.toList
def bK(K:PySem.W.Frag)(H:Hp)(a:Addr)(xs:List V):Prop:=
  Rd H a (.tup xs)∨
    ∃(o:Obj) (its:Array Value) (n:Nat),K.lookup a=some o∧o.cls=.type "tuple"∧o.dict=none∧o.data=.seq its n∧its.size≤sizeLine∧aD xs its.toList
def Co:Value→Option V
  | .none=>some .non
  | .bool b=>some (.bl b)
  | .int i _=>some (.int i)
  | .str x _=>some (.str x)
  | .bytes b _=>some (.byt b)
  | .float b _=>some (.flt b)
  | .ref a=>some (.ref a)
  | .type n=>some (.ty n)
  | _=>none
theorem bg.abs{x:V}{u:Value}(r:bg x u):Co u=some x:=by
  cases x with
  | non=>cases r;rfl
  | bl _=>cases r;rfl
  | int _=>obtain⟨t,rfl⟩:=r;rfl
  | str _=>obtain⟨t,rfl⟩:=r;rfl
  | byt _=>obtain⟨t,rfl⟩:=r;rfl
  | flt _=>obtain⟨t,rfl⟩:=r;rfl
  | ref _=>cases r;rfl
  | ty _=>cases r;rfl
theorem bg.inj{x y:V}{u:Value}(r:bg x u)(q:bg y u):x=y:=Option.some.inj (r.abs.symm.trans q.abs)
theorem aD.inj:∀{xs ys:List V} {us:List Value},aD xs us→aD ys us→xs=ys
  | _,_,_,.nil,.nil=>rfl
  | _,_,_,.cons r t,.cons r' t'=>by rw [r.inj r',aD.inj t t']
section
variable{X:Cx}{pins:List (Addr × Obj)}{σ:St}{H:Hp}{s:Shared}{a:Addr}{xs ys:List V}
theorem bK.of{K:PySem.W.Frag}(h:H a=some (.tup xs)):bK K H a xs:=.inl (.inl h)
theorem aq.list(I:aq X pins σ H s)(h:fH X.K H a xs):∃its:List Value,aD xs its∧PlainL s.heap a its.toArray∧xs.length≤sizeLine:=by
  rcases h with h | ⟨o,its,n,hk,hc,hd,hs,hz,r⟩
  · obtain⟨z,its,n,r,e⟩:=h.ok I.hok
    exact⟨its,r,⟨_,n,e,rfl,rfl,rfl⟩,z⟩
  · refine⟨its.toList,r,⟨o,n,I.kIn a o hk,hc,hd,by simpa using hs⟩,?_⟩
    have e:=r.length
    simp only [Array.length_toList] at e
    lia
theorem aq.tuple(I:aq X pins σ H s)(h:bK X.K H a xs):∃its:List Value,aD xs its∧IsTup s.heap a its.toArray∧xs.length≤sizeLine:=by
  rcases h with h | ⟨o,its,n,hk,hc,_,hs,hz,r⟩
  · obtain⟨z,its,r,p⟩:=h.ok I.hok
    exact⟨its,r,p.tup,z⟩
  · refine⟨its.toList,r,⟨o,I.kIn a o hk,hc,n,by simpa using hs⟩,?_⟩
    have e:=r.length
    simp only [Array.length_toList] at e
    lia
theorem aq.list_inj(I:aq X pins σ H s)(h:fH X.K H a xs)(h':fH X.K H a ys):xs=ys:=by
  obtain⟨its,r,⟨o,n,e,_,_,d⟩,_⟩:=I.list h
  obtain⟨its',r',⟨o',n',e',_,_,d'⟩,_⟩:=I.list h'
  rw [e] at e';cases e'
  rw [d] at d'
  injection d' with d1 _
  have:its=its':=by simpa using congrArg Array.toList d1
  subst this
  exact r.inj r'
theorem aq.tuple_inj(I:aq X pins σ H s)(h:bK X.K H a xs)(h':bK X.K H a ys):xs=ys:=by
  obtain⟨its,r,⟨o,e,_,n,d⟩,_⟩:=I.tuple h
  obtain⟨its',r',⟨o',e',_,n',d'⟩,_⟩:=I.tuple h'
  rw [e] at e';cases e'
  rw [d] at d'
  injection d' with d1 _
  have:its=its':=by simpa using congrArg Array.toList d1
  subst this
  exact r.inj r'
end
abbrev Cx.wish(X:Cx)(E:Value→Shared→Prop):Cx:={X with xe:=E}
abbrev Cx.nox(X:Cx):Cx:=X.wish fun _ _=>False
theorem Cx.Ok.wish{X:Cx}(ok:X.Ok)(E:Value→Shared→Prop):(X.wish E).Ok:=
  ⟨ok.mod,ok.kind,ok.glob,ok.blt,ok.above,ok.inj,ok.has,ok.cab,ok.hd,ok.frames,ok.stk,ok.exf,ok.bs,ok.bsz,ok.noex,ok.exfs,ok.funs,ok.frf⟩
theorem Cx.Ok.unwish{X:Cx}{E:Value→Shared→Prop}(ok:(X.wish E).Ok):X.Ok:=
  ⟨ok.mod,ok.kind,ok.glob,ok.blt,ok.above,ok.inj,ok.has,ok.cab,ok.hd,ok.frames,ok.stk,ok.exf,ok.bs,ok.bsz,ok.noex,ok.exfs,ok.funs,ok.frf⟩
section
variable{X:Cx}{pins:List (Addr × Obj)}{σ:St}{H:Hp}{s:Shared}{E:Value→Shared→Prop}
theorem aq.wish(I:aq X pins σ H s)(E:Value→Shared→Prop):aq (X.wish E) pins σ H s:=⟨I.ok.wish E,I.os,I.bare,I.base,I.loc,I.cell,I.free,I.freeC,I.pin,I.hok,I.len⟩
theorem aq.unwish(I:aq (X.wish E) pins σ H s):aq X pins σ H s:=⟨I.ok.unwish,I.os,I.bare,I.base,I.loc,I.cell,I.free,I.freeC,I.pin,I.hok,I.len⟩
theorem SP.unwish{D:oI}{f:Flow}{s':Shared}(h:SP (X.wish E) pins D f s'):SP X pins D f s':=by
  cases f with
  | next=>obtain⟨σ',H',I,q⟩:=h;exact⟨σ',H',I.unwish,q⟩
  | brk=>obtain⟨σ',H',I,q⟩:=h;exact⟨σ',H',I.unwish,q⟩
  | cont=>obtain⟨σ',H',I,q⟩:=h;exact⟨σ',H',I.unwish,q⟩
  | ret u=>obtain⟨v,σ',H',I,r,q⟩:=h;exact⟨v,σ',H',I.unwish,r,q⟩
theorem jC.nox{st:List Stmt}{t:TS}(h:jC X.nox st t):jC X st t:=fun pins s σ H D I hw=>
  wpAny_mono (h pins s σ H D (I.wish _) hw) (fun _ _ q=>q.unwish) fun _ _ z=>False.elim z
end
section
variable{X:Cx}{st:Stmt}{fM:List Stmt}{t u:TS}{e:Expr}{te:TE}{pos:Pos}
def BJ:TS:=fun D σ H=>D.nx σ H
def C0(t u:TS):TS:=fun D σ H=>t {D with nx:=u D} σ H
theorem wJ:jC X [] BJ:=fun _ _ σ H _ I h=>wpAny_execs_nil ⟨σ,H,I,h⟩
theorem ug(h1:PS X st t)(h2:jC X fM u):jC X (st::fM) (C0 t u):=by
  intro pins s σ H D I h
  refine wpAny_execs_cons (cy (h1 pins s σ H {D with nx:=u D} I h) fun f s1 q=>?_)
  cases f with
  | next=>
    obtain⟨σ',H',I',q⟩:=q
    exact h2 pins s1 σ' H' D I' q
  | ret v=>exact q
  | brk=>exact q
  | cont=>exact q
theorem wK(h1:PS X st t):jC X [st] t:=by
  intro pins s σ H D I h
  refine wpAny_execs_cons (cy (h1 pins s σ H D I h) fun f s1 q=>?_)
  cases f with
  | next=>exact wpAny_execs_nil q
  | ret v=>exact q
  | brk=>exact q
  | cont=>exact q
theorem aq.quiet{pins:List (Addr × Obj)}{σ:St}{H:Hp}{s:Shared}(I:aq X pins σ H s):interactive X.env=false:=by simp [interactive,I.ok.kind]
def BI(te:TE):TS:=fun D σ H=>te σ H fun _ H1=>D.nx σ H1
theorem wH(he:PE X e te)(hs:swapsWith e none pos.line X.env=pure false:=by rfl):PS X (.Expr e pos) (BI te):=by
  intro pins s σ H D I h
  exact wpAny_Expr_any (cy (he pins s σ H _ I h) fun v s1 ⟨x,H1,I1,r1,q1⟩=>⟨σ,H1,I1,q1⟩) I.quiet hs
def CZ(te:TE):TS:=fun D σ H=>te σ H D.rt
theorem zC(he:PE X e te):PS X (.Return (some e) pos) (CZ te):=by
  intro pins s σ H D I h
  exact wpAny_Return_some (cy (he pins s σ H _ I h) fun v s1 ⟨x,H1,I1,r1,q1⟩=>⟨x,σ,H1,I1,r1,q1⟩)
def CT(c:TT)(t u:TS):TS:=fun D σ H=>c σ H fun b H1=>if b=true then t D σ H1 else u D σ H1
theorem Bo{c:Expr}{a b:List Stmt}{tc:TT}(hc:PT X c tc)(ha:jC X a t)(hb:jC X b u):PS X (.If c a b pos) (CT tc t u):=by
  intro pins s σ H D I h
  refine wpAny_If (cy (hc pins s σ H _ I h) fun d s1 ⟨H1,I1,q1⟩=>?_)
  cases d with
  | true=>exact ha pins s1 σ H1 D I1 q1
  | false=>exact hb pins s1 σ H1 D I1 q1
end
abbrev TG:=V→St→Hp→(St→Hp→Prop)→Prop
abbrev vj:=List V→St→Hp→(St→Hp→Prop)→Prop
def PG(X:Cx)(target:Expr)(t:TG):Prop:=
  ∀(pins:List (Addr × Obj)) (s:Shared) (σ:St) (H:Hp) (v:V) (u:Value) (Q:St→Hp→Prop),aq X pins σ H s→bg v u→t v σ H Q→
    wpAny (model X.prog X.w) X.A (assign target X.env u) (fun _ s'=>∃σ' H',aq X pins σ' H' s'∧Q σ' H') X.xe s
def rJ(X:Cx)(ts:List Expr)(t:vj):Prop:=
  ∀(pins:List (Addr × Obj)) (s:Shared) (σ:St) (H:Hp) (vs:List V) (us:List Value) (Q:St→Hp→Prop),aq X pins σ H s→aD vs us→t vs σ H Q→
    wpAny (model X.prog X.w) X.A (assignInOrder ((assignEach ts X.env).map (·.2)) us) (fun _ s'=>∃σ' H',aq X pins σ' H' s'∧Q σ' H') X.xe s
section
variable{X:Cx}{pos:Pos}
def sM(i:Nat):TG:=fun v σ H Q=>Q (σ.set i (some v)) H
theorem wx{i:Nat}{x:Str}(hN:X.N.Nodup)(hi:X.N[i]?=some x)(hx:Ap X.env.scope x)(hf:X.fn x=true∨X.env.scope.names.lookup x=some .local:=by first | exact .inl rfl | exact .inr rfl | assumption):PG X (.Name x pos) (sM i):=by
  intro pins s σ H v u Q I r h
  exact wpAny_assign_Name (iV I hN hi hx r (fun s' I'=>⟨_,H,I',h⟩) hf)
def Cq:vj:=fun vs σ H Q=>vs=[]∧Q σ H
def AN(t:TG)(u:vj):vj:=fun vs σ H Q=>∃v r,vs=v::r∧t v σ H fun σ' H'=>u r σ' H' Q
theorem wz:rJ X [] Cq:=by
  intro pins s σ H vs us Q I r h
  obtain⟨e,h⟩:=h
  subst e
  cases r
  exact assignInOrder_nil ⟨σ,H,I,h⟩
theorem t5{e:Expr}{es:List Expr}{t:TG}{u:vj}(h1:PG X e t)(h2:rJ X es u)
    (hs:(assignEach (e::es) X.env).map (·.2)=assign e X.env::(assignEach es X.env).map (·.2):=by rfl):rJ X (e::es) (AN t u):=by
  intro pins s σ H vs us Q I r h
  obtain⟨v,vr,e1,h⟩:=h
  subst e1
  cases r with
  | cons r rr=>
    rw [hs]
    refine assignInOrder_cons (cy (h1 pins s σ H _ _ _ I r h) fun _ s1 ⟨σ1,H1,I1,q1⟩=>?_)
    exact h2 pins s1 σ1 H1 _ _ Q I1 rr q1
def AQ(K:PySem.W.Frag)(n:Nat)(t:vj):TG:=fun v σ H Q=>∃a xs,v=.ref a∧bK K H a xs∧xs.length=n∧t xs σ H Q
theorem zw{es:List Expr}{k:Nat}{t:vj}{n:Nat}(hc:X.calm=true)(h:rJ X es t)
    (hn:(assignEach es X.env).length=n:=by rfl)(hst:(assignEach es X.env).findIdx? (·.1)=none:=by rfl):PG X (.Tuple es k pos) (AQ X.K n t):=by
  intro pins s σ H v u Q I r hw
  obtain⟨a,xs,e1,hq,hl,hw⟩:=hw
  subst e1
  cases r
  obtain⟨its,rv,ht,hz⟩:=I.tuple hq
  refine assign_Tuple_tuple (I.ok.hd hc) ht (by simp [hn,←hl,rv.length]) hst fun h' hx=>?_
  have I1:aq X pins σ H {s with heap:=h'}:=I.kept (t':=s.toks) fun b o e=>hx b o (Nat.ne_of_lt (Heap.lt_size e)) e
  exact h pins _ σ H xs _ Q I1 (by simpa using rv) hw
def z0(te:TE)(g:TG):TS:=fun D σ H=>te σ H fun x H1=>g x σ H1 D.nx
theorem zz{tg e:Expr}{te:TE}{g:TG}(he:PE X e te)(hg:PG X tg g)(hs:swapsWithSole [tg] e pos.line X.env=pure false:=by rfl)(hw:swappedStores [tg] e X.env=pure none:=by rfl)
    (h1:(assignEach [tg] X.env).map (·.2)=[assign tg X.env]:=by rfl):PS X (.Assign [tg] e pos) (z0 te g):=by
  intro pins s σ H D I h
  refine wpAny_Assign_stores (cy (he pins s σ H _ I h) fun v s1 ⟨x,H1,I1,r1,q1⟩=>?_) hs hw
  rw [h1]
  exact cy (hg pins s1 σ H1 x v _ I1 r1 q1) fun _ s2 q=>q
theorem zD{i:Nat}{x:Str}{e:Expr}{te:TE}{pos':Pos}(hN:X.N.Nodup)(hi:X.N[i]?=some x)(hx:Ap X.env.scope x)(he:PE X e te)(hs:swapsWith e (some (.Name x pos')) pos.line X.env=pure false:=by rfl)(hf:X.fn x=true∨X.env.scope.names.lookup x=some .local:=by first | exact .inl rfl | exact .inr rfl | assumption):
    PS X (.Assign [.Name x pos'] e pos) (z0 te (sM i)):=by
  intro pins s σ H D I h
  refine wpAny_Assign_Name (cy (he pins s σ H _ I h) fun v s1 ⟨y,H1,I1,r1,q1⟩=>?_) hs
  exact iV I1 hN hi hx r1 (fun s2 I2=>⟨_,H1,I2,q1⟩) hf
def CY(i j:Nat)(ta:TA):TS:=fun D σ H=>ta σ H fun vs H1=>∃v w,vs=[v,w]∧D.nx ((σ.set i (some v)).set j (some w)) H1
theorem zB{i j:Nat}{x y:Str}{a b:Expr}{ta:TA}{px py pt:Pos}{kt k2 pt2}(hc:X.calm=true)(hN:X.N.Nodup)(hi:X.N[i]?=some x)(hj:X.N[j]?=some y)(hij:i≠j)
    (hx:X.env.scope.names.lookup x=some .local)(hy:X.env.scope.names.lookup y=some .local)(ha:PA X [a,b] ta)
    (hw:swappedStores [.Tuple [.Name x px,.Name y py] kt pt] (.Tuple [a,b] k2 pt2) X.env=pure (some [x,y]))
    (hs:swapsWithSole [.Tuple [.Name x px,.Name y py] kt pt] (.Tuple [a,b] k2 pt2) pos.line X.env=pure false:=by rfl):
    PS X (.Assign [.Tuple [.Name x px,.Name y py] kt pt] (.Tuple [a,b] k2 pt2) pos) (CY i j ta):=by
  intro pins s σ H D I h
  rw [exec_Assign_arm]
  refine wpAny_bind (wpAny_standAt ?_)
  rw [hs]
  refine wpAny_bind (wpAny_pure ?_)
  rw [if_neg (by decide)]
  refine wpAny_bind (Tuple_ (cy (ha _ pins s σ H _ I h) fun us s1 ⟨vs,H1,I1,r1,q1⟩=>?_))
  obtain⟨v,w,e1,q1⟩:=q1
  subst e1
  obtain⟨u1,u2,rfl,rv,rw'⟩:∃u1 u2,us=[u1,u2]∧bg v u1∧bg w u2:=by
    cases r1 with
    | cons p q=>
      cases q with
      | cons p' q'=>
        cases q'
        exact⟨_,_,rfl,p,p'⟩
  refine wpAny_newObj_type ?_ (by show 2≤sizeLine;decide)
  have I2:aq X pins σ H1 {s1 with heap:=s1.heap.push {cls:=.type "tuple",data:=.seq [u1,u2].toArray}}:=I1.kept (t':=s1.toks) fun b o e=>Heap.get?_push_of_some _ e
  rw [hw]
  refine wpAny_bind (wpAny_pure ?_)
  show wpAny (model X.prog X.w) X.A (do rule "assign.swapped-stores";let items ←unpackItems (.ref s1.heap.objs.size) 2 none;assignInOrder [fun v=>bindName X.env y v,fun v=>bindName X.env x v] items.reverse;pure Flow.next) _ _ _
  refine wpAny_bind (wpAny_rule (wpAny_bind (unpackItems_tuple (items:=#[u1,u2]) (I.ok.hd hc) (IsTup.new s1.heap _) fun h' hx'=>?_)))
  have I3:=I2.kept (h':=h') (t':=s1.toks) fun b o e=>hx' b o (Nat.ne_of_lt (Heap.lt_size e)) e
  show wpAny _ _ (assignInOrder [fun v=>bindName X.env y v,fun v=>bindName X.env x v] [u2,u1] >>= fun _=>pure Flow.next) _ _ _
  refine wpAny_bind (assignInOrder_cons (wpAny_bindName (iV I3 hN hj (.inl hy) rw' (fun s2 I4=>?_) (.inr hy))))
  refine assignInOrder_cons (wpAny_bindName (iV I4 hN hi (.inl hx) rv (fun s3 I5=>assignInOrder_nil (wpAny_pure ?_)) (.inr hx)))
  rw [List.set_comm _ _ (Ne.symm hij)] at I5
  exact⟨_,H1,I5,q1⟩
end
section
variable{X:Cx}{pos:Pos}
def z_(c:TT)(tb:TS):TS:=fun D σ H=>∃W:Nat→St→Hp→Prop,(∃m,W m σ H)∧∀m σ H,W m σ H→
  c σ H fun b H1=>if b=true then ∃N:St→Hp→Prop,(∀σ' H',N σ' H'→∃m',m' < m∧W m' σ' H')∧tb {D with nx:=N,ct:=N,bk:=D.nx} σ H1 else D.nx σ H1
theorem uf{c:Expr}{body:List Stmt}{tc:TT}{tb:TS}(hp:PassesOwn (model X.prog X.w) X.A X.env X.xe)(hc:PT X c tc)(hb:jC X body tb):PS X (.While c body [] pos) (z_ tc tb):=by
  intro pins s σ H D I h
  obtain⟨W,⟨m0,w0⟩,turn⟩:=h
  refine wpAny_While (codeAny_whileLoop (fun n s'=>∃σ' H',aq X pins σ' H' s'∧W n σ' H') ?_ m0 ⟨σ,H,I,w0⟩)
  rintro n s1 ⟨σ1,H1,I1,w1⟩
  refine wpAny_passesOwn hp (cy (hc pins s1 σ1 H1 _ I1 (turn n σ1 H1 w1)) fun b s2 ⟨H2,I2,q2⟩=>?_)
  cases b with
  | true=>
    obtain⟨N,hN,q2⟩:=q2
    rw [if_pos rfl]
    refine wpAny_passesOwn hp (cy (hb pins s2 σ1 H2 _ I2 q2) fun f s3 q3=>?_)
    cases f with
    | next=>
      obtain⟨σ3,H3,I3,n3⟩:=q3
      obtain⟨m',hm,w3⟩:=hN σ3 H3 n3
      exact⟨m',hm,σ3,H3,I3,w3⟩
    | cont=>
      obtain⟨σ3,H3,I3,n3⟩:=q3
      obtain⟨m',hm,w3⟩:=hN σ3 H3 n3
      exact⟨m',hm,σ3,H3,I3,w3⟩
    | brk=>exact q3
    | ret v=>exact q3
  | false=>
    rw [if_neg Bool.false_ne_true]
    exact wpAny_execs_nil ⟨σ1,H2,I2,q2⟩
end
structure It where
  go:Nat→Hp→Prop
  yld:Nat→Hp→V→Hp→Prop
  stop:Nat→Hp→Prop
def fN(X:Cx)(pins:List (Addr × Obj))(H:Hp)(b:Addr):Prop:=
  H b=none∧b≠X.env.locals∧b∉X.fs∧(b∈X.ex∨X.s₀.heap.objs.size≤b)∧(∀x c,X.env.cells.lookup x=some c→c≠b)∧∀p∈X.pn++pins,p.1≠b
theorem aq.fpOk{X:Cx}{pins:List (Addr × Obj)}{σ:St}{H H':Hp}{s:Shared}{b:Addr}(I:aq X pins σ H s)(hb:s.heap.objs.size≤b)(hn:H' b=none):fN X pins H' b:=by
  refine⟨hn,Nat.ne_of_gt (Nat.lt_of_lt_of_le I.lt hb),I.nofs hb,.inr (Nat.le_trans I.sz hb),fun x c e z=>?_,fun p hp z=>?_⟩
  · obtain⟨v,q⟩:=I.cell x c e
    exact absurd (Nat.lt_of_lt_of_le q.lt (by rw [z];exact hb)) (Nat.lt_irrefl _)
  · exact absurd (Nat.lt_of_lt_of_le (Heap.lt_size (I.pin p hp).1) (by rw [z];exact hb)) (Nat.lt_irrefl _)
structure oO (P:Program) (w:World) (K:PySem.W.Frag) (tg:Expr) (J:It) (fp:List Addr) (it:Addr) (tn:Nat→Heap→Prop):Prop where
  mem:it∈fp
  obj:∀i h,tn i h→∀b∈fp,∃o,h.get? b=some o∧∀v,o.data≠.cell v
  keep:∀i h h',tn i h→(∀b∈fp,∀o,h.get? b=some o→h'.get? b=some o)→tn i h'
  item:∀(X:Cx),X.prog=P→X.w=w→X.K=K→X.calm=true→∀(i:Nat) (pins:List (Addr × Obj)) (s:Shared) (σ:St) (H:Hp) (E:Value→Shared→Prop),aq X pins σ H s→(∀b∈fp,fN X pins H b)→tn i s.heap→J.go i H→
    wpAny (model P w) X.A (pyNext (.ref it)) (fun r s1=>∃u,r=some u∧
      wpAny (model P w) X.A (letOwnedTupleGo tg (.ref it) u) (fun _ s2=>∃x H',aq X pins σ H' s2∧bg x u∧J.yld i H x H'∧tn (i+1) s2.heap∧∀b∈fp,H' b=none) E s1) E s
  done:∀(X:Cx),X.prog=P→X.w=w→X.K=K→X.calm=true→∀(i:Nat) (pins:List (Addr × Obj)) (s:Shared) (σ:St) (H:Hp) (E:Value→Shared→Prop),aq X pins σ H s→(∀b∈fp,fN X pins H b)→tn i s.heap→J.stop i H→
    wpAny (model P w) X.A (pyNext (.ref it)) (fun r s1=>r=none∧aq X pins σ H s1) E s
  self:∀(A:Around) (i:Nat) (s:Shared) (Q:Value→Shared→Prop) (E:Value→Shared→Prop),tn i s.heap→Q (.ref it) s→wpAny (model P w) A (pyIter (.ref it)) Q E s
abbrev TI:=St→Hp→(It→Hp→Prop)→Prop
def C6(X:Cx)(pins:List (Addr × Obj))(σ:St)(tg:Expr)(R:It→Hp→Prop)(itv:Value)(s2:Shared):Prop:=
  ∃(it:Addr) (fp:List Addr) (tn:Nat→Heap→Prop) (J:It) (H':Hp),itv=.ref it∧aq X pins σ H' s2∧oO X.prog X.w X.K tg J fp it tn∧tn 0 s2.heap∧(∀b∈fp,fN X pins H' b)∧R J H'
def PI(X:Cx)(tg iter:Expr)(wi:TI):Prop:=
  ∀(pins:List (Addr × Obj)) (s:Shared) (σ:St) (H:Hp) (R:It→Hp→Prop),aq X pins σ H s→wi σ H R→
    wpAny (model X.prog X.w) X.A (eval iter X.env) (fun v s1=>wpAny (model X.prog X.w) X.A (pyIter v) (C6 X pins σ tg R) X.xe s1) X.xe s
theorem sV{M:Model}{A:Around}{E:Value→Shared→Prop}{s:Shared}{tg:Expr}{it:Addr}{u:Value}{o:Obj}{n:String}{vs:Array Value}{Q:Unit→Shared→Prop}(ho:s.heap.get? it=some o)(hc:o.cls=.type n)(hd:o.data=.fields vs)
    (hn:["enumerate","zip","dict_itemiterator","dict_reverseitemiterator","odict_iterator","itertools.zip_longest","itertools.pairwise"].contains n=false)(hQ:Q () s):wpAny M A (letOwnedTupleGo tg (.ref it) u) Q E s:=by
  unfold letOwnedTupleGo
  cases tg<;>first
    | exact wpAny_pure hQ
    | (cases u<;>first
        | exact wpAny_pure hQ
        | (refine wpAny_bind (wpAny_load ho ?_)
           rw [hc,hd]
           show wpAny M A (if (["enumerate","zip","dict_itemiterator","dict_reverseitemiterator","odict_iterator","itertools.zip_longest","itertools.pairwise"].contains n&&vs[0]?==some (rawInt _))=true then _ else _) Q E s
           rw [if_neg (by intro h;rw [hn,Bool.false_and] at h;cases h)]
           exact wpAny_pure hQ))
def Ce(K:PySem.W.Frag)(a:Addr):It:=
  ⟨fun i H=>∃xs x,fH K H a xs∧xs[i]?=some x,fun i H x H'=>H'=H∧∀xs,fH K H a xs→xs[i]?=some x,fun i H=>∃xs,fH K H a xs∧xs.length≤i⟩
def Cf(K:PySem.W.Frag)(a:Addr):It:=
  ⟨fun i H=>∃xs x,bK K H a xs∧xs[i]?=some x,fun i H x H'=>H'=H∧∀xs,bK K H a xs→xs[i]?=some x,fun i H=>∃xs,bK K H a xs∧xs.length≤i⟩
def BZ(lo:Int)(n:Nat):It:=⟨fun i _=>i < n,fun i H x H'=>H'=H∧x=.int (lo+i),fun i _=>n≤i⟩
theorem rD{P:Program}{w:World}{K:PySem.W.Frag}{tg:Expr}(a it:Addr):oO P w K tg (Ce K a) [it] it (fun i h=>h.IsListIter it a i) where
  mem:=by simp
  obj:=fun i h st b hb=>by
    have e:b=it:=by simpa using hb
    subst e
    obtain⟨o,e,c,d⟩:=st
    exact⟨o,e,fun v z=>by rw [d] at z;cases z⟩
  keep:=fun i h h' st k=>st.at fun o e=>k it (by simp) o e
  item:=by
    intro X hP hw hK hc i pins s σ H E I hf st hg
    subst hP hw hK
    obtain⟨xs,x,hq,hx⟩:=hg
    obtain⟨its,rv,p,hz⟩:=I.list hq
    obtain⟨u,hu,ru⟩:=rv.get hx
    obtain⟨f0,f1,f2,f3,f4,f5⟩:=hf it (by simp)
    refine wpAny_pyNext_list_item st p.isList (x:=u) (by simpa using hu) fun h' st' sb=>?_
    have I1:aq X pins σ H {s with heap:=h'}:=I.turned (t':=s.toks) (fun b o hb e=>(sb.2 b hb).trans e) f0 f1 f3 f4 f5
    obtain⟨o,e,c,d⟩:=id st'
    exact⟨u,rfl,sV (s:={s with heap:=h'}) e c d (by decide) ⟨x,H,I1,ru,⟨rfl,fun ys hy=>by rw [I.list_inj hy hq];exact hx⟩,st',fun b hb=>(hf b hb).1⟩⟩
  done:=by
    intro X hP hw hK hc i pins s σ H E I hf st hg
    subst hP hw hK
    obtain⟨xs,hq,hx⟩:=hg
    obtain⟨its,rv,p,hz⟩:=I.list hq
    obtain⟨f0,f1,f2,f3,f4,f5⟩:=hf it (by simp)
    have hl:=rv.length
    exact wpAny_pyNext_list_end (I.ok.hd hc) st p.isList (by simp;lia) fun h' eb=>⟨rfl,I.turned (t':=s.toks) (fun b o hb e=>eb b o hb e) f0 f1 f3 f4 f5⟩
  self:=fun _ _ _ _ _ st h=>wpAny_pyIter_listiter st h
theorem pQ{P:Program}{w:World}{K:PySem.W.Frag}{tg:Expr}(a it:Addr):oO P w K tg (Cf K a) [it] it (fun i h=>h.IsTupleIter it a i) where
  mem:=by simp
  obj:=fun i h st b hb=>by
    have e:b=it:=by simpa using hb
    subst e
    obtain⟨o,e,c,d⟩:=st
    exact⟨o,e,fun v z=>by rw [d] at z;cases z⟩
  keep:=fun i h h' st k=>st.at fun o e=>k it (by simp) o e
  item:=by
    intro X hP hw hK hc i pins s σ H E I hf st hg
    subst hP hw hK
    obtain⟨xs,x,hq,hx⟩:=hg
    obtain⟨its,rv,p,hz⟩:=I.tuple hq
    obtain⟨u,hu,ru⟩:=rv.get hx
    obtain⟨f0,f1,f2,f3,f4,f5⟩:=hf it (by simp)
    refine wpAny_pyNext_tuple_item st (show s.heap.IsTuple a its.toArray from p) (x:=u) (by simpa using hu) fun h' st' sb=>?_
    have I1:aq X pins σ H {s with heap:=h'}:=I.turned (t':=s.toks) (fun b o hb e=>(sb.2 b hb).trans e) f0 f1 f3 f4 f5
    obtain⟨o,e,c,d⟩:=id st'
    exact⟨u,rfl,sV (s:={s with heap:=h'}) e c d (by decide) ⟨x,H,I1,ru,⟨rfl,fun ys hy=>by rw [I.tuple_inj hy hq];exact hx⟩,st',fun b hb=>(hf b hb).1⟩⟩
  done:=by
    intro X hP hw hK hc i pins s σ H E I hf st hg
    subst hP hw hK
    obtain⟨xs,hq,hx⟩:=hg
    obtain⟨its,rv,p,hz⟩:=I.tuple hq
    obtain⟨f0,f1,f2,f3,f4,f5⟩:=hf it (by simp)
    have hl:=rv.length
    exact wpAny_pyNext_tuple_end (I.ok.hd hc) st (show s.heap.IsTuple a its.toArray from p) (by simp;lia) fun h' eb=>⟨rfl,I.turned (t':=s.toks) (fun b o hb e=>eb b o hb e) f0 f1 f3 f4 f5⟩
  self:=fun _ _ _ _ _ st h=>wpAny_pyIter_tupleiter st h
theorem pP{P:Program}{w:World}{K:PySem.W.Frag}{tg:Expr}(it:Addr)(lo:Int)(n:Nat):oO P w K tg (BZ lo n) [it] it (fun i h=>IsRangeIter h it (lo+(i:Nat)*1) ((n:Int) - (i:Nat)) 1) where
  mem:=by simp
  obj:=fun i h st b hb=>by
    have e:b=it:=by simpa using hb
    subst e
    exact⟨_,st,fun v z=>by
      have z':Data.fields _=Data.cell v:=z
      cases z'⟩
  keep:=fun i h h' st k=>k it (by simp) _ st
  item:=by
    intro X hP hw hK hc i pins s σ H E I hf st hg
    subst hP hw hK
    obtain⟨f0,f1,f2,f3,f4,f5⟩:=hf it (by simp)
    have W:=Walks.range (prog:=X.prog) (w:=X.w) (I.ok.hd hc) it lo 1 n
    refine W.item i s _ _ hg st fun v h' tk hv st' kk=>?_
    obtain⟨t,rfl⟩:=hv
    have I1:aq X pins σ H {s with heap:=h',toks:=tk}:=I.turned (fun b o hb e=>kk b o (by simpa using hb) e) f0 f1 f3 f4 f5
    refine⟨_,rfl,sV (s:={s with heap:=h',toks:=tk}) (n:="range_iterator") st' rfl rfl (by decide) ⟨.int (lo+i),H,I1,⟨t,?_⟩,⟨rfl,rfl⟩,st',fun b hb=>(hf b hb).1⟩⟩
    rw [Int.mul_one]
  done:=by
    intro X hP hw hK hc i pins s σ H E I hf st hg
    subst hP hw hK
    obtain⟨f0,f1,f2,f3,f4,f5⟩:=hf it (by simp)
    exact wpAny_pyNext_range_end (I.ok.hd hc) st (by have:n≤i:=hg;lia) fun h' eb=>⟨rfl,I.turned (t':=s.toks) (fun b o hb e=>eb b o hb e) f0 f1 f3 f4 f5⟩
  self:=fun _ _ _ _ _ st h=>wpAny_pyIter_rangeiter st h
end L2
namespace L2
open PySem PySem.Spec PyProof.Rows
section
variable{X:Cx}{tg:Expr}
def yd(K:PySem.W.Frag)(tl:TE):TI:=fun σ H R=>tl σ H fun x H1=>∃a,x=.ref a∧(∃xs,fH K H1 a xs)∧R (Ce K a) H1
def AU(K:PySem.W.Frag)(tl:TE):TI:=fun σ H R=>tl σ H fun x H1=>∃a,x=.ref a∧(∃xs,bK K H1 a xs)∧R (Cf K a) H1
theorem wA{l:Expr}{tl:TE}(hl:PE X l tl):PI X tg l (yd X.K tl):=by
  intro pins s σ H R I h
  refine cy (hl pins s σ H _ I h) fun v s1 ⟨x,H1,I1,r1,q1⟩=>?_
  obtain⟨a,e,⟨xs,hq⟩,q⟩:=q1
  subst e
  cases r1
  obtain⟨its,rv,p,hz⟩:=I1.list hq
  refine wpAny_pyIter_list p.isList ?_
  refine⟨s1.heap.objs.size,[s1.heap.objs.size],_,_,H1,rfl,I1.kept (t':=s1.toks) fun b o e=>Heap.get?_push_of_some _ e,rD a _,⟨_,Heap.get?_push_size _ rfl,rfl,rfl⟩,fun b hb=>?_,q⟩
  have e:b=s1.heap.objs.size:=by simpa using hb
  subst e
  exact I1.fpOk (Nat.le_refl _) (I1.hok.fresh (Nat.le_refl _))
theorem zx{l:Expr}{tl:TE}(hl:PE X l tl):PI X tg l (AU X.K tl):=by
  intro pins s σ H R I h
  refine cy (hl pins s σ H _ I h) fun v s1 ⟨x,H1,I1,r1,q1⟩=>?_
  obtain⟨a,e,⟨xs,hq⟩,q⟩:=q1
  subst e
  cases r1
  obtain⟨its,rv,p,hz⟩:=I1.tuple hq
  refine wpAny_pyIter_tuple (show s1.heap.IsTuple a its.toArray from p) ?_
  refine⟨s1.heap.objs.size,[s1.heap.objs.size],_,_,H1,rfl,I1.kept (t':=s1.toks) fun b o e=>Heap.get?_push_of_some _ e,pQ a _,⟨_,Heap.get?_push_size _ rfl,rfl,rfl⟩,fun b hb=>?_,q⟩
  have e:b=s1.heap.objs.size:=by simpa using hb
  subst e
  exact I1.fpOk (Nat.le_refl _) (I1.hok.fresh (Nat.le_refl _))
theorem uA{pins:List (Addr × Obj)}{σ:St}{H:Hp}{s:Shared}{R:It→Hp→Prop}{E:Value→Shared→Prop}{lo hi:Int}{t u v:Tok}{tk:Nat}(I:aq X pins σ H s)(h1: -(2 ^ 62)≤lo)(h2:lo < 2 ^ 62)(h3: -(2 ^ 62)≤hi)(h4:hi < 2 ^ 62)
    (q:R (BZ lo (hi - lo).toNat) H):wpAny (model X.prog X.w) X.A (pyIter (.ref s.heap.objs.size)) (C6 X pins σ tg R) E {s with heap:=s.heap.push {cls:=.type "range",data:=.fields #[.int lo t,.int hi u,.int 1 v]},toks:=tk}:=by
  refine wpAny_pyIter_range (IsRange.new ..) (small_one h1 h2 h3 h4) ?_
  have I1:aq X pins σ H {s with heap:=s.heap.push {cls:=.type "range",data:=.fields #[.int lo t,.int hi u,.int 1 v]},toks:=tk}:=I.kept fun b o e=>Heap.get?_push_of_some _ e
  refine⟨(s.heap.push {cls:=.type "range",data:=.fields #[.int lo t,.int hi u,.int 1 v]}).objs.size,[(s.heap.push {cls:=.type "range",data:=.fields #[.int lo t,.int hi u,.int 1 v]}).objs.size],_,_,H,rfl,
    I1.kept (t':=tk) fun b o e=>Heap.get?_push_of_some _ e,pP _ lo (hi - lo).toNat,?_,fun b hb=>?_,q⟩
  · have e1:lo+((0:Nat):Int)*1=lo:=by simp
    have e2:(((hi - lo).toNat:Nat):Int) - ((0:Nat):Int)=Builtin.Range.rangeSize lo hi 1:=by rw [rangeSize_one];split<;>lia
    show IsRangeIter _ _ (lo+((0:Nat):Int)*1) ((((hi - lo).toNat:Nat):Int) - ((0:Nat):Int)) 1
    rw [e1,e2]
    exact Heap.get?_push_size _ rfl
  · have e:b=(s.heap.push {cls:=.type "range",data:=.fields #[.int lo t,.int hi u,.int 1 v]}).objs.size:=by simpa using hb
    subst e
    exact I1.fpOk (Nat.le_refl _) (I1.hok.fresh (Nat.le_refl _))
def AS(ta:TA):TI:=fun σ H R=>ta σ H fun vs H1=>∃j:Int,vs=[.int j]∧ -(2 ^ 62)≤j∧j < 2 ^ 62∧R (BZ 0 j.toNat) H1
theorem rj{a:Expr}{ta:TA}{p pos:Pos}(hg:Gl X "range")(hm:X.mg "range"=none)(ha:PA X [a] ta)(hs:starEach [a] X.env=[(false,eval a X.env)]:=by rfl):PI X tg (.Call (.Name "range" p) [a] [] pos) (AS ta):=by
  intro pins s σ H R I h
  refine Call_ (i5 I hg hm boot_range (PyProof.Rows.callWith_type1 (cy (ha pos pins s σ H _ I h) fun us s1 ⟨vs,H1,I1,r1,q1⟩=>?_) hs rfl))
  obtain⟨j,e,q1,q2,q⟩:=q1
  subst e
  cases r1 with
  | cons r rr=>
    cases rr
    obtain⟨t,rfl⟩:=r
    exact call_range_1 (uA I1 (by lia) (by lia) q1 q2 (by simpa using q))
def CS(wi:TI)(g:TG)(tb:TS):TS:=fun D σ H=>wi σ H fun J H1=>∃W:Nat→Nat→St→Hp→Prop,(∃m,W 0 m σ H1)∧∀i m σ H,W i m σ H→
  (J.stop i H∧D.nx σ H)∨(J.go i H∧∃N:St→Hp→Prop,(∀σ' H',N σ' H'→∃m',m' < m∧W (i+1) m' σ' H')∧∀x H',J.yld i H x H'→g x σ H' fun σ2 H2=>tb {D with nx:=N,ct:=N,bk:=D.nx} σ2 H2)
def ja(fp:List Addr)(h:Heap):List (Addr × Obj):=fp.filterMap fun b=>(h.get? b).map fun o=>(b,o)
theorem c_{fp:List Addr}{h:Heap}{b:Addr}{o:Obj}(hb:b∈fp)(e:h.get? b=some o):(b,o)∈ja fp h:=List.mem_filterMap.mpr ⟨b,hb,by rw [e];rfl⟩
theorem rc{fp:List Addr}{h:Heap}{p:Addr × Obj}(hp:p∈ja fp h):p.1∈fp∧h.get? p.1=some p.2:=by
  obtain⟨b,hb,e⟩:=List.mem_filterMap.mp hp
  cases q:h.get? b with
  | none=>rw [q] at e;cases e
  | some o=>
    rw [q] at e
    have e':(b,o)=p:=Option.some.inj e
    subst e'
    exact⟨hb,q⟩
theorem aq.pinned{pins:List (Addr × Obj)}{σ:St}{H:Hp}{s:Shared}{fp:List Addr}(I:aq X pins σ H s)(hf:∀b∈fp,fN X pins H b)(ho:∀b∈fp,∃o,s.heap.get? b=some o∧∀v,o.data≠.cell v):aq X (pins++ja fp s.heap) σ H s:=
  I.pins_of fun p hp=>(List.mem_append.mp hp).elim (fun z=>I.pin p (List.mem_append_right _ z)) fun z=>by
    obtain⟨hb,e⟩:=rc z
    obtain⟨f0,f1,f2,_⟩:=hf p.1 hb
    obtain⟨o,e',d⟩:=ho p.1 hb
    rw [e] at e';cases e'
    exact⟨e,f0,f1,f2,d⟩
theorem aq.unpinned{pins pl:List (Addr × Obj)}{σ:St}{H:Hp}{s:Shared}(I:aq X (pins++pl) σ H s):aq X pins σ H s:=I.pins_of fun p hp=>I.pin p (List.mem_append_right _ (List.mem_append_left _ hp))
theorem zA{iter:Expr}{body:List Stmt}{wi:TI}{g:TG}{tb:TS}{pos:Pos}(hp:PassesOwn (model X.prog X.w) X.A X.env X.xe)(hc:X.calm=true)(hi:PI X tg iter wi)(hg:PG X tg g)(hb:jC X body tb)
    (hs:∀x,foldedSetIterable iter X.env x=pure x:=by intro _;rfl):PS X (.For tg iter body [] pos) (CS wi g tb):=by
  intro pins s σ H D I h
  refine wpAny_For (cy (hi pins s σ H _ I h) fun v s1 h1=>cy h1 fun itv s2 h2=>?_) hs
  obtain⟨it,fp,tn,J,H2,e,I2,T,st2,f2,W,⟨m0,w0⟩,turn⟩:=h2
  subst e
  have stat:∀{H':Hp},(∀b∈fp,H' b=none)→∀b∈fp,fN X pins H' b:=fun hn b hb=>⟨hn b hb,(f2 b hb).2⟩
  refine codeAny_forLoop_any (fun n s'=>∃i σ' H',aq X pins σ' H' s'∧tn i s'.heap∧(∀b∈fp,H' b=none)∧W i n σ' H') ?_ m0 ⟨0,σ,H2,I2,st2,fun b hb=>(f2 b hb).1,w0⟩
  rintro n s3 ⟨i,σ3,H3,I3,st3,fr3,w3⟩
  rcases turn i n σ3 H3 w3 with ⟨stop,qn⟩ | ⟨go,N,hN,step⟩
  · refine wpAny_passesOwn hp (cy (T.done X rfl rfl rfl hc i pins s3 σ3 H3 X.xe I3 (stat fr3) st3 stop) fun r s4 ⟨hr,I4⟩=>?_)
    subst hr
    exact wpAny_execs_nil ⟨σ3,H3,I4,qn⟩
  · refine wpAny_passesOwn hp (cy (T.item X rfl rfl rfl hc i pins s3 σ3 H3 X.xe I3 (stat fr3) st3 go) fun r s4 ⟨u,hr,h4⟩=>?_)
    subst hr
    refine wpAny_passesOwn hp (cy h4 fun _ s5 ⟨x,H5,I5,r5,y5,st5,fr5⟩=>?_)
    have I5':=I5.pinned (stat fr5) (T.obj _ _ st5)
    refine wpAny_passesOwn hp (cy (hg _ s5 σ3 H5 x u _ I5' r5 (step x H5 y5)) fun _ s6 ⟨σ6,H6,I6,q6⟩=>?_)
    refine wpAny_passesOwn hp (cy (hb _ s6 σ6 H6 _ I6 q6) fun f s7 q7=>?_)
    have again:∀{σ7:St} {H7:Hp},aq X (pins++ja fp s5.heap) σ7 H7 s7→N σ7 H7→∃m,m < n∧∃i σ' H',aq X pins σ' H' s7∧tn i s7.heap∧(∀b∈fp,H' b=none)∧W i m σ' H':=fun{σ7 H7} I7 n7=>by
      obtain⟨m',hm,w7⟩:=hN σ7 H7 n7
      refine⟨m',hm,i+1,σ7,H7,I7.unpinned,T.keep _ _ _ st5 fun b hb o e=>(I7.pin (b,o) (List.mem_append_right _ (List.mem_append_right _ (c_ hb e)))).1,fun b hb=>?_,w7⟩
      obtain⟨o,e,d⟩:=T.obj _ _ st5 b hb
      exact(I7.pin (b,o) (List.mem_append_right _ (List.mem_append_right _ (c_ hb e)))).2.1
    cases f with
    | next=>obtain⟨σ7,H7,I7,n7⟩:=q7;exact again I7 n7
    | cont=>obtain⟨σ7,H7,I7,n7⟩:=q7;exact again I7 n7
    | brk=>obtain⟨σ7,H7,I7,q7⟩:=q7;exact⟨σ7,H7,I7.unpinned,q7⟩
    | ret v=>obtain⟨x7,σ7,H7,I7,r7,q7⟩:=q7;exact⟨x7,σ7,H7,I7.unpinned,r7,q7⟩
end
end L2
namespace L2
open PySem PySem.Spec PyProof.Rows
abbrev R2:=V→V→Hp→VK→Prop
def fP(X:Cx)(f:Value→Value→Sem Value)(r:R2):Prop:=
  ∀(pins:List (Addr × Obj)) (s:Shared) (σ:St) (H:Hp) (x y:V) (v u:Value) (Q:VK),aq X pins σ H s→bg x v→bg y u→r x y H Q→
    wpAny (model X.prog X.w) X.A (f v u) (EP X pins σ Q) X.xe s
def B5(X:Cx)(f:Value→Sem Value)(r:V→Hp→VK→Prop):Prop:=
  ∀(pins:List (Addr × Obj)) (s:Shared) (σ:St) (H:Hp) (x:V) (v:Value) (Q:VK),aq X pins σ H s→bg x v→r x H Q→
    wpAny (model X.prog X.w) X.A (f v) (EP X pins σ Q) X.xe s
def cD(X:Cx)(f:Value)(r:List V→Hp→VK→Prop):Prop:=
  ∀(pins:List (Addr × Obj)) (s:Shared) (σ:St) (H:Hp) (xs:List V) (us:List Value) (Q:VK),aq X pins σ H s→aD xs us→r xs H Q→
    wpAny (model X.prog X.w) X.A (call f us) (EP X pins σ Q) X.xe s
def BL(r:R2)(ta tb:TE):TE:=fun σ H Q=>ta σ H fun x H1=>tb σ H1 fun y H2=>r x y H2 Q
def Df(r:V→Hp→VK→Prop)(ta:TE):TE:=fun σ H Q=>ta σ H fun x H1=>r x H1 Q
def rI(C:Int→Int→Prop)(g:Int→Int→V):R2:=fun x y H Q=>∃i j,x=.int i∧y=.int j∧C i j∧Q (g i j) H
def rp(g:Int→Int→V):R2:=fun x y H Q=>∃i j,x=.int i∧y=.int j∧Q (g i j) H
def rU(g:Int→V):V→Hp→VK→Prop:=fun x H Q=>∃i,x=.int i∧Q (g i) H
section
variable{X:Cx}{a b c:Expr}{ta tb tc:TE}{pos:Pos}
theorem yA(ha:PE X a ta)(hb:PE X b tb){pins:List (Addr × Obj)}{s:Shared}{σ:St}{H:Hp}{R:V→V→Hp→Prop}(I:aq X pins σ H s)
    (h:ta σ H fun x H1=>tb σ H1 fun y H2=>R x y H2){Q:Value→Shared→Prop}{f:Value→Value→Sem Value}
    (hf:∀v u s2 x y H2,aq X pins σ H2 s2→bg x v→bg y u→R x y H2→wpAny (model X.prog X.w) X.A (f v u) Q X.xe s2):
    wpAny (model X.prog X.w) X.A (eval a X.env) (fun v s₁=>wpAny (model X.prog X.w) X.A (eval b X.env) (fun u s₂=>wpAny (model X.prog X.w) X.A (f v u) Q X.xe s₂) X.xe s₁) X.xe s:=by
  refine cy (ha pins s σ H _ I h) fun v s1 ⟨x,H1,I1,r1,q1⟩=>?_
  refine cy (hb pins s1 σ H1 _ I1 q1) fun u s2 ⟨y,H2,I2,r2,q2⟩=>?_
  exact hf v u s2 x y H2 I2 r1 r2 q2
theorem Bk{op:Operator}{r:R2}(ho:fP X (binaryOp op) r)(ha:PE X a ta)(hb:PE X b tb):PE X (.BinOp a op b pos) (BL r ta tb):=by
  intro pins s σ H Q I h
  exact wpAny_BinOp (yA ha hb I h fun v u s2 x y H2 I2 rx ry q=>ho pins s2 σ H2 x y v u Q I2 rx ry q)
theorem Bm{op:UnaryOp}{r:V→Hp→VK→Prop}(ho:B5 X (unaryOp op) r)(ha:PE X a ta):PE X (.UnaryOp op a pos) (Df r ta):=by
  intro pins s σ H Q I h
  exact UnaryOp_ (cy (ha pins s σ H _ I h) fun v s1 ⟨x,H1,I1,r1,q1⟩=>ho pins s1 σ H1 x v Q I1 r1 q1)
theorem Bb{f:Value→Value→Sem Value}{C:Int→Int→Prop}{g:Int→Int→Int}
    (rule:∀(i j:Int) (t u:Tok) (s:Shared) (Q:Value→Shared→Prop) (E:Value→Shared→Prop),C i j→Q (.int (g i j) s.toks) {s with toks:=s.toks+1}→wpAny (model X.prog X.w) X.A (f (.int i t) (.int j u)) Q E s):
    fP X f (rI C fun i j=>.int (g i j)):=by
  intro pins s σ H x y v u Q I rx ry h
  obtain⟨i,j,rfl,rfl,hc,q⟩:=h
  obtain⟨t,rfl⟩:=rx
  obtain⟨t',rfl⟩:=ry
  exact rule i j t t' s _ _ hc ⟨.int (g i j),H,I.tok _,⟨_,rfl⟩,q⟩
theorem Bc{f:Value→Value→Sem Value}{g:Int→Int→Int}
    (rule:∀(i j:Int) (t u:Tok) (s:Shared) (Q:Value→Shared→Prop) (E:Value→Shared→Prop),Q (.int (g i j) s.toks) {s with toks:=s.toks+1}→wpAny (model X.prog X.w) X.A (f (.int i t) (.int j u)) Q E s):
    fP X f (rp fun i j=>.int (g i j)):=by
  intro pins s σ H x y v u Q I rx ry h
  obtain⟨i,j,rfl,rfl,q⟩:=h
  obtain⟨t,rfl⟩:=rx
  obtain⟨t',rfl⟩:=ry
  exact rule i j t t' s _ _ ⟨.int (g i j),H,I.tok _,⟨_,rfl⟩,q⟩
theorem y9{f:Value→Value→Sem Value}{g:Int→Int→Bool}
    (rule:∀(i j:Int) (t u:Tok) (s:Shared) (Q:Value→Shared→Prop) (E:Value→Shared→Prop),Q (.bool (g i j)) s→wpAny (model X.prog X.w) X.A (f (.int i t) (.int j u)) Q E s):
    fP X f (rp fun i j=>.bl (g i j)):=by
  intro pins s σ H x y v u Q I rx ry h
  obtain⟨i,j,rfl,rfl,q⟩:=h
  obtain⟨t,rfl⟩:=rx
  obtain⟨t',rfl⟩:=ry
  exact rule i j t t' s _ _ ⟨.bl (g i j),H,I,rfl,q⟩
def yt(i j:Int):Prop:=0≤j∧j≤1000000∧i.natAbs < 2 ^ 64
def vo(i j:Int):Prop:=(-(2 ^ 64) < i∧i < 2 ^ 64)∨(-(2 ^ 64) < j∧j < 2 ^ 64)
theorem vo.ok{i j:Int}(h:vo i j):IntMulOk i j:=by
  rcases h with ⟨h1,h2⟩ | ⟨h1,h2⟩
  · exact .of_left (intBits_le_64 h1 h2)
  · exact .of_right (intBits_le_64 h1 h2)
theorem y_:fP X (binaryOp .Add) (rp fun i j=>.int (i+j)):=Bc fun _ _ _ _ _ _ _ q=>add_int q
theorem zm:fP X (binaryOp .Sub) (rp fun i j=>.int (i - j)):=Bc fun _ _ _ _ _ _ _ q=>sub_int q
theorem ze:fP X (binaryOp .Mult) (rI vo fun i j=>.int (i*j)):=Bb fun _ _ _ _ _ _ _ hc q=>mul_int q hc.ok
theorem wf:fP X (binaryOp .Mod) (rI (fun _ j=>j≠0) fun i j=>.int (i.fmod j)):=Bb fun _ _ _ _ _ _ _ hc q=>mod_int' hc q
theorem zh:fP X (binaryOp .Pow) (rI yt fun i j=>.int (i ^ j.toNat)):=Bb fun _ _ _ _ _ _ _ hc q=>pow_int_small hc.1 hc.2.1 hc.2.2 q
theorem Dz{f:Value→Sem Value}{g:Int→Int}
    (rule:∀(i:Int) (t:Tok) (s:Shared) (Q:Value→Shared→Prop) (E:Value→Shared→Prop),Q (.int (g i) s.toks) {s with toks:=s.toks+1}→wpAny (model X.prog X.w) X.A (f (.int i t)) Q E s):
    B5 X f (rU fun i=>.int (g i)):=by
  intro pins s σ H x v Q I rx h
  obtain⟨i,rfl,q⟩:=h
  obtain⟨t,rfl⟩:=rx
  exact rule i t s _ _ ⟨.int (g i),H,I.tok _,⟨_,rfl⟩,q⟩
theorem Ae:B5 X (unaryOp .USub) (rU fun i=>.int (-i)):=Dz fun _ _ _ _ _ q=>neg_int q
end
section
variable{X:Cx}{a b c:Expr}{ta tb tc:TE}{pos:Pos}
theorem Bf:fP X (compareOp .Lt) (rp fun i j=>.bl (decide (i < j))):=y9 fun _ _ _ _ _ _ _ q=>lt_int q
theorem Be:fP X (compareOp .Gt) (rp fun i j=>.bl (decide (j < i))):=y9 fun _ _ _ _ _ _ _ q=>gt_int q
theorem Bd:fP X (compareOp .GtE) (rp fun i j=>.bl (decide (j≤i))):=y9 fun _ _ _ _ _ _ _ q=>ge_int q
theorem fP.or{f:Value→Value→Sem Value}{r r':R2}(h:fP X f r)(h':fP X f r'):fP X f (fun x y H Q=>r x y H Q∨r' x y H Q):=by
  intro pins s σ H x y v u Q I rx ry q
  rcases q with q | q
  · exact h pins s σ H x y v u Q I rx ry q
  · exact h' pins s σ H x y v u Q I rx ry q
theorem a9(b:Expr){op:CmpOp}(h:op≠.In:=by decide)(h2:op≠.NotIn:=by decide):behindInMarks op b=false:=by
  have e1:(op==CmpOp.In)=false:=by cases op<;>first | rfl | exact absurd rfl h
  have e2:(op==CmpOp.NotIn)=false:=by cases op<;>first | rfl | exact absurd rfl h2
  cases b<;>simp [behindInMarks,e1,e2]
theorem wu{op:CmpOp}{r:R2}(ho:fP X (compareOp op) r)(ha:PE X a ta)(hb:PE X b tb)(hm:behindInMarks op b=false):PE X (.Compare a [op] [b] pos) (BL r ta tb):=by
  intro pins s σ H Q I h
  exact wpAny_Compare1 (yA ha hb I h fun v u s2 x y H2 I2 rx ry q=>ho pins s2 σ H2 x y v u Q I2 rx ry q) hm
def BN(t:TE):TT:=fun σ H Q=>t σ H fun x H'=>∃k,x=.bl k∧Q k H'
theorem wL{op:CmpOp}{r:R2}(ho:fP X (compareOp op) r)(ha:PE X a ta)(hb:PE X b tb)(hm:behindInMarks op b=false):PT X (.Compare a [op] [b] pos) (BN (BL r ta tb)):=by
  intro pins s σ H Q I h
  refine wpAny_isTrue_Compare1 (cy (ha pins s σ H _ I h) fun v s1 ⟨x,H1,I1,r1,q1⟩=>cy (hb pins s1 σ H1 _ I1 q1) fun u s2 ⟨y,H2,I2,r2,q2⟩=>
    cy (ho pins s2 σ H2 x y v u _ I2 r1 r2 q2) fun c s3 ⟨z,H3,I3,r3,k,e,q3⟩=>?_) hm
  subst e
  cases r3
  exact wpAny_truthy_bool ⟨H3,I3,q3⟩
theorem pD:(sizeLine:Nat) < 2 ^ 63:=by rw [sizeLine_eq];decide
theorem oC{x:V}{us:List Value}(r:aD [x] us):∃u,us=[u]∧bg x u:=by
  cases r with
  | cons r1 r2=>cases r2;exact⟨_,rfl,r1⟩
theorem yq{x y:V}{us:List Value}(r:aD [x,y] us):∃u w',us=[u,w']∧bg x u∧bg y w':=by
  cases r with
  | cons r1 r2=>
    cases r2 with
    | cons r3 r4=>cases r4;exact⟨_,_,rfl,r1,r3⟩
theorem r9:cD X (.builtin "abs") (fun xs H Q=>∃i,xs=[.int i]∧Q (.int (if i < 0 then -i else i)) H):=by
  intro pins s σ H xs us Q I r h
  obtain⟨i,rfl,q⟩:=h
  obtain⟨u,rfl,t,rfl⟩:=oC r
  exact call_abs_int fun u tk=>⟨.int (if i < 0 then -i else i),H,I.tok _,⟨_,rfl⟩,q⟩
theorem qO(hc:X.calm=true):cD X (.builtin "max") (fun xs H Q=>∃i j,xs=[.int i,.int j]∧Q (.int (if j > i then j else i)) H):=by
  intro pins s σ H xs us Q I r h
  obtain⟨i,j,rfl,q⟩:=h
  obtain⟨u,w',rfl,⟨t,rfl⟩,⟨t',rfl⟩⟩:=yq r
  refine max_two_ints (I.ok.hd hc) fun h' tk k=>⟨_,H,I.kept k,?_,q⟩
  by_cases hj:j > i
  · rw [if_pos hj,if_pos hj];exact⟨_,rfl⟩
  · rw [if_neg hj,if_neg hj];exact⟨_,rfl⟩
theorem qP(hc:X.calm=true):cD X (.builtin "min") (fun xs H Q=>∃i j,xs=[.int i,.int j]∧Q (.int (if j < i then j else i)) H):=by
  intro pins s σ H xs us Q I r h
  obtain⟨i,j,rfl,q⟩:=h
  obtain⟨u,w',rfl,⟨t,rfl⟩,⟨t',rfl⟩⟩:=yq r
  refine min_two_ints (I.ok.hd hc) fun h' tk k=>⟨_,H,I.kept k,?_,q⟩
  by_cases hj:j < i
  · rw [if_pos hj,if_pos hj];exact⟨_,rfl⟩
  · rw [if_neg hj,if_neg hj];exact⟨_,rfl⟩
theorem qN:cD X (.type "int") (fun xs H Q=>(∃i,xs=[.int i]∧Q (.int i) H)∨∃k,xs=[.bl k]∧Q (.int (if k then 1 else 0)) H):=by
  intro pins s σ H xs us Q I r h
  rcases h with ⟨i,rfl,q⟩ | ⟨k,rfl,q⟩
  · obtain⟨u,rfl,t,rfl⟩:=oC r
    exact call_int_int ⟨.int i,H,I,⟨_,rfl⟩,q⟩
  · obtain⟨u,rfl,r1⟩:=oC r
    cases r1
    exact call_int_bool ⟨.int (if k then 1 else 0),H,I.tok _,⟨_,rfl⟩,q⟩
end
end L2
namespace L2
open PySem PySem.Spec PyProof.Rows
structure Dq (h:Heap) (x dx C:Addr) (mA:Str→Option Value):Prop where
  obj:h.get? x=some (PySem.W.instObj C dx)
  ns:h.Ns1 dx mA
  ne:dx≠x
section
variable{prog:Program}{w:World}{A:Around}{E:Value→Shared→Prop}{s:Shared}{K:PySem.W.Frag}{x dx C f:Addr}{mA:Str→Option Value}{name:Str}{v:Value}
end
section
variable{P:Program}{w:World}{H H':Hp}{h h':Heap}{a C dx:Addr}{fs fs':List (Str × V)}
end
structure Dm (K:PySem.W.Frag) (C:Addr):Prop where
  pg:PySem.W.plainGet K C Str.empty=true
  hd:PySem.W.hasDictIn K C=true
  po:PySem.W.plainOver K C=true
  sa:PySem.W.findIn K (.ref C) "__setattr__"=some (some (.builtin "object.__setattr__"))
structure DB (K:PySem.W.Frag) (C:Addr) (f:Str) (v:V) (u:Value):Prop where
  at_:PySem.W.findIn K (.ref C) f=some (some u)
  rel:bg v u
  get:PySem.W.specialIn K u "__get__"=some none
  cp:PySem.W.copiedNames.contains f=false
structure Dp (K:PySem.W.Frag) (C:Addr) (m:Str) (f:Addr):Prop where
  at_:PySem.W.findIn K (.ref C) m=some (some (.ref f))
  fn:PySem.W.isFn K (.ref f)=true
  kp:PySem.W.keepIn K (.ref f)=true
section
variable{X:Cx}{pins:List (Addr × Obj)}{σ:St}{H:Hp}{s:Shared}{a C dx:Addr}{fs:List (Str × V)}{f:Str}{v:V}{A:Around}{E:Value→Shared→Prop}
end
section
variable{X:Cx}{o e value:Expr}{f:Str}{pos pos' tpos:Pos}{ta tv:TE}
end
section
variable{X:Cx}{pins:List (Addr × Obj)}{σ:St}{H:Hp}{s:Shared}{A:Around}{E:Value→Shared→Prop}{Q:Value→Shared→Prop}{c:Value}{b:Bool}
inductive jX (K:PySem.W.Frag) (H:Hp):V→Value→Prop where
  | non:jX K H .non (.type "NoneType")
  | bl (x:Bool):jX K H (.bl x) (.type "bool")
  | int (i:Int):jX K H (.int i) (.type "int")
  | str (x:Str):jX K H (.str x) (.type "str")
  | flt (x:UInt64):jX K H (.flt x) (.type "float")
  | lst {a:Addr} {xs:List V} (e:H a=some (.lst xs)):jX K H (.ref a) (.type "list")
  | frz {a:Addr} {o:Obj} {xs:List V} (e:H a=some (.frz o (.lst xs))):jX K H (.ref a) (.type "list")
  | tup {a:Addr} {xs:List V} (e:H a=some (.tup xs)):jX K H (.ref a) (.type "tuple")
  | dK {a:Addr} {kvs:List (jV × V)} (e:H a=some (.dK kvs)):jX K H (.ref a) (.type "dict")
  | dT {a:Addr} {kvs:List (List jV × V)} (e:H a=some (.dT kvs)):jX K H (.ref a) (.type "dict")
  | ins {a C dx:Addr} {fs:List (Str × V)} (e:H a=some (.ins C dx fs)) (cl:Dm K C) (ha:PySem.W.findIn K (.ref C) "__class__"=some (some (.builtin "object.__class__")))
      (hn:PySem.W.specialIn K (.builtin "object.__class__") "__get__"=some (some (.builtin "getset_descriptor.__get__"))) (htk:PySem.W.takesIn K (.builtin "object.__class__")=some true)
      (hm:PySem.W.mroIn K C (.type "object")=some true):jX K H (.ref a) (.ref C)
end
end L2
namespace L2
open PySem PySem.Spec PyProof.Rows
structure cP (k:Nat) (A:Around):Prop where
  hd:A.handled=none
  dp:A.depth+3*k+5 < recursionLimit
  un:A.units+16*k+200 < cLine
  gd:A.guards=some []
theorem cP.mono{j k:Nat}{A:Around}(r:cP k A)(h:j≤k):cP j A:=⟨r.hd,by have:=r.dp;lia,by have:=r.un;lia,r.gd⟩
theorem cP.deeper{k:Nat}{A:Around}(r:cP (k+1) A)(env:Env):cP k (A.deeper env):=
  ⟨r.hd,by have:=r.dp;show A.depth+1+3*k+5 < _;lia,by have:=r.un;show A.units+3+16*k+200 < _;lia,r.gd⟩
theorem cP.depth{k:Nat}{A:Around}(r:cP k A):A.depth < recursionLimit:=by have:=r.dp;lia
theorem cP.units{k:Nat}{A:Around}(r:cP k A):A.units+64 < cLine:=by have:=r.un;lia
def z9:TA:=fun _ H Q=>Q [] H
def ov(ta:TE)(tr:TA):TA:=fun σ H Q=>ta σ H fun x H1=>tr σ H1 fun xs H2=>Q (x::xs) H2
section
variable{X:Cx}{e:Expr}{es:List Expr}{te:TE}{t:TA}{pos:Pos}
theorem zp:PA X [] z9:=fun _ _ _ _ H Q I h=>Calls.spliced_nil ⟨[],H,I,.nil,h⟩
theorem wo(ha:PE X e te)(hr:PA X es t)(hs:starEach (e::es) X.env=(false,eval e X.env)::starEach es X.env:=by rfl):PA X (e::es) (ov te t):=by
  intro pos pins s σ H Q I h
  rw [hs]
  show wpAny _ _ (spliced ((false,eval e X.env)::backTo pos (starEach es X.env))) _ _ s
  refine Calls.spliced_cons (cy (ha pins s σ H _ I h) fun u s1 ⟨x,H1,I1,r1,q1⟩=>?_)
  exact cy (hr pos pins s1 σ H1 _ I1 q1) fun us s2 ⟨xs,H2,I2,r2,q2⟩=>⟨x::xs,H2,I2,.cons r1 r2,q2⟩
def BO(t:TA):TE:=fun σ H Q=>t σ H fun xs H1=>xs.length≤sizeLine∧∀p,H1 p=none→Q (.ref p) (aS H1 p (.tup xs))
def CU(t:TA):TE:=fun σ H Q=>t σ H fun xs H1=>xs.length≤sizeLine∧∀p,H1 p=none→Q (.ref p) (aS H1 p (.lst xs))
theorem zu{x1}(h:PA X es t):PE X (.Tuple es x1 pos) (BO t):=by
  intro pins s σ H Q I hq
  refine wpAny_Tuple_spliced (cy (h pos pins s σ H _ I hq) fun us s1 ⟨xs,H1,I1,r,z,q⟩=>⟨by rw [←r.length];exact z,?_⟩)
  have hf:H1 s1.heap.objs.size=none:=I1.hok.fresh (Nat.le_refl _)
  refine⟨.ref s1.heap.objs.size,aS H1 s1.heap.objs.size (.tup xs),I1.laid (t':=s1.toks) (fun b u e=>Heap.get?_push_of_some _ e) (Nat.le_refl _) ?_,rfl,q _ hf⟩
  exact⟨z,us,r,⟨_,Heap.get?_push_size _ rfl,rfl,_,rfl,rfl⟩⟩
theorem zr(h:PA X es t):PE X (.List es pos) (CU t):=by
  intro pins s σ H Q I hq
  refine wpAny_List_spliced (cy (h pos pins s σ H _ I hq) fun us s1 ⟨xs,H1,I1,r,z,q⟩=>⟨by rw [←r.length];exact z,?_⟩)
  have hf:H1 s1.heap.objs.size=none:=I1.hok.fresh (Nat.le_refl _)
  refine⟨.ref s1.heap.objs.size,aS H1 s1.heap.objs.size (.lst xs),I1.laid (t':=s1.toks) (fun b u e=>Heap.get?_push_of_some _ e) (Nat.le_refl _) ?_,rfl,q _ hf⟩
  exact⟨z,us,0,r,Heap.get?_push_size _ rfl⟩
end
abbrev Sp:=List V→Hp→VK→XK→Prop
abbrev qH:=List Env→Hp→Shared→XK→Value→Shared→Prop
structure vp (P:Program) (w:World) (K:PySem.W.Frag) (mg:Str→Option Value) (base:Heap) (A:Around) (outer:List Env) (s:Shared) (H:Hp):Prop where
  frames:A.frames=some outer
  mod:Mod K mg base
  bs:∀b o,base.get? b=some o→s.heap.get? b=some o∧H b=none
  bsz:base.objs.size≤s.heap.objs.size
  funs:s.heap.FunFrames base outer
  frf:∀b∈sr outer,H b=none
  hok:jU P w H s.heap
  bare:AllBare s.gens
def CE(outer:List Env)(P:Program)(w:World)(H:Hp)(s:Shared)(Q:VK)(u:Value)(s':Shared):Prop:=
  ∃v H',s'.os=s.os∧AllBare s'.gens∧Un (sr outer) [] H H' s.heap s'.heap∧jU P w H' s'.heap∧bg v u∧Q v H'
def CR(CX:qH)(outer:List Env)(P:Program)(w:World)(H:Hp)(s:Shared)(Q:VK)(E:XK)(r:Result)(s':Shared):Prop:=
  match r with
  | .ok (.ret u)=>CE outer P w H s Q u s'
  | .ok _=>False
  | .error e=>CX outer H s E e s'
structure aJ (P:Program) (w:World) (K:PySem.W.Frag) (mg:Str→Option Value) (base:Heap) (CX:qH) (k:Nat) (f:Addr) (fd:FuncData) (ps:List Str) (sp:Sp):Prop where
  len:∀vs H Q E,sp vs H Q E→vs.length=ps.length
  run:∀(A:Around) (outer:List Env) (s:Shared) (H:Hp) (args:Args) (us:List Value) (vs:List V) (Q:VK) (E:XK),cP k A→vp P w K mg base A outer s H→BindsTo s fd args (ps.zip us)→aD vs us→sp vs H Q E→
    codeAny (model P w) A (.call (.ref f) args) (CR CX outer P w H s Q E) s
section
variable{X:Cx}{pins:List (Addr × Obj)}{σ:St}{H:Hp}{s s':Shared}
theorem aq.env0(I:aq X pins σ H s):vp X.prog X.w X.K X.mg X.base X.A X.stack s H:=
  ⟨I.ok.frames,I.ok.mod,I.bs,Nat.le_trans I.ok.bsz I.sz,I.stack,I.stkFree,I.hok,I.bare⟩
theorem aq.after{Q:VK}{u:Value}(I:aq X pins σ H s)(h:CE X.stack X.prog X.w H s Q u s'):EP X pins σ Q u s':=by
  obtain⟨v,H',os,bare,un,hok,r,q⟩:=h
  obtain⟨hh,g,d,t,os'⟩:=s'
  obtain rfl:os'=s.os:=os
  exact⟨v,H',I.call (h':=hh) (g':=g) (d':=d) (t':=t) (ch:=[]) un hok bare (fun b z=>absurd z (by simp)),r,q⟩
end
def uW(sp:Sp)(dvs:List V)(E:XK)(t:TA):TE:=fun σ H Q=>t σ H fun vs H1=>sp (vs++dvs) H1 Q E
def lm(K:PySem.W.Frag)(fd:FuncData)(ps:List Str)(ds:List Value):Prop:=
  ∀(s:Shared) (us:List Value),K.In s.heap→(us++ds).length=ps.length→BindsTo s fd ⟨us,[]⟩ (ps.zip (us++ds))
theorem lm.all{K:PySem.W.Frag}{fd:FuncData}{ps:List Str}(h:∀us:List Value,us.length=ps.length→bindArgs fd ⟨us,[]⟩=pure (ps.zip us)):lm K fd ps []:=fun s us _ hl=>by
  rw [List.append_nil] at hl ⊢
  exact .of_eq (h us hl)
def oM(CX:qH)(X:Cx)(E:XK):Prop:=∀(pins:List (Addr × Obj)) (σ:St) (H:Hp) (s:Shared) (e:Value) (s':Shared),aq X pins σ H s→CX X.stack H s E e s'→X.xe e s'
section
variable{X:Cx}{CX:qH}{k:Nat}{f C:Addr}{fd:FuncData}{ps:List Str}{sp:Sp}{dvs:List V}{ds:List Value}{E:XK}{x m:Str}{p pos apos:Pos}{e o:Expr}{es:List Expr}{ta:TE}{t:TA}
theorem zV{pins:List (Addr × Obj)}{σ:St}{H:Hp}{s:Shared}{Q:VK}{us:List Value}{vs:List V}(F:aJ X.prog X.w X.K X.mg X.base CX k f fd ps sp)(hr:cP k X.A)(hb:lm X.K fd ps ds)(hd:aD dvs ds)(hx:oM CX X E)
    (I:aq X pins σ H s)(r:aD vs us)(h:sp (vs++dvs) H Q E):wpAny (model X.prog X.w) X.A (call (.ref f) us) (EP X pins σ Q) X.xe s:=by
  have r2:aD (vs++dvs) (us++ds):=r.append hd
  have hl:(us++ds).length=ps.length:=by rw [←r2.length];exact F.len _ _ _ _ h
  refine wpAny_call (codeAny_mono (F.run X.A X.stack s H ⟨us,[]⟩ (us++ds) (vs++dvs) Q E hr I.env0 (hb s us I.kIn hl) r2 h) fun r s' hq=>?_)
  cases r with
  | error e=>exact hx pins σ H s e s' I hq
  | ok fl=>
    cases fl with
    | ret u=>exact I.after hq
    | next=>exact False.elim hq
    | brk=>exact False.elim hq
    | cont=>exact False.elim hq
theorem wq(F:aJ X.prog X.w X.K X.mg X.base CX k f fd ps sp)(hr:cP k X.A)(hg:Gl X x)(hm:X.mg x=some (.ref f))(hk:PySem.W.keepIn X.K (.ref f)=true)(hb:lm X.K fd ps ds)(hd:aD dvs ds)(hx:oM CX X E)
    (ha:PA X (e::es) t)(hdb:(x==("__debug__":Str))=false:=by decide)(he:starEach (e::es) X.env=(false,eval e X.env)::starEach es X.env:=by rfl)(hpl:(backTo pos (starEach es X.env)).any (·.1)=false:=by rfl):
    PE X (.Call (.Name x p) (e::es) [] pos) (uW sp dvs E t):=by
  intro pins s σ H Q I h
  refine wpAny_Call_Name_kw (vR I hg hm ?_ hdb)
  refine PySem.W.callWith_K (h₀:=X.base) I.ok.mod.kin hk (cy (ha pos pins s σ H _ I h) fun us s1 ⟨vs,H1,I1,r,q⟩=>⟨I1.kIn,?_⟩) he hpl
  exact zV F hr hb hd hx I1 r q
structure Mk (K:PySem.W.Frag) (C f:Addr):Prop where
  makes:PySem.W.makesIn K C=true
  init:PySem.W.findIn K (.ref C) "__init__"=some (some (.ref f))
  fn:PySem.W.isFn K (.ref f)=true
  kp:PySem.W.keepIn K (.ref C)=true
end
section
variable{X:Cx}{CX:qH}{k:Nat}{f C:Addr}{fd:FuncData}{ps ks:List Str}{sp:Sp}{E:XK}{x m:Str}{p pos apos kpos:Pos}{e o:Expr}{es:List Expr}{kws:List Keyword}{te ta:TE}{t tk:TA}{nm:Option Str}
structure Cg (K:PySem.W.Frag) (fd:FuncData) (ps ks:List Str) (g:List Value→List Value→List Value) (gV:List V→List V→List V):Prop where
  to:∀(s:Shared) (us ws:List Value),K.In s.heap→(g us ws).length=ps.length→BindsTo s fd ⟨us,ks.zip ws⟩ (ps.zip (g us ws))
  rel:∀{vs:List V} {us:List Value} {zs:List V} {ws:List Value},aD vs us→aD zs ws→aD (gV vs zs) (g us ws)
variable{g:List Value→List Value→List Value}{gV:List V→List V→List V}
end
structure aH (N P:List Str) (sc:Scope):Prop where
  kind:sc.kind=.function
  co:sc.isCoroutine=false
  gen:sc.isGenerator=false
  nd:N.Nodup
  pre:N.take P.length=P
  par:∀x∈P,sc.names.lookup x=some .local∨sc.names.lookup x=some .cell
  nofree:∀y∈sc.names,y.2≠.free
theorem lx{kindOf:Str→Option NameKind}{x:Str}:∀{binds:List (Str × Value)} {m:Str→Option Value},(∀v,(x,v)∉binds)→bindL kindOf binds m x=m x
  | [],_,_=>rfl
  | (n,v)::r,m,h=>by
    unfold bindL
    rw [lx fun w hw=>h w (List.mem_cons_of_mem _ hw)]
    split
    · have:x≠n:=by rintro rfl;exact h v List.mem_cons_self
      simp [this]
    · rfl
theorem lu{kindOf:Str→Option NameKind}{x:Str}:∀{binds:List (Str × Value)} {m:Str→Option Value},(∀v,(x,v)∉binds)→bindC kindOf binds m x=m x
  | [],_,_=>rfl
  | (n,v)::r,m,h=>by
    unfold bindC
    rw [lu fun w hw=>h w (List.mem_cons_of_mem _ hw)]
    split
    · rfl
    · have:x≠n:=by rintro rfl;exact h v List.mem_cons_self
      simp [this]
theorem lw{kindOf:Str→Option NameKind}{x:Str}{v:Value}:∀{P:List Str} {vs:List Value} {i:Nat} {m:Str→Option Value},P.Nodup→P[i]?=some x→vs[i]?=some v→kindOf x=some .local→
    bindL kindOf (P.zip vs) m x=some v
  | [],_,_,_,_,h,_,_=>by simp at h
  | _::_,[],_,_,_,_,h,_=>by simp at h
  | p::P,w::vs,0,m,nd,h1,h2,hk=>by
    simp at h1 h2;subst h1;subst h2
    show bindL kindOf ((p,w)::P.zip vs) m p=_
    unfold bindL
    rw [lx fun v hv=>(List.nodup_cons.mp nd).1 (List.of_mem_zip hv).1,if_pos hk]
    simp
  | p::P,w::vs,i+1,m,nd,h1,h2,hk=>by
    show bindL kindOf ((p,w)::P.zip vs) m x=_
    unfold bindL
    exact lw (i:=i) (List.nodup_cons.mp nd).2 (by simpa using h1) (by simpa using h2) hk
theorem ls{kindOf:Str→Option NameKind}{x:Str}{v:Value}:∀{P:List Str} {vs:List Value} {i:Nat} {m:Str→Option Value},P.Nodup→P[i]?=some x→vs[i]?=some v→kindOf x≠some .local→
    bindC kindOf (P.zip vs) m x=some v
  | [],_,_,_,_,h,_,_=>by simp at h
  | _::_,[],_,_,_,_,h,_=>by simp at h
  | p::P,w::vs,0,m,nd,h1,h2,hk=>by
    simp at h1 h2;subst h1;subst h2
    show bindC kindOf ((p,w)::P.zip vs) m p=_
    unfold bindC
    rw [lu fun v hv=>(List.nodup_cons.mp nd).1 (List.of_mem_zip hv).1,if_neg hk]
    simp
  | p::P,w::vs,i+1,m,nd,h1,h2,hk=>by
    show bindC kindOf ((p,w)::P.zip vs) m x=_
    unfold bindC
    exact ls (i:=i) (List.nodup_cons.mp nd).2 (by simpa using h1) (by simpa using h2) hk
def start(N:List Str)(vs:List V):St:=vs.map some++List.replicate (N.length - vs.length) none
def o8(CX:qH)(P:Program)(w:World)(K:PySem.W.Frag)(mg:Str→Option Value)(base:Heap)(N:List Str)(qual:Str)(scope:Scope)(f:Addr)(cd:Value)(A:Around)(outer:List Env)(s:Shared)(H:Hp)(E:XK):Cx where
  prog:=P
  w:=w
  K:=K
  mg:=mg
  base:=base
  A:=A.deeper (envOfC qual scope s.heap.objs.size f cd)
  N:=N
  s₀:=s
  H₀:=H
  env:=envOfC qual scope s.heap.objs.size f cd
  outer:=outer
  stack:=envOfC qual scope s.heap.objs.size f cd::outer
  ex:=[]
  calm:=true
  fn:=fun _=>true
  pn:=[]
  xe:=fun e s'=>wpAny (model P w) (A.deeper (envOfC qual scope s.heap.objs.size f cd)) (leaving (envOfC qual scope s.heap.objs.size f cd) e) (fun _ s''=>CX outer H s E e s'') (fun e' s''=>CX outer H s E e' s'') s'
theorem mZ{sc:Scope}{n:Nat}{x:Str}(h:sc.names.lookup x=some .cell):∃c,(cellsFrom n sc.names []).lookup x=some c:=by
  have q:=PySem.W.cellsFrom_some sc.names n [] (.inl h)
  exact Option.isSome_iff_exists.mp q
theorem qW{CX:qH}{P:Program}{w:World}{K:PySem.W.Frag}{mg:Str→Option Value}{base:Heap}{N ps:List Str}{qual:Str}{scope:Scope}{f:Addr}{cd:Value}{A:Around}{outer:List Env}{s s1:Shared}{H:Hp}{E:XK}{us:List Value}{vs:List V}
    (S:aH N ps scope)(hd:A.handled=none)(e0:vp P w K mg base A outer s H)(hl:vs.length=ps.length)(r:aD vs us)
    (x:InCallC s s.heap.objs.size (bindL (envOfC qual scope s.heap.objs.size f cd).kindOf (ps.zip us) fun _=>none) (cellsFrom (s.heap.objs.size+1) scope.names []) (bindC (envOfC qual scope s.heap.objs.size f cd).kindOf (ps.zip us) fun _=>none) s1):
    aq (o8 CX P w K mg base N qual scope f cd A outer s H E) [] (start N vs) H s1:=by
  have hpl:ps.length≤N.length:=by have:=congrArg List.length S.pre;rw [List.length_take] at this;lia
  obtain⟨h1,tk,rfl,hk⟩:=x.done
  have noA:∀b:Addr,b∉(o8 CX P w K mg base N qual scope f cd A outer s H E).ex:=fun b z=>absurd (show b∈([]:List Addr) from z) (by simp)
  refine⟨⟨e0.mod,S.kind,rfl,rfl,Nat.le_refl _,fun y z c h1 h2=>?_,fun y hy=>?_,fun y c _ h=>?_,fun _=>hd,Around.frames_deeper e0.frames,.inr ⟨rfl,rfl⟩,fun b z=>absurd z (noA b),e0.bs,e0.bsz,fun b _ _=>noA b,fun b z=>absurd z (noA b),e0.funs,e0.frf⟩,
    rfl,e0.bare,Un.kept hk,⟨_,x.toInCall.ns,fun i y v h1 h2 h3=>?_⟩,fun y c h=>⟨_,x.cell y c h⟩,e0.hok.fresh (Nat.le_refl _),fun y c h=>?_,fun p hp=>absurd (show p∈([]:List (Addr × Obj)) from hp) (by simp),e0.hok.kept hk,?_⟩
  · exact name_of_addr x.apart (PySem.mem_of_lookup h1) (PySem.mem_of_lookup h2)
  · have hy:scope.names.lookup y=some .cell∨scope.names.lookup y=some .free:=hy
    rcases hy with hy | hy
    · exact mZ hy
    · exact absurd rfl (S.nofree _ (PySem.mem_of_lookup hy))
  · exact Nat.le_of_lt (x.above y c (PySem.mem_of_lookup h))
  · have hi:i < vs.length:=by
      unfold start at h2
      by_cases hi:i < vs.length
      · exact hi
      · rw [List.getElem?_append_right (by simpa using hi)] at h2
        rw [List.getElem?_replicate] at h2
        split at h2<;>cases h2
    have ha:vs[i]?=some v:=by
      unfold start at h2
      rw [List.getElem?_append_left (by simpa using hi),List.getElem?_map] at h2
      cases e:vs[i]? with
      | none=>rw [e] at h2;cases h2
      | some a=>rw [e] at h2;cases h2;rfl
    obtain⟨u,hu,rv⟩:=r.get ha
    have hp:ps[i]?=some y:=by
      rw [←S.pre,List.getElem?_take_of_lt (by lia)];exact h1
    have ndP:ps.Nodup:=by rw [←S.pre];exact S.nd.sublist (List.take_sublist _ _)
    refine⟨u,rv,?_⟩
    rcases S.par y (List.mem_of_getElem? hp) with k | k
    · exact .inl ⟨k,lw ndP hp hu k⟩
    · obtain⟨c,e⟩:=mZ (n:=s.heap.objs.size+1) k
      refine .inr ⟨.inl k,c,e,?_⟩
      have q:=x.cell y c e
      rw [ls ndP hp hu (by show scope.names.lookup y≠_;rw [k];decide)] at q
      exact q
  · exact e0.hok.fresh (Nat.le_of_lt (x.above y c (PySem.mem_of_lookup h)))
  · unfold start
    show _=N.length
    rw [List.length_append,List.length_map,List.length_replicate]
    lia
theorem AL{CX:qH}{P:Program}{w:World}{K:PySem.W.Frag}{mg:Str→Option Value}{base:Heap}{k:Nat}{f:Addr}{name qual:Str}{params:Arguments}{body:List Stmt}{scope:Scope}{dV kV doc pm cdv ct oc:Value}{an od:Option Addr}
    {osl:Array (Option Value)}{N ps:List Str}{sp:Sp}(lk:K.lookup f=some ⟨oc,od,.func (PySem.W.fnOf name qual params body scope dV kV doc pm an cdv ct),osl⟩)(hcd:PySem.W.codeIn K cdv qual=true)(S:aH N ps scope)
    (len:∀vs H Q E,sp vs H Q E→vs.length=ps.length)
    (hbody:∀(A:Around) (outer:List Env) (s:Shared) (H:Hp) (vs:List V) (Q:VK) (E:XK),cP k (A.deeper (envOfC qual scope s.heap.objs.size f cdv))→sp vs H Q E→
      ∃t,jC (o8 CX P w K mg base N qual scope f cdv A outer s H E) body t∧t {nx:=fun _ H'=>Q .non H',rt:=Q} (start N vs) H):
    aJ P w K mg base CX (k+1) f (PySem.W.fnOf name qual params body scope dV kV doc pm an cdv ct) ps sp:=by
  refine⟨len,fun A outer s H args us vs Q E hr e0 hb r hsp=>?_⟩
  have hl:=len _ _ _ _ hsp
  have KX:K.In s.heap:=e0.mod.kin.keeps fun b o e=>(e0.bs b o e).1
  have lim:s.heap.NoLimit:=e0.mod.nolimit.keeps fun b o e=>(e0.bs b o e).1
  have hkind:∀y∈ps.zip us,scope.names.lookup y.1=some .local∨(scope.names.lookup y.1=some .cell∧((cellsFrom (s.heap.objs.size+1) scope.names []).lookup y.1).isSome=true):=fun⟨n,v⟩ hy=>by
    rcases S.par n (List.of_mem_zip hy).1 with q | q
    · exact .inl q
    · exact .inr ⟨q,PySem.W.cellsFrom_some _ _ _ (.inl q)⟩
  refine codeAny_call_function hr.depth (KX _ _ lk) rfl S.co S.gen rfl (PySem.W.codeRec_of KX hcd) (hb _ _ _ _ ?_)
  refine wpAny_newFunctionEnv_cells S.kind hkind fun env he s1 x=>?_
  subst he
  refine⟨lim.keeps x.toInCall.keep,codeAny_func ?_⟩
  obtain⟨t,ht,hq⟩:=hbody A outer s H vs Q E (hr.deeper _) hsp
  have I:aq (o8 CX P w K mg base N qual scope f cdv A outer s H E) [] (start N vs) H s1:=qW S hr.hd e0 hl r x
  refine wpAny_mono (ht [] s1 (start N vs) H _ I hq) (fun fl s' hs=>?_) fun e s' hs=>hs
  have fin:∀{σ':St} {H':Hp} {v:V} {u:Value},aq (o8 CX P w K mg base N qual scope f cdv A outer s H E) [] σ' H' s'→bg v u→Q v H'→CE outer P w H s Q u s':=
    fun{σ' H' v u} J rv q=>⟨v,H',J.os,J.bare,J.base,J.hok,rv,q⟩
  cases fl with
  | ret u=>
    obtain⟨v,σ',H',J,rv,q⟩:=hs
    exact fin J rv q
  | next=>
    obtain⟨σ',H',J,q⟩:=hs
    exact fin (v:=V.non) (u:=Value.none) J rfl q
  | brk=>
    obtain⟨_,_,_,q⟩:=hs
    exact False.elim q
  | cont=>
    obtain⟨_,_,_,q⟩:=hs
    exact False.elim q
end L2
namespace L2
open PySem PySem.Spec PyProof.Rows
section
variable{X:Cx}{x:Str}{p pos:Pos}{e:Expr}{es:List Expr}{t:TA}{id T:String}{r:List V→Hp→VK→Prop}
def CP(r:List V→Hp→VK→Prop)(t:TA):TE:=fun σ H Q=>t σ H fun vs H1=>r vs H1 Q
theorem tY(hc:cD X (.builtin id) r)(hg:Gl X x)(hm:X.mg x=none)(hv:bootBuiltins x=some (.builtin id))(ha:PA X (e::es) t)(hn:x≠"__name__":=by decide)(hdb:(x==("__debug__":Str))=false:=by decide)
    (he:starEach (e::es) X.env=(false,eval e X.env)::starEach es X.env:=by rfl)(hpl:(backTo pos (starEach es X.env)).any (·.1)=false:=by rfl):PE X (.Call (.Name x p) (e::es) [] pos) (CP r t):=by
  intro pins s σ H Q I h
  refine wpAny_Call_Name_kw (i5 I hg hm hv ?_ hn hdb)
  exact PyProof.Rows.callWith_builtin1 (cy (ha pos pins s σ H _ I h) fun us s1 ⟨vs,H1,I1,r1,q1⟩=>hc pins s1 σ H1 vs us Q I1 r1 q1) he hpl
theorem ri(hc:cD X (.type T) r)(hg:Gl X x)(hm:X.mg x=none)(hv:bootBuiltins x=some (.type T))(ha:PA X (e::es) t)(hn:x≠"__name__":=by decide)(hdb:(x==("__debug__":Str))=false:=by decide)
    (he:starEach (e::es) X.env=(false,eval e X.env)::starEach es X.env:=by rfl)(hpl:(backTo pos (starEach es X.env)).any (·.1)=false:=by rfl):PE X (.Call (.Name x p) (e::es) [] pos) (CP r t):=by
  intro pins s σ H Q I h
  refine wpAny_Call_Name_kw (i5 I hg hm hv ?_ hn hdb)
  exact PyProof.Rows.callWith_type1 (cy (ha pos pins s σ H _ I h) fun us s1 ⟨vs,H1,I1,r1,q1⟩=>hc pins s1 σ H1 vs us Q I1 r1 q1) he hpl
end
end L2
namespace HT
open PySem PyProof.Rows
section
open PySem.SeqAt
open PySem.AutoSeq1 (wpAny_loadPart')
open PySem.MeetsSeq PySem.MeetsSeq2 PySem.MeetsSeq3
end
section
variable{prog:Program}{w:World}{A:Around}{E:Value→Shared→Prop}{s:Shared}
theorem cat_tup{t b:Addr}{vs ws:List Value}{Q:Value→Shared→Prop}(ht:IsTup s.heap t vs.toArray)(hb:IsTup s.heap b ws.toArray)(hv:vs≠[])
    (h1:ws=[]→Q (.ref t) s)(h2:ws≠[]→Q (.ref s.heap.objs.size) {s with heap:=s.heap.push {cls:=.type "tuple",data:=.seq (vs++ws).toArray}})
    (hsz:vs.length+ws.length≤sizeLine):wpAny (model prog w) A (binaryOp .Add (.ref t) (.ref b)) Q E s:=by
  obtain⟨⟨cls,dd,data,sl⟩,ho,hc,n,hd⟩:=id ht
  obtain⟨⟨cls2,dd2,data2,sl2⟩,ho2,hc2,n2,hd2⟩:=id hb
  simp only at hc hd hc2 hd2
  subst hc hd hc2 hd2
  have e:vs.toArray++ws.toArray=(vs++ws).toArray:=by simp
  by_cases hw:ws=[]
  · exact concat_meets ⟨_,ho,rfl⟩ ⟨_,ho2,rfl⟩ noFill_tuple_add seq_tuple_add PySem.F.slot_tuple_add PySem.F.entry_tuple_add (PySem.F.args_tuple_add_2 _ _)
      (tuple_addW1 t b vs.toArray ws.toArray n n2 dd dd2 sl sl2 (by simpa using hv) (by simp [hw])) ⟨ho,ho2,h1 hw⟩
  · refine concat_meets ⟨_,ho,rfl⟩ ⟨_,ho2,rfl⟩ noFill_tuple_add seq_tuple_add PySem.F.slot_tuple_add PySem.F.entry_tuple_add (PySem.F.args_tuple_add_2 _ _)
      (tuple_addW2 t b vs.toArray ws.toArray n n2 dd dd2 sl sl2 (by simpa using hv) (by simpa using hw) (by rw [List.size_toArray,List.size_toArray];exact hsz)) ⟨ho,ho2,?_⟩
    rw [e]
    exact h2 hw
def sIx(n d:Nat):Option Int→Nat
  | none=>d
  | some v=>if v < 0 then(v+(n:Int)).toNat else min v.toNat n
theorem zW(n d:Nat)(hd:d≤n)(o:Option Int):sIx n d o≤n:=by
  cases o with
  | none=>exact hd
  | some v=>
    show(if v < 0 then(v+(n:Int)).toNat else min v.toNat n)≤n
    by_cases hv:v < 0
    · rw [if_pos hv];lia
    · rw [if_neg hv];exact Nat.min_le_right _ _
theorem p6(v:Int)(n d:Nat):(if v < 0 then max (v+(n:Int)) 0 else min v (n:Int))=((sIx n d (some v):Nat):Int):=by
  show(if v < 0 then max (v+(n:Int)) 0 else min v (n:Int))=(((if v < 0 then(v+(n:Int)).toNat else min v.toNat n):Nat):Int)
  by_cases hv:v < 0
  · simp only [if_pos hv];lia
  · simp only [if_neg hv];lia
theorem oP(lo hi:Option Int)(n:Nat):Builtin.Slice.sliceAdjust lo hi 1 (n:Int)=(((sIx n 0 lo:Nat):Int),((sIx n n hi:Nat):Int)):=by
  have h1:¬((1:Int) < 0):=by lia
  unfold Builtin.Slice.sliceAdjust
  simp only [h1,if_false]
  refine Prod.ext ?_ ?_
  · cases lo with
    | none=>rfl
    | some v=>exact p6 v n 0
  · cases hi with
    | none=>rfl
    | some v=>exact p6 v n n
theorem pG(i j:Nat):Builtin.Slice.slicePlaces (i:Int) (j:Int) 1=j - i:=by
  unfold Builtin.Slice.slicePlaces
  have h1:(1:Int) > 0:=by lia
  simp only [h1,if_true,Int.ediv_one]
  split<;>lia
theorem kW{v:Value}{o:Option Int}{Q:Option Int→Shared→Prop}(p:IsPart v o)(h:Q o s):wpAny (model prog w) A (Builtin.Slice.slicePartIndex v) Q E s:=by
  cases p with
  | none=>exact slicePart_none h
  | int i t=>exact slicePart_int h
theorem eX{sl:Addr}{vl vu:Value}{lo hi:Option Int}{n:Nat}{Q:Int × Int × Nat→Shared→Prop}(hs:s.heap.IsSliceOf sl vl vu .none)(pl:IsPart vl lo)(pu:IsPart vu hi)
    (h:Q (((sIx n 0 lo:Nat):Int),1,sIx n n hi - sIx n 0 lo) s):wpAny (model prog w) A (Builtin.Slice.sliceApplied (.ref sl) (pure (n:Int))) Q E s:=by
  obtain⟨os,hos,hcs,hds⟩:=id hs
  unfold Builtin.Slice.sliceApplied Builtin.Slice.sliceFields
  refine wpAny_bind (wpAny_bind (wpAny_field hos hds (x:=vl) rfl (wpAny_bind (wpAny_field hos hds (x:=vu) rfl (wpAny_bind (wpAny_field hos hds (x:=.none) rfl (wpAny_pure ?_)))))))
  refine wpAny_bind (slicePart_none ?_)
  show wpAny _ _ (if ((1:Int)==0)=true then _ else _) _ _ s
  rw [if_neg (by decide)]
  refine wpAny_bind (kW pl (wpAny_bind (kW pu (wpAny_bind (wpAny_pure ?_)))))
  show wpAny _ _ (match Builtin.Slice.sliceAdjust lo hi 1 (n:Int) with | (lo,hi)=>pure (lo,(1:Int),Builtin.Slice.slicePlaces lo hi 1)) _ _ s
  rw [oP lo hi n]
  show wpAny _ _ (pure (((sIx n 0 lo:Nat):Int),(1:Int),Builtin.Slice.slicePlaces ((sIx n 0 lo:Nat):Int) ((sIx n n hi:Nat):Int) 1)) _ _ s
  rw [pG]
  exact wpAny_pure h
theorem uc(xs:Array Value)(i k:Nat):((List.range k).filterMap fun(m:Nat)=>xs[((i:Int)+(m:Int)*1).toNat]?).toArray=((xs.toList.drop i).take k).toArray:=by
  have e:(fun(m:Nat)=>xs[((i:Int)+(m:Int)*1).toNat]?)=fun m=>xs[i+m]?:=by
    funext m
    have:((i:Int)+(m:Int)*1).toNat=i+m:=by lia
    rw [this]
  rw [e]
  have:=pick_run xs i k
  rw [List.filterMap_map] at this
  have e2:((fun x=>xs[x]?) ∘ fun x=>i+x)=fun m=>xs[i+m]?:=rfl
  rw [e2] at this
  rw [this]
theorem getItem_tuple_cut{t sl:Addr}{items:Array Value}{vl vu:Value}{lo hi:Option Int}{Q:Value→Shared→Prop}(ht:IsTup s.heap t items)(hs:s.heap.IsSliceOf sl vl vu .none)(pl:IsPart vl lo)(pu:IsPart vu hi)
    (hw:¬(sIx items.size 0 lo=0∧sIx items.size items.size hi=items.size))
    (h:Q (.ref s.heap.objs.size) {s with heap:=s.heap.push {cls:=.type "tuple",data:=.seq ((items.toList.drop (sIx items.size 0 lo)).take (sIx items.size items.size hi - sIx items.size 0 lo)).toArray}})
    (hsz:items.size≤sizeLine):wpAny (model prog w) A (getItem (.ref t) (.ref sl)) Q E s:=by
  have htake:sizeOk (.seq ((items.toList.drop (sIx items.size 0 lo)).take (sIx items.size items.size hi - sIx items.size 0 lo)).toArray):=by
    show((items.toList.drop (sIx items.size 0 lo)).take (sIx items.size items.size hi - sIx items.size 0 lo)).toArray.size≤sizeLine
    rw [List.size_toArray,List.length_take,List.length_drop,Array.length_toList]
    lia
  have hj:sIx items.size items.size hi≤items.size:=zW _ _ (Nat.le_refl _) hi
  obtain⟨os,hos,hcs,hds⟩:=id hs
  have hTs:s.TypeIs (.ref sl) "slice":=⟨os,hos,hcs⟩
  unfold getItem
  try with_reducible refine wpAny_holding ?_
  first | refine wpAny_bind (wpAny_pure ?_) | skip
  refine wpAny_bind (wpAny_sequenceKey ht.typeIs (by decide) ?_)
  refine wpAny_bind (wpAny_callSpecial?_slot (name:=Str.ofString "__getitem__") ht.typeIs PyProof.Rows.slot_tuple_getitem
    (wpAny_call_entry PyProof.Rows.slot_tuple_getitem ht.typeIs entry_tuple_getitem ?_ (args_tuple_getitem _ _)))
  show wpAny _ _ (Builtin.Tuple.tupleItemsOf (.ref t) >>= _) _ _ s
  refine wpAny_bind (tupleItemsOf_ ht ?_)
  refine wpAny_bind (wpAny_typeOf hTs ?_)
  rw [if_pos (by decide)]
  refine wpAny_bind (eX hs pl pu ?_)
  have hno:¬((((sIx items.size 0 lo:Nat):Int)==0&&(1:Int)==1&&(sIx items.size items.size hi - sIx items.size 0 lo)==items.size)=true):=by
    intro q
    rw [Bool.and_eq_true,Bool.and_eq_true] at q
    have q1:((sIx items.size 0 lo:Nat):Int)=0:=eq_of_beq q.1.1
    have q2:sIx items.size items.size hi - sIx items.size 0 lo=items.size:=eq_of_beq q.2
    exact hw ⟨by lia,by lia⟩
  show wpAny _ _ (if (((sIx items.size 0 lo:Nat):Int)==0&&(1:Int)==1&&(sIx items.size items.size hi - sIx items.size 0 lo)==items.size)=true then _ else _) _ _ s
  rw [if_neg hno,uc]
  first
    | exact wpAny_bind (m:=Builtin.Tuple.tupleExact _) (wpAny_newObj_type (wpAny_pure ⟨_,rfl,wpAny_pure h⟩) htake)
    | exact wpAny_bind (m:=Builtin.Tuple.tupleExact _) (wpAny_newObj_type (wpAny_bind (wpAny_pure (wpAny_pure ⟨_,rfl,wpAny_pure h⟩))) htake)
    | exact wpAny_bind (wpAny_bind (m:=Builtin.Tuple.tupleExact _) (wpAny_newObj_type (wpAny_pure (wpAny_pure ⟨_,rfl,wpAny_pure h⟩)) htake))
    | exact wpAny_bind (wpAny_bind (m:=Builtin.Tuple.tupleExact _) (wpAny_newObj_type (wpAny_pure ⟨_,rfl,wpAny_pure h⟩) htake))
end
end HT
namespace L2
open PySem PySem.Spec PyProof.Rows
abbrev TO:=St→Hp→(Option Int→Hp→Prop)→Prop
def PO(X:Cx)(e:Option Expr)(t:TO):Prop:=
  ∀(pins:List (Addr × Obj)) (s:Shared) (σ:St) (H:Hp) (Q:Option Int→Hp→Prop),aq X pins σ H s→t σ H Q→
    wpAny (model X.prog X.w) X.A (evalPart e X.env) (fun u s'=>∃o H',aq X pins σ H' s'∧IsPart u o∧Q o H') X.xe s
def xo:TO:=fun _ H Q=>Q none H
def BM(t:TE):TO:=fun σ H Q=>t σ H fun x H1=>∃i,x=.int i∧Q (some i) H1
theorem fq{ns:List Int}:∀{us:List Value},aD (ns.map V.int) us→IntsAre us ns:=by
  induction ns with
  | nil=>intro us r;rw [List.map_nil] at r;cases r;exact .nil
  | cons n ns ih=>
    intro us r
    rw [List.map_cons] at r
    cases r with
    | cons r1 r2=>
      obtain⟨t,e⟩:=r1
      subst e
      exact .cons n t (ih r2)
section
variable{X:Cx}{e:Expr}{te:TE}{lo hi:Option Expr}{tl th:TO}{pos p2:Pos}
theorem wC:PO X none xo:=by
  intro pins s σ H Q I h
  rw [evalPart_none]
  exact wpAny_pure ⟨none,H,I,.none,h⟩
theorem wD(h:PE X e te):PO X (some e) (BM te):=by
  intro pins s σ H Q I hw
  rw [evalPart_some]
  refine cy (h pins s σ H _ I hw) fun u s1 ⟨x,H1,I1,r1,q1⟩=>?_
  obtain⟨i,rfl,q⟩:=q1
  obtain⟨t,rfl⟩:=r1
  exact⟨some i,H1,I1,.int i t,q⟩
def vw(X:Cx)(r:V→Option Int→Option Int→Hp→VK→Prop):Prop:=
  ∀(pins:List (Addr × Obj)) (s:Shared) (σ:St) (H:Hp) (x:V) (v vl vu:Value) (lo hi:Option Int) (sl:Addr) (Q:VK),aq X pins σ H s→bg x v→s.heap.IsSliceOf sl vl vu .none→IsPart vl lo→IsPart vu hi→r x lo hi H Q→
    ∃T id,typeLookup (.type T) "__getitem__"=pure (some (.builtin id))∧s.TypeIs v T∧wpAny (model X.prog X.w) X.A (getItem v (.ref sl)) (EP X pins σ Q) X.xe s
theorem vw.or{r r':V→Option Int→Option Int→Hp→VK→Prop}(h:vw X r)(h':vw X r'):vw X (fun x lo hi H Q=>r x lo hi H Q∨r' x lo hi H Q):=by
  intro pins s σ H x v vl vu lo hi sl Q I rx hs pl pu q
  rcases q with q | q
  · exact h pins s σ H x v vl vu lo hi sl Q I rx hs pl pu q
  · exact h' pins s σ H x v vl vu lo hi sl Q I rx hs pl pu q
def Dy(r:V→Option Int→Option Int→Hp→VK→Prop)(te:TE)(tl th:TO):TE:=fun σ H Q=>te σ H fun x H1=>tl σ H1 fun l H2=>th σ H2 fun u H3=>r x l u H3 Q
theorem tZ{r:V→Option Int→Option Int→Hp→VK→Prop}(hr:vw X r)(he:PE X e te)(hl:PO X lo tl)(hu:PO X hi th):PE X (.Subscript e (.Slice lo hi none p2) pos) (Dy r te tl th):=by
  intro pins s σ H Q I h
  refine Subscript_ (cy (he pins s σ H _ I h) fun v s1 ⟨x,H1,I1,r1,q1⟩=>?_)
  refine wpAny_Slice (cy (hl pins s1 σ H1 _ I1 q1) fun vl s2 ⟨l,H2,I2,pl,q2⟩=>cy (hu pins s2 σ H2 _ I2 q2) fun vu s3 ⟨u,H3,I3,pu,q3⟩=>?_)
  rw [evalPart_none]
  refine wpAny_pure ?_
  have I4:aq X pins σ H3 {s3 with heap:=s3.heap.push {cls:=.type "slice",data:=.fields #[vl,vu,.none]}}:=I3.kept (t':=s3.toks) fun b ob q=>Heap.get?_push_of_some _ q
  obtain⟨T,id,hT,ht,hg⟩:=hr pins {s3 with heap:=s3.heap.push {cls:=.type "slice",data:=.fields #[vl,vu,.none]}} σ H3 x v vl vu l u s3.heap.objs.size Q I4 r1 (Heap.IsSliceOf.new ..) pl pu q3
  show wpAny (model X.prog X.w) X.A (subscriptTail e (.Slice lo hi none p2) v (.ref s3.heap.objs.size)) (EP X pins σ Q) X.xe {s3 with heap:=s3.heap.push {cls:=.type "slice",data:=.fields #[vl,vu,.none]}}
  exact tail_any (ops:=[.ref s3.heap.objs.size,v]) ht hT hg (by with_unfolding_all rfl)
def k'(xs:List V)(lo hi:Option Int):List V:=(xs.drop (HT.sIx xs.length 0 lo)).take (HT.sIx xs.length xs.length hi - HT.sIx xs.length 0 lo)
theorem jq(xs:List V)(lo hi:Option Int):(k' xs lo hi).length≤xs.length:=by
  unfold k'
  rw [List.length_take,List.length_drop]
  lia
def BA(K:PySem.W.Frag):V→Option Int→Option Int→Hp→VK→Prop:=fun x lo hi H Q=>∃a xs,x=.ref a∧bK K H a xs∧
  ¬(HT.sIx xs.length 0 lo=0∧HT.sIx xs.length xs.length hi=xs.length)∧∀p,H p=none→Q (.ref p) (aS H p (.tup (k' xs lo hi)))
theorem zY:vw X (BA X.K):=by
  intro pins s σ H x v vl vu lo hi sl Q I rx hs pl pu h
  obtain⟨a,xs,rfl,hx,hw,q⟩:=h
  cases rx
  obtain⟨its,r,ht,hz⟩:=I.tuple hx
  have hlen:its.toArray.size=xs.length:=by rw [List.size_toArray];exact r.length.symm
  refine⟨"tuple",_,PyProof.Rows.slot_tuple_getitem.lookup,ht.typeIs,?_⟩
  refine HT.getItem_tuple_cut ht hs pl pu (by rw [hlen];exact hw) ?_ (by rw [hlen];exact hz)
  rw [hlen]
  refine⟨.ref s.heap.objs.size,_,I.laid (t':=s.toks) (o:=.tup (k' xs lo hi)) (fun b ob q=>Heap.get?_push_of_some _ q) (Nat.le_refl _) ?_,rfl,q _ (I.hok.fresh (Nat.le_refl _))⟩
  exact⟨Nat.le_trans (jq xs lo hi) hz,_,(r.drop (HT.sIx xs.length 0 lo)).take (HT.sIx xs.length xs.length hi - HT.sIx xs.length 0 lo),jB.new _ _⟩
def Bu(K:PySem.W.Frag):R2:=fun x y H Q=>∃a b xs ys,x=.ref a∧y=.ref b∧bK K H a xs∧bK K H b ys∧xs≠[]∧xs.length+ys.length≤sizeLine∧
  (ys=[]→Q (.ref a) H)∧(ys≠[]→∀p,H p=none→Q (.ref p) (aS H p (.tup (xs++ys))))
theorem aD.nil_iff{xs:List V}{us:List Value}(r:aD xs us):us=[]↔ xs=[]:=by
  cases r with
  | nil=>simp
  | cons _ _=>simp
theorem we:fP X (binaryOp .Add) (Bu X.K):=by
  intro pins s σ H x y v u Q I rx ry h
  obtain⟨a,b,xs,ys,rfl,rfl,ha,hb,hx,hz,q1,q2⟩:=h
  cases rx
  cases ry
  obtain⟨its,r1,p1,_⟩:=I.tuple ha
  obtain⟨its2,r2,p2,_⟩:=I.tuple hb
  refine HT.cat_tup p1 p2 (fun z=>hx (r1.nil_iff.mp z)) (fun z=>⟨.ref a,H,I,rfl,q1 (r2.nil_iff.mp z)⟩) (fun z=>?_) (by rw [←r1.length,←r2.length];exact hz)
  refine⟨.ref s.heap.objs.size,_,I.laid (t':=s.toks) (o:=.tup (xs++ys)) (fun b ob q=>Heap.get?_push_of_some _ q) (Nat.le_refl _) ?_,rfl,q2 (fun w=>z (r2.nil_iff.mpr w)) _ (I.hok.fresh (Nat.le_refl _))⟩
  exact⟨by rw [List.length_append];exact hz,_,r1.append r2,jB.new _ _⟩
end
end L2
namespace L2
open PySem PySem.Spec PyProof.Rows
def Aq(n:Nat)(i:Int):Option Nat:=if 0≤i then(if i < n then some i.toNat else none) else if -(n:Int)≤i then some (i+n).toNat else none
def atI{α:Type}(xs:List α)(i:Int):Option α:=(Aq xs.length i).bind fun j=>xs[j]?
theorem vP{n:Nat}{i:Int}{j:Nat}(h:Aq n i=some j):seqIndex? i n=some j∧j < n∧ -(n:Int)≤i∧i < n:=by
  unfold Aq at h
  by_cases h0:0≤i
  · rw [if_pos h0] at h
    by_cases h1:i < n
    · rw [if_pos h1] at h
      have e:i.toNat=j:=Option.some.inj h
      exact⟨by rw [seqIndex_of h0 h1,e],by lia,by lia,h1⟩
    · rw [if_neg h1] at h;cases h
  · rw [if_neg h0] at h
    by_cases h1: -(n:Int)≤i
    · rw [if_pos h1] at h
      have e:(i+n).toNat=j:=Option.some.inj h
      exact⟨by rw [seqIndex_neg (by lia) h1,e],by lia,h1,by lia⟩
    · rw [if_neg h1] at h;cases h
theorem pV{α:Type}{xs:List α}{i:Int}{v:α}(h:atI xs i=some v):∃j,seqIndex? i xs.length=some j∧xs[j]?=some v∧j < xs.length∧ -(xs.length:Int)≤i∧i < xs.length:=by
  unfold atI at h
  cases e:Aq xs.length i with
  | none=>rw [e] at h;cases h
  | some j=>
    rw [e] at h
    obtain⟨h1,h2,h3,h4⟩:=vP e
    exact⟨j,h1,h,h2,h3,h4⟩
def l5(b:Expr):Prop:=∀o i,subscripted b false o i=operate [o,i] (getItem o i)
def vq(X:Cx)(r:R2):Prop:=
  ∀(value slice:Expr) (pins:List (Addr × Obj)) (s:Shared) (σ:St) (H:Hp) (x y:V) (v u:Value) (Q:VK),aq X pins σ H s→bg x v→bg y u→r x y H Q→
    subscripted slice false v u=operate [v,u] (getItem v u)→wpAny (model X.prog X.w) X.A (subscriptTail value slice v u) (EP X pins σ Q) X.xe s
def C4(X:Cx)(id:String)(r:V→List V→Hp→VK→Prop):Prop:=
  ∀(pins:List (Addr × Obj)) (s:Shared) (σ:St) (H:Hp) (x:V) (xs:List V) (v:Value) (us:List Value) (Q:VK),aq X pins σ H s→bg x v→aD xs us→r x xs H Q→
    wpAny (model X.prog X.w) X.A (call (.builtin id) (v::us)) (EP X pins σ Q) X.xe s
section
variable{X:Cx}{a b:Expr}{ta tb:TE}{pos:Pos}
theorem vq.or{r r':R2}(h:vq X r)(h':vq X r'):vq X (fun x y H Q=>r x y H Q∨r' x y H Q):=by
  intro value slice pins s σ H x y v u Q I rx ry q hs
  rcases q with q | q
  · exact h value slice pins s σ H x y v u Q I rx ry q hs
  · exact h' value slice pins s σ H x y v u Q I rx ry q hs
theorem Bj{r:R2}(hr:vq X r)(ha:PE X a ta)(hb:PE X b tb)(hs:l5 b):PE X (.Subscript a b pos) (BL r ta tb):=by
  intro pins s σ H Q I h
  exact Subscript_ (yA ha hb I h fun v u s2 x y H2 I2 rx ry q=>hr a b pins s2 σ H2 x y v u Q I2 rx ry q (hs _ _))
def Bx(K:PySem.W.Frag):R2:=fun x y H Q=>∃p xs i v,x=.ref p∧y=.int i∧fH K H p xs∧atI xs i=some v∧Q v H
def By(K:PySem.W.Frag):R2:=fun x y H Q=>∃p xs i v,x=.ref p∧y=.int i∧bK K H p xs∧atI xs i=some v∧Q v H
theorem vQ:vq X (Bx X.K):=by
  intro value slice pins s σ H x y v u Q I rx ry h hs
  obtain⟨p,xs,i,z,rfl,rfl,hq,he,q⟩:=h
  cases rx
  obtain⟨t,rfl⟩:=ry
  obtain⟨its,r,pl,hz⟩:=I.list hq
  obtain⟨j,h1,h2,h3,h4,h5⟩:=pV he
  obtain⟨w,ew,rw'⟩:=r.get h2
  have hl:=r.length
  have hn:=pD
  have fin:EP X pins σ Q w s:=⟨z,H,I,rw',q⟩
  by_cases h0:0≤i
  · have hj:i.toNat=j:=by
      rw [seqIndex_of h0 h5] at h1
      exact Option.some.inj h1
    exact item_listR pl.isList h0 (by lia) (by rw [hj];simpa using ew) fin hs
  · have hj:(i+(its.toArray.size:Int)).toNat=j:=by
      rw [seqIndex_neg (by lia) h4] at h1
      rw [List.size_toArray,←hl]
      exact Option.some.inj h1
    exact subscriptTail_builtinR (x:=w) pl.isList.typeIs slot_list_getitem.lookup
      (wpAny_getItem_list_neg (Q:=fun r s'=>r=w∧EP X pins σ Q r s') pl.isList (by lia) (by rw [List.size_toArray]<;>lia) (by lia) (by rw [hj];simpa using ew) ⟨rfl,fin⟩) hs
theorem yO:vq X (By X.K):=by
  intro value slice pins s σ H x y v u Q I rx ry h hs
  obtain⟨p,xs,i,z,rfl,rfl,hq,he,q⟩:=h
  cases rx
  obtain⟨t,rfl⟩:=ry
  obtain⟨its,r,pl,hz⟩:=I.tuple hq
  obtain⟨j,h1,h2,h3,h4,h5⟩:=pV he
  obtain⟨w,ew,rw'⟩:=r.get h2
  have hl:=r.length
  have hn:=pD
  have fin:EP X pins σ Q w s:=⟨z,H,I,rw',q⟩
  exact subscriptTail_builtinR (x:=w) pl.typeIs slot_tuple_getitem.lookup
    (getItem_tuple (j:=j) (Q:=fun r s'=>r=w∧EP X pins σ Q r s') pl (by lia) (by lia) (by rw [List.size_toArray,←hl];exact h1) (by simpa using ew) ⟨rfl,fin⟩) hs
theorem mM(lo hi:Option Int)(n:Nat):(sliceBounds lo hi none n).1=((HT.sIx n 0 lo:Nat):Int)∧(sliceBounds lo hi none n).2.1=((HT.sIx n n hi:Nat):Int)∧(sliceBounds lo hi none n).2.2=1:=by
  refine⟨?_,?_,rfl⟩
  · cases lo with
    | none=>simp [sliceBounds,HT.sIx]
    | some i=>
      simp only [sliceBounds,HT.sIx,Option.getD_none,show(1:Int) > 0 by decide,if_true]
      by_cases h:i < 0
      · simp only [h,if_true]<;>lia
      · simp only [h,if_false]<;>lia
  · cases hi with
    | none=>simp [sliceBounds,HT.sIx]
    | some i=>
      simp only [sliceBounds,HT.sIx,Option.getD_none,show(1:Int) > 0 by decide,if_true]
      by_cases h:i < 0
      · simp only [h,if_true]<;>lia
      · simp only [h,if_false]<;>lia
theorem li(its:List Value)(lo hi:Option Int):slicePick its.toArray lo hi none=((its.drop (HT.sIx its.length 0 lo)).take (HT.sIx its.length its.length hi - HT.sIx its.length 0 lo)).toArray:=by
  obtain⟨h1,h2,h3⟩:=mM lo hi its.toArray.size
  unfold slicePick
  rw [h1,h2,h3]
  simp only [sliceRange_one,pick_run,List.size_toArray]<;>rfl
def Bz(K:PySem.W.Frag):V→Option Int→Option Int→Hp→VK→Prop:=fun x lo hi H Q=>∃a xs,x=.ref a∧fH K H a xs∧∀p,H p=none→Q (.ref p) (aS H p (.lst (k' xs lo hi)))
theorem xf:vw X (Bz X.K):=by
  intro pins s σ H x v vl vu lo hi sl Q I rx hs pl pu h
  obtain⟨a,xs,rfl,hx,q⟩:=h
  cases rx
  obtain⟨its,r,ht,hz⟩:=I.list hx
  have hlen:=r.length
  refine⟨"list",_,slot_list_getitem.lookup,ht.isList.typeIs,?_⟩
  refine wpAny_getItem_list_slice ht.isList hs pl pu .none (by simp) ?_ (by rw [List.size_toArray]<;>lia)
  rw [li,←hlen]
  refine⟨.ref s.heap.objs.size,_,I.laid (t':=s.toks) (o:=.lst (k' xs lo hi)) (fun b ob q=>Heap.get?_push_of_some _ q) (Nat.le_refl _) ?_,rfl,q _ (I.hok.fresh (Nat.le_refl _))⟩
  exact⟨Nat.le_trans (jq xs lo hi) hz,_,0,(r.drop (HT.sIx xs.length 0 lo)).take (HT.sIx xs.length xs.length hi - HT.sIx xs.length 0 lo),Heap.get?_push_size _ rfl⟩
theorem md:cD X (.builtin "len") (fun xs H Q=>∃p ys,xs=[.ref p]∧(fH X.K H p ys∨bK X.K H p ys)∧Q (.int ys.length) H):=by
  intro pins s σ H xs us Q I r h
  obtain⟨p,ys,rfl,hq,q⟩:=h
  obtain⟨u,rfl,rx⟩:=oC r
  cases rx
  have hn:=pD
  rcases hq with hq | hq
  · obtain⟨its,r',pl,hz⟩:=I.list hq
    have hlen:=r'.length
    exact Calls.call_len_list pl.isList (by simp only [List.size_toArray]<;>lia) ⟨.int ys.length,H,I.tok _,⟨s.toks+1,by rw [List.size_toArray,hlen]⟩,q⟩
  · obtain⟨its,r',pl,hz⟩:=I.tuple hq
    have hlen:=r'.length
    exact len_tuple pl (by simp only [List.size_toArray]<;>lia) ⟨.int ys.length,H,I.tok _,⟨s.toks+1,by rw [List.size_toArray,hlen]⟩,q⟩
theorem k_:cD X (.type "tuple") (fun xs H Q=>∃p ys,xs=[.ref p]∧((fH X.K H p ys∧∀l,H l=none→Q (.ref l) (aS H l (.tup ys)))∨(bK X.K H p ys∧Q (.ref p) H))):=by
  intro pins s σ H xs us Q I r h
  obtain⟨p,ys,rfl,h⟩:=h
  obtain⟨u,rfl,rx⟩:=oC r
  cases rx
  rcases h with ⟨hq,q⟩ | ⟨hq,q⟩
  · obtain⟨its,r',pl,hz⟩:=I.list hq
    have hlen:=r'.length
    refine call_tuple_list pl.isList (fun h' kp=>?_) (by simp only [List.size_toArray]<;>lia)
    have I1:aq X pins σ H {s with heap:=h'}:=I.kept (t':=s.toks) kp
    have I2:aq X pins σ (aS H h'.objs.size (.tup ys)) {s with heap:=h'.push {cls:=.type "tuple",data:=.seq its.toArray}}:=
      I1.laid (t':=s.toks) (fun b o e=>Heap.get?_push_of_some _ e) (Nat.le_refl _) (show el X.prog X.w _ _ _ (.tup ys) from⟨hz,its,r',jB.new _ _⟩)
    exact⟨.ref h'.objs.size,_,I2,rfl,q _ (I1.hok.fresh (Nat.le_refl _))⟩
  · obtain⟨its,r',pl,hz⟩:=I.tuple hq
    exact call_tuple_same pl ⟨.ref p,H,I,rfl,q⟩
def Dg(K:PySem.W.Frag)(T:String)(x:V)(H:Hp):Prop:=match x with
  | .str _=>T="str"
  | .int _=>T="int"
  | .ref p=>(T="list"∧∃xs,fH K H p xs)∨(T="tuple"∧∃o,K.lookup p=some o∧o.cls=.type "tuple"∧o.dict=none)∨
      (T="dict"∧((∃kvs,H p=some (.dK kvs))∨∃kvs,H p=some (.dT kvs)))∨(T="set"∧∃S n,H p=some (.set S n))
  | _=>False
theorem Ad{pins:List (Addr × Obj)}{σ:St}{H:Hp}{s:Shared}{T:String}{x:V}{v:Value}(I:aq X pins σ H s)(r:bg x v)(ty:Dg X.K T x H):
    s.TypeIs v T∧∀a,v=.ref a→∃ob,s.heap.get? a=some ob∧ob.dict=none:=by
  cases x with
  | str z=>
    obtain⟨t,rfl⟩:=r
    cases (show T="str" from ty)
    exact⟨typeIs_str s z t,fun _ e=>nomatch e⟩
  | int i=>
    obtain⟨t,rfl⟩:=r
    cases (show T="int" from ty)
    exact⟨typeIs_int s i t,fun _ e=>nomatch e⟩
  | ref p=>
    cases r
    rcases ty with ⟨rfl,xs,hq⟩ | ⟨rfl,o,hk,hc,hd⟩ | ⟨rfl,hk⟩ | ⟨rfl,S,n,hk⟩
    · obtain⟨its,_,pl,_⟩:=I.list hq
      refine⟨pl.isList.typeIs,fun a e=>?_⟩
      cases e
      obtain⟨o,n,e,c,hd,_⟩:=pl
      exact⟨o,e,hd⟩
    · refine⟨⟨o,I.kIn p o hk,hc⟩,fun a e=>?_⟩
      cases e
      exact⟨o,I.kIn _ o hk,hd⟩
    · have z:∃o,s.heap.get? p=some o∧o.ExactDict:=by
        rcases hk with ⟨kvs,hk⟩ | ⟨kvs,hk⟩
        · obtain⟨_,_,_,_,o,_,_,e,ex,_⟩:=I.hok p _ hk
          exact⟨o,e,ex⟩
        · obtain⟨_,_,_,_,o,_,_,e,ex,_⟩:=I.hok p _ hk
          exact⟨o,e,ex⟩
      obtain⟨o,e,ex⟩:=z
      refine⟨⟨o,e,ex.1⟩,fun a e2=>?_⟩
      cases e2
      exact⟨o,e,ex.2.1⟩
    · obtain⟨o,_,_,_,e,ex,_⟩:=I.hok p _ hk
      refine⟨⟨o,e,ex.1⟩,fun a e2=>?_⟩
      cases e2
      exact⟨o,e,ex.2.1⟩
  | _=>exact False.elim ty
def De(K:PySem.W.Frag)(T:String)(r:V→List V→Hp→VK→Prop)(to:TE)(t:TA):TE:=fun σ H Q=>to σ H fun x H1=>Dg K T x H1∧t σ H1 fun xs H2=>r x xs H2 Q
variable{o e:Expr}{es:List Expr}{to:TE}{t:TA}{name:Str}{apos cpos:Pos}{T id:String}{r:V→List V→Hp→VK→Prop}
theorem Bi(pa:PlainAttrs T)(slot:Slot T name id)(hty:typeOf (.builtin id)=pure (.type "method_descriptor"))(hm:C4 X id r)(ho:PE X o to)(ha:PA X (e::es) t)
    (hbase:attributeBase o name X.env (eval o X.env)=eval o X.env:=by rfl)
    (hfew:((backTo cpos (starEach (e::es) X.env)).all (fun x=> !x.1)&&(backToKw cpos (keywordEach [] X.env)).all (fun x=>x.1.isSome)
      &&decide ((e::es).length+([]:List Keyword).length+(if ([]:List Keyword).isEmpty then 0 else 1) < 30))=true:=by rfl)
    (hline:(apos.endLine==cpos.line)=true:=by rfl)(hs:starEach (e::es) X.env=(false,eval e X.env)::starEach es X.env:=by rfl)(hplain:(backTo cpos (starEach es X.env)).any (·.1)=false:=by rfl):
    PE X (.Call (.Attribute o name apos) (e::es) [] cpos) (De X.K T r to t):=by
  intro pins s σ H Q I h
  refine wpAny_Call_method_late hbase hfew hline rfl (cy (ho pins s σ H _ I h) fun v s1 ⟨x,H1,I1,r1,ty,q1⟩=>?_)
  obtain⟨h1,h2⟩:=Ad I1 r1 ty
  refine⟨T,id,pa,slot,hty,h1,h2,?_⟩
  have hA:=ha cpos pins s1 σ H1 _ I1 q1
  rw [hs] at hA ⊢
  refine Calls.callWith_builtin (by show(false || (backTo cpos (starEach es X.env)).any (·.1))=false;rw [hplain]<;>rfl) (Calls.evalArgs_plain ?_)
  exact cy hA fun us s2 ⟨vs,H2,I2,r2,q2⟩=>hm pins s2 σ H2 x vs v us Q I2 r1 r2 q2
end
end L2
namespace L2
open PySem PySem.Spec PyProof.Rows
def Cj(X:Cx)(id:String)(r:V→List V→Hp→VK→Prop):Prop:=
  ∀(pins:List (Addr × Obj)) (s:Shared) (σ:St) (H:Hp) (x:V) (xs:List V) (v:Value) (us:List Value) (Q:VK),aq X pins σ H s→bg x v→aD xs us→r x xs H Q→
    wpAny (model X.prog X.w) X.A (call (.builtin id) (v::us)) (EP X pins σ Q) X.xe s
theorem aD.one:∀{x:V} {us:List Value},aD [x] us→∃u,us=[u]∧bg x u
  | _,_,.cons r .nil=>⟨_,rfl,r⟩
theorem aD.eraseIdx:∀{xs:List V} {us:List Value} (i:Nat),aD xs us→aD (xs.eraseIdx i) (us.eraseIdx i)
  | _,_,_,.nil=>.nil
  | _,_,0,.cons _ t=>t
  | _,_,i+1,.cons r t=>.cons r (aD.eraseIdx i t)
theorem aD.rep{xs:List V}{us:List Value}(h:aD xs us):∀k:Nat,aD (List.replicate k xs).flatten (List.replicate k us).flatten
  | 0=>.nil
  | k+1=>by
    rw [List.replicate_succ,List.replicate_succ,List.flatten_cons,List.flatten_cons]
    exact aD.append h (aD.rep h k)
theorem lL{α:Type}:∀(l:List α) (i:Nat),(l.eraseIdx i).length≤l.length
  | [],_=>Nat.le_refl _
  | _::_,0=>Nat.le_succ _
  | _::r,i+1=>Nat.succ_le_succ (lL r i)
theorem lE(its:List Value):∀(k:Nat) (acc:List Value),
    List.foldl (fun x1 x2=>x1++x2) acc.toArray (List.replicate k its.toArray)=(acc++(List.replicate k its).flatten).toArray
  | 0,acc=>by simp
  | k+1,acc=>by
    have e:acc.toArray++its.toArray=(acc++its).toArray:=by simp
    have e2:(acc++its)++(List.replicate k its).flatten=acc++(List.replicate (k+1) its).flatten:=by
      rw [List.replicate_succ,List.flatten_cons,List.append_assoc]
    rw [←e2,←lE its k (acc++its),←e,List.replicate_succ,List.foldl_cons]
section
variable{X:Cx}{pins:List (Addr × Obj)}{σ:St}{H:Hp}{s:Shared}{l b:Addr}{xs ys zs:List V}
theorem aq.lset{its its':List Value}{n:Nat}{f:Array Value→Array Value}{t':Nat}(I:aq X pins σ H s)(hH:H l=some (.lst xs))
    (e:s.heap.get? l=some {cls:=.type "list",data:=.seq its.toArray n})(hf:f its.toArray=its'.toArray)(hv:aD ys its')(hz:ys.length≤sizeLine):
    aq X pins σ (aS H l (.lst ys)) {s with heap:=s.heap.update l (Obj.mapSeq f),toks:=t'}:=by
  have q:=PySem.IsL.update e f
  rw [hf] at q
  refine I.write (x:=l) (e:=l) (by rw [hH];exact trivial) (.inl rfl) (fun b' u hb hu=>(Heap.get?_update_other s.heap (Obj.mapSeq f) (Ne.symm hb)).trans hu) ⟨_,q⟩ ?_
  exact⟨hz,its',_,hv,q⟩
theorem aq.lnew{its:List Value}{t':Nat}(I:aq X pins σ H s)(hv:aD ys its)(hz:ys.length≤sizeLine):
    aq X pins σ (aS H s.heap.objs.size (.lst ys)) {s with heap:=s.heap.push {cls:=.type "list",data:=.seq its.toArray},toks:=t'}:=
  I.laid (fun _ _ q=>Heap.get?_push_of_some _ q) (Nat.le_refl _) ⟨hz,its,0,hv,Heap.get?_push_size _ rfl⟩
theorem aq.fresh(I:aq X pins σ H s):H s.heap.objs.size=none:=I.hok.fresh (Nat.le_refl _)
theorem aq.lstM(I:aq X pins σ H s)(hH:H l=some (.lst xs)):xs.length≤sizeLine∧∃(its:List Value) (n:Nat),aD xs its∧xs.length=its.length∧s.heap.get? l=some {cls:=.type "list",data:=.seq its.toArray n}:=by
  obtain⟨z,its,n,r,e⟩:=I.hok l _ hH
  exact⟨z,its,n,r,r.length,e⟩
theorem tO{n:Nat}(h:n≤sizeLine):Builtin.List.listTooLong n=false:=by
  unfold Builtin.List.listTooLong
  exact decide_eq_false (by lia)
end
section
variable{X:Cx}
def ql:V→List V→Hp→VK→Prop:=fun x vs H Q=>∃l xs y,x=.ref l∧vs=[y]∧H l=some (.lst xs)∧xs.length < sizeLine∧Q .non (aS H l (.lst (xs++[y])))
theorem i9:Cj X "list.append" ql:=by
  intro pins s σ H x vs v us Q I rx rv h
  obtain⟨l,xs,y,rfl,rfl,hH,hz,q⟩:=h
  cases rx
  obtain⟨u,rfl,ru⟩:=rv.one
  obtain⟨z,its,n,r,hl,e⟩:=I.lstM hH
  refine call_meets F.slot_list_append ⟨_,e,rfl⟩ F.entry_list_append (F.args_list_append_2 _ _) (PySem.list_append l its.toArray n u (by rw [List.size_toArray];lia)) ⟨e,?_⟩
  refine⟨.non,_,I.lset (its':=its++[u]) hH e (by simp) (r.append (.cons ru .nil)) ?_,rfl,q⟩
  rw [List.length_append,List.length_singleton]
  lia
def ut:V→List V→Hp→VK→Prop:=fun x vs H Q=>∃l xs i k y,x=.ref l∧vs=[.int i]∧H l=some (.lst xs)∧ -(2 ^ 63)≤i∧i < 2 ^ 63∧seqIndex? i xs.length=some k∧xs[k]?=some y∧Q y (aS H l (.lst (xs.eraseIdx k)))
theorem tJ:Cj X "list.pop" ut:=by
  intro pins s σ H x vs v us Q I rx rv h
  obtain⟨l,xs,i,k,y,rfl,rfl,hH,h1,h2,hk,hy,q⟩:=h
  cases rx
  obtain⟨u,rfl,ru⟩:=rv.one
  obtain⟨t,rfl⟩:=ru
  obtain⟨z,its,n,r,hl,e⟩:=I.lstM hH
  obtain⟨w,hw,rw'⟩:=r.get hy
  refine call_meets F.slot_list_pop ⟨_,e,rfl⟩ F.entry_list_pop (F.args_list_pop_2 _ _)
    (MeetsSeq.list_pop_at l its.toArray n i t k w (fitsIndex_both h1 h2) (by rw [List.size_toArray,←hl];exact hk) (by rw [←Array.getElem?_toList];exact hw) (by rw [List.size_toArray];lia)) ⟨e,?_⟩
  refine⟨y,_,I.lset (its':=its.eraseIdx k) hH e ?_ (r.eraseIdx k) ?_,rw',q⟩
  · show its.toArray.eraseIdxIfInBounds k=(its.eraseIdx k).toArray
    rw [List.eraseIdxIfInBounds_toArray]
  · have:=lL xs k
    lia
def zN:R2:=fun x y H Q=>∃l b xs zs,x=.ref l∧y=.ref b∧H l=some (.lst xs)∧H b=some (.lst zs)∧xs.length+zs.length≤sizeLine∧∀p,H p=none→Q (.ref p) (aS H p (.lst (xs++zs)))
theorem za:fP X (binaryOp .Add) zN:=by
  intro pins s σ H x y v u Q I rx ry h
  obtain⟨l,b,xs,zs,rfl,rfl,hH,hB,hz,q⟩:=h
  cases rx
  cases ry
  obtain⟨z,its,n,r,hl,e⟩:=I.lstM hH
  obtain⟨z2,its2,n2,r2,hl2,e2⟩:=I.lstM hB
  refine PySem.P.add_list e e2 ?_ (by rw [List.size_toArray,List.size_toArray];lia)
  have ea:its.toArray++its2.toArray=(its++its2).toArray:=by simp
  rw [ea]
  exact⟨.ref _,_,I.lnew (t':=s.toks) (r.append r2) (by rw [List.length_append];lia),rfl,q _ I.fresh⟩
def zP:R2:=fun x y H Q=>∃l k xs,x=.ref l∧y=.int k∧H l=some (.lst xs)∧ -(2 ^ 63)≤k∧k < 2 ^ 63∧xs.length*k.toNat≤sizeLine∧
  ∀p,H p=none→Q (.ref p) (aS H p (.lst (List.replicate k.toNat xs).flatten))
theorem vS{α:Type}(xs:List α)(k:Nat):(List.replicate k xs).flatten.length=k*xs.length:=by
  induction k with
  | zero=>simp
  | succ k ih=>rw [List.replicate_succ,List.flatten_cons,List.length_append,ih,Nat.succ_mul,Nat.add_comm]
theorem zi:fP X (binaryOp .Mult) zP:=by
  intro pins s σ H x y v u Q I rx ry h
  obtain⟨l,k,xs,rfl,rfl,hH,h1,h2,hz,q⟩:=h
  cases rx
  obtain⟨t,rfl⟩:=ry
  obtain⟨z,its,n,r,hl,e⟩:=I.lstM hH
  have hlen:its.toArray.size*k.toNat≤sizeLine:=by rw [List.size_toArray,←hl];exact hz
  have hcap:¬its.toArray.size*k.toNat > (2 ^ 63 - 1) / 8:=by
    have:(sizeLine:Nat)≤(2 ^ 63 - 1) / 8:=by decide
    lia
  have hfit:¬(!Builtin.List.listFitsIndex k)=true:=by
    rw [fitsIndex_both h1 h2]
    exact Bool.false_ne_true
  have hlong:¬Builtin.List.listTooLong (its.toArray.size*k.toNat)=true:=by
    rw [tO hlen]
    exact Bool.false_ne_true
  have hnew:List.foldl (fun x1 x2=>x1++x2) #[] (List.replicate (if its.toArray.isEmpty=true then 0 else k.toNat) its.toArray)=(List.replicate k.toNat its).flatten.toArray:=by
    have f0:∀m:Nat,List.foldl (fun x1 x2=>x1++x2) #[] (List.replicate m its.toArray)=(List.replicate m its).flatten.toArray:=fun m=>by
      have:=lE its m []
      rw [List.nil_append] at this
      exact this
    rw [f0]
    cases its with
    | nil=>simp
    | cons a r'=>rw [if_neg (by simp)]
  refine wpAny_binaryOp_repeat_ref (T:="list") (U:="int") (by decide) ⟨_,e,rfl⟩ (fun s'=>typeIs_int s' k t) noFill_list_mul F.fills_int_mul F.slot_int_rmul repeat_list F.slot_int_index.lookup
    (call_meets F.slot_int_rmul (typeIs_int s k t) F.entry_int_rmul (F.args_int_rmul_2 _ _) (int___rmul___int_list k t l its.toArray n)
      ⟨e,rfl,⟨_,e,rfl⟩,call_meets F.slot_list_mul ⟨_,e,rfl⟩ F.entry_list_mul (F.args_list_mul_2 _ _) (AutoListH.list___mul___list_int_3 l its.toArray n k t hfit hcap hlong) ⟨e,?_⟩⟩)
  rw [hnew]
  exact⟨.ref _,_,I.lnew (t':=s.toks) (r.rep k.toNat) (by rw [vS,Nat.mul_comm];exact hz),rfl,q _ I.fresh⟩
end
section
variable{prog:Program}{w:World}{A:Around}{E:Value→Shared→Prop}{s:Shared}
end
section
variable{X:Cx}
end
end L2
namespace Att
open PySem PySem.W PySem.Calls PyProof.Rows
theorem jD{P:Params}{h:Heap}:∀(ns:List Int) (vs:List Value),WellAll P h vs (ns.map WData.int)→IntsAre vs ns:=by
  intro ns
  induction ns with
  | nil=>
    intro vs w
    rw [List.map_nil] at w
    cases w
    exact .nil
  | cons n ns ih=>
    intro vs w
    rw [List.map_cons] at w
    cases w with
    | cons a b=>
      cases a
      exact .cons _ _ (ih _ b)
theorem rA{l:OpenLaw}{n:Nat}(hn:l.most=some n){P:Params}{h:Heap}{args:List WData}{vals:List Value}
    (hpre:l.row.toRowW.claim.pre args=true)(hwl:WellAll P h vals args):
    ∃a vs ns,vals=[Value.ref a]∧args=[WData.list (ns.map WData.int)]∧h.get? a=some {cls:=.type "list",data:=.seq vs.toArray}∧IntsAre vs ns∧ns.length≤n:=by
  have hsh:WShape.hasAll [] args [.list .int]=true:=(pre_splitW hpre).1
  have hc:l.pre.holds [] {args:=args}=true:=(pre_splitW hpre).2
  obtain⟨d,r,rfl,h1,h2⟩:=hasAllW_cons hsh
  obtain rfl:=hasAllW_nil h2
  obtain⟨xs,rfl,h3⟩:=hasW_list h1
  obtain⟨ns,rfl⟩:=items_int h3
  have hlen:ns.length≤n:=by
    unfold OpenLaw.pre at hc
    have h4:(WTm.not (.lt (.lit (.int (n:Int))) (.len (.arg 0)))).holds [] {args:=[.list (ns.map .int)]}=true:=by
      have h4:=(holds_andW hc).1
      rw [hn] at h4
      exact h4
    have h5:=condW_of h4 (w_not (w_lt w_lit (w_len_list (w_arg rfl))))
    rw [List.length_map] at h5
    refine Nat.le_of_not_lt fun q=>?_
    have q':(n:Int) < ((ns.length:Nat):Int):=by lia
    first
      | (rw [decide_eq_true q'] at h5;exact absurd h5 (by decide))
      | (simp at h5;lia)
  cases hwl with
  | cons w1 w2=>
    cases w2
    cases w1 with
    | list ho hall=>exact⟨_,_,ns,rfl,rfl,ho,jD ns _ hall,hlen⟩
theorem rk(l:OpenLaw)(args:List WData):l.row.toRowW.claim.post args (.bool true) args=true:=
  postW_of (r:=l.row.toRowW) (X:=(true==true))
    (show WShape.has [] (.bool true) .bool=true by first | rfl | decide | simp [WShape.has,WShape.arms,WShape.armsAll])
    (show(WTm.eq .res (.lit (.bool true))).value [] {args:=args,res:=some (.bool true),after:=args}=some (.bool (true==true)) from w_eq_bool (w_res rfl) w_lit) rfl
theorem attach_call{l:OpenLaw}{n:Nat}{q:Program}{loose:List Str}{XP:(Str→Option Value)→Heap→Prop}{YP:World→Heap→Prop}{d:DefRec}
    (hn:l.most=some n)(hdf:d.params.defaults=[])
    (call:∀(w:World) (s₀ s₁:Shared) (mg mb:Str→Option Value) (fa:Addr) (o:Obj) (pm cd doc:Value) (a:Addr) (vs:List Value) (ns:List Int),
      Ground q loose [] XP w s₀ mg mb s₁.heap→YP w s₁.heap→
      s₁.heap.get? fa=some o→o.data=.func (docDef d.name d.params d.body d.scope pm cd doc)→s₁.heap.CodeRec cd d.name→mg d.name=some (.ref fa)→
      s₁.heap.get? a=some {cls:=.type "list",data:=.seq vs.toArray}→IntsAre vs ns→ns.length≤n→s₁.gens=#[]→
      codeAny (model l.prog w) callerA (.call (.ref fa) ⟨[.ref a],[]⟩) (fun r s'=>r=.ok (.ret (.bool true))∧OldK s₁.heap s'.heap∧s'.os=s₁.os∧AllBare s'.gens) s₁):
    WalkO q loose XP YP l.row.toRowW d [] (fun f vs=>PySem.call f vs):=by
  intro w s₀ s₁ mg mb G Y fa o pm cd doc dV kV ho hd hcd hD hmg hg args vals as hpre hlay hrd hwl hlo
  obtain rfl:dV=.none:=Dflts.none hD hdf
  obtain rfl:kV=.none:=Dflts.noKw hD
  obtain⟨a,vs,ns,rfl,rfl,hobj,hints,hlen⟩:=rA hn hpre hwl
  refine enter_call (codeAny_mono (call w s₀ s₁ mg mb fa o pm cd doc a vs ns G Y ho (fd_plain hd) hcd hmg hobj hints hlen hg) fun r s' hq=>?_)
  obtain⟨rfl,h2,h3,h4⟩:=hq
  exact⟨.inl ⟨.bool true,.bool true,[],rfl,fun _=>rfl,.bool true,rk l _,fun _=>⟨List.Pairwise.nil,fun _ hm=>(nomatch hm)⟩⟩,h2,h3,h4⟩
section
variable{prog:Program}{w:World}{A:Around}{E:Value→Shared→Prop}{s:Shared}{K:Frag}
end
end Att
namespace L2
open PySem PySem.Spec PyProof.Rows
theorem gM:∀{vs:List Value} {ns:List Int},IntsAre vs ns→aD (ns.map V.int) vs
  | _,_,.nil=>.nil
  | _,_,.cons n t h=>.cons ⟨t,rfl⟩ (gM h)
def yx(H:Hp):Prop:=∀b,H b=none∨∃o xs,H b=some (.frz o (.lst xs))
theorem ti{P:Program}{w:World}{K:PySem.W.Frag}{mg mb:Str→Option Value}{CX:qH}{k:Nat}{fa a:Addr}{fd:FuncData}{x:Str}{sp:Sp}{s₁:Shared}{vs:List Value}{ns:List Int}
    (KX:K.In s₁.heap)(hns:s₁.heap.Ns mainGlobals mg)(hb:s₁.heap.Ns builtinsNs mb)(hbb:∀x:Str,x≠"__name__"→mb x=bootBuiltins x)(hlim:s₁.heap.NoLimit)(hg:s₁.gens=#[])
    (ha:s₁.heap.get? a=some {cls:=.type "list",data:=.seq vs.toArray})(hi:IntsAre vs ns)(hl:ns.length≤sizeLine)(hr:cP k callerA)
    (F:∀base:Heap,K.In base→base.Ns mainGlobals mg→aJ P w K mg base CX k fa fd [x] sp)(hbind:∀(s:Shared) (u:Value),BindsTo s fd ⟨[u],[]⟩ [(x,u)])
    (hsp:∀H:Hp,yx H→fH K H a (ns.map V.int)→sp [.ref a] H (fun v _=>v=.bl true) fun _ _ _=>False)
    (hCX:∀H e s',CX [] H s₁ (fun _ _ _=>False) e s'→False):
    codeAny (model P w) callerA (.call (.ref fa) ⟨[.ref a],[]⟩) (fun r s'=>r=.ok (.ret (.bool true))∧OldK s₁.heap s'.heap∧s'.os=s₁.os∧AllBare s'.gens) s₁:=by
  have rv:=gM hi
  have lenV:=hi.length
  have core:∀H:Hp,yx H→fH K H a (ns.map V.int)→jU P w H s₁.heap→(∀b,H b≠none→b=a)→(H a≠none→K.lookup a=none)→
      codeAny (model P w) callerA (.call (.ref fa) ⟨[.ref a],[]⟩) (fun r s'=>r=.ok (.ret (.bool true))∧OldK s₁.heap s'.heap∧s'.os=s₁.os∧AllBare s'.gens) s₁:=by
    intro H hO hS hok hA hK
    have base_of:∀{b:Addr} {o:Obj},s₁.heap.get? b=some o→H b=none→(ms s₁.heap H).get? b=some o:=fun e n=>sW e n
    have noA:∀{b:Addr} {o:Obj} {es:Array DictEntry} {ep:Nat},s₁.heap.get? b=some o→o.data=.dict es ep→H b=none:=fun{b o es ep} e d=>by
      cases q:H b with
      | none=>rfl
      | some u=>
        have e':b=a:=hA b (by rw [q];simp)
        subst e'
        rw [ha] at e;cases e
        have d':Data.seq vs.toArray _=Data.dict es ep:=d
        cases d'
    have nsK:∀{b:Addr} {m:Str→Option Value},s₁.heap.Ns b m→(ms s₁.heap H).Ns b m:=fun{b m} ⟨o,es,ep,e,d,r⟩=>⟨o,es,ep,base_of e (noA e d),d,r⟩
    have hKb:K.In (ms s₁.heap H):=fun b o e=>base_of (KX b o e) (by
      cases q:H b with
      | none=>rfl
      | some u=>
        have e':b=a:=hA b (by rw [q];simp)
        subst e'
        rw [hK (by rw [q];simp)] at e;cases e)
    have hM:Mod K mg (ms s₁.heap H):=⟨hKb,nsK hns,⟨mb,nsK hb,hbb⟩,let ⟨mc,h1,h2⟩:=hlim;⟨mc,nsK h1,h2⟩⟩
    have e0:vp P w K mg (ms s₁.heap H) callerA [] s₁ H:=⟨rfl,hM,fun b o e=>vX e,Nat.le_of_eq (qV _ _),trivial,fun b hb=>absurd (show b∈([]:List Addr) from hb) (by simp),hok,.of_eq hg⟩
    refine codeAny_mono ((F _ hKb (nsK hns)).run callerA [] s₁ H ⟨[.ref a],[]⟩ [.ref a] [.ref a] _ _ hr e0 (hbind s₁ (.ref a)) (.cons rfl .nil) (hsp H hO hS)) fun r s' h=>?_
    cases r with
    | error e=>exact(hCX H e s' h).elim
    | ok fl=>
      cases fl with
      | next=>exact False.elim h
      | brk=>exact False.elim h
      | cont=>exact False.elim h
      | ret u=>
        obtain⟨v,H',os,bare,un,hok',r',q⟩:=h
        have q':v=.bl true:=q
        subst q'
        obtain rfl:u=Value.bool true:=r'
        refine⟨rfl,OldK.of_keep fun b o e=>?_,os,bare⟩
        cases q:H b with
        | none=>exact un.keep b o e q (by intro z;exact absurd (show b∈([]:List Addr) from z) (by simp)) (by simp)
        | some u=>
          rcases hO b with z | ⟨ob,xs,z⟩
          · rw [q] at z;cases z
          · have z2:=un.frzs b ob _ z
            obtain⟨e1,_⟩:=hok b _ z
            obtain⟨e2,_⟩:=hok' b _ z2
            rw [e] at e1;cases e1
            exact e2
  cases hk:K.lookup a with
  | some o=>
    have e:=KX a o hk
    rw [ha] at e
    cases e
    refine core (fun _=>none) (fun _=>.inl rfl) (.inr ⟨_,vs.toArray,_,hk,rfl,rfl,rfl,by rw [List.size_toArray,lenV];exact hl,by simpa using rv⟩) (fun b u z=>by have z':(none:Option HO)=some u:=z;cases z') (fun b z=>absurd rfl z) fun z=>absurd rfl z
  | none=>
    refine core (fun b=>if b=a then some (.frz {cls:=.type "list",data:=.seq vs.toArray} (.lst (ns.map V.int))) else none) (fun b=>?_) (.inl (.inr ⟨{cls:=.type "list",data:=.seq vs.toArray},if_pos rfl⟩)) (fun b u z=>?_) (fun b z=>?_) fun _=>hk
    · by_cases hb:b=a
      · exact .inr ⟨_,_,if_pos hb⟩
      · exact .inl (if_neg hb)
    · by_cases hb:b=a
      · have z':=(if_pos hb).symm.trans z
        cases z'
        subst hb
        exact⟨ha,by rw [List.length_map];exact hl,vs,_,rv,ha⟩
      · have z':=(if_neg hb).symm.trans z
        cases z'
    · by_cases hb:b=a
      · exact hb
      · exact absurd (if_neg hb) z
end L2
namespace L2
open PySem PySem.Spec PyProof.Rows
theorem walk_of{l:PySem.W.OpenLaw}{n k:Nat}{q:Program}{loose:List Str}{XP:(Str→Option Value)→Heap→Prop}{YP:World→Heap→Prop}{d:DefRec}{K:Params→PySem.W.Frag}{CX:World→qH}{sp:World→Sp}{x:Str}
    (hn:l.most=some n)(hn2:n≤sizeLine)(hdf:d.params.defaults=[])(hr:cP k callerA)
    (hY:∀(w:World) (h:Heap),YP w h→(K w.params).In h)
    (F:∀(w:World) (mg:Str→Option Value) (fa:Addr) (h:Heap),(K w.params).In h→h.Ns mainGlobals mg→mg d.name=some (.ref fa)→
      ∃fd:FuncData,(∀(s:Shared) (u:Value),BindsTo s fd ⟨[u],[]⟩ [(x,u)])∧
        ∀base:Heap,(K w.params).In base→base.Ns mainGlobals mg→aJ l.prog w (K w.params) mg base (CX w) k fa fd [x] (sp w))
    (hsp:∀(w:World) (H:Hp) (a:Addr) (ns:List Int),ns.length≤n→yx H→fH (K w.params) H a (ns.map V.int)→sp w [.ref a] H (fun v _=>v=.bl true) fun _ _ _=>False)
    (hCX:∀(w:World) (H:Hp) (s:Shared) (e:Value) (s':Shared),CX w [] H s (fun _ _ _=>False) e s'→False):
    PySem.W.WalkO q loose XP YP l.row.toRowW d [] (fun f vs=>PySem.call f vs):=by
  refine Att.attach_call hn hdf fun w s₀ s₁ mg mb fa o pm cd doc a vs ns G Y ho hd hcd hmg hobj hints hlen hg=>?_
  have KX:=hY w _ Y
  obtain⟨fd,hb,hF⟩:=F w mg fa _ KX G.T.g hmg
  exact ti KX G.T.g G.T.b G.T.builtins G.T.nolimit hg hobj hints (Nat.le_trans hlen hn2) hr hF hb (fun H hO hS=>hsp w H a ns hlen hO hS) fun H e s'=>hCX w H s₁ e s'
end L2
namespace L2
open PySem PySem.Spec PyProof.Rows
def cG(s:Stmt):Arguments:=match s with
  | .FunctionDef _ a _ _ _ _ _ _ _ _=>a
  | _=>{posonlyargs:=[],args:=[],vararg:=none,kwonlyargs:=[],kw_defaults:=[],kwarg:=none,defaults:=[]}
def bL(s:Stmt):List Stmt:=match s with
  | .FunctionDef _ _ b _ _ _ _ _ _ _=>b
  | _=>[]
def ah(s:Stmt):Scope:=match s with
  | .FunctionDef _ _ _ _ _ _ sc _ _ _=>sc
  | _=>{kind:=.function,names:=[],isGenerator:=false,isCoroutine:=false}
abbrev cw:qH:=fun _ _ _ _ _ _=>False
abbrev E0:XK:=fun _ _ _=>False
theorem Bg{X:Cx}:oM cw X E0:=fun _ _ _ _ _ _ _ h=>h.elim
structure Ao (K:PySem.W.Frag) (x qual:Str) (st:Stmt) (f:Addr) (fd:FuncData):Prop where
  ex:∃(oc:Value) (od:Option Addr) (kV doc pm:Value) (an:Option Addr) (cdv ct:Value) (osl:Array (Option Value)),
    fd=PySem.W.fnOf x qual (cG st) (bL st) (ah st) .none kV doc pm an cdv ct∧K.lookup f=some ⟨oc,od,.func fd,osl⟩∧PySem.W.codeIn K cdv qual=true
  kp:PySem.W.keepIn K (.ref f)=true
section
variable{P:Program}{w:World}{K:PySem.W.Frag}{mg:Str→Option Value}{base:Heap}
theorem Ao.ok{x qual:Str}{st:Stmt}{f:Addr}{fd:FuncData}{N ps:List Str}{k:Nat}{sp:Sp}(F:Ao K x qual st f fd)(S:aH N ps (ah st))(len:∀vs H Q E,sp vs H Q E→vs.length=ps.length)
    (hbody:∀(cdv:Value) (A:Around) (outer:List Env) (s:Shared) (H:Hp) (vs:List V) (Q:VK) (E:XK),cP k (A.deeper (envOfC qual (ah st) s.heap.objs.size f cdv))→sp vs H Q E→
      ∃t,jC (o8 cw P w K mg base N qual (ah st) f cdv A outer s H E).nox (bL st) t∧t {nx:=fun _ H'=>Q .non H',rt:=Q} (start N vs) H):aJ P w K mg base cw (k+1) f fd ps sp:=by
  obtain⟨oc,od,kV,doc,pm,an,cdv,ct,osl,rfl,lk,hcd⟩:=F.ex
  refine AL lk hcd S len fun A outer s H vs Q E hr hsp=>?_
  obtain⟨t,h,q⟩:=hbody cdv A outer s H vs Q E hr hsp
  exact⟨t,h.nox,q⟩
theorem Ao.binds{x qual:Str}{st:Stmt}{f:Addr}{fd:FuncData}{ps:List Str}(F:Ao K x qual st f fd)
    (h:∀(kV doc pm:Value) (an:Option Addr) (cdv ct:Value) (us:List Value),us.length=ps.length→bindArgs (PySem.W.fnOf x qual (cG st) (bL st) (ah st) .none kV doc pm an cdv ct) ⟨us,[]⟩=pure (ps.zip us)):lm K fd ps []:=by
  obtain⟨oc,od,kV,doc,pm,an,cdv,ct,osl,rfl,lk,hcd⟩:=F.ex
  exact .all (h kV doc pm an cdv ct)
theorem su{x qual:Str}{st:Stmt}{f:Addr}{oc:Value}{od an:Option Addr}{osl:Array (Option Value)}{kV doc pm cdv ct:Value}(l:K.lookup f=some ⟨oc,od,.func (PySem.W.fnOf x qual (cG st) (bL st) (ah st) .none kV doc pm an cdv ct),osl⟩)
    (c:PySem.W.codeIn K cdv qual=true)(k:PySem.W.keepIn K (.ref f)=true):Ao K x qual st f (PySem.W.fnOf x qual (cG st) (bL st) (ah st) .none kV doc pm an cdv ct):=⟨⟨oc,od,kV,doc,pm,an,cdv,ct,osl,rfl,l,c⟩,k⟩
end
theorem lW{n:Nat}(h:n≤1000):n < sizeLine:=Nat.lt_of_le_of_lt h (by decide)
section
variable{X:Cx}
end
theorem AW{A B:Prop}(h:B):if false=true then A else B:=by
  rw [if_neg Bool.false_ne_true]
  exact h
theorem AX{A B:Prop}(h:A):if true=true then A else B:=by
  rw [if_pos rfl]
  exact h
def ao(H H':Hp):Prop:=∀b o,H b=some o→H' b=some o
theorem ao.refl(H:Hp):ao H H:=fun _ _ h=>h
theorem ao.trans{H H1 H2:Hp}(a:ao H H1)(b:ao H1 H2):ao H H2:=fun c o h=>b c o (a c o h)
theorem ao.free{H H':Hp}(e:ao H H'){l:Addr}(h:H' l=Option.none):H l=Option.none:=by
  cases q:H l with
  | none=>rfl
  | some o=>
    rw [e l o q] at h
    cases h
theorem ao.seq{K:PySem.W.Frag}{H H':Hp}{a:Addr}{xs:List V}(e:ao H H')(h:fH K H a xs):fH K H' a xs:=by
  rcases h with (h | ⟨o,h⟩) | h
  · exact .inl (.inl (e _ _ h))
  · exact .inl (.inr ⟨o,e _ _ h⟩)
  · exact .inr h
end L2
set_option maxHeartbeats 4000000
namespace L2
open PySem PySem.Spec PyProof.Rows
def Bt(n:Nat)(i:Int):Prop:=i.natAbs < 2 ^ n
theorem Bt.mono{m n:Nat}{i:Int}(h:Bt m i)(hm:m≤n):Bt n i:=Nat.lt_of_lt_of_le h (Nat.pow_le_pow_right (by decide) hm)
theorem Bt.mul{m n:Nat}{i j:Int}(h:Bt m i)(h':Bt n j):Bt (m+n) (i*j):=by
  unfold Bt at*
  rw [Int.natAbs_mul,Nat.pow_add]
  exact Nat.mul_lt_mul'' h h'
theorem Bt.log{m:Nat}{i:Int}(h:Bt m i)(hm:0 < m):i.natAbs.log2 < m:=by
  unfold Bt at h
  rcases Nat.eq_zero_or_pos i.natAbs with h0 | hp
  · rw [h0];exact hm
  · exact(Nat.log2_lt (by lia)).mpr h
theorem Bt.bits{m:Nat}{i:Int}(h:Bt m i)(hm:0 < m):Builtin.Int.intBits i≤m:=by
  unfold Builtin.Int.intBits
  split
  · exact Nat.zero_le _
  · exact h.log hm
theorem Bt.of_le{m:Nat}{i:Int}{j:Int}(h:Bt m j)(e:i.natAbs≤j.natAbs):Bt m i:=Nat.lt_of_le_of_lt e h
section
variable{X:Cx}
def xG(i j:Int):Prop:=Bt 4000 i∧Bt 4000 j
theorem wk:fP X (binaryOp .Mult) (rI xG fun i j=>.int (i*j)):=Bb fun _ _ _ _ _ _ _ hc q=>
  mul_int q (.of_bits (Nat.le_trans (hc.1.bits (by decide)) (by decide)) (Nat.le_trans (hc.2.bits (by decide)) (by decide)))
def xF(i j:Int):Prop:=j≠0∧Bt 8000 j
theorem tV:fP X (binaryOp .FloorDiv) (rI xF fun i j=>.int (i.fdiv j)):=Bb fun _ _ _ _ _ _ _ hc q=>
  floordiv_int hc.1 q (.inl (PyProof.noPylong_of_log2 (Nat.lt_trans (hc.2.log (by decide)) (by decide))))
end
def jl(H H':Hp):Prop:=∀a o,H a=some o→(∀xs,o≠.lst xs)→(∀ob xs,o≠.frz ob (.lst xs))→H' a=some o
theorem jl.trans{H H1 H2:Hp}(a:jl H H1)(b:jl H1 H2):jl H H2:=fun c o h n m=>b c o (a c o h n m) n m
theorem ao.ts{H H':Hp}(h:ao H H'):jl H H':=fun a o e _ _=>h a o e
theorem jl.tup{K:PySem.W.Frag}{H H':Hp}(h:jl H H'){a:Addr}{xs:List V}(q:bK K H a xs):bK K H' a xs:=by
  rcases q with (q | ⟨o,q⟩) | q
  · exact .inl (.inl (h _ _ q (fun _ e=>nomatch e) (fun _ _ e=>nomatch e)))
  · exact .inl (.inr ⟨o,h _ _ q (fun _ e=>nomatch e) (fun _ _ e=>nomatch e)⟩)
  · exact .inr q
section
variable{X:Cx}
end
end L2
namespace L2
open PySem PySem.Spec PyProof.Rows
structure bj (K:PySem.W.Frag) (mg:Str→Option Value) (x:Str) (st:Stmt) (f:Addr) (fd:FuncData) (ps:List Str):Prop where
  F:Ao K x x st f fd
  m:mg x=some (.ref f)
  b:lm K fd ps []
theorem yM{K:PySem.W.Frag}{mg:Str→Option Value}{h:Heap}{x:Str}{st:Stmt}{f:Addr}{ps:List Str}{oc:Value}{od an:Option Addr}{osl:Array (Option Value)}{kV doc pm cdv ct:Value}(X:K.In h)(G:h.Ns mainGlobals mg)(a:PySem.W.nsIn K mainGlobals x=some (some (.ref f)))
    (l:K.lookup f=some ⟨oc,od,.func (PySem.W.fnOf x x (cG st) (bL st) (ah st) .none kV doc pm an cdv ct),osl⟩)(c:PySem.W.codeIn K cdv x=true)(k:PySem.W.keepIn K (.ref f)=true)
    (hb:∀(kV doc pm:Value) (an:Option Addr) (cdv ct:Value) (us:List Value),us.length=ps.length→bindArgs (PySem.W.fnOf x x (cG st) (bL st) (ah st) .none kV doc pm an cdv ct) ⟨us,[]⟩=pure (ps.zip us)):
    bj K mg x st f (PySem.W.fnOf x x (cG st) (bL st) (ah st) .none kV doc pm an cdv ct) ps:=⟨su l c k,PySem.W.mg_of X G a,(su l c k).binds hb⟩
theorem CK{X:Cx}{x:Str}{st:Stmt}{f:Addr}{fd:FuncData}{ps:List Str}{k:Nat}{sp:Sp}{e:Expr}{es:List Expr}{t:TA}{p pos:Pos}(h:bj X.K X.mg x st f fd ps)(G:aJ X.prog X.w X.K X.mg X.base cw k f fd ps sp)(hr:cP k X.A)(ha:PA X (e::es) t)
    (hg:Gl X x:=by rfl)(hdb:(x==("__debug__":Str))=false:=by decide)(he:starEach (e::es) X.env=(false,eval e X.env)::starEach es X.env:=by rfl)(hpl:(backTo pos (starEach es X.env)).any (·.1)=false:=by rfl):
    PE X (.Call (.Name x p) (e::es) [] pos) (uW sp [] E0 t):=wq G hr hg h.m h.F.kp h.b .nil Bg ha hdb he hpl
theorem ao.new{H:Hp}{p:Addr}{o:HO}(h:H p=none):ao H (aS H p o):=fun b u e=>by
  rw [aA (dc e h)];exact e
theorem ao.tup{K:PySem.W.Frag}{H H':Hp}{a:Addr}{xs:List V}(e:ao H H')(h:bK K H a xs):bK K H' a xs:=e.ts.tup h
end L2
namespace L2
open PySem PySem.Spec PyProof.Rows
def lowM(t b:Int):Int × Int:=if b < 0 then(t.fdiv (-(Int.gcd t b:Int)),b.fdiv (-(Int.gcd t b:Int))) else(t.fdiv (Int.gcd t b:Int),b.fdiv (Int.gcd t b:Int))
theorem sU(x y:Int):Int.gcd y (x.fmod y)=Int.gcd x y:=by
  rw [Int.fmod_def,Int.gcd_sub_mul_left_right,Int.gcd_comm]
theorem jt(x:Int){y:Int}(h:y≠0):(x.fmod y).natAbs < y.natAbs:=by
  rcases Int.lt_or_gt_of_ne h with h | h
  · have h1:x.fmod y= -((-x).fmod (-y)):=by
      have:=Int.neg_fmod_neg x y
      lia
    have h2:=Int.fmod_nonneg_of_pos (-x) (b:= -y) (by lia)
    have h3:=Int.fmod_lt_of_pos (-x) (b:= -y) (by lia)
    lia
  · have h2:=Int.fmod_nonneg_of_pos x h
    have h3:=Int.fmod_lt_of_pos x h
    lia
theorem qe{t b:Int}(h:b≠0):(0:Int) < Int.gcd t b:=by
  have:=Int.gcd_pos_of_ne_zero_right t h
  lia
theorem eR{t b:Int}(h:b≠0):∃d:Int,d.natAbs=Int.gcd t b∧d≠0∧(lowM t b).1*d=t∧(lowM t b).2*d=b∧0 < (lowM t b).2:=by
  have hg:=qe (t:=t) h
  have d1:(Int.gcd t b:Int) ∣ t:=Int.gcd_dvd_left ..
  have d2:(Int.gcd t b:Int) ∣ b:=Int.gcd_dvd_right ..
  unfold lowM
  split
  · rename_i hb
    have e1:t.fdiv (-(Int.gcd t b:Int))*(-(Int.gcd t b:Int))=t:=Int.fdiv_mul_cancel (Int.neg_dvd.mpr d1)
    have e2:b.fdiv (-(Int.gcd t b:Int))*(-(Int.gcd t b:Int))=b:=Int.fdiv_mul_cancel (Int.neg_dvd.mpr d2)
    refine⟨-(Int.gcd t b:Int),by lia,by lia,e1,e2,?_⟩
    show 0 < b.fdiv (-(Int.gcd t b:Int))
    have h3:b.fdiv (-(Int.gcd t b:Int))*(Int.gcd t b:Int)= -b:=by rw [Int.mul_neg] at e2;lia
    exact Int.pos_of_mul_pos_left (by lia) (by lia) (b:=(Int.gcd t b:Int))
  · rename_i hb
    have e1:t.fdiv (Int.gcd t b:Int)*(Int.gcd t b:Int)=t:=Int.fdiv_mul_cancel d1
    have e2:b.fdiv (Int.gcd t b:Int)*(Int.gcd t b:Int)=b:=Int.fdiv_mul_cancel d2
    refine⟨(Int.gcd t b:Int),by lia,by lia,e1,e2,?_⟩
    show 0 < b.fdiv (Int.gcd t b:Int)
    exact Int.pos_of_mul_pos_left (by lia) (by lia) (b:=(Int.gcd t b:Int))
theorem kj{t b:Int}(h:b≠0):Int.gcd (lowM t b).1 (lowM t b).2=1:=by
  obtain⟨d,h1,h2,h3,h4,h5⟩:=eR (t:=t) h
  have e:Int.gcd ((lowM t b).1*d) ((lowM t b).2*d)=Int.gcd (lowM t b).1 (lowM t b).2*d.natAbs:=Int.gcd_mul_right ..
  rw [h3,h4,←h1] at e
  have hd:0 < d.natAbs:=by lia
  exact(Nat.eq_of_mul_eq_mul_right hd (by rw [Nat.one_mul];exact e)).symm
theorem ki{t b:Int}(h:b≠0):(lowM t b).1*b=(lowM t b).2*t:=by
  obtain⟨d,h1,h2,h3,h4,h5⟩:=eR (t:=t) h
  generalize (lowM t b).1=x at*
  generalize (lowM t b).2=y at*
  subst h3 h4
  rw [←Int.mul_assoc,←Int.mul_assoc,Int.mul_comm x]
theorem yL{t b:Int}(h:b≠0){n:Nat}(hb:Bt n b):Bt n (Int.gcd t b:Int):=by
  refine hb.of_le ?_
  have h1:=Nat.le_of_dvd (show 0 < b.natAbs by lia) (Int.ofNat_dvd.mp (by rw [Int.dvd_natAbs];exact Int.gcd_dvd_right t b))
  lia
mutual
def cnt:PyData→Nat
  | .tuple ds=>1+gX ds
  | .str _=>0
  | _=>1
def gX:List PyData→Nat
  | []=>0
  | d::ds=>cnt d+gX ds
end
mutual
def kz:PyData→Bool
  | .tuple ds=>eS ds
  | .str _=>false
  | .list _=>false
  | .dict _=>false
  | _=>true
def eS:List PyData→Bool
  | []=>true
  | d::ds=>kz d&&eS ds
end
theorem lg{a:Int}(h:a.natAbs.log2 < 1920):(Str.ofString (toString a)).length≤1921:=by
  have e:=int_text_length_le (k:=1920) (by decide) h
  rw [PySem.ofString_length];lia
theorem ee(x:Str)(r:List Str):piled (x::r)=x.length+2+piled r:=by
  simp [piled]
theorem gL(ts:List Str):(tupleText ts).length≤piled ts+3:=by
  unfold tupleText
  rw [strLen_append,strLen_append]
  have h1:(("(":Str)).length=1:=by decide
  have h2:(Str.ofString (if (ts.length==1)=true then ",)" else ")")).length≤2:=by split<;>decide
  have h3:(Str.join ", " ts).length≤piled ts:=by
    cases ts with
    | nil=>show(Str.join ", " []).length≤0;decide
    | cons x r=>have:=join_length_add (x::r) (by simp);lia
  lia
mutual
theorem lV:∀{d:PyData},kz d=true→d.showable=true→d.shown.length+2≤2000*cnt d
  | .none,_,_=>by show(Str.ofString "None").length+2≤2000*1;decide
  | .bool b,_,_=>by
    cases b
    · show(Str.ofString "False").length+2≤2000*1;decide
    · show(Str.ofString "True").length+2≤2000*1;decide
  | .int i,_,hs=>by
    simp only [PyData.showable,decide_eq_true_eq] at hs
    have:=lg hs
    show(Str.ofString (toString i)).length+2≤2000*1
    lia
  | .tuple ds,hn,hs=>by
    simp only [PyData.showable] at hs
    simp only [kz] at hn
    have h1:=iU hn hs
    have h2:=gL (PyData.shownAll ds)
    simp only [PyData.shown,cnt]
    lia
  | .str _,hn,_=>by simp [kz] at hn
  | .list _,hn,_=>by simp [kz] at hn
  | .dict _,hn,_=>by simp [kz] at hn
theorem iU:∀{ds:List PyData},eS ds=true→PyData.showableAll ds=true→piled (PyData.shownAll ds)≤2000*gX ds
  | [],_,_=>by simp [PyData.shownAll,piled]
  | d::ds,hn,hs=>by
    simp only [eS,Bool.and_eq_true] at hn
    simp only [PyData.showableAll,Bool.and_eq_true] at hs
    have h1:=lV hn.1 hs.1
    have h2:=iU hn.2 hs.2
    simp only [PyData.shownAll,gX,ee]
    lia
end
end L2
namespace L2
open PySem PySem.Spec PyProof.Rows
def fK(env:Env):List (Str × NameKind)→List (Str × Addr)→List (Str × Addr)
  | [],cs=>cs
  | (n,k)::r,cs=>fK env r (if k==.free then(n,(env.cells.lookup n).getD 0)::cs else cs)
theorem iq{env:Env}:∀(names:List (Str × NameKind)) (cs:List (Str × Addr)),(∀y∈names,y.2=.free→∃c,env.cells.lookup y.1=some c)→
    (forIn names cs (fun(x:Str × NameKind) (r:List (Str × Addr))=>(if (x.2==NameKind.free)=true then do let a ←cellOf env x.1;pure (ForInStep.yield ((x.1,a)::r)) else pure (ForInStep.yield r):Sem (ForInStep (List (Str × Addr))))):Sem (List (Str × Addr)))=pure (fK env names cs)
  | [],cs,_=>rfl
  | (n,k)::r,cs,h=>by
    rw [List.forIn_cons]
    have ih:=fun cs'=>iq (env:=env) r cs' (fun y hy=>h y (List.mem_cons_of_mem _ hy))
    by_cases hk:(k==NameKind.free)=true
    · have hk':k=.free:=by simpa using hk
      obtain⟨c,hc⟩:=h (n,k) List.mem_cons_self hk'
      have e:cellOf env n=pure c:=by unfold cellOf;rw [hc]
      simp only [hk,if_true,e,pure_bind,fK,hc,Option.getD_some]
      exact ih _
    · have hk':(k==NameKind.free)=false:=by simpa using hk
      simp only [hk',Bool.false_eq_true,if_false,pure_bind,fK]
      exact ih _
theorem j6{scope:Scope}{env:Env}(h:∀y∈scope.names,y.2=.free→∃c,env.cells.lookup y.1=some c):closureFor scope env=pure (fK env scope.names []):=by
  have e:=iq (env:=env) scope.names [] h
  unfold closureFor
  simp only [pure_bind,bind_pure] at e ⊢
  exact e
theorem gW{env:Env}:∀(names:List (Str × NameKind)) (cs:List (Str × Addr)) (x:Str) (c:Addr),(∀y∈names,y.2=.free→∃c,env.cells.lookup y.1=some c)→(∀x c,cs.lookup x=some c→env.cells.lookup x=some c)→(fK env names cs).lookup x=some c→env.cells.lookup x=some c
  | [],cs,x,c,_,hs,h=>hs x c h
  | (n,k)::r,cs,x,c,hn,hs,h=>by
    refine gW r _ x c (fun y hy=>hn y (List.mem_cons_of_mem _ hy)) (fun x' c' e=>?_) h
    by_cases hk:(k==NameKind.free)=true
    · rw [if_pos hk] at e
      obtain⟨c0,hc⟩:=hn (n,k) List.mem_cons_self (by simpa using hk)
      rw [List.lookup_cons] at e
      cases hx:x'==n with
      | true=>
        rw [hx] at e
        have e1:x'=n:=by simpa using hx
        subst e1
        simp only [hc,Option.getD_some,Option.some.injEq] at e
        rw [←e];exact hc
      | false=>rw [hx] at e;exact hs x' c' e
    · rw [if_neg hk] at e
      exact hs x' c' e
theorem j5{env:Env}:∀(names:List (Str × NameKind)) (cs:List (Str × Addr)) (x:Str),((∃y∈names,y.1=x∧y.2=.free)∨∃c,cs.lookup x=some c)→∃c,(fK env names cs).lookup x=some c
  | [],cs,x,h=>by
    rcases h with ⟨y,hy,_⟩ | h
    · cases hy
    · exact h
  | (n,k)::r,cs,x,h=>by
    refine j5 r _ x ?_
    by_cases hk:(k==NameKind.free)=true
    · rw [if_pos hk,List.lookup_cons]
      cases hx:x==n with
      | true=>exact .inr ⟨_,rfl⟩
      | false=>
        rcases h with ⟨y,hy,e1,e2⟩ | h
        · rcases List.mem_cons.mp hy with z | z
          · subst z;subst e1;simp at hx
          · exact .inl ⟨y,z,e1,e2⟩
        · exact .inr h
    · rw [if_neg hk]
      rcases h with ⟨y,hy,e1,e2⟩ | h
      · rcases List.mem_cons.mp hy with z | z
        · subst z;exact absurd (by simpa using e2) hk
        · exact .inl ⟨y,z,e1,e2⟩
      · exact .inr h
theorem cK{env:Env}:∀{names:List (Str × NameKind)} {x:Str},(∀y∈names,y.2≠.cell)→(names.map fun(n,k)=>if (k==NameKind.free&&env.scope.kind==.function&&env.kindOf n==some .cell) then(n,NameKind.cell) else(n,k)).lookup x=some .cell∨
    (names.map fun(n,k)=>if (k==NameKind.free&&env.scope.kind==.function&&env.kindOf n==some .cell) then(n,NameKind.cell) else(n,k)).lookup x=some .free→∃y∈names,y.1=x∧y.2=.free
  | [],x,_,h=>by simp at h
  | (n,k)::r,x,hc,h=>by
    have ih:=@cK env r x (fun y hy=>hc y (List.mem_cons_of_mem _ hy))
    have nc:k≠.cell:=hc (n,k) List.mem_cons_self
    rw [List.map_cons] at h
    cases hx:x==n with
    | true=>
      have e1:x=n:=by simpa using hx
      subst e1
      refine⟨(x,k),List.mem_cons_self,rfl,?_⟩
      by_cases q:(k==NameKind.free&&env.scope.kind==.function&&env.kindOf x==some .cell)=true
      · simp only [Bool.and_eq_true,beq_iff_eq] at q;exact q.1.1
      · simp only [q,Bool.false_eq_true,if_false,List.lookup_cons,beq_self_eq_true,Option.some.injEq] at h
        rcases h with h | h
        · exact absurd h nc
        · exact h
    | false=>
      have e2:∀(l:List (Str × NameKind)),((if (k==NameKind.free&&env.scope.kind==.function&&env.kindOf n==some .cell)=true then(n,NameKind.cell) else(n,k))::l).lookup x=l.lookup x:=fun l=>by
        split<;>simp [List.lookup_cons,hx]
      simp only [e2] at h
      obtain⟨y,hy,z⟩:=ih h
      exact⟨y,List.mem_cons_of_mem _ hy,z⟩
theorem dC{env:Env}:∀{names:List (Str × NameKind)} {x:Str},names.lookup x=some .free→
    (names.map fun(n,k)=>if (k==NameKind.free&&env.scope.kind==.function&&env.kindOf n==some .cell) then(n,NameKind.cell) else(n,k)).lookup x≠some .local
  | [],x,h=>by simp at h
  | (n,k)::r,x,h=>by
    rw [List.map_cons]
    cases hx:x==n with
    | true=>
      simp only [hx,List.lookup_cons] at h
      cases h
      show List.lookup x ((if (NameKind.free==NameKind.free&&env.scope.kind==.function&&env.kindOf n==some .cell)=true then(n,NameKind.cell) else(n,NameKind.free))::_)≠_
      split<;>simp [List.lookup_cons,hx]
    | false=>
      simp only [hx,List.lookup_cons] at h
      have ih:=@dC env r x h
      have e2:∀(l:List (Str × NameKind)),((if (k==NameKind.free&&env.scope.kind==.function&&env.kindOf n==some .cell)=true then(n,NameKind.cell) else(n,k))::l).lookup x=l.lookup x:=fun l=>by
        split<;>simp [List.lookup_cons,hx]
      simp only [e2]
      exact ih
def aB(X:Cx)(scope:Scope)(cp:List (Nat × Str))(tgN:List Str)(C:Addr)(s0:Shared)(H0:Hp)(fp:List Addr):Cx where
  prog:=X.prog
  w:=X.w
  K:=X.K
  mg:=X.mg
  base:=X.base
  A:=X.A
  N:=cp.map (·.2)++tgN
  s₀:=s0
  H₀:=H0
  env:=compEnvC scope (fK X.env scope.names []) C X.env
  outer:=X.stack
  stack:=X.stack
  ex:=fp
  fn:=fun x=>scope.names.lookup x==some .local
  calm:=X.calm
  pn:=[]
  xe:=fun _ _=>False
def rP(X:Cx)(ifs:List Expr)(t:TT):Prop:=
  ∀(pins:List (Addr × Obj)) (s:Shared) (σ:L2.St) (H:Hp) (Q:Bool→Hp→Prop),aq X pins σ H s→t σ H Q→
    wpAny (model X.prog X.w) X.A (forIn ifs true fun c r=>if r=true then do let ok ←isTrue c X.env (eval c X.env);pure (ForInStep.yield ok) else pure (ForInStep.yield r)) (TP X pins σ Q) X.xe s
theorem wM{X:Cx}:rP X [] (fun _ H Q=>Q true H):=fun _ _ _ H _ I h=>wpAny_tests_nil ⟨H,I,h⟩
theorem wN{X:Cx}{c:Expr}{t:TT}(h:PT X c t):rP X [c] t:=fun pins s σ H Q I q=>wpAny_tests_one (h pins s σ H Q I q)
abbrev As:Value→Shared→Prop:=fun _ _=>False
def yF(prog:Program)(w:World)(A:Around)(elt tg:Expr)(ifs:List Expr)(env:Env)(it acc:Value)(onward:Shared→Prop)(v:Value)(u:Shared):Prop:=
  wpAny (model prog w) A (letOwnedTupleGo tg it v) (fun _ u1=>wpAny (model prog w) A (assign tg env v) (fun _ u2=>wpAny (model prog w) A
    (forIn ifs true fun c r=>if r=true then do let ok ←isTrue c env (eval c env);pure (ForInStep.yield ok) else pure (ForInStep.yield r)) (fun ok u3=>if ok=true then wpAny (model prog w) A (eval elt env) (fun x u4=>wpAny (model prog w) A (call (.builtin "list.append") [acc,x]) (fun _ u5=>onward u5) As u4) As u3 else onward u3) As u2) As u1) As u
theorem ir{prog:Program}{w:World}{A:Around}{R:Result→Shared→Prop}{elt tg iter:Expr}{ifs:List Expr}{scope:Scope}{pos:Pos}{it acc:Value}{env:Env}(J:Nat→Shared→Prop)
    (turn:∀n u,J n u→wpAny (model prog w) A (pyNext it) (fun r u1=>(r=none→R (.ok .next) u1)∧∀v,r=some v→yF prog w A elt tg ifs env it acc (fun u2=>∃m,m < n∧J m u2) v u1) As u){n0:Nat}{u0:Shared}(start:J n0 u0):
    codeAny (model prog w) A (.compLoop (.ListComp elt [⟨tg,iter,ifs,0⟩] scope pos) 0 it acc env) R u0:=by
  refine codeAny_loop rfl J (fun n u ju=>?_) n0 start
  show wpAny _ A ((compTurn (.ListComp elt [⟨tg,iter,ifs,0⟩] scope pos) 0 it acc env).onRaise _) _ _ u;refine wpAny_noted ?_;rw [compTurn_list]
  refine wpAny_bind (wpAny_standAt (wpAny_bind (wpAny_mono (turn n u ju) (fun r u1 k1=>?_) fun _ _ z=>z.elim)))
  cases r with
  | none=>exact wpAny_pure (k1.1 rfl)
  | some v=>
    refine wpAny_bind (wpAny_mono (k1.2 v rfl) (fun _ u2 k2=>wpAny_bind (wpAny_mono k2 (fun _ u3 k3=>wpAny_bind (wpAny_mono k3 (fun ok u4 k4=>?_) fun _ _ z=>z.elim)) fun _ _ z=>z.elim)) fun _ _ z=>z.elim)
    cases ok with
    | false=>rw [if_neg Bool.false_ne_true] at k4;exact wpAny_pure ⟨rfl,k4⟩
    | true=>
      rw [if_pos rfl] at k4
      refine wpAny_bind (wpAny_bind (wpAny_mono k4 (fun x u5 k5=>wpAny_bind (wpAny_mono k5 (fun _ u6 k6=>?_) fun _ _ z=>z.elim)) fun _ _ z=>z.elim));exact wpAny_pure (wpAny_pure ⟨rfl,k6⟩)
def eW(cp:List (Nat × Str))(nT:Nat)(σ:L2.St):L2.St:=cp.map (fun p=>(σ[p.1]?).join)++List.replicate nT none
structure qB (cp:List (Nat × Str)) (nT:Nat) (wi:TI) (g:TG) (tc:TT) (te:TE) (σ:L2.St) (H:Hp) (Q:VK):Prop where
  go:wi σ H fun J H1=>∀l,H1 l=none→
  ∃W:Nat→Nat→L2.St→Hp→Prop,(∃m,W 0 m (eW cp nT σ) (aS H1 l (.lst [])))∧∀i m σ' H',W i m σ' H'→
    (J.stop i H'∧Q (.ref l) H')∨(J.go i H'∧∃N:L2.St→Hp→Prop,(∀σ2 H2,N σ2 H2→∃m',m' < m∧W (i+1) m' σ2 H2)∧
      ∀x H2,J.yld i H' x H2→g x σ' H2 fun σ2 H3=>tc σ2 H3 fun b H4=>if b=true then te σ2 H4 fun v H5=>∃ys,H5 l=some (.lst ys)∧ys.length < sizeLine∧N σ2 (aS H5 l (.lst (ys++[v]))) else N σ2 H4)
theorem ww{X:Cx}{elt iter tg:Expr}{ifs:List Expr}{scope:Scope}{pos:Pos}{wi:TI}{g:TG}{tc:TT}{te:TE}(sc0:Scope)(N0:List Str)(cp:List (Nat × Str))(tgN:List Str)
    (hc:X.calm=true)(hsc:X.env.scope=sc0)(hN0:X.N=N0)(hi:PI X tg iter wi)
    (hg:∀C s0 H0 fp,PG (aB X scope cp tgN C s0 H0 fp) tg g)
    (ht:∀C s0 H0 fp,rP (aB X scope cp tgN C s0 H0 fp) ifs tc)
    (he:∀C s0 H0 fp,PE (aB X scope cp tgN C s0 H0 fp) elt te)
    (hk:scope.kind=.function)(hcell:∀y∈scope.names,y.2≠.cell)(hnames:∀y∈scope.names,y.2=.local→scope.names.lookup y.1=some .local)
    (hfr:∀y∈scope.names,y.2=.free→scope.names.lookup y.1=some .free∧sc0.names.lookup y.1=some .cell)
    (hcp:∀p∈cp,N0[p.1]?=some p.2)(hcq:∀p∈cp,sc0.names.lookup p.2=some .cell∧scope.names.lookup p.2=some .free)
    (hs:∀x,foldedSetIterable iter X.env x=pure x:=by intro _;rfl):
    PE X (.ListComp elt [⟨tg,iter,ifs,0⟩] scope pos) (qB cp tgN.length wi g tc te):=by
  intro pins s σ H Q I h
  have hkind:∀x,X.env.kindOf x=sc0.names.lookup x:=fun x=>by unfold Env.kindOf;rw [hsc]
  have hfree:∀y∈scope.names,y.2=.free→∃c,X.env.cells.lookup y.1=some c:=fun y hy e=>I.ok.has y.1 (.inl (by rw [hkind];exact(hfr y hy e).2))
  rw [eval_ListComp]
  refine wpAny_comprehension_free (use:=none) rfl hs (j6 hfree) hk hnames (wpAny_mono (hi pins s σ H _ I h.go) (fun xv s₁ h₁=>wpAny_mono h₁ (fun itv s₂ h₂=>?_) fun _ _ e=>e) fun _ _ e=>e)
  obtain⟨it,fp,tn,J,H2,rfl,I2,T,st2,f2,hq⟩:=h₂
  refine wpAny_newObj_type ?_
  have hlF:H2 s₂.heap.objs.size=none:=I2.hok.fresh (Nat.le_refl _)
  have I3:aq X pins σ (aS H2 s₂.heap.objs.size (.lst [])) {s₂ with heap:=s₂.heap.push {cls:=.type "list",data:=.seq ([]:List Value).toArray}}:=I2.lnew (t':=s₂.toks) .nil (Nat.zero_le _)
  obtain⟨W,⟨m0,w0⟩,turn⟩:=hq _ hlF
  have f3:∀b∈fp,fN X pins (aS H2 s₂.heap.objs.size (.lst [])) b:=fun b hb=>by
    obtain⟨f0,fr⟩:=f2 b hb
    obtain⟨o,ho,_⟩:=T.obj _ _ st2 b hb
    exact⟨by rw [aA (Nat.ne_of_lt (Heap.lt_size ho))];exact f0,fr⟩
  have st3:tn 0 (s₂.heap.push {cls:=.type "list",data:=.seq ([]:List Value).toArray}):=T.keep _ _ _ st2 fun b _ o e=>Heap.get?_push_of_some _ e
  generalize hD:s₂.heap.objs.size=D at*
  generalize hs3:({s₂ with heap:=s₂.heap.push {cls:=.type "list",data:=.seq ([]:List Value).toArray}}:Shared)=s₃ at*
  have hst3:tn 0 s₃.heap:=by rw [←hs3];exact st3
  refine wpAny_newFunctionEnv hcell (by intro y hy;simp at hy) (fun h₁ hns₁ hsb₁=>?_) hk
  generalize hC:s₃.heap.objs.size=C at*
  have old:∀b o,s₃.heap.get? b=some o→h₁.get? b=some o:=fun b o e=>hsb₁.extBut b o (by rw [←hC];exact Nat.ne_of_lt (Heap.lt_size e)) (Heap.get?_push_of_some _ e)
  have nC:∀b o,s₃.heap.get? b=some o→b≠C:=fun b o e=>by rw [←hC];exact Nat.ne_of_lt (Heap.lt_size e)
  have hHC:(aS H2 D (.lst [])) C=none:=I3.hok.fresh (by rw [hC];exact Nat.le_refl _)
  have clS:∀x c,(fK X.env scope.names []).lookup x=some c→X.env.cells.lookup x=some c:=fun x c e=>gW _ _ x c hfree (fun _ _ z=>by simp at z) e
  have clH:∀x,(∃y∈scope.names,y.1=x∧y.2=.free)→∃c,(fK X.env scope.names []).lookup x=some c:=fun x e=>j5 _ _ x (.inl e)
  have ok':(aB X scope cp tgN C s₃ (aS H2 D (.lst [])) fp).Ok:=by
    refine⟨I.ok.mod,hk,I.ok.glob,I.ok.blt,by rw [←hC];exact Nat.le_refl _,fun x y c e1 e2=>I.ok.inj x y c (clS _ _ e1) (clS _ _ e2),fun x e=>clH x (cK hcell e),fun x c e1 e2=>?_,I.ok.hd,I.ok.frames,.inl rfl,fun b hb=>?_,fun b o e=>I3.bs b o e,?_,fun b o e hb=>?_,fun b hb z=>?_,I3.stack,fun b hb=>I3.stkFree b hb⟩
    · exfalso
      have e1':scope.names.lookup x=some .local:=by simpa [aB] using e1
      have e2':=clS x c e2
      obtain⟨c',hc'⟩:∃y∈scope.names,y.1=x∧y.2=.free:=by
        by_cases q:∃y∈scope.names,y.1=x∧y.2=.free
        · exact q
        · exfalso
          have:∀(names:List (Str × NameKind)) (cs:List (Str × Addr)),(¬∃y∈names,y.1=x∧y.2=.free)→cs.lookup x=none→(fK X.env names cs).lookup x=none:=by
            intro names
            induction names with
            | nil=>intro cs _ h;exact h
            | cons y r ih=>
              intro cs hn hcs
              obtain⟨n,k⟩:=y
              refine ih _ (fun⟨y,hy,z⟩=>hn ⟨y,List.mem_cons_of_mem _ hy,z⟩) ?_
              by_cases hk:(k==NameKind.free)=true
              · rw [if_pos hk,List.lookup_cons]
                cases hx:x==n with
                | true=>exact absurd ⟨(n,k),List.mem_cons_self,(by simpa using hx:x=n).symm,by simpa using hk⟩ hn
                | false=>exact hcs
              · rw [if_neg hk];exact hcs
          have z:=this scope.names [] q rfl
          have e2'':(fK X.env scope.names []).lookup x=some c:=e2
          rw [z] at e2'';cases e2''
      have z:=(hfr c' hc'.1 hc'.2.2).1
      rw [hc'.2.1,e1'] at z;cases z
    · obtain⟨f0,f1,f4,f5,f6,f7⟩:=f3 b hb
      obtain⟨o,ho,_⟩:=T.obj _ _ hst3 b hb
      exact⟨nC b o ho,fun x c e=>f6 x c (clS x c e)⟩
    · exact Nat.le_trans I.ok.bsz I3.sz
    · obtain⟨f0,f1,f4,f5,f6,f7⟩:=f3 b hb
      rcases f5 with z | z
      · exact I.ok.noex b o e z
      · have:=(I.ok.bs b o e).1
        exact absurd (Nat.lt_of_lt_of_le (Heap.lt_size this) z) (Nat.lt_irrefl _)
    · obtain⟨f0,f1,f4,f5,f6,f7⟩:=f3 b hb
      rcases List.mem_cons.mp (I3.stkSub b z) with z | z
      · exact f1 z
      · exact f4 z
  have I4:aq (aB X scope cp tgN C s₃ (aS H2 D (.lst [])) fp) [] (eW cp tgN.length σ) (aS H2 D (.lst [])) {s₃ with heap:=h₁,toks:=s₃.toks+([]:List (Str × Value)).length}:=by
    refine⟨ok',rfl,I3.bare,Un.kept old,⟨_,hns₁,fun i x v e1 e2 e3=>?_⟩,fun x c e=>?_,hHC,fun x c e=>I3.freeC x c (clS x c e),fun p hp=>by simp [aB] at hp,I3.hok.kept old,by simp [eW,aB]⟩
    · have hlt:i < cp.length:=by
        by_cases q:i < cp.length
        · exact q
        · exfalso
          unfold eW at e2
          rw [List.getElem?_append_right (by simp;lia)] at e2
          rw [List.getElem?_replicate] at e2
          split at e2<;>cases e2
      have e1':(cp.map (·.2))[i]?=some x:=by
        have e1'':(cp.map (·.2)++tgN)[i]?=some x:=e1
        rwa [List.getElem?_append_left (by simp;exact hlt)] at e1''
      have e2':(cp.map (fun p=>(σ[p.1]?).join))[i]?=some (some v):=by
        unfold eW at e2
        rwa [List.getElem?_append_left (by simp;exact hlt)] at e2
      rw [List.getElem?_map,List.getElem?_eq_getElem hlt] at e1' e2'
      have ex:(cp[i]).2=x:=by simpa using e1'
      have ev:(σ[(cp[i]).1]?).join=some v:=by simpa using e2'
      have ev':σ[(cp[i]).1]?=some (some v):=by
        cases q:σ[(cp[i]).1]? with
        | none=>rw [q] at ev;cases ev
        | some z=>rw [q] at ev;simp only [Option.join_some] at ev;rw [ev]
      have hN:=hcp cp[i] (List.getElem_mem hlt)
      rw [←hN0] at hN
      obtain⟨hcl,hcf⟩:=hcq cp[i] (List.getElem_mem hlt)
      rw [ex] at hN hcl hcf
      obtain⟨m,hn,hl⟩:=I3.loc
      obtain⟨u,r,l⟩:=hl _ x v hN ev' (.inr (.inl (by rw [hsc];exact hcl)))
      refine⟨u,r,.inr ?_⟩
      rcases l with ⟨k1,_⟩ | ⟨k1,c,hcc,o,ho,hd⟩
      · rw [hkind,hcl] at k1;cases k1
      · have e3':(relabel scope X.env).names.lookup x=some .local∨(relabel scope X.env).names.lookup x=some .cell∨(relabel scope X.env).names.lookup x=some .free:=e3
        have nl:(relabel scope X.env).names.lookup x=some .cell∨(relabel scope X.env).names.lookup x=some .free:=by
          rcases e3' with z | z | z
          · exact absurd z (dC hcf)
          · exact .inl z
          · exact .inr z
        obtain⟨c',hc'⟩:=clH x (cK hcell nl)
        have:=clS x c' hc'
        rw [hcc] at this;cases this
        exact⟨nl,c,hc',o,old c o ho,hd⟩
    · obtain⟨v,o,ho,hd⟩:=I3.cell x c (clS x c e)
      exact⟨v,o,old c o ho,hd⟩
  have hst4:tn 0 h₁:=T.keep _ _ _ hst3 fun b _ o e=>old b o e
  have loop:codeAny (model X.prog X.w) X.A (.compLoop (.ListComp elt [⟨tg,iter,ifs,0⟩] scope pos) 0 (.ref it) (.ref D) (compEnvC scope (fK X.env scope.names []) C X.env))
      (compPost (model X.prog X.w) X.A X.xe none (EP X pins σ Q) (.ref D) C) {s₃ with heap:=h₁,toks:=s₃.toks+([]:List (Str × Value)).length}:=by
    refine ir (fun n s'=>∃i σ' H',aq (aB X scope cp tgN C s₃ (aS H2 D (.lst [])) fp) [] σ' H' s'∧tn i s'.heap∧(∀b∈fp,H' b=none)∧W i n σ' H') ?_ (n0:=m0) ⟨0,_,_,I4,hst4,fun b hb=>(f3 b hb).1,w0⟩
    rintro n s5 ⟨i,σ5,H5,I5,st5,fr5,w5⟩
    have stat:∀{H':Hp},(∀b∈fp,H' b=none)→∀b∈fp,fN (aB X scope cp tgN C s₃ (aS H2 D (.lst [])) fp) [] H' b:=fun hn b hb=>
      ⟨hn b hb,(ok'.exf b hb).1,ok'.exfs b hb,.inl hb,(ok'.exf b hb).2,fun p hp=>by simp [aB] at hp⟩
    rcases turn i n σ5 H5 w5 with ⟨stop,qn⟩ | ⟨go,N,hN,step⟩
    · refine cy (T.done (aB X scope cp tgN C s₃ (aS H2 D (.lst [])) fp) rfl rfl rfl hc i [] s5 σ5 H5 (fun _ _=>False) I5 (stat fr5) st5 stop) fun r s6 ⟨hr,I6⟩=>?_
      subst hr
      refine⟨fun _=>?_,fun v z=>by cases z⟩
      obtain⟨m,hn,_⟩:=I6.loc
      refine⟨m,hn,fun h' sb=>⟨.ref D,H5,?_,rfl,qn⟩⟩
      have ub:=I6.base
      have kp:∀b u,b≠C→s6.heap.get? b=some u→h'.get? b=some u:=fun b u ne e=>sb.extBut b u ne e
      have nit:∀b u,H5 b=some u→b≠C:=fun b u e z=>by
        have:=I6.free
        rw [z] at e
        rw [show H5 C=none from this] at e;cases e
      refine I3.call' (s':={s6 with heap:=h'}) (ch:=fp) I6.os ⟨fun b o e n hb hx=>kp b o (nC b o e) (ub.keep b o e n hb hx),fun b o e n hb hx=>?_,ub.free,fun b o e hx=>?_,ub.tups,ub.frzs,ub.tbls⟩ (fun b u e=>?_) I6.bare (fun b hb=>?_)
      · obtain⟨sl,q⟩:=ub.slot b o e n hb hx
        exact⟨sl,kp b _ (nC b o e) q⟩
      · obtain⟨o',q⟩:=ub.there b o e hx
        exact⟨o',kp b _ (nC b o e) q⟩
      · refine(I6.hok b u e).stay (fun c v hc q=>kp c v ?_ q) (fun _ q=>q) fun _ _ q=>q
        rcases hc with z | z
        · rw [z];exact nit b u e
        · exact nit c _ z
      · obtain⟨f0,f1,f4,f5,f6,f7⟩:=f3 b hb
        exact⟨f5,f1,f6,f7⟩
    · refine cy (T.item (aB X scope cp tgN C s₃ (aS H2 D (.lst [])) fp) rfl rfl rfl hc i [] s5 σ5 H5 (fun _ _=>False) I5 (stat fr5) st5 go) fun r s6 ⟨u,hr,h6⟩=>?_
      subst hr
      refine⟨fun z=>(by cases z),fun v z=>?_⟩
      cases z
      refine cy h6 fun _ s7 ⟨x,H7,I7,r7,y7,st7,fr7⟩=>?_
      have I7':=I7.pinned (stat fr7) (T.obj _ _ st7)
      have again:∀{σ8:L2.St} {H8:Hp} {s8:Shared},aq (aB X scope cp tgN C s₃ (aS H2 D (.lst [])) fp) ([]++ja fp s7.heap) σ8 H8 s8→N σ8 H8→∃m,m < n∧∃i σ' H',aq (aB X scope cp tgN C s₃ (aS H2 D (.lst [])) fp) [] σ' H' s8∧tn i s8.heap∧(∀b∈fp,H' b=none)∧W i m σ' H':=fun{σ8 H8 s8} I8 n8=>by
        obtain⟨m',hm,w8⟩:=hN σ8 H8 n8
        refine⟨m',hm,i+1,σ8,H8,I8.unpinned,T.keep _ _ _ st7 fun b hb o e=>(I8.pin (b,o) (List.mem_append_right _ (List.mem_append_right _ (c_ hb e)))).1,fun b hb=>?_,w8⟩
        obtain⟨o,e,d⟩:=T.obj _ _ st7 b hb
        exact(I8.pin (b,o) (List.mem_append_right _ (List.mem_append_right _ (c_ hb e)))).2.1
      refine cy (hg C s₃ (aS H2 D (.lst [])) fp _ s7 σ5 H7 x u _ I7' r7 (step x H7 y7)) fun _ s8 ⟨σ8,H8,I8,q8⟩=>?_
      refine cy (ht C s₃ (aS H2 D (.lst [])) fp _ s8 σ8 H8 _ I8 q8) fun ok s9 ⟨H9,I9,q9⟩=>?_
      cases ok with
      | false=>
        rw [if_neg Bool.false_ne_true] at q9 ⊢
        exact again I9 q9
      | true=>
        rw [if_pos rfl] at q9 ⊢
        refine cy (he C s₃ (aS H2 D (.lst [])) fp _ s9 σ8 H9 _ I9 q9) fun v s10 ⟨xv,H10,I10,r10,ys,hl,hz,n10⟩=>?_
        refine cy (i9 _ s10 σ8 H10 (.ref D) [xv] (.ref D) [v] (fun _ H=>N σ8 H) I10 rfl (.cons r10 .nil) ⟨D,ys,xv,rfl,rfl,hl,hz,n10⟩) fun _ s11 ⟨_,H11,I11,_,q11⟩=>?_
        exact again I11 q11
  exact codeAny_compStart_list loop (T.self X.A 0 _ _ _ hst4 loop)
end L2
namespace L2
open PySem PySem.Spec PyProof.Rows
section
variable{X:Cx}
def ur(K:PySem.W.Frag):R2:=fun x y H Q=>∃a b xs ys,x=.ref a∧y=.ref b∧bK K H a xs∧bK K H b ys∧xs.length+ys.length≤sizeLine∧∀p H',ao H H'→bK K H' p (xs++ys)→Q (.ref p) H'
theorem wd:fP X (binaryOp .Add) (ur X.K):=by
  intro pins s σ H x y v u Q I rx ry h
  obtain⟨a,b,xs,ys,rfl,rfl,ha,hb,hz,q⟩:=h
  cases rx;cases ry
  by_cases hx:xs=[]
  · obtain⟨i1,r1,p1,_⟩:=I.tuple ha
    obtain⟨i2,r2,p2,_⟩:=I.tuple hb
    obtain⟨m,F⟩:=I.fr
    have e1:i1=[]:=by subst hx;cases r1;rfl
    refine add_tuples F (tN (g:=X.base)) p1 p2 (fun _=>?_) (fun z1 _=>absurd e1 z1) (fun z1 _ _ _ _=>absurd e1 z1) (by rw [←r1.length,←r2.length];exact hz)
    exact⟨.ref b,H,I,rfl,q b H (ao.refl H) (by rw [hx];exact hb)⟩
  · exact we pins s σ H (.ref a) (.ref b) _ _ Q I rfl rfl ⟨a,b,xs,ys,rfl,rfl,ha,hb,hx,hz,fun z=>q a H (ao.refl H) (by rw [z,List.append_nil];exact ha),fun _ p hp=>q p _ (ao.new hp) (bK.of av)⟩
theorem i_{x:V}{us:List Value}(r:aD [x] us):∃u,us=[u]∧bg x u:=by
  cases r with
  | cons p p'=>cases p';exact⟨_,rfl,p⟩
theorem m4{prog:Program}{w:World}{A:Around}{E:Value→Shared→Prop}{s:Shared}{t:Addr}{vs:List Value}{Q:List Value→Shared→Prop}(ht:IsTup s.heap t vs.toArray)
    (h:Q vs {s with heap:=(s.heap.push (seqObj "list" #[] 0)).update s.heap.objs.size (Obj.mapSeq (· ++vs.toArray))})(hsz:vs.length≤sizeLine):wpAny (model prog w) A (collect (.ref t)) Q E s:=by
  obtain⟨o,ho,hc,n,hd⟩:=id ht;unfold collect;refine wpAny_bind (wpAny_runValue (codeAny_builtin entry_proto_collect' ?_))
  show wpAny _ _ (do again (.builtin "list.__iadd__" ⟨[←newList [],.ref t],[]⟩)) _ _ s
  refine wpAny_bind (wpAny_newList (wpAny_pure ⟨Code.quiet_builtin _ (by decide+kernel),?_⟩));refine codeAny_builtin entry_list_iadd' ?_
  show wpAny _ _ (Builtin.List.listExtendWith (.ref s.heap.objs.size) (.ref t) (.ref s.heap.objs.size)) _ _ {s with heap:=s.heap.push (seqObj "list" #[] 0)}
  unfold Builtin.List.listExtendWith;have ho':(s.heap.push (seqObj "list" #[] 0)).get? t=some o:=Heap.get?_push_of_some _ ho
  refine wpAny_bind (wpAny_typeOf (T:="tuple") ⟨o,ho',hc⟩ ?_)
  rw [if_pos (by rw [show(Value.type "tuple"==Value.type "tuple")=true from rfl,Bool.or_true])]
  refine wpAny_bind (listItems_at ho' hd ?_);refine wpAny_bind (listItems_at (xs:=#[]) (n:=0) (Heap.get?_push_size _ rfl) rfl ?_)
  rw [if_neg (by simp)];refine wpAny_bind (listUpdate_at (xs:=#[]) (n:=0) (Heap.get?_push_size _ rfl) rfl ?_ (Nat.zero_le _) (by show(#[]++vs.toArray).size≤sizeLine+1;simp only [Array.size_append,List.size_toArray,List.length_nil];lia))
  refine wpAny_pure ?_
  show wpAny (model prog w) A (load s.heap.objs.size >>= fun o=>match o.data with | .seq xs _=>pure xs.toList | _=>unsupported "internal:collect") Q E {s with heap:=(s.heap.push (seqObj "list" #[] 0)).update s.heap.objs.size (Obj.mapSeq (· ++vs.toArray))}
  refine wpAny_bind (wpAny_load (get?_update_seq (Heap.get?_push_size _ rfl) _) ?_);show wpAny _ _ (pure ((#[]:Array Value)++vs.toArray).toList) Q E _;rw [show((#[]:Array Value)++vs.toArray).toList=vs by simp];exact wpAny_pure h
theorem pK{prog:Program}{w:World}{A:Around}{E:Value→Shared→Prop}{s:Shared}{t:Addr}{vs:List Value}{ns:List Int}{Q:Value→Shared→Prop}(ht:IsTup s.heap t vs.toArray)(hI:IntsAre vs ns)(h64:vs.length < 64)
    (h:∀(out:Array Value) (ns':List Int),IntsAre out.toList ns'→ns'.Perm ns→ns'.Pairwise (· ≤·)→Q (.ref (s.heap.objs.size+1)) {s with heap:=sortedAll s.heap vs out}):wpAny (model prog w) A (call (.builtin "sorted") [.ref t]) Q E s:=by
  refine Calls.call_function_entry kind_sorted plain_sorted entry_sorted (args_sorted1 _) ?_;unfold Builtin.«sorted»
  refine wpAny_bind (m:=checkCount "sorted" 1 1 _) (wpAny_pure ?_);refine wpAny_bind (m4 ht ?_ (Nat.le_trans (Nat.le_of_lt h64) (by decide)))
  have z:((s.heap.push (seqObj "list" #[] 0)).update s.heap.objs.size (Obj.mapSeq (· ++vs.toArray))).objs.size=s.heap.objs.size+1:=by rw [Heap.size_update,size_push']
  have o:(((s.heap.push (seqObj "list" #[] 0)).update s.heap.objs.size (Obj.mapSeq (· ++vs.toArray))).push (seqObj "list" vs.toArray 0)).get? (s.heap.objs.size+1)=some (seqObj "list" vs.toArray 0):=by rw [←z];exact Heap.get?_push_size _ rfl
  refine wpAny_bind (wpAny_newList ?_);show wpAny _ _ _ _ _ {s with heap:=((s.heap.push (seqObj "list" #[] 0)).update s.heap.objs.size (Obj.mapSeq (· ++vs.toArray))).push (seqObj "list" vs.toArray 0)}
  rw [z];refine wpAny_bind (wpAny_holding (wpAny_call_entry slot_list_sort ⟨_,o,rfl⟩ entry_list_sort (list_sort_tree o hI h64 fun out ns' b1 b2 b3=>⟨_,rfl,?_⟩) (args_list_sort _)))
  exact wpAny_pure ⟨_,rfl,h out ns' b1 b2 b3⟩
theorem jo:cD X (.builtin "sorted") (fun xs H Q=>∃(a:Addr) (ns:List Int),xs=[.ref a]∧bK X.K H a (ns.map V.int)∧ns.length < 64∧∀(l:Addr) (ns':List Int) (H':Hp),ao H H'→H l=none→H' l=some (.lst (ns'.map V.int))→ns'.Perm ns→ns'.Pairwise (· ≤·)→Q (.ref l) H'):=by
  intro pins s σ H xs us Q I r h
  obtain⟨a,ns,rfl,hs,h64,q⟩:=h
  obtain⟨u,rfl,ru⟩:=i_ r
  cases ru
  obtain⟨its,rv,p,hz⟩:=I.tuple hs
  have hl:=rv.length
  rw [List.length_map] at hl
  refine pK p (fq rv) (by lia) fun out ns' a1 a2 a3=>?_
  obtain⟨e,he⟩:=sortedAll_at s.heap its out
  have hf:H (s.heap.objs.size+1)=none:=I.hok.fresh (Nat.le_succ _)
  refine⟨.ref (s.heap.objs.size+1),aS H (s.heap.objs.size+1) (.lst (ns'.map V.int)),I.laid (t':=s.toks) (fun _ _=>sortedAll_old) (Nat.le_succ _) ⟨?_,out.toList,e,gM a1,?_⟩,rfl,q _ ns' _ (ao.new hf) hf av a2 a3⟩
  · rw [List.length_map,a2.length_eq]
    exact Nat.le_trans (Nat.le_of_lt h64) (by decide)
  · simpa [seqObj] using he
end
end L2
namespace L2
open PySem PySem.Spec PyProof.Rows
section
variable{X:Cx}
end
theorem rB{e:Expr}{es:List Expr}{env:Env}(h:PySem.W.isStarred e=false):starEach (e::es) env=(false,eval e env)::starEach es env:=by
  cases e<;>first | rfl | cases h
theorem CJ{X:Cx}{e:Expr}{es:List Expr}{te:TE}{t:TA}(ha:PE X e te)(hr:PA X es t)(h:PySem.W.isStarred e=false:=by rfl):PA X (e::es) (ov te t):=wo ha hr (rB h)
def qC:List (Int × Int)→TA
  | []=>z9
  | p::r=>ov (BO (ov (tC (.int p.1)) (ov (tC (.int p.2)) z9))) (qC r)
@[irreducible] def CW(ps:List (Int × Int)):TA:=qC ps
structure jm where
  one:Int
  other:Int
  top:Int
  bot:Int
  worth:Int
structure aW where
  things:Int
  ties:List jm
  pat:List Int
  asks:Int
structure jm.Ok (n:Int) (t:jm):Prop where
  o0:0≤t.one
  o1:t.one < t.other
  o2:t.other < n
  c0:0≤t.top
  c1:t.top≤t.bot
  b0:1≤t.bot
  b1:t.bot≤100
  w0:0≤t.worth
  w1:t.worth≤1000
  cop:Int.gcd t.top t.bot=1
structure aW.Ok (w:aW):Prop where
  t0:0≤w.things
  t1:w.things≤12
  ties:∀t∈w.ties,t.Ok w.things
  len:w.ties.length≤16
  pl:(w.pat.length:Int)=w.things
  pat:∀p∈w.pat,0≤p∧p≤20
  a0:0≤w.asks
  a1:w.asks≤40
def AB(K:PySem.W.Frag)(H:Hp)(v:V)(t:jm):Prop:=∃p q,v=.ref p∧bK K H p [.int t.one,.int t.other,.ref q,.int t.worth]∧bK K H q [.int t.top,.int t.bot]
inductive l6 (K:PySem.W.Frag) (H:Hp):List V→List jm→Prop
  | nil:l6 K H [] []
  | cons {v vs t ts}:AB K H v t→l6 K H vs ts→l6 K H (v::vs) (t::ts)
structure C9 (K:PySem.W.Frag) (H:Hp) (v:V) (w:aW):Prop where
  ex:∃a b c ts,v=.ref a∧bK K H a [.int w.things,.ref b,.ref c,.int w.asks]∧bK K H b ts∧l6 K H ts w.ties∧bK K H c (w.pat.map V.int)
section
variable{K:PySem.W.Frag}{H H':Hp}
end
theorem pF{t b:Int}(hb:0 < b)(h0:0≤t)(h1:t≤b)(h2:b≤100):0≤(lowM t b).1∧(lowM t b).1≤(lowM t b).2∧1≤(lowM t b).2∧(lowM t b).2≤100:=by
  obtain⟨d,e1,e2,e3,e4,e5⟩:=eR (t:=t) (b:=b) (by lia)
  generalize (lowM t b).1=x at*
  generalize (lowM t b).2=y at*
  have dp:0 < d:=by
    rcases Int.lt_or_gt_of_ne e2 with z | z
    · exfalso
      have:y*d < 0:=Int.mul_neg_of_pos_of_neg e5 z
      lia
    · exact z
  have x0:0≤x:=by
    rcases Int.lt_or_le x 0 with z | z
    · have:x*d < 0:=Int.mul_neg_of_neg_of_pos z dp
      lia
    · exact z
  have xy:x≤y:=by
    rcases Int.lt_or_le y x with z | z
    · have:y*d < x*d:=Int.mul_lt_mul_of_pos_right z dp
      lia
    · exact z
  have yb:y≤y*d:=by
    have:=Int.mul_le_mul_of_nonneg_left (show(1:Int)≤d by lia) (show 0≤y by lia)
    lia
  exact⟨x0,xy,by lia,by lia⟩
end L2
namespace L2
open PySem PySem.Spec PyProof.Rows
inductive jA {α β:Type} (R:α→β→Prop):List α→List β→Prop
  | nil:jA R [] []
  | cons {a b as bs}:R a b→jA R as bs→jA R (a::as) (b::bs)
namespace jA
variable{α β:Type}{R S:α→β→Prop}
theorem mono(h:∀a b,R a b→S a b):∀{as:List α} {bs:List β},jA R as bs→jA S as bs
  | _,_,.nil=>.nil
  | _,_,.cons x r=>.cons (h _ _ x) (mono h r)
theorem len:∀{as:List α} {bs:List β},jA R as bs→as.length=bs.length
  | _,_,.nil=>rfl
  | _,_,.cons _ r=>by simp [len r]
theorem snoc{a:α}{b:β}(h:R a b):∀{as:List α} {bs:List β},jA R as bs→jA R (as++[a]) (bs++[b])
  | _,_,.nil=>.cons h .nil
  | _,_,.cons x r=>.cons x (snoc h r)
theorem get:∀{as:List α} {bs:List β} {i:Nat} {b:β},jA R as bs→bs[i]?=some b→∃a,as[i]?=some a∧R a b
  | _,_,_,_,.nil,e=>by simp at e
  | _,_,0,_,.cons x _,e=>by simp at e;subst e;exact⟨_,rfl,x⟩
  | _,_,i+1,b,.cons _ r,e=>by
    obtain⟨v,h1,h2⟩:=get (i:=i) (b:=b) r (by simpa using e)
    exact⟨v,by simpa using h1,h2⟩
end jA
section
variable{K:PySem.W.Frag}{a l:Addr}{xs:List V}{g:TG}{tc:TT}{te:TE}{Q:VK}{σ:L2.St}{H:Hp}{α β:Type}{us:List α}{cp:List (Nat × Str)}{nT:Nat}
def B2(aP:Hp→V→β→Prop)(SI:L2.St→Prop)(us:List α)(f:α→Option β)(H:Hp)(l:Addr)(i:Nat)(σ:L2.St)(H':Hp):Prop:=SI σ∧ao H H'∧∃vs,H' l=some (.lst vs)∧vs.length≤i∧jA (aP H') vs ((us.take i).filterMap f)
end
theorem jz:∀{a b:List Int},a.Perm b→a.Pairwise (· ≤·)→b.Pairwise (· ≤·)→a=b
  | [],b,p,_,_=>by
    have:=p.length_eq
    exact(List.length_eq_zero_iff.mp this.symm).symm
  | x::a,b,p,h1,h2=>by
    cases b with
    | nil=>have:=p.length_eq;simp at this
    | cons y b=>
      have h1':=List.pairwise_cons.mp h1
      have h2':=List.pairwise_cons.mp h2
      have e:x=y:=by
        have m1:y∈x::a:=p.mem_iff.mpr (by simp)
        have m2:x∈y::b:=p.mem_iff.mp (by simp)
        rcases List.mem_cons.mp m1 with z | z
        · exact z.symm
        · rcases List.mem_cons.mp m2 with z2 | z2
          · exact z2
          · have:=h1'.1 y z
            have:=h2'.1 x z2
            lia
      subst e
      rw [jz ((List.perm_cons x).mp p) h1'.2 h2'.2]
def eG(ns:List Int):List Int:=ns.mergeSort
theorem kX{ns ns':List Int}(p:ns'.Perm ns)(h:ns'.Pairwise (· ≤·)):ns'=eG ns:=by
  refine jz (p.trans (List.mergeSort_perm ns _).symm) h ?_
  have:=List.pairwise_mergeSort (le:=fun a b:Int=>decide (a≤b)) (fun a b c h1 h2=>by simp at*;lia) (fun a b=>by simp;lia) ns
  exact this.imp fun h=>by simpa using h
theorem kY(ns:List Int):(eG ns).Perm ns:=List.mergeSort_perm ns _
theorem Av{ns:List Int}{x:Int}:x∈eG ns↔ x∈ns:=(kY ns).mem_iff
theorem Au(ns:List Int):(eG ns).length=ns.length:=(kY ns).length_eq
section
variable{X:Cx}{K:PySem.W.Frag}{pos:Pos}
theorem wy{es:List Expr}{k:Nat}{t:vj}{n:Nat}(hK:X.K=K)(hc:X.calm=true)(h:rJ X es t)(hn:(assignEach es X.env).length=n:=by rfl)(hst:(assignEach es X.env).findIdx? (·.1)=none:=by rfl):PG X (.Tuple es k pos) (AQ K n t):=hK ▸ zw hc h hn hst
theorem wB{tg l:Expr}{tl:TE}(h:X.K=K)(hl:PE X l tl):PI X tg l (AU K tl):=h ▸ zx hl
theorem ua{tg l:Expr}{tl:TE}(h:X.K=K)(hl:PE X l tl):PI X tg l (yd K tl):=h ▸ wA hl
end
instance:Inhabited jm:=⟨⟨0,1,1,1,0⟩⟩
def aW.tie(W:aW)(k:Int):jm:=W.ties.getD k.toNat default
def aW.has(W:aW)(k thing:Int):Bool:=(W.tie k).one==thing || (W.tie k).other==thing
def aW.many(W:aW)(asked:List Int)(thing:Int):Int:=((asked.filter fun k=>W.has k thing).length:Nat)
def aW.bears(W:aW)(asked taken:List Int)(thing:Int):Bool:= !taken.contains thing&&decide (W.many asked thing < W.pat.getD thing.toNat 0)
def aW.may(W:aW)(asked taken:List Int)(k:Int):Bool:= !(asked.contains k || decide (W.asks≤(asked.length:Int)))&&(W.bears asked taken (W.tie k).one&&W.bears asked taken (W.tie k).other)
def aW.askd(asked:List Int)(k:Int):List Int:=eG (asked++[k])
def aW.took(W:aW)(taken:List Int)(k:Int)(truth:Bool):List Int:=if truth then eG (taken++[(W.tie k).one,(W.tie k).other]) else taken
def aW.rng(W:aW):List Int:=(List.range W.ties.length).map Int.ofNat
def oJ(W:aW)(k:Int):Prop:=0≤k∧k < (W.ties.length:Int)
theorem oJ.get{W:aW}{k:Int}(h:oJ W k):W.ties[k.toNat]?=some (W.tie k):=by
  have hk:k.toNat < W.ties.length:=by have:=h.1;have:=h.2;lia
  unfold aW.tie
  rw [List.getD_eq_getElem?_getD,List.getElem?_eq_getElem hk];rfl
theorem oJ.ok{W:aW}{k:Int}(h:oJ W k)(o:W.Ok):(W.tie k).Ok W.things:=o.ties _ (List.mem_of_getElem? h.get)
theorem Ca{W:aW}{k:Int}:k∈W.rng↔ oJ W k:=by
  unfold aW.rng oJ
  rw [List.mem_map]
  constructor
  · rintro⟨n,hn,rfl⟩
    have:=List.mem_range.mp hn
    exact⟨Int.natCast_nonneg n,by simp;lia⟩
  · rintro⟨h0,h1⟩
    exact⟨k.toNat,List.mem_range.mpr (by lia),by simp;lia⟩
def yy(K:PySem.W.Frag)(H:Hp)(v:V)(asked taken:List Int):Prop:=∃a b c,v=.ref a∧bK K H a [.ref b,.ref c]∧bK K H b (asked.map V.int)∧bK K H c (taken.map V.int)
theorem yy.ts{K:PySem.W.Frag}{H H':Hp}(s:jl H H'){v:V}{asked taken:List Int}(h:yy K H v asked taken):yy K H' v asked taken:=by
  obtain⟨a,b,c,e,h1,h2,h3⟩:=h
  exact⟨a,b,c,e,s.tup h1,s.tup h2,s.tup h3⟩
section
variable{K:PySem.W.Frag}{σ:L2.St}{H:Hp}{Q:VK}{i j:Nat}{vW:V}{W:aW}{k:Int}
end
def small(k:Int):Prop:= -1000000≤k∧k≤1000000
def Dk(n dep:Nat)(d:PyData):Prop:=d.showable=true∧kz d=true∧L2.cnt d≤n∧d.depth≤dep
theorem Dk.mono{n m dep e:Nat}{d:PyData}(h:Dk n dep d)(h1:n≤m)(h2:dep≤e):Dk m e d:=⟨h.1,h.2.1,Nat.le_trans h.2.2.1 h1,Nat.le_trans h.2.2.2 h2⟩
theorem Dk.int{k:Int}(h:small k):Dk 1 2 (.int k):=by
  refine⟨?_,rfl,Nat.le_refl _,by simp [PyData.depth]⟩
  show decide (k.natAbs.log2 < 1920)=true
  rw [decide_eq_true_eq]
  exact Nat.lt_trans ((show Bt 64 k by have:=h.1;have:=h.2;unfold Bt;lia).log (by decide)) (by decide)
theorem Dk.bool(b:Bool):Dk 1 2 (.bool b):=⟨rfl,rfl,Nat.le_refl _,by simp [PyData.depth]⟩
theorem Dk.none:Dk 1 2 .none:=⟨rfl,rfl,Nat.le_refl _,by simp [PyData.depth]⟩
theorem Dk.all{n dep:Nat}:∀{ds:List PyData},(∀d∈ds,Dk n dep d)→PyData.showableAll ds=true∧eS ds=true∧gX ds≤ds.length*n∧PyData.depthAll ds≤dep
  | [],_=>⟨rfl,rfl,by simp [gX],by simp [PyData.depthAll]⟩
  | d::r,h=>by
    obtain⟨a1,a2,a3,a4⟩:=h d (by simp)
    obtain⟨b1,b2,b3,b4⟩:=Dk.all (ds:=r) fun x hx=>h x (by simp [hx])
    refine⟨?_,?_,?_,?_⟩
    · simp only [PyData.showableAll,a1,b1,Bool.and_self]
    · simp only [eS,a2,b2,Bool.and_self]
    · simp only [gX,List.length_cons,Nat.succ_mul]
      lia
    · simp only [PyData.depthAll];lia
theorem Dk.tup{n dep m:Nat}{ds:List PyData}(h:∀d∈ds,Dk n dep d)(hl:ds.length≤m):Dk (1+m*n) (dep+2) (.tuple ds):=by
  obtain⟨b1,b2,b3,b4⟩:=Dk.all h
  refine⟨b1,b2,?_,?_⟩
  · simp only [L2.cnt]
    have:=Nat.mul_le_mul_right n hl
    lia
  · simp only [PyData.depth];lia
theorem Dk.ok{n dep:Nat}{d:PyData}(h:Dk n dep d)(h1:n≤8000)(h2:dep≤60):d.showable=true∧d.depth≤60∧d.shown.length≤sizeLine:=by
  have:=lV h.2.1 h.1
  have sl:sizeLine=16777216:=sizeLine_eq
  have:=h.2.2.1
  exact⟨h.1,Nat.le_trans h.2.2.2 h2,by lia⟩
theorem Dk.ints{ns:List Int}{m:Nat}(hl:ns.length≤m)(h:∀r∈ns,small r):Dk (1+m) 4 (.tuple (ns.map .int)):=by
  have:=Dk.tup (n:=1) (dep:=2) (m:=m) (ds:=ns.map PyData.int) (fun d hd=>by
    obtain⟨x,hx,rfl⟩:=List.mem_map.mp hd
    exact Dk.int (h x hx)) (by rw [List.length_map];exact hl)
  simpa using this
section
variable{K:PySem.W.Frag}{H:Hp}
def bS(t:jm):PyData:=.tuple [.int t.one,.int t.other,.tuple [.int t.top,.int t.bot],.int t.worth]
def au(W:aW):PyData:=.tuple [.int W.things,.tuple (W.ties.map bS),.tuple (W.pat.map .int),.int W.asks]
def DH(asked taken:List Int):PyData:=.tuple [.tuple (asked.map .int),.tuple (taken.map .int)]
end
end L2
namespace L2
open PySem PySem.Spec PyProof.Rows
section
variable{X:Cx}
end
end L2
namespace L2
end L2
namespace L2
open PySem PySem.Spec PyProof.Rows
section
variable{prog:Program}{w:World}{A:Around}{E:Value→Shared→Prop}{s:Shared}
theorem vc{it t:Addr}{i:Nat}{ys}{x:Value}{Q:Value→Shared→Prop}(hi:s.heap.IsTupleIter it t i)(ht:s.heap.IsTuple t ys)(hx:ys[i]?=some x)
    (q:∀g,g.IsTupleIter it t (i+1)→Heap.SameBut it s.heap g→Q x {s with heap:=g}):wpAny (model prog w) A (Builtin.SmallTypes.nextOf (.ref it)) Q E s:=by
  obtain⟨o,ho,hc,hd⟩:=id hi;obtain⟨p,hp,_,n,hpd⟩:=ht;unfold Builtin.SmallTypes.nextOf
  refine wpAny_bind (wpAny_callSpecial?_slot (name:=Str.ofString "__next__") hi.typeIs F.slot_tuple_iterator_next (wpAny_call_entry F.slot_tuple_iterator_next hi.typeIs F.entry_tuple_iterator_next ?_ (F.args_tuple_iterator_next_1 _)))
  show wpAny _ _ (field (.ref it) 0 >>= _) _ _ s;refine wpAny_bind (wpAny_field ho hd (x:=.ref t) rfl ?_)
  show wpAny _ _ (if (Value.ref t==Value.none)=true then _ else _) _ _ s;rw [if_neg (show ¬((Value.ref t==Value.none)=true) from Bool.false_ne_true)]
  show wpAny _ _ (field (.ref it) 1 >>= _) _ _ s;refine wpAny_bind (wpAny_field ho hd (x:=.int i 0) rfl ?_)
  show wpAny _ _ (seqItems? (.ref t) >>= _) _ _ s;refine wpAny_bind (wpAny_seqItems hp hpd ?_)
  simp only [Int.toNat_natCast,hx];refine wpAny_bind (wpAny_setField ho hd (by simp) (wpAny_pure ⟨x,rfl,wpAny_pure (q _ ?_ (Heap.SameBut.update ..))⟩))
  refine⟨_,Heap.get?_update_self _ ho (Obj.isFreed_of_fields (Obj.data_mapFields hd _)),(Obj.cls_mapFields ..).trans hc,?_⟩;rw [Obj.data_mapFields hd];simp [rawInt]
theorem vb{it t:Addr}{i:Nat}{ys}{Q:Value→Shared→Prop}(hh:A.handled=none)(hi:s.heap.IsTupleIter it t i)(ht:s.heap.IsTuple t ys)(hx:ys[i]?=none)
    (q:∀g e,Heap.ExtBut it s.heap g→(∃o,g.get? e=some o∧o.cls=.type "StopIteration")→E (.ref e) {s with heap:=g}):wpAny (model prog w) A (Builtin.SmallTypes.nextOf (.ref it)) Q E s:=by
  obtain⟨o,ho,hc,hd⟩:=id hi;obtain⟨p,hp,_,n,hpd⟩:=ht;unfold Builtin.SmallTypes.nextOf
  refine wpAny_bind (wpAny_callSpecial?_slot (name:=Str.ofString "__next__") hi.typeIs F.slot_tuple_iterator_next (wpAny_call_entry F.slot_tuple_iterator_next hi.typeIs F.entry_tuple_iterator_next ?_ (F.args_tuple_iterator_next_1 _)))
  show wpAny _ _ (field (.ref it) 0 >>= _) _ _ s;refine wpAny_bind (wpAny_field ho hd (x:=.ref t) rfl ?_)
  show wpAny _ _ (if (Value.ref t==Value.none)=true then _ else _) _ _ s;rw [if_neg (show ¬((Value.ref t==Value.none)=true) from Bool.false_ne_true)]
  show wpAny _ _ (field (.ref it) 1 >>= _) _ _ s;refine wpAny_bind (wpAny_field ho hd (x:=.int i 0) rfl ?_)
  show wpAny _ _ (seqItems? (.ref t) >>= _) _ _ s;refine wpAny_bind (wpAny_seqItems hp hpd ?_)
  simp only [Int.toNat_natCast,hx];refine wpAny_bind (wpAny_rule (wpAny_bind (wpAny_setField ho hd (by simp) ?_)))
  show wpAny _ _ (newExc (.type "StopIteration") [] >>= _) _ _ _;refine wpAny_bind ?_;simp only [newExc,newTuple]
  refine wpAny_bind (wpAny_newObj_type ?_ (by size_fits));refine wpAny_bind (m:=firstArgMember _ _) (wpAny_of_eq (a:=Value.none) (by first | rfl | (simp only [firstArgMember];rfl)) ?_)
  refine wpAny_newObj_type ?_ (by size_fits);simp only [raiseNew];refine wpAny_bind (wpAny_handled ?_);first | rw [show A.in1.handled=none from hh] | rw [hh]
  refine wpAny_bind (wpAny_pure (wpAny_throw ?_));exact q _ _ (((Heap.SameBut.update ..).extBut.push _).push _) ⟨_,Heap.get?_push_size _ rfl,rfl⟩
end
structure Sc (prog:Program) (w:World) (it l:Addr) (St:Nat→Heap→Prop) (Sq:Heap→Array Value→Prop):Prop where
  stay:∀{k h h'},St k h→(∀o,h.get? it=some o→h'.get? it=some o)→St k h'
  live:∀{k h},St k h→∃o,h.get? it=some o∧∀v,o.data≠.cell v
  row:∀{h h' xs},Sq h xs→(∀o,h.get? l=some o→h'.get? l=some o)→Sq h' xs
  next:∀{A:Around} {s:Shared} {E:Value→Shared→Prop} {Q:Value→Shared→Prop} {k:Nat} {xs:Array Value} {x:Value},St k s.heap→Sq s.heap xs→xs[k]?=some x→(∀g,St (k+1) g→Heap.SameBut it s.heap g→Q x {s with heap:=g})→wpAny (model prog w) A (Builtin.SmallTypes.nextOf (.ref it)) Q E s
  last:∀{A:Around} {s:Shared} {E:Value→Shared→Prop} {Q:Value→Shared→Prop} {k:Nat} {xs:Array Value},A.handled=none→St k s.heap→Sq s.heap xs→xs[k]?=none→(∀g e,Heap.ExtBut it s.heap g→(∃o,g.get? e=some o∧o.cls=.type "StopIteration")→E (.ref e) {s with heap:=g})→wpAny (model prog w) A (Builtin.SmallTypes.nextOf (.ref it)) Q E s
theorem jh{prog:Program}{w:World}(it l:Addr):Sc prog w it l (fun k h=>h.IsTupleIter it l k) (fun h xs=>h.IsTuple l xs) where
  stay:=fun st k=>st.at fun o e=>k o e
  live:=fun st=>by
    obtain⟨o,e,c,d⟩:=st
    exact⟨o,e,fun v z=>by rw [d] at z;cases z⟩
  row:=fun q k=>by
    obtain⟨o,e,r⟩:=q
    exact⟨o,k o e,r⟩
  next:=fun st sq hx q=>vc st sq hx q
  last:=fun hh st sq hx q=>vb hh st sq hx q
theorem qu{prog:Program}{w:World}(it l:Addr):Sc prog w it l (fun k h=>h.IsListIter it l k) (fun h xs=>h.IsList l xs) where
  stay:=fun st k=>st.at fun o e=>k o e
  live:=fun st=>by
    obtain⟨o,e,c,d⟩:=st
    exact⟨o,e,fun v z=>by rw [d] at z;cases z⟩
  row:=fun q k=>by
    obtain⟨o,e,r⟩:=q
    exact⟨o,k o e,r⟩
  next:=fun st sq hx q=>wpAny_nextOf_list_item st sq hx q
  last:=fun hh st sq hx q=>wpAny_nextOf_list_end hh st sq hx q
structure lj (z TI TO i1 i2 l1 l2:Addr):Prop where
  a1:TO≠z
  a2:i1≠z
  a3:i2≠z
  a4:TO≠i1
  a5:TO≠i2
  a6:i1≠i2
  b1:l1≠z
  b2:l1≠TO
  b3:l1≠i1
  b4:l1≠i2
  c1:l2≠z
  c2:l2≠TO
  c3:l2≠i1
  c4:l2≠i2
section
variable{prog:Program}{w:World}{A:Around}{E:Value→Shared→Prop}{s:Shared}{z TI TO i1 i2 l1 l2:Addr}{k:Nat}{xs ys:Array Value}{a b:Value}{S1 S2:Nat→Heap→Prop}{R1 R2:Heap→Array Value→Prop}
theorem An{x y:Value}{Q:Value→Shared→Prop}(P1:Sc prog w i1 l1 S1 R1)(P2:Sc prog w i2 l2 S2 R2)(D:lj z TI TO i1 i2 l1 l2)(hz:IsZip s.heap z TI TO .none)(hI:IsPair s.heap TI (.ref i1) (.ref i2))(hO:IsPair s.heap TO a b)(u1:S1 k s.heap)(u2:S2 k s.heap)(r1:R1 s.heap xs)(r2:R2 s.heap ys)(hx:xs[k]?=some x)(hy:ys[k]?=some y)
    (q:∀g,IsZip g z TI TO (rawInt s.heap.objs.size)→IsPair g TO x y→S1 (k+1) g→S2 (k+1) g→IsPair g s.heap.objs.size x y→g.objs.size=s.heap.objs.size+1→(∀c o,c≠z→c≠TO→c≠i1→c≠i2→s.heap.get? c=some o→g.get? c=some o)→Q (.ref s.heap.objs.size) {s with heap:=g}):
    wpAny (model prog w) A (Builtin.«zip.__next__» ⟨[.ref z],[]⟩) (fun f s'=>∃v,f=.done (.ret v)∧Q v s') E s:=by
  show wpAny _ _ (field (.ref z) 2 >>= _) _ _ _;refine wpAny_bind (wpAny_field hz rfl (x:=.bool false) rfl ?_)
  show wpAny _ _ (field (.ref z) 3 >>= _) _ _ _;refine wpAny_bind (wpAny_field hz rfl (x:=.ref TI) rfl ?_);refine wpAny_bind (wpAny_seqItems hI rfl ?_)
  show wpAny _ _ (Builtin.SmallTypes.ownedTupleIsFree (.ref z) >>= _) _ _ _;refine wpAny_bind ?_;unfold Builtin.SmallTypes.ownedTupleIsFree
  refine wpAny_bind (wpAny_field hz rfl (x:=.none) rfl (wpAny_pure ?_));simp only [if_true];refine wpAny_bind (wpAny_rule ?_)
  refine wpAny_bind (wpAny_field hz rfl (x:=.ref TO) rfl ?_);refine wpAny_bind (wpAny_setField_rec hz (by simp) fun g1 z1 e1=>?_)
  replace z1:IsZip g1 z TI TO .ellipsis:=z1;refine wpAny_bind ?_;simp only [List.zipIdx_cons,List.zipIdx_nil,List.forIn_cons,List.forIn_nil]
  refine wpAny_bind (wpAny_bind (wpAny_onRaise ?_));show wpAny _ _ (Builtin.SmallTypes.nextOf (.ref i1) >>= _) _ _ _
  refine wpAny_bind (P1.next (P1.stay u1 fun o e=>e1.extBut _ _ D.a2 e) (P1.row r1 fun o e=>e1.extBut _ _ D.b1 e) hx fun g2 v1 e2=>wpAny_pure ?_)
  have O2:IsPair g2 TO a b:=e2.extBut _ _ D.a4 (e1.extBut _ _ D.a1 hO)
  refine wpAny_bind (wpAny_seqItems O2 rfl ?_);refine wpAny_bind (wpAny_updateSeq_pair O2 fun g3 O3 e3=>?_);replace O3:IsPair g3 TO x b:=O3;refine wpAny_bind (wpAny_letGo (wpAny_pure ?_))
  refine wpAny_bind (wpAny_bind (wpAny_onRaise ?_));show wpAny _ _ (Builtin.SmallTypes.nextOf (.ref i2) >>= _) _ _ _
  have up3:∀c o,c≠z→c≠i1→c≠TO→s.heap.get? c=some o→g3.get? c=some o:=fun c o n1 n2 n3 e=>e3.extBut _ _ n3 (e2.extBut _ _ n2 (e1.extBut _ _ n1 e))
  refine wpAny_bind (P2.next (P2.stay u2 fun o e=>up3 _ _ D.a3 D.a6.symm D.a5.symm e) (P2.row r2 fun o e=>up3 _ _ D.c1 D.c3 D.c2 e) hy fun g4 v2 e4=>wpAny_pure ?_)
  have O4:IsPair g4 TO x b:=e4.extBut _ _ D.a5 O3
  refine wpAny_bind (wpAny_seqItems O4 rfl ?_);refine wpAny_bind (wpAny_updateSeq_pair O4 fun g5 O5 e5=>?_);replace O5:IsPair g5 TO x y:=O5;refine wpAny_bind (wpAny_letGo (wpAny_pure (wpAny_pure ?_)))
  refine wpAny_bind (wpAny_seqItems O5 rfl ?_);refine wpAny_bind (wpAny_newTuple ?_)
  have sz:g5.objs.size=s.heap.objs.size:=by rw [e5.1,e4.1,e3.1,e2.1,e1.1]
  have z5:IsZip g5 z TI TO .ellipsis:=e5.extBut _ _ D.a1.symm (e4.extBut _ _ D.a3.symm (e3.extBut _ _ D.a1.symm (e2.extBut _ _ D.a2.symm z1)))
  have k5:∀c o,c≠z→c≠TO→c≠i1→c≠i2→s.heap.get? c=some o→g5.get? c=some o:=fun c o n1 n2 n3 n4 e=>e5.extBut _ _ n2 (e4.extBut _ _ n4 (up3 c o n1 n3 n2 e))
  have w1:S1 (k+1) g5:=P1.stay v1 fun o e=>e5.extBut _ _ D.a4.symm (e4.extBut _ _ D.a6 (e3.extBut _ _ D.a4.symm e))
  have w2:S2 (k+1) g5:=P2.stay v2 fun o e=>e5.extBut _ _ D.a5.symm e
  have lz:z < g5.objs.size:=Heap.lt_size z5
  show wpAny _ _ (Builtin.SmallTypes.ownedTupleHandOut (.ref z) (.ref g5.objs.size) >>= _) _ _ _;refine wpAny_bind ?_;unfold Builtin.SmallTypes.ownedTupleHandOut
  have z6:IsZip (g5.push {cls:=.type "tuple",data:=.seq #[x,y]}) z TI TO .ellipsis:=Heap.get?_push_of_some _ z5
  refine wpAny_bind (wpAny_setField_rec z6 (by simp) fun g7 z7 e7=>?_);replace z7:IsZip g7 z TI TO (rawInt g5.objs.size):=z7
  refine wpAny_setField_rec z7 (by simp) fun g8 z8 e8=>?_;replace z8:IsZip g8 z TI TO (rawInt g5.objs.size):=z8
  have up:∀c o,c≠z→g5.get? c=some o→g8.get? c=some o:=fun c o n e=>e8.extBut _ _ n (e7.extBut _ _ n (Heap.get?_push_of_some _ e))
  have T8:IsPair g8 g5.objs.size x y:=e8.extBut _ _ (Nat.ne_of_gt lz) (e7.extBut _ _ (Nat.ne_of_gt lz) (Heap.get?_push_size _ rfl))
  have n8:g8.objs.size=g5.objs.size+1:=by rw [e8.1,e7.1,Heap.size_push]
  rw [sz] at z8 T8 n8;refine wpAny_pure ⟨_,rfl,?_⟩;show Q (.ref g5.objs.size) _;rw [sz]
  exact q g8 z8 (up _ _ D.a1 O5) (P1.stay w1 fun o e=>up _ o D.a2 e) (P2.stay w2 fun o e=>up _ o D.a3 e) T8 n8 fun c o n1 n2 n3 n4 e=>up c o n1 (k5 c o n1 n2 n3 n4 e)
theorem xD{Q:Fin→Shared→Prop}(hh:A.handled=none)(P1:Sc prog w i1 l1 S1 R1)(P2:Sc prog w i2 l2 S2 R2)(D:lj z TI TO i1 i2 l1 l2)(hz:IsZip s.heap z TI TO .none)(hI:IsPair s.heap TI (.ref i1) (.ref i2))(hO:IsPair s.heap TO a b)(u1:S1 k s.heap)(u2:S2 k s.heap)(r1:R1 s.heap xs)(r2:R2 s.heap ys)(hn:xs[k]?=none∨ys[k]?=none)
    (q:∀g e,(∀c o,c≠z→c≠TO→c≠i1→c≠i2→s.heap.get? c=some o→g.get? c=some o)→(∃o,g.get? e=some o∧o.cls=.type "StopIteration")→E (.ref e) {s with heap:=g}):
    wpAny (model prog w) A (Builtin.«zip.__next__» ⟨[.ref z],[]⟩) Q E s:=by
  show wpAny _ _ (field (.ref z) 2 >>= _) _ _ _;refine wpAny_bind (wpAny_field hz rfl (x:=.bool false) rfl ?_)
  show wpAny _ _ (field (.ref z) 3 >>= _) _ _ _;refine wpAny_bind (wpAny_field hz rfl (x:=.ref TI) rfl ?_);refine wpAny_bind (wpAny_seqItems hI rfl ?_)
  show wpAny _ _ (Builtin.SmallTypes.ownedTupleIsFree (.ref z) >>= _) _ _ _;refine wpAny_bind ?_;unfold Builtin.SmallTypes.ownedTupleIsFree
  refine wpAny_bind (wpAny_field hz rfl (x:=.none) rfl (wpAny_pure ?_));simp only [if_true];refine wpAny_bind (wpAny_rule ?_)
  refine wpAny_bind (wpAny_field hz rfl (x:=.ref TO) rfl ?_);refine wpAny_bind (wpAny_setField_rec hz (by simp) fun g1 z1 e1=>?_)
  replace z1:IsZip g1 z TI TO .ellipsis:=z1;refine wpAny_bind ?_;simp only [List.zipIdx_cons,List.zipIdx_nil,List.forIn_cons,List.forIn_nil]
  refine wpAny_bind (wpAny_bind (wpAny_onRaise ?_));show wpAny _ _ (Builtin.SmallTypes.nextOf (.ref i1) >>= _) _ _ _
  cases hx:xs[k]? with
  | none=>
    refine wpAny_bind (P1.last hh (P1.stay u1 fun o e=>e1.extBut _ _ D.a2 e) (P1.row r1 fun o e=>e1.extBut _ _ D.b1 e) hx fun g2 e e2 he=>?_)
    obtain⟨oe,h1,h2⟩:=he;have z2:IsZip g2 z TI TO .ellipsis:=e2 _ _ D.a2.symm z1
    have nz:e≠z:=fun x=>by subst x;rw [z2] at h1;cases h1;simp at h2
    refine wpAny_setField_rec z2 (by simp) fun g3 _ e3=>q g3 e (fun c o n1 _ n3 _ x=>e3.extBut _ _ n1 (e2 _ _ n3 (e1.extBut _ _ n1 x))) ⟨oe,e3.extBut _ _ nz h1,h2⟩
  | some x=>
    have hy:ys[k]?=none:=by
      rcases hn with h | h
      · rw [hx] at h;cases h
      · exact h
    refine wpAny_bind (P1.next (P1.stay u1 fun o e=>e1.extBut _ _ D.a2 e) (P1.row r1 fun o e=>e1.extBut _ _ D.b1 e) hx fun g2 v1 e2=>wpAny_pure ?_)
    have O2:IsPair g2 TO a b:=e2.extBut _ _ D.a4 (e1.extBut _ _ D.a1 hO)
    refine wpAny_bind (wpAny_seqItems O2 rfl ?_);refine wpAny_bind (wpAny_updateSeq_pair O2 fun g3 O3 e3=>?_);refine wpAny_bind (wpAny_letGo (wpAny_pure ?_))
    refine wpAny_bind (wpAny_bind (wpAny_onRaise ?_));show wpAny _ _ (Builtin.SmallTypes.nextOf (.ref i2) >>= _) _ _ _
    have up3:∀c o,c≠z→c≠i1→c≠TO→s.heap.get? c=some o→g3.get? c=some o:=fun c o n1 n2 n3 e=>e3.extBut _ _ n3 (e2.extBut _ _ n2 (e1.extBut _ _ n1 e))
    refine wpAny_bind (P2.last hh (P2.stay u2 fun o e=>up3 _ _ D.a3 D.a6.symm D.a5.symm e) (P2.row r2 fun o e=>up3 _ _ D.c1 D.c3 D.c2 e) hy fun g4 e e4 he=>?_)
    obtain⟨oe,h1,h2⟩:=he;have z4:IsZip g4 z TI TO .ellipsis:=e4 _ _ D.a3.symm (e3.extBut _ _ D.a1.symm (e2.extBut _ _ D.a2.symm z1))
    have nz:e≠z:=fun x=>by subst x;rw [z4] at h1;cases h1;simp at h2
    refine wpAny_setField_rec z4 (by simp) fun g5 _ e5=>q g5 e (fun c o n1 n2 n3 n4 x=>e5.extBut _ _ n1 (e4 _ _ n4 (up3 c o n1 n3 n2 x))) ⟨oe,e5.extBut _ _ nz h1,h2⟩
theorem vh{x y:Value}{Q:Option Value→Shared→Prop}(P1:Sc prog w i1 l1 S1 R1)(P2:Sc prog w i2 l2 S2 R2)(D:lj z TI TO i1 i2 l1 l2)(hz:IsZip s.heap z TI TO .none)(hI:IsPair s.heap TI (.ref i1) (.ref i2))(hO:IsPair s.heap TO a b)(u1:S1 k s.heap)(u2:S2 k s.heap)(r1:R1 s.heap xs)(r2:R2 s.heap ys)(hx:xs[k]?=some x)(hy:ys[k]?=some y)
    (q:∀g,IsZip g z TI TO (rawInt s.heap.objs.size)→IsPair g TO x y→S1 (k+1) g→S2 (k+1) g→IsPair g s.heap.objs.size x y→g.objs.size=s.heap.objs.size+1→(∀c o,c≠z→c≠TO→c≠i1→c≠i2→s.heap.get? c=some o→g.get? c=some o)→Q (some (.ref s.heap.objs.size)) {s with heap:=g}):
    wpAny (model prog w) A (pyNext (.ref z)) Q E s:=by
  have hT:s.TypeIs (.ref z) "zip":=⟨_,hz,rfl⟩;unfold pyNext
  refine wpAny_bind (wpAny_attempt (wpAny_callSpecial?_slot (name:=Str.ofString "__next__") hT F.slot_zip_next (wpAny_call_entry F.slot_zip_next hT F.entry_zip_next ?_ (F.args_zip_next_1 _))))
  exact An P1 P2 D hz hI hO u1 u2 r1 r2 hx hy fun g b1 b2 b3 b4 b5 b6 b7=>wpAny_pure (q g b1 b2 b3 b4 b5 b6 b7)
theorem vi{Q:Option Value→Shared→Prop}(hh:A.handled=none)(P1:Sc prog w i1 l1 S1 R1)(P2:Sc prog w i2 l2 S2 R2)(D:lj z TI TO i1 i2 l1 l2)(hz:IsZip s.heap z TI TO .none)(hI:IsPair s.heap TI (.ref i1) (.ref i2))(hO:IsPair s.heap TO a b)(u1:S1 k s.heap)(u2:S2 k s.heap)(r1:R1 s.heap xs)(r2:R2 s.heap ys)(hn:xs[k]?=none∨ys[k]?=none)
    (q:∀g,(∀c o,c≠z→c≠TO→c≠i1→c≠i2→s.heap.get? c=some o→g.get? c=some o)→Q none {s with heap:=g}):wpAny (model prog w) A (pyNext (.ref z)) Q E s:=by
  have hT:s.TypeIs (.ref z) "zip":=⟨_,hz,rfl⟩;unfold pyNext
  refine wpAny_bind (wpAny_attempt (wpAny_callSpecial?_slot (name:=Str.ofString "__next__") hT F.slot_zip_next (wpAny_call_entry F.slot_zip_next hT F.entry_zip_next (xD hh P1 P2 D hz hI hO u1 u2 r1 r2 hn fun g e hk he=>?_) (F.args_zip_next_1 _))))
  obtain⟨o,ho,hc⟩:=he;refine wpAny_bind (wpAny_isInstance (T:="StopIteration") (b:=true) ⟨o,ho,hc⟩ isSubtype_stop ?_);exact wpAny_pure (q _ hk)
end
end L2
namespace L2
open PySem PySem.Spec PyProof.Rows
section
variable{X:Cx}{pins:List (Addr × Obj)}{σ:L2.St}{H:Hp}{s:Shared}{h':Heap}
theorem aq.turnedL{t':Nat}{fp:List Addr}(I:aq X pins σ H s)(hf:∀b∈fp,fN X pins H b)(k:∀b o,b∉fp→s.heap.get? b=some o→h'.get? b=some o):aq X pins σ H {s with heap:=h',toks:=t'}:=by
  have hL:X.env.locals∉fp:=fun z=>(hf _ z).2.1 rfl
  have nit:∀b u,H b=some u→b∉fp:=fun b u e z=>by have:=(hf b z).1;rw [this] at e;cases e
  refine I.step (g':=s.gens) (d':=s.drawn) (ch:=fp) (fun b hb=>?_) (fun b o _ _ hc e _=>k b o hc e) (fun b o _ _ hc e _=>⟨o.slots,k b o hc e⟩) (fun _ _ _ _ n=>n) (fun b o hc e=>⟨o,k b o hc e⟩) (fun _ _ e=>e) (fun _ _ _ e=>e) (fun b ps e=>⟨#[],by rw [e];simp⟩) (fun m hm=>?_) (fun b u e=>?_) I.bare
  · obtain⟨f0,f1,f2,f3,f4,f5⟩:=hf b hb
    exact⟨f3,f1,f4,f5⟩
  · obtain⟨o,es,ep,ho,r⟩:=hm
    exact⟨o,es,ep,k _ o hL ho,r⟩
  · refine(I.hok b u e).stay (fun c v hc q=>k c v ?_ q) (fun _ q=>q) fun _ _ q=>q
    rcases hc with z | z
    · rw [z];exact nit b u e
    · exact nit c _ z
theorem aN(I:aq X pins σ H s){b l:Addr}{xs:List V}(f:fN X pins H b)(q:bK X.K H l xs):l≠b:=by
  intro z
  subst z
  rcases q with (q | ⟨o,q⟩) | ⟨o,its,n,hk,_⟩
  · rw [f.1] at q;cases q
  · rw [f.1] at q;cases q
  · have hb:X.base.get? l=some o:=I.ok.mod.kin l o hk
    rcases f.2.2.2.1 with z | z
    · exact I.ok.noex l o hb z
    · exact absurd (Nat.lt_of_lt_of_le (Heap.lt_size (I.ok.bs l o hb).1) z) (Nat.lt_irrefl _)
end
def C3(K:PySem.W.Frag)(l1 l2:Addr):It:=
  ⟨fun i H=>∃xs ys x y,bK K H l1 xs∧bK K H l2 ys∧xs[i]?=some x∧ys[i]?=some y,
   fun i H v H'=>∃p x y,v=.ref p∧H p=none∧H'=aS H p (.tup [x,y])∧∀xs ys,bK K H l1 xs→bK K H l2 ys→xs[i]?=some x∧ys[i]?=some y,
   fun i H=>∃xs ys,bK K H l1 xs∧bK K H l2 ys∧(xs.length≤i∨ys.length≤i)⟩
def yr(z TI TO i1 i2 l1 l2:Addr)(i:Nat)(h:Heap):Prop:=IsZip h z TI TO .none∧IsPair h TI (.ref i1) (.ref i2)∧(∃a b,IsPair h TO a b)∧h.IsTupleIter i1 l1 i∧h.IsTupleIter i2 l2 i
theorem vd{P:Program}{w:World}{K:PySem.W.Frag}{es:List Expr}{k0:Nat}{pos:Pos}{z TI TO i1 i2:Addr}(l1 l2:Addr)(n1:TO≠z)(n2:i1≠z)(n3:i2≠z)(n4:TO≠i1)(n5:TO≠i2)(n6:i1≠i2)(n7:TI≠z)(n8:TI≠TO)(n9:TI≠i1)(n10:TI≠i2):
    oO P w K (.Tuple es k0 pos) (C3 K l1 l2) [z,TI,TO,i1,i2] z (yr z TI TO i1 i2 l1 l2) where
  mem:=by simp
  obj:=fun i h st b hb=>by
    obtain⟨hz,hI,⟨a,c,hO⟩,u1,u2⟩:=st
    simp only [List.mem_cons,List.not_mem_nil,or_false] at hb
    rcases hb with rfl | rfl | rfl | rfl | rfl
    · exact⟨_,hz,fun v z=>by cases z⟩
    · exact⟨_,hI,fun v z=>by cases z⟩
    · exact⟨_,hO,fun v z=>by cases z⟩
    · obtain⟨o,e,c,d⟩:=u1
      exact⟨o,e,fun v z=>by rw [d] at z;cases z⟩
    · obtain⟨o,e,c,d⟩:=u2
      exact⟨o,e,fun v z=>by rw [d] at z;cases z⟩
  keep:=fun i h h' st k=>by
    obtain⟨hz,hI,⟨a,c,hO⟩,u1,u2⟩:=st
    exact⟨k _ (by simp) _ hz,k _ (by simp) _ hI,⟨a,c,k _ (by simp) _ hO⟩,u1.at fun o e=>k _ (by simp) o e,u2.at fun o e=>k _ (by simp) o e⟩
  item:=by
    intro X hP hw hK hc i pins s σ H E I hf st hg
    subst hP hw hK
    obtain⟨xs,ys,x,y,q1,q2,hx,hy⟩:=hg
    obtain⟨hz,hI,⟨a,b,hO⟩,u1,u2⟩:=id st
    obtain⟨its1,rv1,p1,z1⟩:=I.tuple q1
    obtain⟨its2,rv2,p2,z2⟩:=I.tuple q2
    obtain⟨ux,hux,rux⟩:=rv1.get hx
    obtain⟨uy,huy,ruy⟩:=rv2.get hy
    have fz:=hf z (by simp);have fO:=hf TO (by simp);have f1:=hf i1 (by simp);have f2:=hf i2 (by simp)
    have D:lj z TI TO i1 i2 l1 l2:=⟨n1,n2,n3,n4,n5,n6,aN I fz q1,aN I fO q1,aN I f1 q1,aN I f2 q1,aN I fz q2,aN I fO q2,aN I f1 q2,aN I f2 q2⟩
    refine vh (xs:=its1.toArray) (ys:=its2.toArray) (jh i1 l1) (jh i2 l2) D hz hI hO u1 u2 p1 p2 (by simpa using hux) (by simpa using huy) fun g gz gO g1 g2 gT gs gk=>?_
    refine⟨_,rfl,wpAny_letOwnedTupleGo_zip gz fun g' gz' ge=>?_⟩
    have lt:∀b∈[z,TI,TO,i1,i2],b < s.heap.objs.size:=fun b hb=>by
      simp only [List.mem_cons,List.not_mem_nil,or_false] at hb
      rcases hb with rfl | rfl | rfl | rfl | rfl
      · exact Heap.lt_size hz
      · exact Heap.lt_size hI
      · exact Heap.lt_size hO
      · obtain⟨o,e,_⟩:=u1;exact Heap.lt_size e
      · obtain⟨o,e,_⟩:=u2;exact Heap.lt_size e
    have hT:H s.heap.objs.size=none:=I.hok.fresh (Nat.le_refl _)
    have vv:aD [x,y] [ux,uy]:=.cons rux (.cons ruy .nil)
    have I1:aq X pins σ (aS H s.heap.objs.size (.tup [x,y])) {s with heap:=s.heap.push {cls:=.type "tuple",data:=.seq #[ux,uy]},toks:=s.toks}:=
      I.laid (t':=s.toks) (fun b u e=>Heap.get?_push_of_some _ e) (Nat.le_refl _) ⟨(by show 2≤sizeLine;decide),[ux,uy],vv,jB.new _ _⟩
    have hf1:∀b∈[z,TI,TO,i1,i2],fN X pins (aS H s.heap.objs.size (.tup [x,y])) b:=fun b hb=>by
      obtain⟨f0,fr⟩:=hf b hb
      exact⟨by rw [aA (Nat.ne_of_lt (lt b hb))];exact f0,fr⟩
    have nzT:s.heap.objs.size≠z:=Nat.ne_of_gt (lt z (by simp))
    have I2:aq X pins σ (aS H s.heap.objs.size (.tup [x,y])) {s with heap:=g',toks:=s.toks}:=by
      refine I1.turnedL (t':=s.toks) hf1 fun b o nb e=>?_
      have nb':b≠z∧b≠TI∧b≠TO∧b≠i1∧b≠i2:=by simpa using nb
      refine ge.extBut _ _ nb'.1 ?_
      rcases Heap.get?_push_cases e with ⟨rfl,rfl⟩ | e
      · exact gT
      · exact gk b o nb'.1 nb'.2.2.1 nb'.2.2.2.1 nb'.2.2.2.2 e
    refine⟨.ref s.heap.objs.size,_,I2,rfl,⟨_,x,y,rfl,hT,rfl,fun xs' ys' w1 w2=>?_⟩,⟨gz',ge.extBut _ _ n7 (gk _ _ n7 n8 n9 n10 hI),⟨ux,uy,ge.extBut _ _ n1 gO⟩,g1.at fun o e=>ge.extBut _ _ n2 e,g2.at fun o e=>ge.extBut _ _ n3 e⟩,fun b hb=>(hf1 b hb).1⟩
    rw [I.tuple_inj w1 q1,I.tuple_inj w2 q2]
    exact⟨hx,hy⟩
  done:=by
    intro X hP hw hK hc i pins s σ H E I hf st hg
    subst hP hw hK
    obtain⟨xs,ys,q1,q2,hn⟩:=hg
    obtain⟨hz,hI,⟨a,b,hO⟩,u1,u2⟩:=id st
    obtain⟨its1,rv1,p1,z1⟩:=I.tuple q1
    obtain⟨its2,rv2,p2,z2⟩:=I.tuple q2
    have fz:=hf z (by simp);have fO:=hf TO (by simp);have f1:=hf i1 (by simp);have f2:=hf i2 (by simp)
    have D:lj z TI TO i1 i2 l1 l2:=⟨n1,n2,n3,n4,n5,n6,aN I fz q1,aN I fO q1,aN I f1 q1,aN I f2 q1,aN I fz q2,aN I fO q2,aN I f1 q2,aN I f2 q2⟩
    have e1:=rv1.length
    have e2:=rv2.length
    refine vi (xs:=its1.toArray) (ys:=its2.toArray) (I.ok.hd hc) (jh i1 l1) (jh i2 l2) D hz hI hO u1 u2 p1 p2 ?_ fun g gk=>⟨rfl,I.turnedL (t':=s.toks) hf fun b o nb e=>?_⟩
    · rcases hn with hn | hn
      · exact .inl (by simp;lia)
      · exact .inr (by simp;lia)
    · have nb':b≠z∧b≠TI∧b≠TO∧b≠i1∧b≠i2:=by simpa using nb
      exact gk b o nb'.1 nb'.2.2.1 nb'.2.2.2.1 nb'.2.2.2.2 e
  self:=fun A i s Q E st h=>wpAny_pyIter_zip st.1 h
theorem xE(l1 l2:Addr)(xs ys:Array Value):
    Meets (Builtin.«zip.__new__» ⟨[.type "zip",.ref l1,.ref l2],[]⟩) (fun _ R s=>s.heap.IsTuple l1 xs∧s.heap.IsTuple l2 ys∧
      R (.ok (.ret (.ref (s.heap.objs.size+4)))) {s with heap:=((((s.heap.push {cls:=.type "tuple_iterator",data:=.fields #[.ref l1,.int 0 0]}).push {cls:=.type "tuple_iterator",data:=.fields #[.ref l2,.int 0 0]}).push {cls:=.type "tuple",data:=.seq #[.ref s.heap.objs.size,.ref (s.heap.objs.size+1)]}).push {cls:=.type "tuple",data:=.seq #[.none,.none]}).push {cls:=.type "zip",data:=.fields #[.none,.bool false,.bool false,.ref (s.heap.objs.size+2),.ref (s.heap.objs.size+3)]}}):=
  .of_wp fun prog w A R s h=>by
    obtain⟨hp,g,d,tk,os⟩:=s;obtain⟨t1,t2,h⟩:=h;have sz:=PySem.sub_zip
    have T1:Heap.IsTuple (Shared.heap ⟨hp,g,d,tk,os⟩) l1 xs:=t1
    have T2:Heap.IsTuple (Shared.heap ⟨hp.push {cls:=.type "tuple_iterator",data:=.fields #[.ref l1,.int 0 0]},g,d,tk,os⟩) l2 ys:=Heap.IsTuple.push t2 _
    wp_walk using wpAny_pyIter_tuple T1,wpAny_pyIter_tuple T2
    refine⟨_,rfl,?_⟩
    simp only [Heap.size_push]
    exact h
section
variable{prog:Program}{w:World}{A:Around}{E:Value→Shared→Prop}{s:Shared}
theorem vg{l1 l2:Addr}{xs ys:Array Value}{Q:Value→Shared→Prop}(t1:s.heap.IsTuple l1 xs)(t2:s.heap.IsTuple l2 ys)
    (h:∀g,yr (s.heap.objs.size+4) (s.heap.objs.size+2) (s.heap.objs.size+3) s.heap.objs.size (s.heap.objs.size+1) l1 l2 0 g→(∀c o,s.heap.get? c=some o→g.get? c=some o)→Q (.ref (s.heap.objs.size+4)) {s with heap:=g}):
    wpAny (model prog w) A (call (.type "zip") [.ref l1,.ref l2]) Q E s:=by
  refine callType_new F.called_zip (by decide) (F.typeCall_zip_2 _ _) (F.newCall_zip_2 _ _) (fun obj=>F.args_object_init_3 obj _ _) F.entry_zip_new (xE l1 l2 xs ys) ⟨t1,t2,?_⟩
  have at5:∀(g:Heap) (o:Obj) (a:Addr),o.isFreed=false→a=g.objs.size→(g.push o).get? a=some o:=fun g o a hf e=>by rw [e];exact Heap.get?_push_size _ hf
  have g5:=at5 ((((s.heap.push {cls:=.type "tuple_iterator",data:=.fields #[.ref l1,.int 0 0]}).push {cls:=.type "tuple_iterator",data:=.fields #[.ref l2,.int 0 0]}).push {cls:=.type "tuple",data:=.seq #[.ref s.heap.objs.size,.ref (s.heap.objs.size+1)]}).push {cls:=.type "tuple",data:=.seq #[.none,.none]}) {cls:=.type "zip",data:=.fields #[.none,.bool false,.bool false,.ref (s.heap.objs.size+2),.ref (s.heap.objs.size+3)]} (s.heap.objs.size+4) rfl (by simp only [Heap.size_push])
  have g4:=at5 (((s.heap.push {cls:=.type "tuple_iterator",data:=.fields #[.ref l1,.int 0 0]}).push {cls:=.type "tuple_iterator",data:=.fields #[.ref l2,.int 0 0]}).push {cls:=.type "tuple",data:=.seq #[.ref s.heap.objs.size,.ref (s.heap.objs.size+1)]}) {cls:=.type "tuple",data:=.seq #[.none,.none]} (s.heap.objs.size+3) rfl (by simp only [Heap.size_push])
  have g3:=at5 ((s.heap.push {cls:=.type "tuple_iterator",data:=.fields #[.ref l1,.int 0 0]}).push {cls:=.type "tuple_iterator",data:=.fields #[.ref l2,.int 0 0]}) {cls:=.type "tuple",data:=.seq #[.ref s.heap.objs.size,.ref (s.heap.objs.size+1)]} (s.heap.objs.size+2) rfl (by simp only [Heap.size_push])
  have g2:=at5 (s.heap.push {cls:=.type "tuple_iterator",data:=.fields #[.ref l1,.int 0 0]}) {cls:=.type "tuple_iterator",data:=.fields #[.ref l2,.int 0 0]} (s.heap.objs.size+1) rfl (by simp only [Heap.size_push])
  have g1:=at5 s.heap {cls:=.type "tuple_iterator",data:=.fields #[.ref l1,.int 0 0]} s.heap.objs.size rfl rfl
  have up:∀{g:Heap} {a:Addr} {u:Obj} (o:Obj),g.get? a=some u→(g.push o).get? a=some u:=fun o e=>Heap.get?_push_of_some o e
  refine⟨⟨_,g5,rfl⟩,h _ ⟨g5,up _ (up _ g3),⟨_,_,up _ g4⟩,⟨_,up _ (up _ (up _ (up _ g1))),rfl,rfl⟩,⟨_,up _ (up _ (up _ g2)),rfl,rfl⟩⟩ fun c o x=>up _ (up _ (up _ (up _ (up _ x))))⟩
end
theorem rY:PySem.bootBuiltins "zip"=some (.type "zip"):=by decide+kernel
def Cz(K:PySem.W.Frag)(ta:TA):TI:=fun σ H R=>ta σ H fun vs H1=>∃a b,vs=[.ref a,.ref b]∧(∃xs,bK K H1 a xs)∧(∃ys,bK K H1 b ys)∧R (C3 K a b) H1
theorem zy{X:Cx}{K:PySem.W.Frag}{es:List Expr}{k0:Nat}{tp:Pos}{a b:Expr}{ta:TA}{p pos:Pos}(hK:X.K=K)(hg:Gl X "zip")(hm:X.mg "zip"=none)(ha:PA X [a,b] ta)(hs:starEach [a,b] X.env=[(false,eval a X.env),(false,eval b X.env)]:=by rfl)(hs2:starEach [b] X.env=[(false,eval b X.env)]:=by rfl):
    PI X (.Tuple es k0 tp) (.Call (.Name "zip" p) [a,b] [] pos) (Cz K ta):=by
  intro pins s σ H R I h
  subst hK
  refine Call_ (i5 I hg hm rY (PyProof.Rows.callWith_type1 (cy (ha pos pins s σ H _ I h) fun us s1 ⟨vs,H1,I1,r1,q1⟩=>?_) (by rw [hs,hs2]) (by rw [hs2];rfl)))
  obtain⟨a,b,e,⟨xs,qx⟩,⟨ys,qy⟩,q⟩:=q1
  subst e
  cases r1 with
  | cons r rr=>
    cases rr with
    | cons r' rr=>
      cases rr
      cases r
      cases r'
      obtain⟨i1,v1,p1,_⟩:=I1.tuple qx
      obtain⟨i2,v2,p2,_⟩:=I1.tuple qy
      refine vg p1 p2 fun g st hk=>wpAny_pyIter_zip st.1 ?_
      have I2:aq X pins σ H1 {s1 with heap:=g,toks:=s1.toks}:=I1.kept (t':=s1.toks) fun b o e=>hk b o e
      refine⟨s1.heap.objs.size+4,[s1.heap.objs.size+4,s1.heap.objs.size+2,s1.heap.objs.size+3,s1.heap.objs.size,s1.heap.objs.size+1],_,_,H1,rfl,I2,vd a b (show((s1.heap.objs.size+3:Nat)≠s1.heap.objs.size+4) by lia) (show((s1.heap.objs.size:Nat)≠s1.heap.objs.size+4) by lia) (show((s1.heap.objs.size+1:Nat)≠s1.heap.objs.size+4) by lia) (show((s1.heap.objs.size+3:Nat)≠s1.heap.objs.size) by lia) (show((s1.heap.objs.size+3:Nat)≠s1.heap.objs.size+1) by lia) (show((s1.heap.objs.size:Nat)≠s1.heap.objs.size+1) by lia) (show((s1.heap.objs.size+2:Nat)≠s1.heap.objs.size+4) by lia) (show((s1.heap.objs.size+2:Nat)≠s1.heap.objs.size+3) by lia) (show((s1.heap.objs.size+2:Nat)≠s1.heap.objs.size) by lia) (show((s1.heap.objs.size+2:Nat)≠s1.heap.objs.size+1) by lia),st,fun c hc=>?_,q⟩
      have le:s1.heap.objs.size≤c:=by
        simp only [List.mem_cons,List.not_mem_nil,or_false] at hc
        rcases hc with rfl | rfl | rfl | rfl | rfl
        · exact Nat.le_add_right _ 4
        · exact Nat.le_add_right _ 2
        · exact Nat.le_add_right _ 3
        · exact Nat.le_refl _
        · exact Nat.le_add_right _ 1
      have f:=I1.fpOk (H':=H1) le (I1.hok.fresh le)
      exact f
end L2
namespace L2
open PySem PySem.Spec PyProof.Rows
def yu(h:Heap)(z TI TO:Addr)(a:Addr)(f:Bool):Prop:=h.get? z=some {cls:=.type "zip",data:=.fields #[rawInt a,.bool f,.bool false,.ref TI,.ref TO]}
section
variable{prog:Program}{w:World}{A:Around}{E:Value→Shared→Prop}{s:Shared}{z TI TO i1 i2 l1 l2:Addr}{k:Nat}{xs ys:Array Value}{a:Addr}{f:Bool}{S1 S2:Nat→Heap→Prop}{R1 R2:Heap→Array Value→Prop}
end
end L2
namespace L2
open PySem PySem.Spec PyProof.Rows
structure ZL (S z TI TO i1 i2 l1 l2:Addr) (xs ys:Array Value) (i:Nat) (h:Heap):Prop where
  pr:IsPair h TI (.ref i1) (.ref i2)
  t1:h.IsTupleIter i1 l1 i
  t2:h.IsTupleIter i2 l2 i
  s1:h.IsTuple l1 xs
  s2:h.IsTuple l2 ys
  ot:∃o,h.get? TO=some o
  zs:(IsZip h z TI TO .none∧∃a b,IsPair h TO a b)∨∃a f oa,yu h z TI TO a f∧h.get? a=some oa∧a≠S∧a≠z∧a≠i1∧a≠i2
structure C2 (S z TO i1 i2:Addr) (xs ys:Array Value) (h:Heap) (acc:Array Value) (i:Nat):Prop where
  sz:acc.size=i
  at_:∀(j:Nat) (v:Value),acc[j]?=some v→∃(p:Addr) (x y:Value),v=.ref p∧xs[j]?=some x∧ys[j]?=some y∧IsPair h p x y∧p≠S∧p≠z∧p≠TO∧p≠i1∧p≠i2
  lo:∀(j:Nat) (p:Addr),acc[j]?=some (.ref p)→S < p
  ye:∀(i j:Nat) (p q:Addr),i < j→acc[i]?=some (.ref p)→acc[j]?=some (.ref q)→p < q
section
variable{prog:Program}{w:World}{A:Around}{R:Result→Shared→Prop}{S z TI TO i1 i2 l1 l2:Addr}{xs ys:Array Value}{n:Nat}
end
end L2
namespace L2
open PySem PySem.Spec PyProof.Rows
section
variable{X:Cx}{pins:List (Addr × Obj)}{σ:L2.St}{H H':Hp}{s:Shared}{h':Heap}
end
end L2
namespace L2
open PySem PySem.Spec PyProof.Rows
section
variable{prog:Program}{w:World}{A:Around}{E:Value→Shared→Prop}{s:Shared}{e it l:Addr}{k:Nat}{xs:Array Value}{S:Nat→Heap→Prop}{R:Heap→Array Value→Prop}
theorem oj(P1:Sc prog w it l S R)(hh:A.handled=none)(hne:l≠it)(xs:Array Value):Draws prog w A it [it,l] xs.size (fun i v=>xs[i]?=some v) (fun i h=>S i h∧R h xs) where
  live:=fun _ _ st=>let ⟨o,ho,_⟩:=P1.live st.1;⟨o,ho⟩
  frame:=fun _ _ _ st hk=>⟨P1.stay st.1 fun o e=>hk it (by simp) o e,P1.row st.2 fun o e=>hk l (by simp) o e⟩
  item:=fun i s Q E hi st hQ=>P1.next st.1 st.2 (x:=xs[i]) (by simp [hi]) fun g h1 h2=>hQ _ g s.toks (by simp [hi]) ⟨h1,P1.row st.2 fun o e=>h2.extBut _ _ hne e⟩ h2
  done:=fun s Q E st hE=>P1.last hh st.1 st.2 (by simp) hE
theorem lD{i:Int}{old:Value}{Q:Option Value→Shared→Prop}(P1:Sc prog w it l S R)(hh:A.handled=none)(he:IsEnum s.heap e it i old)(st:S k s.heap)(sq:R s.heap xs)(hx:xs[k]?=none)(q:∀g,Heap.ExtBut it s.heap g→Q none {s with heap:=g}):wpAny (model prog w) A (pyNext (.ref e)) Q E s:=by
  have hT:s.TypeIs (.ref e) "enumerate":=⟨_,he,rfl⟩;unfold pyNext
  refine wpAny_bind (wpAny_attempt (wpAny_callSpecial?_slot (name:=Str.ofString "__next__") hT F.slot_enumerate_next (wpAny_call_entry F.slot_enumerate_next hT F.entry_enumerate_next ?_ (F.args_enumerate_next_1 _))))
  show wpAny _ _ (field (.ref e) 2 >>= _) _ _ _;refine wpAny_bind (wpAny_field he rfl (x:=.ref it) rfl ?_)
  refine wpAny_bind (P1.last hh st sq hx fun g x hk hx'=>?_);obtain⟨o,ho,hc⟩:=hx'
  refine wpAny_bind (wpAny_isInstance (T:="StopIteration") (b:=true) ⟨o,ho,hc⟩ isSubtype_stop ?_);exact wpAny_pure (q _ hk)
theorem gB{i:Int}{old:Value}{Q:Value→Shared→Prop}(he:IsEnum s.heap e it i old)(h:Q (.ref e) s):wpAny (model prog w) A (pyIter (.ref e)) Q E s:=by
  have hT:s.TypeIs (.ref e) "enumerate":=⟨_,he,rfl⟩
  refine wpAny_pyIter_slot hT F.slot_enumerate_iter (wpAny_call_entry F.slot_enumerate_iter hT F.entry_enumerate_iter ?_ (F.args_enumerate_iter_1 _))
  show wpAny _ _ (ret (.ref e)) _ _ s;exact wpAny_pure ⟨_,rfl,"enumerate",_,hT,F.slot_enumerate_next.lookup,h⟩
end
section
variable{X:Cx}{pins:List (Addr × Obj)}{σ:L2.St}{H:Hp}{s:Shared}
theorem lr(I:aq X pins σ H s){b l:Addr}{xs:List V}(f:fN X pins H b)(q:fH X.K H l xs):l≠b:=by
  intro z
  subst z
  rcases q with (q | ⟨o,q⟩) | ⟨o,its,n,hk,_⟩
  · rw [f.1] at q;cases q
  · rw [f.1] at q;cases q
  · have hb:X.base.get? l=some o:=I.ok.mod.kin l o hk
    rcases f.2.2.2.1 with z | z
    · exact I.ok.noex l o hb z
    · exact absurd (Nat.lt_of_lt_of_le (Heap.lt_size (I.ok.bs l o hb).1) z) (Nat.lt_irrefl _)
end
def yw(K:PySem.W.Frag)(l:Addr):It:=
  ⟨fun i H=>∃xs x,bK K H l xs∧xs[i]?=some x,fun i H v H'=>∃p x,v=.ref p∧H p=none∧H'=aS H p (.tup [.int i,x])∧∀xs,bK K H l xs→xs[i]?=some x,fun i H=>∃xs,bK K H l xs∧xs.length≤i⟩
def p7(e it l:Addr)(i:Nat)(h:Heap):Prop:=(∃old,IsEnum h e it i old)∧h.IsTupleIter it l i
theorem pO{P:Program}{w:World}{K:PySem.W.Frag}{es:List Expr}{k0:Nat}{pos:Pos}{e it:Addr}(l:Addr)(ne:e≠it):oO P w K (.Tuple es k0 pos) (yw K l) [e,it] e (p7 e it l) where
  mem:=by simp
  obj:=fun i h st b hb=>by
    obtain⟨⟨old,he⟩,u⟩:=st
    simp only [List.mem_cons,List.not_mem_nil,or_false] at hb
    rcases hb with rfl | rfl
    · exact⟨_,he,fun v z=>by cases z⟩
    · obtain⟨o,e,c,d⟩:=u
      exact⟨o,e,fun v z=>by rw [d] at z;cases z⟩
  keep:=fun i h h' st k=>by
    obtain⟨⟨old,he⟩,u⟩:=st
    exact⟨⟨old,k _ (by simp) _ he⟩,u.at fun o e=>k _ (by simp) o e⟩
  item:=by
    intro X hP hw hK hc i pins s σ H E I hf st hg
    subst hP hw hK
    obtain⟨xs,x,q1,hx⟩:=hg
    obtain⟨⟨old,he⟩,u⟩:=id st
    obtain⟨its,rv,p,hz⟩:=I.tuple q1
    obtain⟨ux,hux,rux⟩:=rv.get hx
    have fe:=hf e (by simp);have ft:=hf it (by simp)
    have n1:l≠e:=aN I fe q1
    have n2:l≠it:=aN I ft q1
    have hi:i < its.toArray.size:=by have:=(List.getElem?_eq_some_iff.mp hux).1;simpa using this
    refine wpAny_pyNext_enum_itemD (oj (A:=X.A.in1) (jh it l) (show X.A.in1.handled=none from I.ok.hd hc) n2 its.toArray) he ⟨u,p⟩ hi ne (by simpa using ⟨ne,fun z=>n1 z.symm⟩) fun x' g tk hP ho hs hT hsz hk=>?_
    have ex:x'=ux:=by
      have:its[i]?=some x':=by simpa using hP
      rw [hux] at this;exact(Option.some.inj this).symm
    subst ex
    refine⟨_,rfl,wpAny_letOwnedTupleGo_enum ho fun g' he' ge=>?_⟩
    have lt:∀b∈[e,it],b < s.heap.objs.size:=fun b hb=>by
      simp only [List.mem_cons,List.not_mem_nil,or_false] at hb
      rcases hb with rfl | rfl
      · exact Heap.lt_size he
      · obtain⟨o,e,_⟩:=u;exact Heap.lt_size e
    have hTn:H s.heap.objs.size=none:=I.hok.fresh (Nat.le_refl _)
    have vv:aD [.int i,x] [.int i tk,x']:=.cons ⟨tk,rfl⟩ (.cons rux .nil)
    have I1:aq X pins σ (aS H s.heap.objs.size (.tup [.int i,x])) {s with heap:=s.heap.push {cls:=.type "tuple",data:=.seq #[.int i tk,x']},toks:=s.toks}:=
      I.laid (t':=s.toks) (fun b u e=>Heap.get?_push_of_some _ e) (Nat.le_refl _) ⟨(by show 2≤sizeLine;decide),[.int i tk,x'],vv,jB.new _ _⟩
    have hf1:∀b∈[e,it],fN X pins (aS H s.heap.objs.size (.tup [.int i,x])) b:=fun b hb=>by
      obtain⟨f0,fr⟩:=hf b hb
      exact⟨by rw [aA (Nat.ne_of_lt (lt b hb))];exact f0,fr⟩
    have I2:aq X pins σ (aS H s.heap.objs.size (.tup [.int i,x])) {s with heap:=g',toks:=tk+1}:=by
      refine I1.turnedL (t':=tk+1) hf1 fun b o nb eb=>?_
      have nb':b≠e∧b≠it:=by simpa using nb
      refine ge.extBut _ _ nb'.1 ?_
      rcases Heap.get?_push_cases eb with ⟨rfl,rfl⟩ | eb
      · exact hT
      · exact hk b o nb'.1 nb'.2 eb
    refine⟨.ref s.heap.objs.size,_,I2,rfl,⟨_,x,rfl,hTn,rfl,fun xs' w1=>by rw [I.tuple_inj w1 q1];exact hx⟩,⟨⟨_,by simpa using he'⟩,hs.1.at fun o e=>ge.extBut _ _ (fun z=>ne z.symm) e⟩,fun b hb=>(hf1 b hb).1⟩
  done:=by
    intro X hP hw hK hc i pins s σ H E I hf st hg
    subst hP hw hK
    obtain⟨xs,q1,hn⟩:=hg
    obtain⟨⟨old,he⟩,u⟩:=id st
    obtain⟨its,rv,p,hz⟩:=I.tuple q1
    have e1:=rv.length
    refine lD (xs:=its.toArray) (jh it l) (I.ok.hd hc) he u p (by simp;lia) fun g gk=>⟨rfl,I.turnedL (t':=s.toks) hf fun b o nb eb=>?_⟩
    have nb':b≠e∧b≠it:=by simpa using nb
    exact gk b o nb'.2 eb
  self:=fun A i s Q E st h=>by
    obtain⟨⟨old,he⟩,u⟩:=st
    exact gB he h
def yv(K:PySem.W.Frag)(l:Addr):It:=
  ⟨fun i H=>∃xs x,fH K H l xs∧xs[i]?=some x,fun i H v H'=>∃p x,v=.ref p∧H p=none∧H'=aS H p (.tup [.int i,x])∧∀xs,fH K H l xs→xs[i]?=some x,fun i H=>∃xs,fH K H l xs∧xs.length≤i⟩
def vG(e it l:Addr)(i:Nat)(h:Heap):Prop:=(∃old,IsEnum h e it i old)∧h.IsListIter it l i
theorem pN{P:Program}{w:World}{K:PySem.W.Frag}{es:List Expr}{k0:Nat}{pos:Pos}{e it:Addr}(l:Addr)(ne:e≠it):oO P w K (.Tuple es k0 pos) (yv K l) [e,it] e (vG e it l) where
  mem:=by simp
  obj:=fun i h st b hb=>by
    obtain⟨⟨old,he⟩,u⟩:=st
    simp only [List.mem_cons,List.not_mem_nil,or_false] at hb
    rcases hb with rfl | rfl
    · exact⟨_,he,fun v z=>by cases z⟩
    · obtain⟨o,e,c,d⟩:=u
      exact⟨o,e,fun v z=>by rw [d] at z;cases z⟩
  keep:=fun i h h' st k=>by
    obtain⟨⟨old,he⟩,u⟩:=st
    exact⟨⟨old,k _ (by simp) _ he⟩,u.at fun o e=>k _ (by simp) o e⟩
  item:=by
    intro X hP hw hK hc i pins s σ H E I hf st hg
    subst hP hw hK
    obtain⟨xs,x,q1,hx⟩:=hg
    obtain⟨⟨old,he⟩,u⟩:=id st
    obtain⟨its,rv,p,hz⟩:=I.list q1
    obtain⟨ux,hux,rux⟩:=rv.get hx
    have fe:=hf e (by simp);have ft:=hf it (by simp)
    have n1:l≠e:=lr I fe q1
    have n2:l≠it:=lr I ft q1
    have hi:i < its.toArray.size:=by have:=(List.getElem?_eq_some_iff.mp hux).1;simpa using this
    refine wpAny_pyNext_enum_itemD (oj (A:=X.A.in1) (qu it l) (show X.A.in1.handled=none from I.ok.hd hc) n2 its.toArray) he ⟨u,p.isList⟩ hi ne (by simpa using ⟨ne,fun z=>n1 z.symm⟩) fun x' g tk hP ho hs hT hsz hk=>?_
    have ex:x'=ux:=by
      have:its[i]?=some x':=by simpa using hP
      rw [hux] at this;exact(Option.some.inj this).symm
    subst ex
    refine⟨_,rfl,wpAny_letOwnedTupleGo_enum ho fun g' he' ge=>?_⟩
    have lt:∀b∈[e,it],b < s.heap.objs.size:=fun b hb=>by
      simp only [List.mem_cons,List.not_mem_nil,or_false] at hb
      rcases hb with rfl | rfl
      · exact Heap.lt_size he
      · obtain⟨o,e,_⟩:=u;exact Heap.lt_size e
    have hTn:H s.heap.objs.size=none:=I.hok.fresh (Nat.le_refl _)
    have vv:aD [.int i,x] [.int i tk,x']:=.cons ⟨tk,rfl⟩ (.cons rux .nil)
    have I1:aq X pins σ (aS H s.heap.objs.size (.tup [.int i,x])) {s with heap:=s.heap.push {cls:=.type "tuple",data:=.seq #[.int i tk,x']},toks:=s.toks}:=
      I.laid (t':=s.toks) (fun b u e=>Heap.get?_push_of_some _ e) (Nat.le_refl _) ⟨(by show 2≤sizeLine;decide),[.int i tk,x'],vv,jB.new _ _⟩
    have hf1:∀b∈[e,it],fN X pins (aS H s.heap.objs.size (.tup [.int i,x])) b:=fun b hb=>by
      obtain⟨f0,fr⟩:=hf b hb
      exact⟨by rw [aA (Nat.ne_of_lt (lt b hb))];exact f0,fr⟩
    have I2:aq X pins σ (aS H s.heap.objs.size (.tup [.int i,x])) {s with heap:=g',toks:=tk+1}:=by
      refine I1.turnedL (t':=tk+1) hf1 fun b o nb eb=>?_
      have nb':b≠e∧b≠it:=by simpa using nb
      refine ge.extBut _ _ nb'.1 ?_
      rcases Heap.get?_push_cases eb with ⟨rfl,rfl⟩ | eb
      · exact hT
      · exact hk b o nb'.1 nb'.2 eb
    refine⟨.ref s.heap.objs.size,_,I2,rfl,⟨_,x,rfl,hTn,rfl,fun xs' w1=>by rw [I.list_inj w1 q1];exact hx⟩,⟨⟨_,by simpa using he'⟩,hs.1.at fun o e=>ge.extBut _ _ (fun z=>ne z.symm) e⟩,fun b hb=>(hf1 b hb).1⟩
  done:=by
    intro X hP hw hK hc i pins s σ H E I hf st hg
    subst hP hw hK
    obtain⟨xs,q1,hn⟩:=hg
    obtain⟨⟨old,he⟩,u⟩:=id st
    obtain⟨its,rv,p,hz⟩:=I.list q1
    have e1:=rv.length
    refine lD (xs:=its.toArray) (qu it l) (I.ok.hd hc) he u p.isList (by simp;lia) fun g gk=>⟨rfl,I.turnedL (t':=s.toks) hf fun b o nb eb=>?_⟩
    have nb':b≠e∧b≠it:=by simpa using nb
    exact gk b o nb'.2 eb
  self:=fun A i s Q E st h=>by
    obtain⟨⟨old,he⟩,u⟩:=st
    exact gB he h
end L2
namespace L2
open PySem PySem.Spec PyProof.Rows
section
variable{X:Cx}{a:Expr}{ta:TA}{p p2 pos pos2:Pos}
end
end L2
namespace L2
open PySem PySem.Spec PyProof.Rows
theorem q_:fillsNumberSlot (.type "tuple") "mul"=pure false:=
  PySem.fillsNumberSlot_seq (id:="tuple.__mul__") (r:=some (.builtin "tuple.__rmul__")) F.slot_tuple_mul.lookup (by decide+kernel) F.slot_tuple_rmul.lookup (by decide+kernel)
theorem zS:seqRepeat? (.type "tuple")=pure (some (.builtin "tuple.__mul__")):=by
  unfold seqRepeat?;rw [PySem.seqSlot_of (T:="tuple") (name:="__mul__") (id:="tuple.__mul__") F.slot_tuple_mul.lookup (by decide+kernel),PySem.seqSlot_of (T:="tuple") (name:="__rmul__") (id:="tuple.__rmul__") F.slot_tuple_rmul.lookup (by decide+kernel)];rfl
theorem wZ(a:Int)(t:Tok)(l:Addr)(items:Array Value)(n:Nat)(dd:Option Addr)(sl:Array (Option Value)):
    Meets (Builtin.«int.__rmul__» ⟨[.int a t,.ref l],[]⟩) (fun _ R s=>s.heap.get? l=some {cls:=.type "tuple",dict:=dd,data:=.seq items n,slots:=sl}∧R (.ok (.ret Value.notImplemented)) s):=
  .of_wp fun prog w A R s h=>by obtain⟨hp,g,d,tk,os⟩:=s;obtain⟨hl,h⟩:=h;wp_walk;exact⟨_,rfl,h⟩
theorem yX(l:Addr)(x:Value)(n:Nat)(k:Int)(u:Tok)(dd:Option Addr)(sl:Array (Option Value))(h0:2≤k)(h1:k≤100000):
    Meets (Builtin.«tuple.__mul__» ⟨[.ref l,.int k u],[]⟩) (fun _ R s=>s.heap.get? l=some {cls:=.type "tuple",dict:=dd,data:=.seq #[x] n,slots:=sl}∧
      R (.ok (.ret (.ref s.heap.objs.size))) {s with heap:=s.heap.push {cls:=.type "tuple",data:=.seq (List.replicate k.toNat x).toArray}}):=
  .of_wp fun prog w A R s h=>by
    obtain⟨hp,g,d,tk,os⟩:=s;obtain⟨hl,h⟩:=h
    have f1:=AutoSeq1.idx_int
    have c1:¬(decide (k < -(2 ^ 63)) || decide (k≥2 ^ 63))=true:=by simp;lia
    have c2:¬((#[x]:Array Value).isEmpty || k==1)=true:=by simp;lia
    have c3:¬(decide (k≤0) || (#[x]:Array Value).isEmpty)=true:=by simp;lia
    have c4:¬(((#[x]:Array Value).size:Int)*k > (2 ^ 63 - 1) / 8):=by simp;lia
    have c5:¬Builtin.Tuple.tupleTooMany (((#[x]:Array Value).size:Int)*k)=true:=by
      unfold Builtin.Tuple.tupleTooMany;rw [sizeLine_eq];simp;lia
    wp_walk using wpAny_loadPart' hl
    rw [if_neg c1]
    wp_walk using wpAny_loadPart' hl
    rw [if_neg c2]
    wp_walk using wpAny_loadPart' hl
    rw [if_neg c3]
    wp_walk using wpAny_loadPart' hl
    rw [if_neg c4]
    show wpAny _ _ (if Builtin.Tuple.tupleTooMany (((#[x]:Array Value).size:Int)*k)=true then _ else _) _ _ _
    rw [if_neg c5]
    have f0:∀(m:Nat) (acc:Array Value),List.foldl (fun x1 x2=>x1++x2) acc (List.replicate m #[x])=acc++(List.replicate m x).toArray:=by
      intro m
      induction m with
      | zero=>intro acc;simp
      | succ m ih=>intro acc;rw [List.replicate_succ,List.foldl_cons,ih,List.replicate_succ];apply Array.toList_inj.mp;simp
    have e:List.foldl (fun x1 x2=>x1++x2) #[] (List.replicate k.toNat #[x])=(List.replicate k.toNat x).toArray:=by rw [f0];simp
    show wpAny _ _ (Builtin.Tuple.tupleExact (List.foldl (fun x1 x2=>x1++x2) #[] (List.replicate k.toNat #[x])) >>= fun v=>ret v) _ _ _
    rw [e]
    unfold Builtin.Tuple.tupleExact
    refine wpAny_bind (wpAny_newObj_type ?_ (by show(List.replicate k.toNat x).toArray.size≤sizeLine;rw [List.size_toArray,List.length_replicate,sizeLine_eq];lia))
    exact wpAny_pure ⟨_,rfl,h⟩
theorem vU(l:Addr)(x:Value)(n:Nat)(u:Tok)(dd:Option Addr)(sl:Array (Option Value)):
    Meets (Builtin.«tuple.__mul__» ⟨[.ref l,.int 0 u],[]⟩) (fun _ R s=>s.heap.get? l=some {cls:=.type "tuple",dict:=dd,data:=.seq #[x] n,slots:=sl}∧R (.ok (.ret (.ref s.heap.objs.size))) {s with heap:=s.heap.push {cls:=.type "tuple",data:=.seq #[]}}):=
  .of_wp fun prog w A R s h=>by
    obtain⟨hp,g,d,tk,os⟩:=s;obtain⟨hl,h⟩:=h;have f1:=AutoSeq1.idx_int
    have c2:¬((#[x]:Array Value).isEmpty || (0:Int)==1)=true:=by simp
    wp_walk using wpAny_loadPart' hl
    first | rw [if_neg c2] | skip
    wp_walk using wpAny_loadPart' hl
    exact⟨_,rfl,h⟩
theorem vV(l:Addr)(x:Value)(n:Nat)(u:Tok)(dd:Option Addr)(sl:Array (Option Value)):
    Meets (Builtin.«tuple.__mul__» ⟨[.ref l,.int 1 u],[]⟩) (fun _ R s=>s.heap.get? l=some {cls:=.type "tuple",dict:=dd,data:=.seq #[x] n,slots:=sl}∧R (.ok (.ret (.ref l))) s):=
  .of_wp fun prog w A R s h=>by
    obtain⟨hp,g,d,tk,os⟩:=s;obtain⟨hl,h⟩:=h;have f1:=AutoSeq1.idx_int
    wp_walk using wpAny_loadPart' hl
    exact⟨_,rfl,h⟩
section
variable{X:Cx}
def uu(K:PySem.W.Frag):R2:=fun x y H Q=>∃a k v,x=.ref a∧y=.int k∧bK K H a [v]∧0≤k∧k≤100000∧∀p H',ao H H'→bK K H' p (List.replicate k.toNat v)→Q (.ref p) H'
theorem wm:fP X (binaryOp .Mult) (uu X.K):=by
  intro pins s σ H x y v u Q I rx ry h
  obtain⟨a,k,z,rfl,rfl,ha,k0,k1,q⟩:=h
  cases rx
  obtain⟨t,rfl⟩:=ry
  obtain⟨its,r,p,hz⟩:=I.tuple ha
  obtain⟨uz,rfl,rz⟩:=i_ r
  obtain⟨⟨cls,dd,data,sl⟩,ho,hc,n,hd⟩:=id p
  simp only at hc hd
  subst hc hd
  refine wpAny_binaryOp_repeat_ref (T:="tuple") (U:="int") (by decide) ⟨_,ho,rfl⟩ (fun s'=>PySem.typeIs_int s' k t) q_ F.fills_int_mul F.slot_int_rmul zS F.slot_int_index.lookup (call_meets F.slot_int_rmul (PySem.typeIs_int s k t) F.entry_int_rmul (F.args_int_rmul_2 _ _) (wZ k t a #[uz] n dd sl) ⟨ho,rfl,⟨_,ho,rfl⟩,?_⟩)
  have new:∀m:Nat,m=k.toNat→EP X pins σ Q (.ref s.heap.objs.size) {s with heap:=s.heap.push {cls:=.type "tuple",data:=.seq (List.replicate m uz).toArray},toks:=s.toks}:=fun m hm=>by
    have hf:H s.heap.objs.size=none:=I.hok.fresh (Nat.le_refl _)
    have vv:∀j:Nat,aD (List.replicate j z) (List.replicate j uz):=fun j=>by
      induction j with
      | zero=>exact .nil
      | succ j ih=>exact .cons rz ih
    refine⟨.ref s.heap.objs.size,_,I.laid (t':=s.toks) (o:=.tup (List.replicate m z)) (fun b ob q=>Heap.get?_push_of_some _ q) (Nat.le_refl _) ⟨by rw [List.length_replicate,sizeLine_eq];lia,_,vv m,jB.new _ _⟩,rfl,q _ _ (ao.new hf) (bK.of (by rw [av,hm]))⟩
  rcases(by lia:k=0∨k=1∨2≤k) with e | e | e
  · subst e
    exact call_meets F.slot_tuple_mul ⟨_,ho,rfl⟩ F.entry_tuple_mul (F.args_tuple_mul_2 _ _) (vU a uz n t dd sl) ⟨ho,new 0 rfl⟩
  · subst e
    exact call_meets F.slot_tuple_mul ⟨_,ho,rfl⟩ F.entry_tuple_mul (F.args_tuple_mul_2 _ _) (vV a uz n t dd sl) ⟨ho,⟨.ref a,H,I,rfl,q a H (ao.refl H) ha⟩⟩
  · exact call_meets F.slot_tuple_mul ⟨_,ho,rfl⟩ F.entry_tuple_mul (F.args_tuple_mul_2 _ _) (yX a uz n k t dd sl e k1) ⟨ho,new _ rfl⟩
end
end L2
namespace L2
open PySem PySem.Spec PyProof.Rows
section
variable{prog:Program}{w:World}{A:Around}{E:Value→Shared→Prop}{s:Shared}
end
section
variable{X:Cx}{a:Expr}{ta:TA}{p p2 p3 pos pos2 pos3:Pos}
end
end L2
namespace L2
open PySem PySem.Spec PyProof.Rows
theorem qS(l:Addr)(xs:Array Value):
    Meets (Builtin.«enumerate.__new__» ⟨[.type "enumerate",.ref l],[]⟩) (fun _ R s=>s.heap.IsTuple l xs∧R (.ok (.ret (.ref (s.heap.objs.size+1)))) {s with heap:=(s.heap.push {cls:=.type "tuple_iterator",data:=.fields #[.ref l,.int 0 0]}).push {cls:=.type "enumerate",data:=.fields #[.none,.bool false,.ref s.heap.objs.size,rawInt 0,.none,.none]}}):=
  .of_wp fun prog w A R s h=>by
    obtain⟨hp,g,d,tk,os⟩:=s;obtain⟨ht,h⟩:=h;have a1:=sub_enumerate
    have T1:Heap.IsTuple (Shared.heap ⟨hp,g,d,tk,os⟩) l xs:=ht
    obtain⟨⟨cls,dd,data,sl⟩,ho,hc,n,hd⟩:=id ht
    simp only at hc hd
    subst hc hd
    wp_walk using wpAny_loadPart' ho
    refine wpAny_stack_any fun st=>wpAny_pure ?_
    split
    · rename_i c _ _ _ _ _
      cases (c==Value.type "enumerate")
      · wp_walk using wpAny_loadPart' ho,wpAny_pyIter_tuple T1
        refine⟨_,rfl,?_⟩
        simp only [Heap.size_push]
        exact h
      · wp_walk using wpAny_loadPart' ho,wpAny_pyIter_tuple T1
        refine⟨_,rfl,?_⟩
        simp only [Heap.size_push]
        exact h
    · wp_walk using wpAny_loadPart' ho,wpAny_pyIter_tuple T1
      refine⟨_,rfl,?_⟩
      simp only [Heap.size_push]
      exact h
section
variable{prog:Program}{w:World}{A:Around}{E:Value→Shared→Prop}{s:Shared}
theorem pd{l:Addr}{xs:Array Value}{Q:Value→Shared→Prop}(t1:s.heap.IsTuple l xs)(h:∀g,p7 (s.heap.objs.size+1) s.heap.objs.size l 0 g→(∀c o,s.heap.get? c=some o→g.get? c=some o)→Q (.ref (s.heap.objs.size+1)) {s with heap:=g}):wpAny (model prog w) A (call (.type "enumerate") [.ref l]) Q E s:=by
  refine callType_new F.called_enumerate (by decide) (F.typeCall_enumerate_1 _) (F.newCall_enumerate_1 _) (fun obj=>F.args_object_init_2 obj _) F.entry_enumerate_new (qS l xs) ⟨t1,?_⟩
  have g2:((s.heap.push {cls:=.type "tuple_iterator",data:=.fields #[.ref l,.int 0 0]}).push {cls:=.type "enumerate",data:=.fields #[.none,.bool false,.ref s.heap.objs.size,rawInt 0,.none,.none]}).get? (s.heap.objs.size+1)=some {cls:=.type "enumerate",data:=.fields #[.none,.bool false,.ref s.heap.objs.size,rawInt 0,.none,.none]}:=by
    have e:s.heap.objs.size+1=(s.heap.push {cls:=.type "tuple_iterator",data:=.fields #[.ref l,.int 0 0]}).objs.size:=by simp only [Heap.size_push]
    rw [e];exact Heap.get?_push_size _ rfl
  exact⟨⟨_,g2,rfl⟩,h _ ⟨⟨.none,g2⟩,⟨_,Heap.get?_push_of_some _ (Heap.get?_push_size _ rfl),rfl,rfl⟩⟩ fun c o x=>Heap.get?_push_of_some _ (Heap.get?_push_of_some _ x)⟩
end
theorem fV:PySem.bootBuiltins "enumerate"=some (.type "enumerate"):=by decide+kernel
def Cv(K:PySem.W.Frag)(ta:TA):TI:=fun σ H R=>ta σ H fun vs H1=>∃a,vs=[.ref a]∧(∃xs,bK K H1 a xs)∧R (yw K a) H1
def Cu(K:PySem.W.Frag)(ta:TA):TI:=fun σ H R=>ta σ H fun vs H1=>∃a,vs=[.ref a]∧(∃xs,fH K H1 a xs)∧R (yv K a) H1
section
variable{X:Cx}{K:PySem.W.Frag}{es:List Expr}{k0:Nat}{tp:Pos}{a:Expr}{ta:TA}{p pos:Pos}
theorem t_(hK:X.K=K)(hg:Gl X "enumerate")(hm:X.mg "enumerate"=none)(ha:PA X [a] ta)(hs:starEach [a] X.env=[(false,eval a X.env)]:=by rfl):PI X (.Tuple es k0 tp) (.Call (.Name "enumerate" p) [a] [] pos) (Cv K ta):=by
  intro pins s σ H R I h
  subst hK
  refine Call_ (i5 I hg hm fV (PyProof.Rows.callWith_type1 (cy (ha pos pins s σ H _ I h) fun us s1 ⟨vs,H1,I1,r1,q1⟩=>?_) hs rfl))
  obtain⟨a,e,⟨xs,qx⟩,q⟩:=q1
  subst e
  obtain⟨u,rfl,ru⟩:=i_ r1
  cases ru
  obtain⟨i1,v1,p1,_⟩:=I1.tuple qx
  refine pd p1 fun g st hk=>?_
  obtain⟨⟨old,he⟩,hit⟩:=id st
  refine gB he ?_
  have I2:aq X pins σ H1 {s1 with heap:=g,toks:=s1.toks}:=I1.kept (t':=s1.toks) fun b o e=>hk b o e
  refine⟨s1.heap.objs.size+1,[s1.heap.objs.size+1,s1.heap.objs.size],_,_,H1,rfl,I2,pO a (show((s1.heap.objs.size+1:Nat)≠s1.heap.objs.size) by lia),st,fun c hc=>?_,q⟩
  have le:s1.heap.objs.size≤c:=by
    simp only [List.mem_cons,List.not_mem_nil,or_false] at hc
    rcases hc with rfl | rfl
    · exact Nat.le_add_right _ 1
    · exact Nat.le_refl _
  exact I1.fpOk (H':=H1) le (I1.hok.fresh le)
theorem t9(hK:X.K=K)(hg:Gl X "enumerate")(hm:X.mg "enumerate"=none)(ha:PA X [a] ta)(hs:starEach [a] X.env=[(false,eval a X.env)]:=by rfl):PI X (.Tuple es k0 tp) (.Call (.Name "enumerate" p) [a] [] pos) (Cu K ta):=by
  intro pins s σ H R I h
  subst hK
  refine Call_ (i5 I hg hm fV (PyProof.Rows.callWith_type1 (cy (ha pos pins s σ H _ I h) fun us s1 ⟨vs,H1,I1,r1,q1⟩=>?_) hs rfl))
  obtain⟨a,e,⟨xs,qx⟩,q⟩:=q1
  subst e
  obtain⟨u,rfl,ru⟩:=i_ r1
  cases ru
  obtain⟨i1,v1,p1,_⟩:=I1.list qx
  refine call_enumerate_list p1.isList fun g he hit hsz hk=>?_
  refine gB he ?_
  have I2:aq X pins σ H1 {s1 with heap:=g,toks:=s1.toks}:=I1.kept (t':=s1.toks) fun b o e=>hk b o e
  refine⟨s1.heap.objs.size+1,[s1.heap.objs.size+1,s1.heap.objs.size],_,_,H1,rfl,I2,pN a (show((s1.heap.objs.size+1:Nat)≠s1.heap.objs.size) by lia),⟨⟨_,he⟩,hit⟩,fun c hc=>?_,q⟩
  have le:s1.heap.objs.size≤c:=by
    simp only [List.mem_cons,List.not_mem_nil,or_false] at hc
    rcases hc with rfl | rfl
    · exact Nat.le_add_right _ 1
    · exact Nat.le_refl _
  exact I1.fpOk (H':=H1) le (I1.hok.fresh le)
end
end L2
namespace L2
open PySem PySem.Spec PyProof.Rows
section
variable{prog:Program}{w:World}{A:Around}{E:Value→Shared→Prop}{s:Shared}
end
section
variable{prog:Program}{w:World}{A:Around}{E:Value→Shared→Prop}{s:Shared}
end
section
variable{prog:Program}{w:World}{A:Around}{E:Value→Shared→Prop}{s:Shared}
end
end L2
namespace L2
open PySem PySem.Spec PyProof.Rows
theorem pH{X:Cx}{ix:Nat}{nm:Str}{posn poss:Pos}{elt iter tg:Expr}{ifs:List Expr}{scope:Scope}{pos:Pos}{wi:TI}{g:TG}{tc:TT}{te:TE}(sc0:Scope)(N0:List Str)(cp:List (Nat × Str))(tgN:List Str)
    (hc:X.calm=true)(hsc:X.env.scope=sc0)(hN0:X.N=N0)(hi:PI X tg iter wi)
    (hg:∀C s0 H0 fp,PG (aB X scope cp tgN C s0 H0 fp) tg g)
    (ht:∀C s0 H0 fp,rP (aB X scope cp tgN C s0 H0 fp) ifs tc)
    (he:∀C s0 H0 fp,PE (aB X scope cp tgN C s0 H0 fp) elt te)
    (hk:scope.kind=.function)(hcell:∀y∈scope.names,y.2≠.cell)(hnames:∀y∈scope.names,y.2=.local→scope.names.lookup y.1=some .local)
    (hfr:∀y∈scope.names,y.2=.free→scope.names.lookup y.1=some .free∧sc0.names.lookup y.1=some .cell)
    (hcp:∀p∈cp,N0[p.1]?=some p.2)(hcq:∀p∈cp,sc0.names.lookup p.2=some .cell∧scope.names.lookup p.2=some .free)
    (hNd:X.N.Nodup)(hix:X.N[ix]?=some nm)(hlc:X.env.scope.names.lookup nm=some .local)(hsw:swapsWith (.ListComp elt [⟨tg,iter,ifs,0⟩] scope pos) (some (.Name nm posn)) poss.line X.env=pure true)
    (hs:∀x,foldedSetIterable iter X.env x=pure x:=by intro _;rfl):
    PS X (.Assign [.Name nm posn] (.ListComp elt [⟨tg,iter,ifs,0⟩] scope pos) poss) (z0 (qB cp tgN.length wi g tc te) (sM ix)):=by
  intro pins s σ H D0 I h
  let Q:VK:=fun x H1=>D0.nx (σ.set ix (some x)) H1
  have h:qB cp tgN.length wi g tc te σ H Q:=h
  have hkind:∀x,X.env.kindOf x=sc0.names.lookup x:=fun x=>by unfold Env.kindOf;rw [hsc]
  have hfree:∀y∈scope.names,y.2=.free→∃c,X.env.cells.lookup y.1=some c:=fun y hy e=>I.ok.has y.1 (.inl (by rw [hkind];exact(hfr y hy e).2))
  rw [exec_Assign_Name_used _ _ _ _ hsw]
  refine wpAny_bind (wpAny_standAt (wpAny_bind ?_))
  unfold evalThenUse
  refine wpAny_bind ?_
  refine wpAny_comprehension_free (use:=some (assign (.Name nm posn) X.env)) rfl hs (j6 hfree) hk hnames (wpAny_mono (hi pins s σ H _ I h.go) (fun xv s₁ h₁=>wpAny_mono h₁ (fun itv s₂ h₂=>?_) fun _ _ e=>e) fun _ _ e=>e)
  obtain⟨it,fp,tn,J,H2,rfl,I2,T,st2,f2,hq⟩:=h₂
  refine wpAny_newObj_type ?_
  have hlF:H2 s₂.heap.objs.size=none:=I2.hok.fresh (Nat.le_refl _)
  have I3:aq X pins σ (aS H2 s₂.heap.objs.size (.lst [])) {s₂ with heap:=s₂.heap.push {cls:=.type "list",data:=.seq ([]:List Value).toArray}}:=I2.lnew (t':=s₂.toks) .nil (Nat.zero_le _)
  obtain⟨W,⟨m0,w0⟩,turn⟩:=hq _ hlF
  have f3:∀b∈fp,fN X pins (aS H2 s₂.heap.objs.size (.lst [])) b:=fun b hb=>by
    obtain⟨f0,fr⟩:=f2 b hb
    obtain⟨o,ho,_⟩:=T.obj _ _ st2 b hb
    exact⟨by rw [aA (Nat.ne_of_lt (Heap.lt_size ho))];exact f0,fr⟩
  have st3:tn 0 (s₂.heap.push {cls:=.type "list",data:=.seq ([]:List Value).toArray}):=T.keep _ _ _ st2 fun b _ o e=>Heap.get?_push_of_some _ e
  generalize hD:s₂.heap.objs.size=D at*
  generalize hs3:({s₂ with heap:=s₂.heap.push {cls:=.type "list",data:=.seq ([]:List Value).toArray}}:Shared)=s₃ at*
  have hst3:tn 0 s₃.heap:=by rw [←hs3];exact st3
  refine wpAny_newFunctionEnv hcell (by intro y hy;simp at hy) (fun h₁ hns₁ hsb₁=>?_) hk
  generalize hC:s₃.heap.objs.size=C at*
  have old:∀b o,s₃.heap.get? b=some o→h₁.get? b=some o:=fun b o e=>hsb₁.extBut b o (by rw [←hC];exact Nat.ne_of_lt (Heap.lt_size e)) (Heap.get?_push_of_some _ e)
  have nC:∀b o,s₃.heap.get? b=some o→b≠C:=fun b o e=>by rw [←hC];exact Nat.ne_of_lt (Heap.lt_size e)
  have hHC:(aS H2 D (.lst [])) C=none:=I3.hok.fresh (by rw [hC];exact Nat.le_refl _)
  have clS:∀x c,(fK X.env scope.names []).lookup x=some c→X.env.cells.lookup x=some c:=fun x c e=>gW _ _ x c hfree (fun _ _ z=>by simp at z) e
  have clH:∀x,(∃y∈scope.names,y.1=x∧y.2=.free)→∃c,(fK X.env scope.names []).lookup x=some c:=fun x e=>j5 _ _ x (.inl e)
  have ok':(aB X scope cp tgN C s₃ (aS H2 D (.lst [])) fp).Ok:=by
    refine⟨I.ok.mod,hk,I.ok.glob,I.ok.blt,by rw [←hC];exact Nat.le_refl _,fun x y c e1 e2=>I.ok.inj x y c (clS _ _ e1) (clS _ _ e2),fun x e=>clH x (cK hcell e),fun x c e1 e2=>?_,I.ok.hd,I.ok.frames,.inl rfl,fun b hb=>?_,fun b o e=>I3.bs b o e,?_,fun b o e hb=>?_,fun b hb z=>?_,I3.stack,fun b hb=>I3.stkFree b hb⟩
    · exfalso
      have e1':scope.names.lookup x=some .local:=by simpa [aB] using e1
      have e2':=clS x c e2
      obtain⟨c',hc'⟩:∃y∈scope.names,y.1=x∧y.2=.free:=by
        by_cases q:∃y∈scope.names,y.1=x∧y.2=.free
        · exact q
        · exfalso
          have:∀(names:List (Str × NameKind)) (cs:List (Str × Addr)),(¬∃y∈names,y.1=x∧y.2=.free)→cs.lookup x=none→(fK X.env names cs).lookup x=none:=by
            intro names
            induction names with
            | nil=>intro cs _ h;exact h
            | cons y r ih=>
              intro cs hn hcs
              obtain⟨n,k⟩:=y
              refine ih _ (fun⟨y,hy,z⟩=>hn ⟨y,List.mem_cons_of_mem _ hy,z⟩) ?_
              by_cases hk:(k==NameKind.free)=true
              · rw [if_pos hk,List.lookup_cons]
                cases hx:x==n with
                | true=>exact absurd ⟨(n,k),List.mem_cons_self,(by simpa using hx:x=n).symm,by simpa using hk⟩ hn
                | false=>exact hcs
              · rw [if_neg hk];exact hcs
          have z:=this scope.names [] q rfl
          have e2'':(fK X.env scope.names []).lookup x=some c:=e2
          rw [z] at e2'';cases e2''
      have z:=(hfr c' hc'.1 hc'.2.2).1
      rw [hc'.2.1,e1'] at z;cases z
    · obtain⟨f0,f1,f4,f5,f6,f7⟩:=f3 b hb
      obtain⟨o,ho,_⟩:=T.obj _ _ hst3 b hb
      exact⟨nC b o ho,fun x c e=>f6 x c (clS x c e)⟩
    · exact Nat.le_trans I.ok.bsz I3.sz
    · obtain⟨f0,f1,f4,f5,f6,f7⟩:=f3 b hb
      rcases f5 with z | z
      · exact I.ok.noex b o e z
      · have:=(I.ok.bs b o e).1
        exact absurd (Nat.lt_of_lt_of_le (Heap.lt_size this) z) (Nat.lt_irrefl _)
    · obtain⟨f0,f1,f4,f5,f6,f7⟩:=f3 b hb
      rcases List.mem_cons.mp (I3.stkSub b z) with z | z
      · exact f1 z
      · exact f4 z
  have I4:aq (aB X scope cp tgN C s₃ (aS H2 D (.lst [])) fp) [] (eW cp tgN.length σ) (aS H2 D (.lst [])) {s₃ with heap:=h₁,toks:=s₃.toks+([]:List (Str × Value)).length}:=by
    refine⟨ok',rfl,I3.bare,Un.kept old,⟨_,hns₁,fun i x v e1 e2 e3=>?_⟩,fun x c e=>?_,hHC,fun x c e=>I3.freeC x c (clS x c e),fun p hp=>by simp [aB] at hp,I3.hok.kept old,by simp [eW,aB]⟩
    · have hlt:i < cp.length:=by
        by_cases q:i < cp.length
        · exact q
        · exfalso
          unfold eW at e2
          rw [List.getElem?_append_right (by simp;lia)] at e2
          rw [List.getElem?_replicate] at e2
          split at e2<;>cases e2
      have e1':(cp.map (·.2))[i]?=some x:=by
        have e1'':(cp.map (·.2)++tgN)[i]?=some x:=e1
        rwa [List.getElem?_append_left (by simp;exact hlt)] at e1''
      have e2':(cp.map (fun p=>(σ[p.1]?).join))[i]?=some (some v):=by
        unfold eW at e2
        rwa [List.getElem?_append_left (by simp;exact hlt)] at e2
      rw [List.getElem?_map,List.getElem?_eq_getElem hlt] at e1' e2'
      have ex:(cp[i]).2=x:=by simpa using e1'
      have ev:(σ[(cp[i]).1]?).join=some v:=by simpa using e2'
      have ev':σ[(cp[i]).1]?=some (some v):=by
        cases q:σ[(cp[i]).1]? with
        | none=>rw [q] at ev;cases ev
        | some z=>rw [q] at ev;simp only [Option.join_some] at ev;rw [ev]
      have hN:=hcp cp[i] (List.getElem_mem hlt)
      rw [←hN0] at hN
      obtain⟨hcl,hcf⟩:=hcq cp[i] (List.getElem_mem hlt)
      rw [ex] at hN hcl hcf
      obtain⟨m,hn,hl⟩:=I3.loc
      obtain⟨u,r,l⟩:=hl _ x v hN ev' (.inr (.inl (by rw [hsc];exact hcl)))
      refine⟨u,r,.inr ?_⟩
      rcases l with ⟨k1,_⟩ | ⟨k1,c,hcc,o,ho,hd⟩
      · rw [hkind,hcl] at k1;cases k1
      · have e3':(relabel scope X.env).names.lookup x=some .local∨(relabel scope X.env).names.lookup x=some .cell∨(relabel scope X.env).names.lookup x=some .free:=e3
        have nl:(relabel scope X.env).names.lookup x=some .cell∨(relabel scope X.env).names.lookup x=some .free:=by
          rcases e3' with z | z | z
          · exact absurd z (dC hcf)
          · exact .inl z
          · exact .inr z
        obtain⟨c',hc'⟩:=clH x (cK hcell nl)
        have:=clS x c' hc'
        rw [hcc] at this;cases this
        exact⟨nl,c,hc',o,old c o ho,hd⟩
    · obtain⟨v,o,ho,hd⟩:=I3.cell x c (clS x c e)
      exact⟨v,o,old c o ho,hd⟩
  have hst4:tn 0 h₁:=T.keep _ _ _ hst3 fun b _ o e=>old b o e
  have loop:codeAny (model X.prog X.w) X.A (.compLoop (.ListComp elt [⟨tg,iter,ifs,0⟩] scope pos) 0 (.ref it) (.ref D) (compEnvC scope (fK X.env scope.names []) C X.env))
      (compPost (model X.prog X.w) X.A X.xe (some (assign (.Name nm posn) X.env)) (fun _ s'=>wpAny (model X.prog X.w) X.A (pure ()) (fun _ s''=>wpAny (model X.prog X.w) X.A (pure Flow.next) (SP X pins D0) X.xe s'') X.xe s') (.ref D) C) {s₃ with heap:=h₁,toks:=s₃.toks+([]:List (Str × Value)).length}:=by
    refine ir (fun n s'=>∃i σ' H',aq (aB X scope cp tgN C s₃ (aS H2 D (.lst [])) fp) [] σ' H' s'∧tn i s'.heap∧(∀b∈fp,H' b=none)∧W i n σ' H') ?_ (n0:=m0) ⟨0,_,_,I4,hst4,fun b hb=>(f3 b hb).1,w0⟩
    rintro n s5 ⟨i,σ5,H5,I5,st5,fr5,w5⟩
    have stat:∀{H':Hp},(∀b∈fp,H' b=none)→∀b∈fp,fN (aB X scope cp tgN C s₃ (aS H2 D (.lst [])) fp) [] H' b:=fun hn b hb=>
      ⟨hn b hb,(ok'.exf b hb).1,ok'.exfs b hb,.inl hb,(ok'.exf b hb).2,fun p hp=>by simp [aB] at hp⟩
    rcases turn i n σ5 H5 w5 with ⟨stop,qn⟩ | ⟨go,N,hN,step⟩
    · refine cy (T.done (aB X scope cp tgN C s₃ (aS H2 D (.lst [])) fp) rfl rfl rfl hc i [] s5 σ5 H5 (fun _ _=>False) I5 (stat fr5) st5 stop) fun r s6 ⟨hr,I6⟩=>?_
      subst hr
      refine⟨fun _=>?_,fun v z=>by cases z⟩
      obtain⟨m,hn,_⟩:=I6.loc
      have I7:aq X pins σ H5 s6:=by
        have key:∀h':Heap,Heap.SameBut C s6.heap h'→aq X pins σ H5 {s6 with heap:=h'}:=fun h' sb=>by
          have ub:=I6.base
          have kp:∀b u,b≠C→s6.heap.get? b=some u→h'.get? b=some u:=fun b u ne e=>sb.extBut b u ne e
          have nit:∀b u,H5 b=some u→b≠C:=fun b u e z=>by
            have:=I6.free
            rw [z] at e
            rw [show H5 C=none from this] at e;cases e
          refine I3.call' (s':={s6 with heap:=h'}) (ch:=fp) I6.os ⟨fun b o e n hb hx=>kp b o (nC b o e) (ub.keep b o e n hb hx),fun b o e n hb hx=>?_,ub.free,fun b o e hx=>?_,ub.tups,ub.frzs,ub.tbls⟩ (fun b u e=>?_) I6.bare (fun b hb=>?_)
          · obtain⟨sl,q⟩:=ub.slot b o e n hb hx
            exact⟨sl,kp b _ (nC b o e) q⟩
          · obtain⟨o',q⟩:=ub.there b o e hx
            exact⟨o',kp b _ (nC b o e) q⟩
          · refine(I6.hok b u e).stay (fun c v hc q=>kp c v ?_ q) (fun _ q=>q) fun _ _ q=>q
            rcases hc with z | z
            · rw [z];exact nit b u e
            · exact nit c _ z
          · obtain⟨f0,f1,f4,f5,f6,f7⟩:=f3 b hb
            exact⟨f5,f1,f6,f7⟩
        exact key s6.heap ⟨rfl,fun _ _=>rfl⟩
      have fC:fN X pins H5 C:=I3.fpOk (by rw [hC];exact Nat.le_refl _) I6.free
      show wpAny (model X.prog X.w) X.A (assign (.Name nm posn) X.env (.ref D)) _ X.xe s6
      refine wpAny_assign_Name (lX (v:=.ref D) I7 hNd hix (Or.inl hlc) rfl (fun s' I' hsb=>?_) (Or.inr hlc))
      obtain⟨a,sb,ha⟩:=hsb
      have nCa:C≠a:=by
        rcases ha with z | z
        · rw [z];exact fC.2.1
        · exact fun e=>fC.2.2.2.2.1 _ _ z e.symm
      obtain⟨oN,esN,epN,hoN,rN⟩:=hn
      refine⟨m,⟨oN,esN,epN,(sb.2 C nCa).trans hoN,rN⟩,fun h' sb'=>wpAny_pure (wpAny_pure ?_)⟩
      have I8:aq X pins (σ.set ix (some (.ref D))) H5 {s' with heap:=h',toks:=s'.toks}:=I'.turnedL (t':=s'.toks) (fp:=[C]) (fun b hb=>by rw [List.mem_singleton.mp hb];exact fC) fun b o nb e=>sb'.extBut b o (by simpa using nb) e
      exact⟨_,H5,I8,qn⟩
    · refine cy (T.item (aB X scope cp tgN C s₃ (aS H2 D (.lst [])) fp) rfl rfl rfl hc i [] s5 σ5 H5 (fun _ _=>False) I5 (stat fr5) st5 go) fun r s6 ⟨u,hr,h6⟩=>?_
      subst hr
      refine⟨fun z=>(by cases z),fun v z=>?_⟩
      cases z
      refine cy h6 fun _ s7 ⟨x,H7,I7,r7,y7,st7,fr7⟩=>?_
      have I7':=I7.pinned (stat fr7) (T.obj _ _ st7)
      have again:∀{σ8:L2.St} {H8:Hp} {s8:Shared},aq (aB X scope cp tgN C s₃ (aS H2 D (.lst [])) fp) ([]++ja fp s7.heap) σ8 H8 s8→N σ8 H8→∃m,m < n∧∃i σ' H',aq (aB X scope cp tgN C s₃ (aS H2 D (.lst [])) fp) [] σ' H' s8∧tn i s8.heap∧(∀b∈fp,H' b=none)∧W i m σ' H':=fun{σ8 H8 s8} I8 n8=>by
        obtain⟨m',hm,w8⟩:=hN σ8 H8 n8
        refine⟨m',hm,i+1,σ8,H8,I8.unpinned,T.keep _ _ _ st7 fun b hb o e=>(I8.pin (b,o) (List.mem_append_right _ (List.mem_append_right _ (c_ hb e)))).1,fun b hb=>?_,w8⟩
        obtain⟨o,e,d⟩:=T.obj _ _ st7 b hb
        exact(I8.pin (b,o) (List.mem_append_right _ (List.mem_append_right _ (c_ hb e)))).2.1
      refine cy (hg C s₃ (aS H2 D (.lst [])) fp _ s7 σ5 H7 x u _ I7' r7 (step x H7 y7)) fun _ s8 ⟨σ8,H8,I8,q8⟩=>?_
      refine cy (ht C s₃ (aS H2 D (.lst [])) fp _ s8 σ8 H8 _ I8 q8) fun ok s9 ⟨H9,I9,q9⟩=>?_
      cases ok with
      | false=>
        rw [if_neg Bool.false_ne_true] at q9 ⊢
        exact again I9 q9
      | true=>
        rw [if_pos rfl] at q9 ⊢
        refine cy (he C s₃ (aS H2 D (.lst [])) fp _ s9 σ8 H9 _ I9 q9) fun v s10 ⟨xv,H10,I10,r10,ys,hl,hz,n10⟩=>?_
        refine cy (i9 _ s10 σ8 H10 (.ref D) [xv] (.ref D) [v] (fun _ H=>N σ8 H) I10 rfl (.cons r10 .nil) ⟨D,ys,xv,rfl,rfl,hl,hz,n10⟩) fun _ s11 ⟨_,H11,I11,_,q11⟩=>?_
        exact again I11 q11
  exact codeAny_compStart_list loop (T.self X.A 0 _ _ _ hst4 loop)
end L2
namespace L2
open PySem PySem.Spec PyProof.Rows
mutual
def DA(K:PySem.W.Frag)(F:Hp):PyData→V→Prop
  | .none,v=>v=.non
  | .bool b,v=>v=.bl b
  | .int i,v=>v=.int i
  | .str x,v=>v=.str x
  | .tuple ds,v=>∃a xs,v=.ref a∧bK K F a xs∧ay K F ds xs
  | .list ds,v=>∃a xs,v=.ref a∧fH K F a xs∧ay K F ds xs
  | .dict kvs,v=>∃(a:Addr) (m:List (Int × Int)),v=.ref a∧F a=some (.dK (m.map fun p=>(Sum.inl p.1,V.int p.2)))∧kvs=m.map fun p=>(PyData.int p.1,PyData.int p.2)
def ay(K:PySem.W.Frag)(F:Hp):List PyData→List V→Prop
  | [],xs=>xs=[]
  | d::ds,xs=>∃x r,xs=x::r∧DA K F d x∧ay K F ds r
end
mutual
theorem DA.mono{K:PySem.W.Frag}{F F':Hp}(h:ao F F'):∀{d:PyData} {v:V},DA K F d v→DA K F' d v
  | .none,_,q=>by simp only [DA] at q ⊢;exact q
  | .bool b,_,q=>by simp only [DA] at q ⊢;exact q
  | .int i,_,q=>by simp only [DA] at q ⊢;exact q
  | .str x,_,q=>by simp only [DA] at q ⊢;exact q
  | .tuple ds,_,q=>by
    simp only [DA] at q ⊢
    obtain⟨a,xs,e,s,r⟩:=q
    exact⟨a,xs,e,h.tup s,ay.mono h r⟩
  | .list ds,_,q=>by
    simp only [DA] at q ⊢
    obtain⟨a,xs,e,s,r⟩:=q
    exact⟨a,xs,e,h.seq s,ay.mono h r⟩
  | .dict _,_,q=>by
    simp only [DA] at q ⊢
    obtain⟨a,m,e,s,k⟩:=q
    exact⟨a,m,e,h _ _ s,k⟩
theorem ay.mono{K:PySem.W.Frag}{F F':Hp}(h:ao F F'):∀{ds:List PyData} {xs:List V},ay K F ds xs→ay K F' ds xs
  | [],_,q=>by simp only [ay] at q ⊢;exact q
  | d::ds,_,q=>by
    simp only [ay] at q ⊢
    obtain⟨x,r,e,a,b⟩:=q
    exact⟨x,r,e,DA.mono h a,ay.mono h b⟩
end
section
variable{K:PySem.W.Frag}{F:Hp}
theorem ay.len:∀{ds:List PyData} {xs:List V},ay K F ds xs→ds.length=xs.length
  | [],_,q=>by simp only [ay] at q;subst q;rfl
  | d::ds,_,q=>by
    simp only [ay] at q
    obtain⟨x,r,e,a,b⟩:=q
    subst e
    simp [ay.len b]
theorem ay.get:∀{ds:List PyData} {xs:List V} {i:Nat} {d:PyData},ay K F ds xs→ds[i]?=some d→∃v,xs[i]?=some v∧DA K F d v
  | [],_,_,_,_,h=>by simp at h
  | d::ds,_,i,d',q,h=>by
    simp only [ay] at q
    obtain⟨x,r,e,a,b⟩:=q
    subst e
    cases i with
    | zero=>simp at h;subst h;exact⟨x,rfl,a⟩
    | succ i=>
      obtain⟨v,h1,h2⟩:=ay.get (i:=i) b (by simpa using h)
      exact⟨v,by simpa using h1,h2⟩
theorem ay.append:∀{ds es:List PyData} {xs ys:List V},ay K F ds xs→ay K F es ys→ay K F (ds++es) (xs++ys)
  | [],_,_,_,q,s=>by simp only [ay] at q;subst q;simpa using s
  | d::ds,es,_,ys,q,s=>by
    simp only [ay] at q
    obtain⟨x,r,e,a,b⟩:=q
    subst e
    simp only [List.cons_append,ay]
    exact⟨x,_,rfl,a,ay.append b s⟩
theorem ay.one{d:PyData}{v:V}(h:DA K F d v):ay K F [d] [v]:=by simp only [ay];exact⟨_,_,rfl,h,rfl⟩
theorem ay.nil:ay K F [] []:=by simp only [ay]
theorem ay.cons{d:PyData}{v:V}{ds:List PyData}{vs:List V}(h:DA K F d v)(r:ay K F ds vs):ay K F (d::ds) (v::vs):=by simp only [ay];exact⟨_,_,rfl,h,r⟩
theorem ay.drop:∀{ds:List PyData} {xs:List V} (n:Nat),ay K F ds xs→ay K F (ds.drop n) (xs.drop n)
  | _,_,0,q=>q
  | [],_,n+1,q=>by simp only [ay] at q;subst q;exact ay.nil
  | d::ds,_,n+1,q=>by
    simp only [ay] at q
    obtain⟨x,r,e,a,b⟩:=q
    subst e
    simpa using ay.drop n b
theorem ay.take:∀{ds:List PyData} {xs:List V} (n:Nat),ay K F ds xs→ay K F (ds.take n) (xs.take n)
  | _,_,0,q=>by simpa using ay.nil
  | [],_,n+1,q=>by simp only [ay] at q;subst q;exact ay.nil
  | d::ds,_,n+1,q=>by
    simp only [ay] at q
    obtain⟨x,r,e,a,b⟩:=q
    subst e
    simpa using ay.cons a (ay.take n b)
theorem ay.erase:∀{ds:List PyData} {xs:List V} (n:Nat),ay K F ds xs→ay K F (ds.eraseIdx n) (xs.eraseIdx n)
  | [],_,_,q=>by simp only [ay] at q;subst q;exact ay.nil
  | e::ds,_,n,q=>by
    simp only [ay] at q
    obtain⟨x,r,e,a,b⟩:=q
    subst e
    cases n with
    | zero=>exact b
    | succ n=>exact ay.cons a (ay.erase n b)
theorem ay.ints:∀{ns:List Int} {xs:List V},ay K F (ns.map .int) xs↔ xs=ns.map V.int
  | [],xs=>by simp [ay]
  | n::ns,xs=>by
    simp only [List.map_cons,ay,DA]
    constructor
    · rintro⟨x,r,e,rfl,q⟩;rw [e,ay.ints.mp q]
    · rintro rfl;exact⟨_,_,rfl,rfl,ay.ints.mpr rfl⟩
theorem cg{i:Int}{v:V}:DA K F (.int i) v↔ v=.int i:=by simp only [DA]
theorem eu{b:Bool}{v:V}:DA K F (.bool b) v↔ v=.bl b:=by simp only [DA]
theorem mj{v:V}:DA K F .none v↔ v=.non:=by simp only [DA]
theorem yG{x:Str}{v:V}:DA K F (.str x) v↔ v=.str x:=by simp only [DA]
theorem bP{ds:List PyData}{v:V}:DA K F (.tuple ds) v↔ ∃a xs,v=.ref a∧bK K F a xs∧ay K F ds xs:=by simp only [DA]
theorem dW{ds:List PyData}{v:V}:DA K F (.list ds) v↔ ∃a xs,v=.ref a∧fH K F a xs∧ay K F ds xs:=by simp only [DA]
end
inductive Sv where
  | d (x:PyData)
  | l (xs:List PyData)
  /-- a list of lists that nobody else holds -/
  | n (xss:List (List PyData))
abbrev En:=List (Option Sv)
inductive Rv where
  | d (x:PyData)
  | l (xs:List PyData)
  | s (i:Nat)
def Fp(σ:L2.St)(e:En)(H:Hp)(i:Nat)(a:Addr):Prop:=(∃xs:List PyData,e[i]?=some (some (Sv.l xs))∧σ[i]?=some (some (.ref a)))∨
  ∃(xss:List (List PyData)) (l:Addr) (bs:List Addr),e[i]?=some (some (Sv.n xss))∧σ[i]?=some (some (.ref l))∧H l=some (.lst (bs.map V.ref))∧(a=l∨a∈bs)
def cX(σ:L2.St)(e:En)(H:Hp)(a:Addr):Prop:=∃i,Fp σ e H i a
structure aP (K:PySem.W.Frag) (F H:Hp) (σ:L2.St) (e:En):Prop where
  sm:ao F H
  len:σ.length=e.length
  dat:∀(i:Nat) (x:PyData),e[i]?=some (some (.d x))→∃v,σ[i]?=some (some v)∧DA K F x v
  own:∀(i:Nat) (xs:List PyData),e[i]?=some (some (.l xs))→∃l vs,σ[i]?=some (some (.ref l))∧F l=none∧H l=some (.lst vs)∧ay K F xs vs
  nst:∀(i:Nat) (xss:List (List PyData)),e[i]?=some (some (.n xss))→∃(l:Addr) (bs:List Addr),σ[i]?=some (some (.ref l))∧F l=none∧H l=some (.lst (bs.map V.ref))∧bs.length=xss.length∧bs.Nodup∧l∉bs∧
    ∀(k:Nat) (b:Addr) (ys:List PyData),bs[k]?=some b→xss[k]?=some ys→F b=none∧∃us,H b=some (.lst us)∧ay K F ys us
  fp:∀(i j:Nat) (a:Addr),Fp σ e H i a→Fp σ e H j a→i=j
theorem aP.inj{K:PySem.W.Frag}{F H:Hp}{σ:L2.St}{e:En}(R:aP K F H σ e)(i j:Nat)(xs ys:List PyData)(l:Addr)(h1:e[i]?=some (some (.l xs)))(h2:e[j]?=some (some (.l ys)))(h3:σ[i]?=some (some (.ref l)))(h4:σ[j]?=some (some (.ref l))):i=j:=R.fp i j l (.inl ⟨xs,h1,h3⟩) (.inl ⟨ys,h2,h4⟩)
theorem aP.fpAt{K:PySem.W.Frag}{F H:Hp}{σ:L2.St}{e:En}(R:aP K F H σ e){i:Nat}{a:Addr}(h:Fp σ e H i a):F a=none∧∃vs,H a=some (.lst vs):=by
  rcases h with ⟨xs,h1,h2⟩ | ⟨xss,l,bs,h1,h2,h3,h4⟩
  · obtain⟨l,vs,g1,g2,g3,_⟩:=R.own i xs h1
    rw [h2] at g1;cases g1
    exact⟨g2,vs,g3⟩
  · obtain⟨l',bs',g1,g2,g3,g4,g5,g6,g7⟩:=R.nst i xss h1
    rw [h2] at g1;cases g1
    rw [h3] at g3
    have e1:bs=bs':=by
      have:=HO.lst.inj (Option.some.inj g3)
      exact List.map_inj_right (fun _ _ z=>V.ref.inj z) |>.mp this
    subst e1
    rcases h4 with rfl | h4
    · exact⟨g2,_,h3⟩
    · obtain⟨k,hk⟩:=List.getElem?_of_mem h4
      have hk2:k < xss.length:=by rw [←g4];exact(List.getElem?_eq_some_iff.mp hk).1
      obtain⟨c1,us,c2,_⟩:=g7 k a xss[k] hk (List.getElem?_eq_getElem hk2)
      exact⟨c1,us,c2⟩
structure dU (σ:L2.St) (F H:Hp) (e:En) (F' H':Hp) (e':En):Prop where
  sf:ao F F'
  dom:∀a,H' a=none→H a=none
  fr:∀a vs,F a=none→H a=some (.lst vs)→¬cX σ e H a→F' a=none
  lst:∀a vs,H a=some (.lst vs)→∃vs',H' a=some (.lst vs')
  tmp:∀a o,H a=some o→¬cX σ e H a→H' a=some o
  shp:∀i:Nat,(∃xs,e'[i]?=some (some (.l xs)))↔ (∃xs,e[i]?=some (some (.l xs)))
  ow:∀a,cX σ e' H' a→cX σ e H a∨H a=none
theorem dU.refl(σ:L2.St)(F H:Hp)(e:En):dU σ F H e F H e:=⟨ao.refl _,fun _ h=>h,fun _ _ h _ _=>h,fun _ vs h=>⟨vs,h⟩,fun _ _ h _=>h,fun _=>Iff.rfl,fun _ h=>.inl h⟩
theorem dU.trans{σ:L2.St}{F H F1 H1 F2 H2:Hp}{e e1 e2:En}(x:dU σ F H e F1 H1 e1)(y:dU σ F1 H1 e1 F2 H2 e2):dU σ F H e F2 H2 e2:=
  ⟨x.sf.trans y.sf,fun a h=>x.dom a (y.dom a h),fun a vs h n no=>let ⟨vs',q⟩:=x.lst a vs n;y.fr a vs' (x.fr a vs h n no) q (fun z=>(x.ow a z).elim no fun z=>by rw [n] at z;cases z),fun a vs h=>let ⟨vs',q⟩:=x.lst a vs h;y.lst a vs' q,
    fun a o h n=>y.tmp a o (x.tmp a o h n) (fun z=>(x.ow a z).elim n fun z=>by rw [h] at z;cases z),fun i=>(y.shp i).trans (x.shp i),fun a h=>(y.ow a h).elim (x.ow a) fun z=>.inr (x.dom a z)⟩
def bH(K:PySem.W.Frag)(σ:L2.St)(H0 F H:Hp)(e:En):Rv→V→Prop
  | .d x,v=>DA K F x v
  | .l xs,v=>∃l vs,v=.ref l∧H0 l=none∧F l=none∧H l=some (.lst vs)∧ay K F xs vs∧¬cX σ e H l
  | .s i,v=>σ[i]?=some (some v)∧∃xs,e[i]?=some (some (.l xs))
section
variable{K:PySem.W.Frag}{σ:L2.St}{H0 F H F' H':Hp}{e e':En}{r:Rv}{v:V}
theorem bH.ext(h:bH K σ H0 F H e r v)(x:dU σ F H e F' H' e'):bH K σ H0 F' H' e' r v:=by
  cases r with
  | d y=>exact DA.mono x.sf h
  | l xs=>
    obtain⟨l,vs,e1,h1,h2,h3,h4,h5⟩:=h
    exact⟨l,vs,e1,h1,x.fr l _ h2 h3 h5,x.tmp l _ h3 h5,ay.mono x.sf h4,fun z=>(x.ow l z).elim h5 fun z=>by rw [h3] at z;cases z⟩
  | s i=>exact⟨h.1,(x.shp i).mpr h.2⟩
theorem bH.weak{H1:Hp}(h:bH K σ H1 F H e r v)(d:∀a,H1 a=none→H0 a=none):bH K σ H0 F H e r v:=by
  cases r with
  | d y=>exact h
  | l xs=>
    obtain⟨l,vs,e1,h1,r⟩:=h
    exact⟨l,vs,e1,d l h1,r⟩
  | s i=>exact h
theorem aP.ownH(R:aP K F H σ e)(a:Addr)(h:cX σ e H a):H a≠none:=by
  obtain⟨i,h⟩:=h
  obtain⟨_,vs,h2⟩:=R.fpAt h
  rw [h2];simp
theorem aP.freeF(R:aP K F H σ e){p:Addr}(hp:H p=none):F p=none:=R.sm.free hp
theorem vI(R:aP K F H σ e)(h:∀l bs,H l=some (.lst bs)→cX σ e H l→H' l=some (.lst bs)){i:Nat}{a:Addr}:Fp σ e H' i a↔ Fp σ e H i a:=by
  have key:∀xss l,e[i]?=some (some (.n xss))→σ[i]?=some (some (.ref l))→H' l=H l:=fun xss l h1 h2=>by
    obtain⟨l',bs,g1,g2,g3,_⟩:=R.nst i xss h1
    rw [h2] at g1;cases g1
    rw [g3]
    exact h l _ g3 ⟨i,.inr ⟨xss,l,bs,h1,h2,g3,.inl rfl⟩⟩
  constructor
  · rintro(h1 | ⟨xss,l,bs,h1,h2,h3,h4⟩)
    · exact .inl h1
    · exact .inr ⟨xss,l,bs,h1,h2,by rw [←key xss l h1 h2];exact h3,h4⟩
  · rintro(h1 | ⟨xss,l,bs,h1,h2,h3,h4⟩)
    · exact .inl h1
    · exact .inr ⟨xss,l,bs,h1,h2,by rw [key xss l h1 h2];exact h3,h4⟩
theorem aP.keep(R:aP K F H σ e)(sF:ao F F')(sm:ao F' H')(hf:∀a,cX σ e H a→F' a=none)(hh:∀a o,cX σ e H a→H a=some o→H' a=some o):aP K F' H' σ e∧∀a,cX σ e H' a↔ cX σ e H a:=by
  have fs:∀{i a},Fp σ e H' i a↔ Fp σ e H i a:=fun{i a}=>vI R fun l bs h1 h2=>hh l _ h2 h1
  refine⟨⟨sm,R.len,fun i x h=>let ⟨v,h1,h2⟩:=R.dat i x h;⟨v,h1,DA.mono sF h2⟩,fun i xs h=>?_,fun i xss h=>?_,fun i j a h1 h2=>R.fp i j a (fs.mp h1) (fs.mp h2)⟩,fun a=>⟨fun⟨i,h⟩=>⟨i,fs.mp h⟩,fun⟨i,h⟩=>⟨i,fs.mpr h⟩⟩⟩
  · obtain⟨l,vs,h1,h2,h3,h4⟩:=R.own i xs h
    have o:cX σ e H l:=⟨i,.inl ⟨xs,h,h1⟩⟩
    exact⟨l,vs,h1,hf l o,hh l _ o h3,h4.mono sF⟩
  · obtain⟨l,bs,h1,h2,h3,h4,h5,h6,h7⟩:=R.nst i xss h
    have o:cX σ e H l:=⟨i,.inr ⟨xss,l,bs,h,h1,h3,.inl rfl⟩⟩
    refine⟨l,bs,h1,hf l o,hh l _ o h3,h4,h5,h6,fun k b ys g1 g2=>?_⟩
    obtain⟨c1,us,c2,c3⟩:=h7 k b ys g1 g2
    have ob:cX σ e H b:=⟨i,.inr ⟨xss,l,bs,h,h1,h3,.inr (List.mem_of_getElem? g1)⟩⟩
    exact⟨hf b ob,us,hh b _ ob c2,c3.mono sF⟩
theorem aP.same(R:aP K F H σ e)(s:ao H H'):aP K F H' σ e∧dU σ F H e F H' e:=by
  obtain⟨R',o'⟩:=R.keep (ao.refl F) (R.sm.trans s) (fun a ⟨i,h⟩=>(R.fpAt h).1) fun a o _ h=>s a o h
  exact⟨R',⟨ao.refl _,fun a h=>s.free h,fun _ _ h _ _=>h,fun a vs h=>⟨vs,s _ _ h⟩,fun a o h _=>s a o h,fun _=>Iff.rfl,fun a h=>.inl ((o' a).mp h)⟩⟩
theorem aP.freeze(R:aP K F H σ e){p:Addr}{o:HO}(hF:F p=none)(hp:H p=some o)(hn:¬cX σ e H p):aP K (aS F p o) H σ e∧ao F (aS F p o):=by
  have sF:ao F (aS F p o):=ao.new hF
  refine⟨(R.keep sF (fun b u q=>?_) (fun a ha=>?_) fun _ _ _ h=>h).1,sF⟩
  · by_cases z:b=p
    · subst z;rw [av] at q;cases q;exact hp
    · rw [aA z] at q;exact R.sm _ _ q
  · obtain⟨i,hi⟩:=ha
    have z:a≠p:=fun z=>hn ⟨i,by rw [←z];exact hi⟩
    rw [aA z];exact(R.fpAt hi).1
theorem aP.notOwn(R:aP K F H σ e){p:Addr}{o:HO}(hp:H p=some o)(hl:∀vs,o≠.lst vs):¬cX σ e H p:=fun⟨i,h⟩=>by
  obtain⟨_,vs,g⟩:=R.fpAt h
  rw [hp] at g;cases g
  exact hl _ rfl
theorem aP.newT(R:aP K F H σ e){p:Addr}{vs:List V}(hp:H p=none):aP K (aS F p (.tup vs)) (aS H p (.tup vs)) σ e∧dU σ F H e (aS F p (.tup vs)) (aS H p (.tup vs)) e:=by
  have hF:=R.freeF hp
  obtain⟨R1,X1⟩:=R.same (ao.new hp (o:=.tup vs))
  obtain⟨R2,s2⟩:=R1.freeze (p:=p) hF av (R1.notOwn av (fun _ z=>nomatch z))
  refine⟨R2,⟨s2,X1.dom,fun a ws h n _=>?_,X1.lst,X1.tmp,X1.shp,X1.ow⟩⟩
  have z:a≠p:=fun z=>by rw [z,hp] at n;cases n
  rw [aA z];exact h
theorem aP.sameOwn(R:aP K F H σ e)(s:ao H H')(a:Addr):cX σ e H' a↔ cX σ e H a:=(R.keep (ao.refl F) (R.sm.trans s) (fun a ⟨i,h⟩=>(R.fpAt h).1) fun a o _ h=>s a o h).2 a
theorem aP.newL(R:aP K F H σ e){p:Addr}{vs:List V}(hp:H p=none):aP K F (aS H p (.lst vs)) σ e∧dU σ F H e F (aS H p (.lst vs)) e∧F p=none∧¬cX σ e (aS H p (.lst vs)) p:=
  ⟨(R.same (ao.new hp)).1,(R.same (ao.new hp)).2,R.freeF hp,fun z=>R.ownH p ((R.sameOwn (ao.new hp) p).mp z) hp⟩
theorem aP.growT(R:aP K F H σ e){p:Addr}{xs:List V}(s:ao H H')(hp:bK K H' p xs):∃F',aP K F' H' σ e∧dU σ F H e F' H' e∧bK K F' p xs:=by
  obtain⟨R1,X1⟩:=R.same s
  rcases hp with hp | hp
  · have key:∀o,H' p=some o→(∀vs,o≠.lst vs)→(∀G:Hp,G p=some o→Rd G p (.tup xs))→∃F',aP K F' H' σ e∧dU σ F H e F' H' e∧bK K F' p xs:=by
      intro o ho hl hr
      cases q:F p with
      | some u=>
        have:=R1.sm _ _ q
        rw [ho] at this;cases this
        exact⟨F,R1,X1,.inl (hr F q)⟩
      | none=>
        obtain⟨R2,s2⟩:=R1.freeze q ho (R1.notOwn ho hl)
        refine⟨_,R2,⟨s2,X1.dom,fun a ws h n _=>?_,X1.lst,X1.tmp,X1.shp,X1.ow⟩,.inl (hr _ av)⟩
        have z:a≠p:=fun z=>by rw [z] at n;rw [s _ _ n] at ho;cases ho;exact hl _ rfl
        rw [aA z];exact h
    rcases hp with hp | ⟨ob,hp⟩
    · exact key _ hp (fun _ z=>nomatch z) fun G g=>.inl g
    · exact key _ hp (fun _ z=>nomatch z) fun G g=>.inr ⟨ob,g⟩
  · exact⟨F,R1,X1,.inr hp⟩
theorem bH.frozen(R:aP K F H σ e){xs:List PyData}(h:bH K σ H0 F H e (.l xs) v):∃F',aP K F' H σ e∧ao F F'∧DA K F' (.list xs) v∧(∀a,F a=none→H0 a≠none→F' a=none):=by
  obtain⟨l,vs,rfl,h1,h2,h3,h4,h5⟩:=h
  obtain⟨R2,s2⟩:=R.freeze h2 h3 h5
  refine⟨_,R2,s2,?_,fun a ha hn=>?_⟩
  · rw [dW]
    exact⟨l,vs,rfl,.inl (.inl av),ay.mono s2 h4⟩
  · have z:a≠l:=fun z=>hn (by rw [z];exact h1)
    rw [aA z];exact ha
def dG(e:En):Rv→Option (Bool × List PyData)
  | .d (.tuple xs)=>some (false,xs)
  | .d (.list xs)=>some (true,xs)
  | .l xs=>some (true,xs)
  | .s i=>match e[i]? with
    | some (some (.l xs))=>some (true,xs)
    | _=>none
  | _=>none
theorem cL(R:aP K F H σ e)(h:bH K σ H0 F H e r v){b:Bool}{xs:List PyData}(q:dG e r=some (b,xs)):
    ∃p vs,v=.ref p∧ay K F xs vs∧(if b=true then fH K H p vs else bK K H p vs):=by
  cases r with
  | d x=>
    cases x with
    | tuple ds=>
      cases q
      obtain⟨a,ys,e1,e2,e3⟩:=bP.mp h
      exact⟨a,ys,e1,e3,R.sm.tup e2⟩
    | list ds=>
      cases q
      obtain⟨a,ys,e1,e2,e3⟩:=dW.mp h
      exact⟨a,ys,e1,e3,R.sm.seq e2⟩
    | _=>cases q
  | l ys=>
    cases q
    obtain⟨l,vs,e1,h1,h2,h3,h4,_⟩:=h
    exact⟨l,vs,e1,h4,.inl (.inl h3)⟩
  | s i=>
    obtain⟨h1,ys,h2⟩:=h
    simp only [dG,h2] at q
    cases q
    obtain⟨l,vs,e1,e2,e3,e4⟩:=R.own i _ h2
    rw [h1] at e1;cases e1
    exact⟨l,vs,rfl,e4,.inl (.inl e3)⟩
end
end L2
namespace L2
open PySem PySem.Spec PyProof.Rows
abbrev FE:=En→Option (Rv × En)
abbrev FT:=En→Option (Bool × En)
abbrev FA:=En→Option (List Rv × En)
def cS(K:PySem.W.Frag)(σ:L2.St)(H0 F H:Hp)(e:En):List Rv→List V→Prop
  | [],vs=>vs=[]
  | r::rs,vs=>∃v ws,vs=v::ws∧bH K σ H0 F H e r v∧cS K σ H0 F H e rs ws
def fE(K:PySem.W.Frag)(f:FE):TE:=fun σ H Q=>∃F e r e',aP K F H σ e∧f e=some (r,e')∧∀F' H' v,dU σ F H e F' H' e'→aP K F' H' σ e'→bH K σ H F' H' e' r v→Q v H'
def fT(K:PySem.W.Frag)(f:FT):TT:=fun σ H Q=>∃F e b e',aP K F H σ e∧f e=some (b,e')∧∀F' H',dU σ F H e F' H' e'→aP K F' H' σ e'→Q b H'
def fA(K:PySem.W.Frag)(f:FA):TA:=fun σ H Q=>∃F e rs e',aP K F H σ e∧f e=some (rs,e')∧∀F' H' vs,dU σ F H e F' H' e'→aP K F' H' σ e'→cS K σ H F' H' e' rs vs→Q vs H'
theorem PE.mono{X:Cx}{e:Expr}{t t':TE}(h:PE X e t)(m:∀σ H Q,t' σ H Q→t σ H Q):PE X e t':=fun pins s σ H Q I q=>h pins s σ H Q I (m σ H Q q)
theorem PT.mono{X:Cx}{e:Expr}{t t':TT}(h:PT X e t)(m:∀σ H Q,t' σ H Q→t σ H Q):PT X e t':=fun pins s σ H Q I q=>h pins s σ H Q I (m σ H Q q)
theorem PW.mono{X:Cx}{e:Expr}{t t':TT}(h:PW X e t)(m:∀σ H Q,t' σ H Q→t σ H Q):PW X e t':=fun wh pins s σ H Q I q=>h wh pins s σ H Q I (m σ H Q q)
theorem PA.mono{X:Cx}{es:List Expr}{t t':TA}(h:PA X es t)(m:∀σ H Q,t' σ H Q→t σ H Q):PA X es t':=fun pos pins s σ H Q I q=>h pos pins s σ H Q I (m σ H Q q)
section
variable{K:PySem.W.Frag}{σ:L2.St}{H0 F H F' H':Hp}{e e':En}
theorem cS.weak{H1:Hp}(d:∀a,H1 a=none→H0 a=none):∀{rs:List Rv} {vs:List V},cS K σ H1 F H e rs vs→cS K σ H0 F H e rs vs
  | [],_,h=>h
  | r::rs,_,h=>by
    obtain⟨v,ws,rfl,h1,h2⟩:=h
    exact⟨v,ws,rfl,h1.weak d,cS.weak d h2⟩
theorem dU.frz{F'':Hp}(x:dU σ F H e F' H' e')(s:ao F' F'')(h:∀a,F' a=none→H a≠none→F'' a=none):dU σ F H e F'' H' e':=
  ⟨x.sf.trans s,x.dom,fun a vs h1 h2 h3=>h a (x.fr a vs h1 h2 h3) (by rw [h2];simp),x.lst,x.tmp,x.shp,x.ow⟩
def iv:List Rv→Option (List PyData)
  | []=>some []
  | .d x::rs=>(iv rs).map (x::·)
  | .l xs::rs=>(iv rs).map (.list xs::·)
  | .s _::_=>none
theorem cS.frozen:∀{rs:List Rv} {vs:List V} {ds:List PyData} {F:Hp},aP K F H σ e→cS K σ H0 F H e rs vs→iv rs=some ds→
    ∃F',aP K F' H σ e∧ao F F'∧ay K F' ds vs∧(∀a,F a=none→H0 a≠none→F' a=none)
  | [],_,_,F,R,h,q=>by
    cases q
    have h':_=[]:=h
    subst h'
    exact⟨F,R,ao.refl _,ay.nil,fun _ h _=>h⟩
  | .d x::rs,_,ds,F,R,h,q=>by
    obtain⟨v,ws,rfl,h1,h2⟩:=h
    obtain⟨ds',q1,rfl⟩:=Option.map_eq_some_iff.mp q
    obtain⟨F',R',s',d',f'⟩:=cS.frozen R h2 q1
    exact⟨F',R',s',.cons (DA.mono s' h1) d',f'⟩
  | .l xs::rs,_,ds,F,R,h,q=>by
    obtain⟨v,ws,rfl,h1,h2⟩:=h
    obtain⟨ds',q1,rfl⟩:=Option.map_eq_some_iff.mp q
    obtain⟨F',R',s',d',f'⟩:=cS.frozen R h2 q1
    obtain⟨l,us,rfl,g1,g2,g3,g4,g5⟩:=h1
    cases hl:F' l with
    | none=>
      have h1':bH K σ H0 F' H e (.l xs) (.ref l):=⟨l,us,rfl,g1,hl,g3,ay.mono s' g4,g5⟩
      obtain⟨F2,R2,s2,d2,f2⟩:=h1'.frozen R'
      exact⟨F2,R2,s'.trans s2,.cons d2 (ay.mono s2 d'),fun a ha hn=>f2 a (f' a ha hn) hn⟩
    | some o=>
      have:=R'.sm _ _ hl
      rw [g3] at this;cases this
      exact⟨F',R',s',.cons (dW.mpr ⟨l,us,rfl,.inl (.inl hl),ay.mono s' g4⟩) d',f'⟩
end
section
variable{X:Cx}{K:PySem.W.Frag}{a b c:Expr}{fa fb:FE}{ft fu:FT}{pos:Pos}{es:List Expr}{fs:FA}
def ae(i:Nat):FE:=fun e=>match e[i]? with
  | some (some (.d x))=>some (.d x,e)
  | some (some (.l _))=>some (.s i,e)
  | _=>none
def vC(x:PyData):FE:=fun e=>some (.d x,e)
theorem xB{i:Nat}{σ:L2.St}{H:Hp}{Q:VK}(h:fE K (ae i) σ H Q):BP i σ H Q:=by
  obtain⟨F,e,r,e',R,hf,q⟩:=h
  unfold ae at hf
  match h1:e[i]?,hf with
  | some (some (.d x)),hf=>
    cases hf
    obtain⟨v,h2,h3⟩:=R.dat i x h1
    exact⟨v,h2,q F H v (dU.refl _ _ _ _) R h3⟩
  | some (some (.n _)),hf=>cases hf
  | some (some (.l xs)),hf=>
    cases hf
    obtain⟨l,vs,h2,h3⟩:=R.own i xs h1
    exact⟨_,h2,q F H _ (dU.refl _ _ _ _) R ⟨h2,xs,h1⟩⟩
  | some none,hf=>cases hf
  | none,hf=>cases hf
theorem qv(i:Nat){x:Str}{pos:Pos}(hN:X.N[i]?=some x)(hv:AC X.env.scope x)(hd:(x==("__debug__":Str))=false)(hcd:(x==("__classdict__":Str))=false):PE X (.Name x pos) (fE K (ae i)):=(zv hN hv hd hcd).mono fun _ _ _ h=>xB h
theorem yo{x:PyData}{v:V}{σ:L2.St}{H:Hp}{Q:VK}(hx:∀F,DA K F x v)(h:fE K (vC x) σ H Q):tC v σ H Q:=by
  obtain⟨F,e,r,e',R,hf,q⟩:=h
  cases hf
  exact q F H v (dU.refl _ _ _ _) R (hx F)
theorem ab{i j pos}:PE X (.Constant (.int i) j pos) (fE K (vC (.int i))):=zq.mono fun _ _ _ h=>yo (fun _=>cg.mpr rfl) h
theorem qj{b j pos}:PE X (.Constant (.bool b) j pos) (fE K (vC (.bool b))):=Bh.mono fun _ _ _ h=>yo (fun _=>eu.mpr rfl) h
def gp(K:PySem.W.Frag)(r:R2)(g:En→Rv→Rv→Option Rv):Prop:=
  ∀(σ:L2.St) (H0 F H:Hp) (e:En) (x y z:Rv) (v u:V) (Q:VK),aP K F H σ e→bH K σ H0 F H e x v→bH K σ H0 F H e y u→g e x y=some z→
    (∀F' H' w,dU σ F H e F' H' e→aP K F' H' σ e→bH K σ H F' H' e z w→Q w H')→r v u H Q
def ap(g:En→Rv→Rv→Option Rv)(fa fb:FE):FE:=fun e=>(fa e).bind fun p=>(fb p.2).bind fun q=>(g q.2 p.1 q.1).map fun z=>(z,q.2)
theorem mO{r:R2}{g:En→Rv→Rv→Option Rv}(ho:gp K r g){σ:L2.St}{H:Hp}{Q:VK}(h:fE K (ap g fa fb) σ H Q):BL r (fE K fa) (fE K fb) σ H Q:=by
  obtain⟨F,e,z,e2,R,hf,q⟩:=h
  unfold ap at hf
  obtain⟨⟨x,e1⟩,h1,hf⟩:=Option.bind_eq_some_iff.mp hf
  obtain⟨⟨y,e2'⟩,h2,hf⟩:=Option.bind_eq_some_iff.mp hf
  obtain⟨z',h3,hf⟩:=Option.map_eq_some_iff.mp hf
  cases hf
  refine⟨F,e,x,e1,R,h1,fun F1 H1 v X1 R1 A1=>⟨F1,e1,y,_,R1,h2,fun F2 H2 u X2 R2 A2=>?_⟩⟩
  have X12:=X1.trans X2
  refine ho σ H F2 H2 _ x y _ v u Q R2 (A1.ext X2) (A2.weak X1.dom) h3 fun F3 H3 w X3 R3 A3=>?_
  exact q F3 H3 w (X12.trans X3) R3 (A3.weak X12.dom)
theorem lO{op:Operator}{r:R2}{g:En→Rv→Rv→Option Rv}(hr:fP X (binaryOp op) r)(ho:gp K r g)(ha:PE X a (fE K fa))(hb:PE X b (fE K fb)):PE X (.BinOp a op b pos) (fE K (ap g fa fb)):=(Bk hr ha hb).mono fun _ _ _ h=>mO ho h
theorem zI{op:CmpOp}{r:R2}{g:En→Rv→Rv→Option Rv}(hr:fP X (compareOp op) r)(ho:gp K r g)(ha:PE X a (fE K fa))(hb:PE X b (fE K fb))(hm:behindInMarks op b=false):PE X (.Compare a [op] [b] pos) (fE K (ap g fa fb)):=(wu hr ha hb hm).mono fun _ _ _ h=>mO ho h
theorem Bq{r:R2}{g:En→Rv→Rv→Option Rv}(hr:vq X r)(ho:gp K r g)(ha:PE X a (fE K fa))(hb:PE X b (fE K fb))(hs:l5 b):PE X (.Subscript a b pos) (fE K (ap g fa fb)):=(Bj hr ha hb hs).mono fun _ _ _ h=>mO ho h
def Ah(g:En→Rv→Option Rv)(fa:FE):FE:=fun e=>(fa e).bind fun p=>(g p.2 p.1).map fun z=>(z,p.2)
def B4(K:PySem.W.Frag)(r:V→Hp→VK→Prop)(g:En→Rv→Option Rv):Prop:=
  ∀(σ:L2.St) (H0 F H:Hp) (e:En) (x z:Rv) (v:V) (Q:VK),aP K F H σ e→bH K σ H0 F H e x v→g e x=some z→
    (∀F' H' w,dU σ F H e F' H' e→aP K F' H' σ e→bH K σ H F' H' e z w→Q w H')→r v H Q
theorem Ai{r:V→Hp→VK→Prop}{g:En→Rv→Option Rv}(ho:B4 K r g){σ:L2.St}{H:Hp}{Q:VK}(h:fE K (Ah g fa) σ H Q):Df r (fE K fa) σ H Q:=by
  obtain⟨F,e,z,e2,R,hf,q⟩:=h
  unfold Ah at hf
  obtain⟨⟨x,e1⟩,h1,hf⟩:=Option.bind_eq_some_iff.mp hf
  obtain⟨z',h3,hf⟩:=Option.map_eq_some_iff.mp hf
  cases hf
  refine⟨F,e,x,_,R,h1,fun F1 H1 v X1 R1 A1=>?_⟩
  refine ho σ H F1 H1 _ x _ v Q R1 A1 h3 fun F3 H3 w X3 R3 A3=>?_
  exact q F3 H3 w (X1.trans X3) R3 (A3.weak X1.dom)
theorem Br{op:UnaryOp}{r:V→Hp→VK→Prop}{g:En→Rv→Option Rv}(hr:B5 X (unaryOp op) r)(ho:B4 K r g)(ha:PE X a (fE K fa)):PE X (.UnaryOp op a pos) (fE K (Ah g fa)):=(Bm hr ha).mono fun _ _ _ h=>Ai ho h
def fU:Rv→Option Bool
  | .d (.bool b)=>some b
  | _=>none
theorem ly{σ:L2.St}{H0 F H:Hp}{e:En}{r:Rv}{v:V}{b:Bool}(h:bH K σ H0 F H e r v)(q:fU r=some b):v=.bl b:=by
  unfold fU at q
  split at q
  · cases q;exact eu.mp (show DA K F (.bool _) v from h)
  · cases q
theorem mK{σ:L2.St}{H0 F H:Hp}{e:En}{b:Bool}:bH K σ H0 F H e (.d (.bool b)) (.bl b):=(eu (K:=K) (F:=F)).mpr rfl
def a_(f:FE):FT:=fun e=>(f e).bind fun p=>(fU p.1).map fun b=>(b,p.2)
theorem oB{σ:L2.St}{H:Hp}{Q:Bool→Hp→Prop}(h:fT K (a_ fa) σ H Q):fE K fa σ H fun x H'=>∃k,x=.bl k∧Q k H':=by
  obtain⟨F,e,b,e1,R,hf,q⟩:=h
  unfold a_ at hf
  obtain⟨⟨x,e1'⟩,h1,hf⟩:=Option.bind_eq_some_iff.mp hf
  obtain⟨b',h3,hf⟩:=Option.map_eq_some_iff.mp hf
  cases hf
  exact⟨F,e,x,_,R,h1,fun F1 H1 v X1 R1 A1=>⟨_,ly A1 h3,q F1 H1 X1 R1⟩⟩
theorem zM{op:CmpOp}{r:R2}{g:En→Rv→Rv→Option Rv}(hr:fP X (compareOp op) r)(ho:gp K r g)(ha:PE X a (fE K fa))(hb:PE X b (fE K fb))(hm:behindInMarks op b=false):PT X (.Compare a [op] [b] pos) (fT K (a_ (ap g fa fb))):=
  (wL hr ha hb hm).mono fun σ H Q h=>by
    obtain⟨F,e,z,e2,R,hf,q⟩:=oB h
    exact mO ho ⟨F,e,z,e2,R,hf,q⟩
theorem mH{e:Expr}(h:PE X e (fE K fa))(he:∀whole,isTrue e X.env whole=(do let v ←whole;standAt e.pos;holding [v] (truthy v))):PT X e (fT K (a_ fa)):=(zF h he).mono fun _ _ _ h=>oB h
def pR(f g:FT):FT:=fun e=>(f e).bind fun p=>if p.1=true then g p.2 else some (false,p.2)
def Dj(f g:FT):FT:=fun e=>(f e).bind fun p=>if p.1=true then some (true,p.2) else g p.2
def pS(f:FT):FT:=fun e=>(f e).map fun p=>(!p.1,p.2)
theorem xx{σ:L2.St}{H:Hp}{Q:Bool→Hp→Prop}(h:fT K (pR ft fu) σ H Q):BH (fT K ft) (fT K fu) σ H Q:=by
  obtain⟨F,e,b,e1,R,hf,q⟩:=h
  unfold pR at hf
  obtain⟨⟨x,e1'⟩,h1,hf⟩:=Option.bind_eq_some_iff.mp hf
  refine⟨F,e,x,e1',R,h1,fun F1 H1 X1 R1=>?_⟩
  cases x with
  | true=>exact⟨F1,e1',b,e1,R1,hf,fun F2 H2 X2 R2=>q F2 H2 (X1.trans X2) R2⟩
  | false=>cases hf;exact q F1 H1 X1 R1
theorem xA{σ:L2.St}{H:Hp}{Q:Bool→Hp→Prop}(h:fT K (pS ft) σ H Q):BK (fT K ft) σ H Q:=by
  obtain⟨F,e,b,e1,R,hf,q⟩:=h
  unfold pS at hf
  obtain⟨⟨x,e1'⟩,h1,hf⟩:=Option.map_eq_some_iff.mp hf
  cases hf
  exact⟨F,e,x,_,R,h1,fun F1 H1 X1 R1=>q F1 H1 X1 R1⟩
variable{fM:List Expr}
theorem qk(ha:PT X a (fT K ft)):PW X (.BoolOp .And [a] pos) (fT K ft):=wQ ha
theorem uq(ha:PT X a (fT K ft))(hb:PW X (.BoolOp .And (b::fM) pos) (fT K fu)):PW X (.BoolOp .And (a::b::fM) pos) (fT K (pR ft fu)):=(zG ha hb).mono fun _ _ _ h=>xx h
theorem uo(ha:PT X a (fT K ft)):PT X (.UnaryOp .Not a pos) (fT K (pS ft)):=(zE ha).mono fun _ _ _ h=>xA h
theorem Bs{e:Expr}(h:PW X e (fT K ft)):PT X e (fT K ft):=h.pt
def yn(f g:FE):FE:=fun e=>(f e).bind fun p=>(fU p.1).bind fun b=>if b=true then g p.2 else some (.d (.bool false),p.2)
def rH(f g:FE):FE:=fun e=>(f e).bind fun p=>(fU p.1).bind fun b=>if b=true then some (.d (.bool true),p.2) else g p.2
def yp(f:FE):FE:=fun e=>(f e).bind fun p=>(fU p.1).map fun b=>(.d (.bool (!b)),p.2)
theorem yj(ha:PE X a (fE K fa))(hb:PE X (.BoolOp .Or (b::fM) pos) (fE K fb)):PE X (.BoolOp .Or (a::b::fM) pos) (fE K (rH fa fb)):=(Bl ha hb).mono fun σ H Q h=>by
  obtain⟨F,e,z,e2,R,hf,q⟩:=h
  unfold rH at hf
  obtain⟨⟨x,e1⟩,h1,hf⟩:=Option.bind_eq_some_iff.mp hf
  obtain⟨b,h2,hf⟩:=Option.bind_eq_some_iff.mp hf
  refine⟨F,e,x,e1,R,h1,fun F1 H1 v X1 R1 A1=>⟨b,ly A1 h2,?_⟩⟩
  cases b with
  | false=>exact⟨F1,e1,z,e2,R1,hf,fun F2 H2 w X2 R2 A2=>q F2 H2 w (X1.trans X2) R2 (A2.weak X1.dom)⟩
  | true=>cases hf;exact q F1 H1 _ X1 R1 mK
theorem zJ{op}(h:PE X a (fE K fa)):PE X (.BoolOp op [a] pos) (fE K fa):=zt h
def Di(t:FT)(f g:FE):FE:=fun e=>(t e).bind fun p=>if p.1=true then f p.2 else g p.2
def aj:FA:=fun e=>some ([],e)
def aa(fa:FE)(fs:FA):FA:=fun e=>(fa e).bind fun p=>(fs p.2).map fun q=>(p.1::q.1,q.2)
theorem ac:PA X [] (fA K aj):=zp.mono fun σ H Q h=>by
  obtain⟨F,e,r,e',R,hf,q⟩:=h
  cases hf
  exact q F H [] (dU.refl _ _ _ _) R rfl
theorem CL(ha:PE X a (fE K fa))(hr:PA X es (fA K fs))(h:PySem.W.isStarred a=false):PA X (a::es) (fA K (aa fa fs)):=(CJ ha hr h).mono fun σ H Q h=>by
  obtain⟨F,e,z,e2,R,hf,q⟩:=h
  unfold aa at hf
  obtain⟨⟨x,e1⟩,h1,hf⟩:=Option.bind_eq_some_iff.mp hf
  obtain⟨⟨xs,e2'⟩,h2,hf⟩:=Option.map_eq_some_iff.mp hf
  cases hf
  refine⟨F,e,x,e1,R,h1,fun F1 H1 v X1 R1 A1=>⟨F1,e1,xs,_,R1,h2,fun F2 H2 vs X2 R2 A2=>?_⟩⟩
  exact q F2 H2 (v::vs) (X1.trans X2) R2 ⟨v,vs,rfl,A1.ext X2,A2.weak X1.dom⟩
def dH(fs:FA):FE:=fun e=>(fs e).bind fun p=>(iv p.1).bind fun ds=>if ds.length≤1000 then some (.d (.tuple ds),p.2) else none
def eJ(fs:FA):FE:=fun e=>(fs e).bind fun p=>(iv p.1).bind fun ds=>if ds.length≤1000 then some (.l ds,p.2) else none
theorem be{x1}(h:PA X es (fA K fs)):PE X (.Tuple es x1 pos) (fE K (dH fs)):=(zu h).mono fun σ H Q h=>by
  obtain⟨F,e,z,e2,R,hf,q⟩:=h
  unfold dH at hf
  obtain⟨⟨rs,e1⟩,h1,hf⟩:=Option.bind_eq_some_iff.mp hf
  obtain⟨ds,h2,hf⟩:=Option.bind_eq_some_iff.mp hf
  split at hf
  case isFalse=>cases hf
  case isTrue hl=>
  cases hf
  refine⟨F,e,rs,_,R,h1,fun F1 H1 vs X1 R1 A1=>?_⟩
  obtain⟨F2,R2,s2,d2,f2⟩:=cS.frozen R1 A1 h2
  have hlen:=d2.len
  refine⟨Nat.le_of_lt (lW (by lia)),fun p hp=>?_⟩
  obtain⟨R3,X3⟩:=R2.newT (vs:=vs) hp
  exact q _ _ _ ((X1.frz s2 f2).trans X3) R3 (bP.mpr ⟨p,vs,rfl,.inl (.inl av),ay.mono X3.sf d2⟩)
theorem bJ(h:PA X es (fA K fs)):PE X (.List es pos) (fE K (eJ fs)):=(zr h).mono fun σ H Q h=>by
  obtain⟨F,e,z,e2,R,hf,q⟩:=h
  unfold eJ at hf
  obtain⟨⟨rs,e1⟩,h1,hf⟩:=Option.bind_eq_some_iff.mp hf
  obtain⟨ds,h2,hf⟩:=Option.bind_eq_some_iff.mp hf
  split at hf
  case isFalse=>cases hf
  case isTrue hl=>
  cases hf
  refine⟨F,e,rs,_,R,h1,fun F1 H1 vs X1 R1 A1=>?_⟩
  obtain⟨F2,R2,s2,d2,f2⟩:=cS.frozen R1 A1 h2
  have hlen:=d2.len
  refine⟨Nat.le_of_lt (lW (by lia)),fun p hp=>?_⟩
  obtain⟨R3,X3,hF,no⟩:=R2.newL (vs:=vs) hp
  exact q _ _ _ ((X1.frz s2 f2).trans X3) R3 ⟨p,vs,rfl,X1.dom p hp,hF,av,d2,no⟩
def cR(K:PySem.W.Frag)(r:List V→Hp→VK→Prop)(g:En→List Rv→Option Rv):Prop:=
  ∀(σ:L2.St) (H0 F H:Hp) (e:En) (xs:List Rv) (z:Rv) (vs:List V) (Q:VK),aP K F H σ e→cS K σ H0 F H e xs vs→g e xs=some z→
    (∀F' H' w,dU σ F H e F' H' e→aP K F' H' σ e→bH K σ H F' H' e z w→Q w H')→r vs H Q
def aO(g:En→List Rv→Option Rv)(fs:FA):FE:=fun e=>(fs e).bind fun p=>(g p.2 p.1).map fun z=>(z,p.2)
theorem oz{r:List V→Hp→VK→Prop}{g:En→List Rv→Option Rv}(ho:cR K r g){σ:L2.St}{H:Hp}{Q:VK}(h:fE K (aO g fs) σ H Q):CP r (fA K fs) σ H Q:=by
  obtain⟨F,e,z,e2,R,hf,q⟩:=h
  unfold aO at hf
  obtain⟨⟨x,e1⟩,h1,hf⟩:=Option.bind_eq_some_iff.mp hf
  obtain⟨z',h3,hf⟩:=Option.map_eq_some_iff.mp hf
  cases hf
  refine⟨F,e,x,_,R,h1,fun F1 H1 vs X1 R1 A1=>?_⟩
  refine ho σ H F1 H1 _ x _ vs Q R1 A1 h3 fun F3 H3 w X3 R3 A3=>?_
  exact q F3 H3 w (X1.trans X3) R3 (A3.weak X1.dom)
theorem uk{x:Str}{p pos:Pos}{id:String}{r:List V→Hp→VK→Prop}{g:En→List Rv→Option Rv}(hc:cD X (.builtin id) r)(ho:cR K r g)(hg:Gl X x)(hm:X.mg x=none)(hv:bootBuiltins x=some (.builtin id))(ha:PA X (a::es) (fA K fs))(hn:x≠"__name__")(hdb:(x==("__debug__":Str))=false)
    (he:starEach (a::es) X.env=(false,eval a X.env)::starEach es X.env)(hpl:(backTo pos (starEach es X.env)).any (·.1)=false):PE X (.Call (.Name x p) (a::es) [] pos) (fE K (aO g fs)):=(tY hc hg hm hv ha hn hdb he hpl).mono fun _ _ _ h=>oz ho h
theorem ro{x:Str}{p pos:Pos}{T:String}{r:List V→Hp→VK→Prop}{g:En→List Rv→Option Rv}(hc:cD X (.type T) r)(ho:cR K r g)(hg:Gl X x)(hm:X.mg x=none)(hv:bootBuiltins x=some (.type T))(ha:PA X (a::es) (fA K fs))(hn:x≠"__name__")(hdb:(x==("__debug__":Str))=false)
    (he:starEach (a::es) X.env=(false,eval a X.env)::starEach es X.env)(hpl:(backTo pos (starEach es X.env)).any (·.1)=false):PE X (.Call (.Name x p) (a::es) [] pos) (fE K (aO g fs)):=(ri hc hg hm hv ha hn hdb he hpl).mono fun _ _ _ h=>oz ho h
end
end L2
namespace L2
open PySem PySem.Spec PyProof.Rows
mutual
theorem DA.reads{X:Cx}{pins:List (Addr × Obj)}{σ:L2.St}{H:Hp}{s:Shared}(I:aq X pins σ H s):∀{d:PyData} {v:V} {u:Value},d.canLay0=true→DA X.K H d v→bg v u→∃as,Reads s.heap u d as
  | .none,_,_,_,q,r=>by
    simp only [DA] at q;subst q;cases r;exact⟨_,.none⟩
  | .bool b,_,_,_,q,r=>by
    simp only [DA] at q;subst q;cases r;exact⟨_,.bool b⟩
  | .int i,_,_,_,q,r=>by
    simp only [DA] at q;subst q;obtain⟨t,rfl⟩:=r;exact⟨_,.int i t⟩
  | .str x,_,_,_,q,r=>by
    simp only [DA] at q;subst q;obtain⟨t,rfl⟩:=r;exact⟨_,.str x t⟩
  | .tuple ds,_,_,c,q,r=>by
    simp only [DA] at q
    obtain⟨a,xs,e,hs,rr⟩:=q
    subst e;cases r
    obtain⟨its,rv,⟨o,ho,hc,n,hd⟩,hz⟩:=I.tuple hs
    obtain⟨as,q⟩:=ay.reads I (by simpa [PyData.canLay0] using c) rr rv
    exact⟨_,.tuple ho hc hd q⟩
  | .list ds,_,_,c,q,r=>by
    simp only [DA] at q
    obtain⟨a,xs,e,hs,rr⟩:=q
    subst e;cases r
    obtain⟨its,rv,ht,hz⟩:=I.list hs
    obtain⟨o,ho,hc,n,hd⟩:=ht.isList
    obtain⟨as,q⟩:=ay.reads I (by simpa [PyData.canLay0] using c) rr rv
    exact⟨_,.list ho hc hd q⟩
  | .dict _,_,_,c,_,_=>by simp [PyData.canLay0] at c
theorem ay.reads{X:Cx}{pins:List (Addr × Obj)}{σ:L2.St}{H:Hp}{s:Shared}(I:aq X pins σ H s):∀{ds:List PyData} {xs:List V} {us:List Value},PyData.canLayAll0 ds=true→ay X.K H ds xs→aD xs us→∃as,ReadsAll s.heap us ds as
  | [],_,_,_,q,r=>by
    simp only [ay] at q;subst q;cases r;exact⟨_,.nil⟩
  | d::ds,_,_,c,q,r=>by
    simp only [ay] at q
    simp only [PyData.canLayAll0,Bool.and_eq_true] at c
    obtain⟨x,rr,e,a,b⟩:=q
    subst e
    cases r with
    | cons p p'=>
      obtain⟨as,q1⟩:=DA.reads I c.1 a p
      obtain⟨bs,q2⟩:=ay.reads I c.2 b p'
      exact⟨_,.cons q1 q2⟩
end
def gR(e:En):Rv→Option PyData
  | .d x=>some x
  | .l xs=>some (.list xs)
  | .s i=>match e[i]? with
    | some (some (.l xs))=>some (.list xs)
    | _=>none
theorem j7{K:PySem.W.Frag}{σ:L2.St}{H0 F H:Hp}{e:En}{r:Rv}{v:V}{d:PyData}(R:aP K F H σ e)(h:bH K σ H0 F H e r v)(q:gR e r=some d):DA K H d v:=by
  cases r with
  | d x=>cases q;exact DA.mono R.sm h
  | l xs=>
    cases q
    obtain⟨l,vs,rfl,h1,h2,h3,h4,_⟩:=h
    exact dW.mpr ⟨l,vs,rfl,.inl (.inl h3),ay.mono R.sm h4⟩
  | s i=>
    obtain⟨h1,ys,h2⟩:=h
    simp only [gR,h2] at q
    cases q
    obtain⟨l,vs,e1,e2,e3,e4⟩:=R.own i _ h2
    rw [h1] at e1;cases e1
    exact dW.mpr ⟨l,vs,rfl,.inl (.inl e3),ay.mono R.sm e4⟩
section
variable{X:Cx}{K:PySem.W.Frag}
def cT:Rv→Option Int
  | .d (.int i)=>some i
  | _=>none
theorem bV{σ:L2.St}{H0 F H:Hp}{e:En}{r:Rv}{v:V}{i:Int}(h:bH K σ H0 F H e r v)(q:cT r=some i):v=.int i:=by
  unfold cT at q
  split at q
  · cases q;exact cg.mp (show DA K F (.int _) v from h)
  · cases q
theorem kQ{σ:L2.St}{H0 F H:Hp}{e:En}{i:Int}:bH K σ H0 F H e (.d (.int i)) (.int i):=(cg (K:=K) (F:=F)).mpr rfl
def gI(C:Int→Int→Bool)(f:Int→Int→PyData):En→Rv→Rv→Option Rv:=fun _ x y=>(cT x).bind fun i=>(cT y).bind fun j=>if C i j=true then some (.d (f i j)) else none
theorem nO{C:Int→Int→Prop}{c:Int→Int→Bool}{g:Int→Int→V}{f:Int→Int→PyData}(hc:∀i j,c i j=true→C i j)(hf:∀F i j,DA K F (f i j) (g i j)):gp K (rI C g) (gI c f):=by
  intro σ H0 F H e x y z v u Q R A B hg q
  unfold gI at hg
  obtain⟨i,h1,hg⟩:=Option.bind_eq_some_iff.mp hg
  obtain⟨j,h2,hg⟩:=Option.bind_eq_some_iff.mp hg
  split at hg
  case isFalse=>cases hg
  case isTrue hh=>
  cases hg
  exact⟨i,j,bV A h1,bV B h2,hc i j hh,q F H _ (dU.refl _ _ _ _) R (hf F i j)⟩
theorem hU{g:Int→Int→V}{f:Int→Int→PyData}(hf:∀F i j,DA K F (f i j) (g i j)):gp K (rp g) (gI (fun _ _=>true) f):=by
  intro σ H0 F H e x y z v u Q R A B hg q
  obtain⟨i,j,h1,h2,h3,h4⟩:=nO (K:=K) (C:=fun _ _=>True) (c:=fun _ _=>true) (g:=g) (f:=f) (fun _ _ _=>trivial) hf σ H0 F H e x y z v u Q R A B hg q
  exact⟨i,j,h1,h2,h4⟩
def ya(g g':En→Rv→Rv→Option Rv):En→Rv→Rv→Option Rv:=fun e x y=>(g e x y).or (g' e x y)
theorem gp.or{r r':R2}{g g':En→Rv→Rv→Option Rv}(h:gp K r g)(h':gp K r' g'):gp K (fun x y H Q=>r x y H Q∨r' x y H Q) (ya g g'):=by
  intro σ H0 F H e x y z v u Q R A B hg q
  unfold ya at hg
  cases e1:g e x y with
  | some w=>
    rw [e1] at hg
    cases hg
    exact .inl (h σ H0 F H e x y _ v u Q R A B e1 q)
  | none=>
    rw [e1] at hg
    exact .inr (h' σ H0 F H e x y _ v u Q R A B hg q)
def x6:=gI (fun _ _=>true) fun i j=>.int (i+j)
def gZ:=gI (fun _ _=>true) fun i j=>.int (i - j)
def fD(i:Int):Bool:=decide (-(2 ^ 64) < i)&&decide (i < 2 ^ 64)
def AI(n:Nat)(i:Int):Bool:=decide (i.natAbs < 2 ^ n)
theorem ff{n:Nat}{i:Int}:AI n i=true↔ Bt n i:=by unfold AI Bt;exact decide_eq_true_iff
def hR(i j:Int):Bool:=fD i || fD j || (AI 4000 i&&AI 4000 j)
def sL:=gI hR fun i j=>.int (i*j)
def dZ:=gI (fun _ j=>j != 0&&AI 8000 j) fun i j=>.int (i.fdiv j)
def aT:=gI (fun _ j=>j != 0) fun i j=>.int (i.fmod j)
def ue(i j:Int):Bool:=decide (0≤j)&&decide (j≤1000000)&&fD i
def pq:=gI ue fun i j=>.int (i ^ j.toNat)
theorem ib{i:Int}(h:fD i=true): -(2 ^ 64) < i∧i < 2 ^ 64:=by
  unfold fD at h
  rw [Bool.and_eq_true,decide_eq_true_iff,decide_eq_true_iff] at h
  exact h
theorem wG{i j:Int}(h:ue i j=true):yt i j:=by
  unfold ue at h
  rw [Bool.and_eq_true,Bool.and_eq_true,decide_eq_true_iff,decide_eq_true_iff] at h
  have:=ib h.2
  exact⟨h.1.1,h.1.2,by lia⟩
def pT(i j:Int):Prop:=vo i j∨xG i j
theorem wj:fP X (binaryOp .Mult) (rI pT fun i j=>.int (i*j)):=by
  intro pins s σ H x y v u Q I rx ry h
  obtain⟨i,j,e1,e2,h1,q⟩:=h
  rcases h1 with h1 | h1
  · exact ze pins s σ H x y v u Q I rx ry ⟨i,j,e1,e2,h1,q⟩
  · exact wk pins s σ H x y v u Q I rx ry ⟨i,j,e1,e2,h1,q⟩
theorem vY{i j:Int}(h:hR i j=true):pT i j:=by
  unfold hR at h
  rw [Bool.or_eq_true,Bool.or_eq_true,Bool.and_eq_true] at h
  rcases h with (h | h) | h
  · exact .inl (.inl (ib h))
  · exact .inl (.inr (ib h))
  · exact .inr ⟨ff.mp h.1,ff.mp h.2⟩
theorem yW:gp K (rI pT fun i j=>.int (i*j)) sL:=nO (fun _ _ h=>vY h) fun _ _ _=>cg.mpr rfl
theorem BG:gp K (rp fun i j=>.int (i - j)) gZ:=hU fun _ _ _=>cg.mpr rfl
theorem yI:gp K (rI xF fun i j=>.int (i.fdiv j)) dZ:=nO (fun i j h=>by
  rw [Bool.and_eq_true] at h
  exact⟨by simpa using h.1,ff.mp h.2⟩) fun _ _ _=>cg.mpr rfl
theorem A9:gp K (rI (fun _ j=>j≠0) fun i j=>.int (i.fmod j)) aT:=nO (fun i j h=>by simpa using h) fun _ _ _=>cg.mpr rfl
theorem Bn:gp K (rI yt fun i j=>.int (i ^ j.toNat)) pq:=nO (fun _ _ h=>wG h) fun _ _ _=>cg.mpr rfl
def p8:En→Rv→Rv→Option Rv:=fun e x y=>match dG e x,dG e y with
  | some (false,xs),some (false,ys)=>if xs.length+ys.length≤1000000 then some (.d (.tuple (xs++ys))) else none
  | _,_=>none
theorem yE:gp K (ur K) p8:=by
  intro σ H0 F H e x y z v u Q R A B hg q
  unfold p8 at hg
  match h1:dG e x,h2:dG e y,hg with
  | some (false,xs),some (false,ys),hg=>
    obtain⟨p,vs,rfl,d1,s1⟩:=cL R A h1
    obtain⟨p',us,rfl,d2,s2⟩:=cL R B h2
    dsimp only at hg
    split at hg
    case isFalse=>cases hg
    case isTrue hl=>
    cases hg
    have l1:=d1.len
    have l2:=d2.len
    have sl:sizeLine=16777216:=sizeLine_eq
    refine⟨p,p',vs,us,rfl,rfl,s1,s2,by lia,fun t H' sm hT=>?_⟩
    obtain⟨F',R',X',hF⟩:=R.growT sm hT
    exact q F' H' _ X' R' (bP.mpr ⟨t,_,rfl,hF,(d1.append d2).mono X'.sf⟩)
def tH(e:En):Rv→Option (List PyData)
  | .l xs=>some xs
  | .s i=>match e[i]? with
    | some (some (.l xs))=>some xs
    | _=>none
  | _=>none
theorem mC{σ:L2.St}{H0 F H:Hp}{e:En}{r:Rv}{v:V}(R:aP K F H σ e)(h:bH K σ H0 F H e r v){xs:List PyData}(q:tH e r=some xs):∃p vs,v=.ref p∧F p=none∧H p=some (.lst vs)∧ay K F xs vs:=by
  cases r with
  | d x=>cases q
  | l ys=>
    cases q
    obtain⟨l,vs,e1,h1,h2,h3,h4,_⟩:=h
    exact⟨l,vs,e1,h2,h3,h4⟩
  | s i=>
    obtain⟨h1,ys,h2⟩:=h
    simp only [tH,h2] at q
    cases q
    obtain⟨l,vs,e1,e2,e3,e4⟩:=R.own i _ h2
    rw [h1] at e1;cases e1
    exact⟨l,vs,rfl,e2,e3,e4⟩
def sx:En→Rv→Rv→Option Rv:=fun e x y=>(tH e x).bind fun xs=>(tH e y).bind fun ys=>if xs.length+ys.length≤1000000 then some (.l (xs++ys)) else none
theorem yD:gp K zN sx:=by
  intro σ H0 F H e x y z v u Q R A B hg q
  unfold sx at hg
  obtain⟨xs,h1,hg⟩:=Option.bind_eq_some_iff.mp hg
  obtain⟨ys,h2,hg⟩:=Option.bind_eq_some_iff.mp hg
  split at hg
  case isFalse=>cases hg
  case isTrue hl=>
  cases hg
  obtain⟨p,vs,rfl,f1,s1,d1⟩:=mC R A h1
  obtain⟨p',us,rfl,f2,s2,d2⟩:=mC R B h2
  have l1:=d1.len
  have l2:=d2.len
  have sl:sizeLine=16777216:=sizeLine_eq
  refine⟨p,p',vs,us,rfl,rfl,s1,s2,by lia,fun t ht=>?_⟩
  obtain⟨R3,X3,hF,no⟩:=R.newL (vs:=vs++us) ht
  exact q _ _ _ X3 R3 ⟨t,_,rfl,ht,hF,av,d1.append d2,no⟩
def dY:En→Rv→Rv→Option Rv:=ya x6 (ya p8 sx)
def yk(K:PySem.W.Frag):R2:=fun x y H Q=>rp (fun i j=>.int (i+j)) x y H Q∨(ur K x y H Q∨zN x y H Q)
theorem wc:fP X (binaryOp .Add) (yk X.K):=y_.or (wd.or za)
theorem AE:gp K (yk K) dY:=gp.or (hU fun _ _ _=>cg.mpr rfl) (gp.or yE yD)
def sP:En→Rv→Rv→Option Rv:=fun e x y=>match dG e x,cT y with
  | some (false,[d]),some k=>if 0≤k∧k≤100000 then some (.d (.tuple (List.replicate k.toNat d))) else none
  | _,_=>none
theorem ay.rep{F:Hp}{d:PyData}{v:V}(h:DA K F d v):∀n,ay K F (List.replicate n d) (List.replicate n v)
  | 0=>ay.nil
  | n+1=>ay.cons h (ay.rep h n)
theorem zR:gp K (uu K) sP:=by
  intro σ H0 F H e x y z v u Q R A B hg q
  unfold sP at hg
  match h1:dG e x,h2:cT y,hg with
  | some (false,[d]),some k,hg=>
    obtain⟨p,vs,rfl,d1,s1⟩:=cL R A h1
    dsimp only at hg
    split at hg
    case isFalse=>cases hg
    case isTrue hl=>
    cases hg
    have hd:=d1
    simp only [ay] at hd
    obtain⟨w,r,e1,hw,e2⟩:=hd
    subst e2 e1
    refine⟨p,k,w,rfl,bV B h2,s1,hl.1,hl.2,fun t H' sm hT=>?_⟩
    obtain⟨F',R',X',hF⟩:=R.growT sm hT
    exact q F' H' _ X' R' (bP.mpr ⟨t,_,rfl,hF,(ay.rep hw _).mono X'.sf⟩)
def sO:En→Rv→Rv→Option Rv:=fun e x y=>(tH e x).bind fun xs=>(cT y).bind fun k=>if -100000≤k∧k≤100000∧xs.length*k.toNat≤1000000 then some (.l (List.replicate k.toNat xs).flatten) else none
theorem ay.reps{F:Hp}{ds:List PyData}{vs:List V}(h:ay K F ds vs):∀n,ay K F (List.replicate n ds).flatten (List.replicate n vs).flatten
  | 0=>ay.nil
  | n+1=>by simpa [List.replicate_succ] using ay.append h (ay.reps h n)
theorem zQ:gp K zP sO:=by
  intro σ H0 F H e x y z v u Q R A B hg q
  unfold sO at hg
  obtain⟨xs,h1,hg⟩:=Option.bind_eq_some_iff.mp hg
  obtain⟨k,h2,hg⟩:=Option.bind_eq_some_iff.mp hg
  split at hg
  case isFalse=>cases hg
  case isTrue hl=>
  cases hg
  obtain⟨p,vs,rfl,f1,s1,d1⟩:=mC R A h1
  have l1:=d1.len
  have sl:sizeLine=16777216:=sizeLine_eq
  refine⟨p,k,vs,rfl,bV B h2,s1,by lia,by lia,by rw [←l1];lia,fun t ht=>?_⟩
  obtain⟨R3,X3,hF,no⟩:=R.newL (vs:=(List.replicate k.toNat vs).flatten) ht
  exact q _ _ _ X3 R3 ⟨t,_,rfl,ht,hF,av,ay.reps d1 _,no⟩
def bG:En→Rv→Rv→Option Rv:=ya sL (ya sP sO)
def yl(K:PySem.W.Frag):R2:=fun x y H Q=>rI pT (fun i j=>.int (i*j)) x y H Q∨(uu K x y H Q∨zP x y H Q)
theorem wg:fP X (binaryOp .Mult) (yl X.K):=wj.or (wm.or zi)
theorem A_:gp K (yl K) bG:=gp.or yW (gp.or zR zQ)
def vk:=gI (fun _ _=>true) fun i j=>.bool (decide (i < j))
def Dv:=gI (fun _ _=>true) fun i j=>.bool (decide (i≤j))
def vM:=gI (fun _ _=>true) fun i j=>.bool (decide (j < i))
def AO:=gI (fun _ _=>true) fun i j=>.bool (decide (j≤i))
theorem CG:gp K (rp fun i j=>.bl (decide (i < j))) vk:=hU fun _ _ _=>eu.mpr rfl
theorem Ct:gp K (rp fun i j=>.bl (decide (j < i))) vM:=hU fun _ _ _=>eu.mpr rfl
theorem Cs:gp K (rp fun i j=>.bl (decide (j≤i))) AO:=hU fun _ _ _=>eu.mpr rfl
def zO(K:PySem.W.Frag)(neg:Bool):R2:=fun x y H Q=>∃a b,DA K H a x∧DA K H b y∧SeqAt.shaped a=true∧SeqAt.shaped b=true∧Q (.bl (if neg then !PyData.eqv a b else PyData.eqv a b)) H
theorem zb{k:Nat}(hr:cP k X.A):fP X (compareOp .Eq) (zO X.K false):=by
  intro pins s σ H x y v u Q I rx ry h
  obtain⟨a,b,ha,hb,s1,s2,q⟩:=h
  obtain⟨as,ra⟩:=DA.reads I (SeqAt.canLay_of_shaped s1) ha rx
  obtain⟨bs,rb⟩:=DA.reads I (SeqAt.canLay_of_shaped s2) hb ry
  exact SeqAt.compareEq_shaped ra rb s1 s2 hr.units ⟨.bl _,H,I,rfl,q⟩
theorem zg{k:Nat}(hr:cP k X.A):fP X (compareOp .NotEq) (zO X.K true):=by
  intro pins s σ H x y v u Q I rx ry h
  obtain⟨a,b,ha,hb,s1,s2,q⟩:=h
  obtain⟨as,ra⟩:=DA.reads I (SeqAt.canLay_of_shaped s1) ha rx
  obtain⟨bs,rb⟩:=DA.reads I (SeqAt.canLay_of_shaped s2) hb ry
  exact SeqAt.compareNe_shaped ra rb s1 s2 hr.units ⟨.bl _,H,I,rfl,q⟩
def c9(neg:Bool):En→Rv→Rv→Option Rv:=fun e x y=>(gR e x).bind fun a=>(gR e y).bind fun b=>if (SeqAt.shaped a&&SeqAt.shaped b)=true then some (.d (.bool (if neg then !PyData.eqv a b else PyData.eqv a b))) else none
theorem xT{neg:Bool}:gp K (zO K neg) (c9 neg):=by
  intro σ H0 F H e x y z v u Q R A B hg q
  unfold c9 at hg
  obtain⟨a,h1,hg⟩:=Option.bind_eq_some_iff.mp hg
  obtain⟨b,h2,hg⟩:=Option.bind_eq_some_iff.mp hg
  split at hg
  case isFalse=>cases hg
  case isTrue hl=>
  cases hg
  rw [Bool.and_eq_true] at hl
  exact⟨a,b,j7 R A h1,j7 R B h2,hl.1,hl.2,q F H _ (dU.refl _ _ _ _) R mK⟩
def Bv(K:PySem.W.Frag)(neg:Bool):R2:=fun x y H Q=>∃a xs,DA K H a x∧(DA K H (.list xs) y∨DA K H (.tuple xs) y)∧a.canLay0=true∧a.depth≤60∧PyData.canLayAll0 xs=true∧Q (.bl (if neg then !(xs.any fun y=>PyData.eqv y a) else xs.any fun y=>PyData.eqv y a)) H
theorem zc{k:Nat}(hr:cP k X.A):fP X (compareOp .In) (Bv X.K false):=by
  intro pins s σ H x y v u Q I rx ry h
  obtain⟨a,xs,ha,hb,s1,s2,s3,q⟩:=h
  obtain⟨as,ra⟩:=DA.reads I s1 ha rx
  have hu:=hr.units
  rcases hb with hb | hb
  · obtain⟨bs,rb⟩:=DA.reads I (by simpa [PyData.canLay0] using s3) hb ry
    exact PySem.SeqAt.in_list_reads rb ra s3 s1 (by lia) ⟨.bl _,H,I,rfl,q⟩
  · obtain⟨bs,rb⟩:=DA.reads I (by simpa [PyData.canLay0] using s3) hb ry
    exact PySem.SeqAt.in_tuple_reads rb ra s3 s1 (by lia) ⟨.bl _,H,I,rfl,q⟩
def x8(neg:Bool):En→Rv→Rv→Option Rv:=fun e x y=>(gR e x).bind fun a=>(dG e y).bind fun p=>if (a.canLay0&&decide (a.depth≤60)&&PyData.canLayAll0 p.2)=true then some (.d (.bool (if neg then !(p.2.any fun y=>PyData.eqv y a) else p.2.any fun y=>PyData.eqv y a))) else none
theorem CA{neg:Bool}:gp K (Bv K neg) (x8 neg):=by
  intro σ H0 F H e x y z v u Q R A B hg q
  unfold x8 at hg
  obtain⟨a,h1,hg⟩:=Option.bind_eq_some_iff.mp hg
  obtain⟨⟨b,xs⟩,h2,hg⟩:=Option.bind_eq_some_iff.mp hg
  split at hg
  case isFalse=>cases hg
  case isTrue hl=>
  cases hg
  rw [Bool.and_eq_true,Bool.and_eq_true,decide_eq_true_iff] at hl
  obtain⟨p,vs,rfl,d1,s1⟩:=cL R B h2
  refine⟨a,xs,j7 R A h1,?_,hl.1.1,hl.1.2,hl.2,q F H _ (dU.refl _ _ _ _) R mK⟩
  cases b with
  | true=>exact .inl (dW.mpr ⟨p,vs,rfl,s1,d1.mono R.sm⟩)
  | false=>exact .inr (bP.mpr ⟨p,vs,rfl,s1,d1.mono R.sm⟩)
def bf:En→Rv→Rv→Option Rv:=fun e x y=>(dG e x).bind fun p=>(cT y).bind fun i=>(atI p.2 i).map .d
def Bw(K:PySem.W.Frag):R2:=fun x y H Q=>Bx K x y H Q∨By K x y H Q
theorem CB:vq X (Bw X.K):=vQ.or yO
theorem ay.atI{F:Hp}{ds:List PyData}{vs:List V}(h:ay K F ds vs){i:Int}{d:PyData}(q:atI ds i=some d):∃v,L2.atI vs i=some v∧DA K F d v:=by
  unfold L2.atI at q ⊢
  obtain⟨j,h1,h2⟩:=Option.bind_eq_some_iff.mp q
  obtain⟨v,h3,h4⟩:=h.get h2
  exact⟨v,by rw [←h.len,h1];exact h3,h4⟩
theorem CC:gp K (Bw K) bf:=by
  intro σ H0 F H e x y z v u Q R A B hg q
  unfold bf at hg
  obtain⟨⟨b,xs⟩,h1,hg⟩:=Option.bind_eq_some_iff.mp hg
  obtain⟨i,h2,hg⟩:=Option.bind_eq_some_iff.mp hg
  obtain⟨d,h3,hg⟩:=Option.map_eq_some_iff.mp hg
  cases hg
  obtain⟨p,vs,rfl,d1,s1⟩:=cL R A h1
  obtain⟨w,h4,h5⟩:=d1.atI h3
  have fin:=q F H w (dU.refl _ _ _ _) R h5
  cases b with
  | true=>exact .inl ⟨p,vs,i,w,rfl,bV B h2,s1,h4,fin⟩
  | false=>exact .inr ⟨p,vs,i,w,rfl,bV B h2,s1,h4,fin⟩
end
end L2
namespace HT
open PySem PySem.Spec PyProof.Rows
section
variable{prog:Program}{w:World}{A:Around}{E:Value→Shared→Prop}{s:Shared}
theorem getItem_tuple_all{t sl:Addr}{items:Array Value}{vl vu:Value}{lo hi:Option Int}{Q:Value→Shared→Prop}(ht:IsTup s.heap t items)(hs:s.heap.IsSliceOf sl vl vu .none)(pl:IsPart vl lo)(pu:IsPart vu hi)
    (hw:sIx items.size 0 lo=0∧sIx items.size items.size hi=items.size)
    (h:Q (.ref t) s):wpAny (model prog w) A (getItem (.ref t) (.ref sl)) Q E s:=by
  obtain⟨os,hos,hcs,hds⟩:=id hs
  have hTs:s.TypeIs (.ref sl) "slice":=⟨os,hos,hcs⟩
  unfold getItem
  try with_reducible refine wpAny_holding ?_
  first | refine wpAny_bind (wpAny_pure ?_) | skip
  refine wpAny_bind (wpAny_sequenceKey ht.typeIs (by decide) ?_)
  refine wpAny_bind (wpAny_callSpecial?_slot (name:=Str.ofString "__getitem__") ht.typeIs PyProof.Rows.slot_tuple_getitem
    (wpAny_call_entry PyProof.Rows.slot_tuple_getitem ht.typeIs entry_tuple_getitem ?_ (args_tuple_getitem _ _)))
  show wpAny _ _ (Builtin.Tuple.tupleItemsOf (.ref t) >>= _) _ _ s
  refine wpAny_bind (tupleItemsOf_ ht ?_)
  refine wpAny_bind (wpAny_typeOf hTs ?_)
  rw [if_pos (by decide)]
  refine wpAny_bind (eX hs pl pu ?_)
  have hno:(((sIx items.size 0 lo:Nat):Int)==0&&(1:Int)==1&&(sIx items.size items.size hi - sIx items.size 0 lo)==items.size)=true:=by
    rw [hw.1,hw.2];simp
  show wpAny _ _ (if (((sIx items.size 0 lo:Nat):Int)==0&&(1:Int)==1&&(sIx items.size items.size hi - sIx items.size 0 lo)==items.size)=true then _ else _) _ _ s
  rw [if_pos hno]
  unfold Builtin.Tuple.tupleIsExact
  refine wpAny_bind (wpAny_bind (wpAny_typeOf ht.typeIs (wpAny_pure ?_)))
  rw [if_pos (by decide)]
  exact wpAny_bind (wpAny_rule (wpAny_pure ⟨_,rfl,wpAny_pure h⟩))
end
end HT
namespace L2
open PySem PySem.Spec PyProof.Rows
section
variable{X:Cx}{K:PySem.W.Frag}{a:Expr}{fa:FE}{lo hi:Option Expr}{pos p2:Pos}
def cutD(xs:List PyData)(lo hi:Option Int):List PyData:=(xs.drop (HT.sIx xs.length 0 lo)).take (HT.sIx xs.length xs.length hi - HT.sIx xs.length 0 lo)
def BB(K:PySem.W.Frag):V→Option Int→Option Int→Hp→VK→Prop:=fun x lo hi H Q=>∃a xs,x=.ref a∧bK K H a xs∧
  (HT.sIx xs.length 0 lo=0∧HT.sIx xs.length xs.length hi=xs.length)∧Q (.ref a) H
theorem xg:vw X (BB X.K):=by
  intro pins s σ H x v vl vu lo hi sl Q I rx hs pl pu h
  obtain⟨a,xs,rfl,hx,hw,q⟩:=h
  cases rx
  obtain⟨its,r,ht,hz⟩:=I.tuple hx
  have hlen:its.toArray.size=xs.length:=by rw [List.size_toArray];exact r.length.symm
  refine⟨"tuple",_,PyProof.Rows.slot_tuple_getitem.lookup,ht.typeIs,?_⟩
  exact HT.getItem_tuple_all ht hs pl pu (by rw [hlen];exact hw) ⟨.ref a,H,I,rfl,q⟩
def CM(K:PySem.W.Frag):V→Option Int→Option Int→Hp→VK→Prop:=fun x lo hi H Q=>BA K x lo hi H Q∨(BB K x lo hi H Q∨Bz K x lo hi H Q)
theorem CO:vw X (CM X.K):=zY.or (xg.or xf)
abbrev FO:=En→Option (Option Int × En)
def fO(K:PySem.W.Frag)(f:FO):TO:=fun σ H Q=>∃F e o e',aP K F H σ e∧f e=some (o,e')∧∀F' H',dU σ F H e F' H' e'→aP K F' H' σ e'→Q o H'
theorem PO.mono{e:Option Expr}{t t':TO}(h:PO X e t)(m:∀σ H Q,t' σ H Q→t σ H Q):PO X e t':=fun pins s σ H Q I q=>h pins s σ H Q I (m σ H Q q)
def qh:FO:=fun e=>some (none,e)
def nL(f:FE):FO:=fun e=>(f e).bind fun p=>(cT p.1).map fun i=>(some i,p.2)
theorem wX:PO X none (fO K qh):=wC.mono fun σ H Q h=>by
  obtain⟨F,e,o,e',R,hf,q⟩:=h
  cases hf
  exact q F H (dU.refl _ _ _ _) R
theorem wY(h:PE X a (fE K fa)):PO X (some a) (fO K (nL fa)):=(wD h).mono fun σ H Q h=>by
  obtain⟨F,e,o,e',R,hf,q⟩:=h
  unfold nL at hf
  obtain⟨⟨x,e1⟩,h1,hf⟩:=Option.bind_eq_some_iff.mp hf
  obtain⟨i,h2,hf⟩:=Option.map_eq_some_iff.mp hf
  cases hf
  exact⟨F,e,x,_,R,h1,fun F1 H1 v X1 R1 A1=>⟨i,bV A1 h2,q F1 H1 X1 R1⟩⟩
def Cr(e:En)(x:Rv)(lo hi:Option Int):Option Rv:=(dG e x).map fun p=>if p.1=true then .l (cutD p.2 lo hi) else .d (.tuple (cutD p.2 lo hi))
def Aw(fa:FE)(fl fh:FO):FE:=fun e=>(fa e).bind fun p=>(fl p.2).bind fun l=>(fh l.2).bind fun h=>(Cr h.2 p.1 l.1 h.1).map fun z=>(z,h.2)
theorem r_{F:Hp}{ds:List PyData}{vs:List V}(h:ay K F ds vs)(lo hi:Option Int):ay K F (cutD ds lo hi) (k' vs lo hi):=by
  unfold cutD k'
  rw [h.len]
  exact(h.drop _).take _
theorem vE{α:Type}{xs:List α}{lo hi:Option Int}(h:HT.sIx xs.length 0 lo=0∧HT.sIx xs.length xs.length hi=xs.length):(xs.drop (HT.sIx xs.length 0 lo)).take (HT.sIx xs.length xs.length hi - HT.sIx xs.length 0 lo)=xs:=by
  rw [h.1,h.2];simp
theorem um{fl fh:FO}(he:PE X a (fE X.K fa))(hl:PO X lo (fO X.K fl))(hh:PO X hi (fO X.K fh)):PE X (.Subscript a (.Slice lo hi none p2) pos) (fE X.K (Aw fa fl fh)):=(tZ CO he hl hh).mono fun σ H Q h=>by
  obtain⟨F,e,z,e',R,hf,q⟩:=h
  unfold Aw at hf
  obtain⟨⟨x,e1⟩,h1,hf⟩:=Option.bind_eq_some_iff.mp hf
  obtain⟨⟨l,e2⟩,h2,hf⟩:=Option.bind_eq_some_iff.mp hf
  obtain⟨⟨u,e3⟩,h3,hf⟩:=Option.bind_eq_some_iff.mp hf
  obtain⟨z',h4,hf⟩:=Option.map_eq_some_iff.mp hf
  cases hf
  refine⟨F,e,x,e1,R,h1,fun F1 H1 v X1 R1 A1=>⟨F1,e1,l,e2,R1,h2,fun F2 H2 X2 R2=>⟨F2,e2,u,_,R2,h3,fun F3 H3 X3 R3=>?_⟩⟩⟩
  have X12:=X1.trans X2
  have X13:=X12.trans X3
  have A3:=(A1.ext X2).ext X3
  unfold Cr at h4
  obtain⟨⟨b,xs⟩,h5,h4⟩:=Option.map_eq_some_iff.mp h4
  obtain⟨p,vs,rfl,d1,s1⟩:=cL R3 A3 h5
  cases b with
  | true=>
    rw [if_pos rfl] at h4;cases h4
    refine .inr (.inr ⟨p,vs,rfl,s1,fun t ht=>?_⟩)
    obtain⟨R4,X4,hF,no⟩:=R3.newL (vs:=k' vs l u) ht
    exact q _ _ _ (X13.trans X4) R4 ⟨t,_,rfl,X13.dom _ ht,hF,av,r_ d1 l u,no⟩
  | false=>
    rw [if_neg (by simp)] at h4;cases h4
    by_cases hw:HT.sIx vs.length 0 l=0∧HT.sIx vs.length vs.length u=vs.length
    · refine .inr (.inl ⟨p,vs,rfl,s1,hw,?_⟩)
      have e5:cutD xs l u=xs:=by unfold cutD;exact vE (by rw [d1.len];exact hw)
      rw [e5] at q
      obtain⟨F4,R4,X4,hF⟩:=R3.growT (ao.refl _) s1
      exact q _ _ _ (X13.trans X4) R4 (bP.mpr ⟨p,vs,rfl,hF,d1.mono X4.sf⟩)
    · refine .inl ⟨p,vs,rfl,s1,hw,fun t ht=>?_⟩
      obtain⟨R4,X4⟩:=R3.newT (vs:=k' vs l u) ht
      exact q _ _ _ (X13.trans X4) R4 (bP.mpr ⟨t,_,rfl,.inl (.inl av),(r_ d1 l u).mono X4.sf⟩)
end
section
variable{X:Cx}{K:PySem.W.Frag}
theorem iN{σ:L2.St}{H0 F H:Hp}{e:En}{x:Rv}{vs:List V}(h:cS K σ H0 F H e [x] vs):∃v,vs=[v]∧bH K σ H0 F H e x v:=by
  obtain⟨v,ws,rfl,h1,h2⟩:=h
  have h2':ws=[]:=h2
  subst h2'
  exact⟨v,rfl,h1⟩
theorem mL{σ:L2.St}{H0 F H:Hp}{e:En}{x y:Rv}{vs:List V}(h:cS K σ H0 F H e [x,y] vs):∃v u,vs=[v,u]∧bH K σ H0 F H e x v∧bH K σ H0 F H e y u:=by
  obtain⟨v,ws,rfl,h1,h2⟩:=h
  obtain⟨u,rfl,h3⟩:=iN h2
  exact⟨v,u,rfl,h1,h3⟩
def g1(g:En→Rv→Option Rv):En→List Rv→Option Rv:=fun e xs=>match xs with
  | [x]=>g e x
  | _=>none
def g2(g:En→Rv→Rv→Option Rv):En→List Rv→Option Rv:=fun e xs=>match xs with
  | [x,y]=>g e x y
  | _=>none
theorem en{r:List V→Hp→VK→Prop}{g:En→Rv→Option Rv}(h:B4 K (fun v H Q=>r [v] H Q) g):cR K r (g1 g):=by
  intro σ H0 F H e xs z vs Q R A hg q
  unfold g1 at hg
  match xs,hg with
  | [x],hg=>
    obtain⟨v,rfl,h1⟩:=iN A
    exact h σ H0 F H e x z v Q R h1 hg q
theorem p5{r:List V→Hp→VK→Prop}{g:En→Rv→Rv→Option Rv}(h:gp K (fun v u H Q=>r [v,u] H Q) g):cR K r (g2 g):=by
  intro σ H0 F H e xs z vs Q R A hg q
  unfold g2 at hg
  match xs,hg with
  | [x,y],hg=>
    obtain⟨v,u,rfl,h1,h2⟩:=mL A
    exact h σ H0 F H e x y z v u Q R h1 h2 hg q
def iy:En→Rv→Option Rv:=fun e x=>(dG e x).map fun p=>.d (.int p.2.length)
theorem AZ:cR K (fun xs H Q=>∃p ys,xs=[.ref p]∧(fH K H p ys∨bK K H p ys)∧Q (.int ys.length) H) (g1 iy):=en fun σ H0 F H e x z v Q R A hg q=>by
  obtain⟨⟨b,xs⟩,h5,h4⟩:=Option.map_eq_some_iff.mp hg
  obtain⟨p,vs,rfl,d1,s1⟩:=cL R A h5
  cases h4
  refine⟨p,vs,rfl,?_,?_⟩
  · cases b with
    | true=>exact .inl s1
    | false=>exact .inr s1
  · rw [←d1.len]
    exact q F H _ (dU.refl _ _ _ _) R kQ
def qT:En→Rv→Option Rv:=fun _ x=>(cT x).map fun i=>.d (.int (if i < 0 then -i else i))
theorem AD:cR K (fun xs H Q=>∃i,xs=[.int i]∧Q (.int (if i < 0 then -i else i)) H) (g1 qT):=en fun σ H0 F H e x z v Q R A hg q=>by
  obtain⟨i,h5,h4⟩:=Option.map_eq_some_iff.mp hg
  cases h4
  exact⟨i,by rw [bV A h5],q F H _ (dU.refl _ _ _ _) R kQ⟩
def nh:En→Rv→Option Rv:=fun _ x=>match x with
  | .d (.int i)=>some (.d (.int i))
  | .d (.bool k)=>some (.d (.int (if k then 1 else 0)))
  | _=>none
theorem AV:cR K (fun xs H Q=>(∃i,xs=[.int i]∧Q (.int i) H)∨∃k,xs=[.bl k]∧Q (.int (if k then 1 else 0)) H) (g1 nh):=en fun σ H0 F H e x z v Q R A hg q=>by
  unfold nh at hg
  split at hg
  · cases hg
    exact .inl ⟨_,by rw [cg.mp (show DA K F (.int _) v from A)],q F H _ (dU.refl _ _ _ _) R kQ⟩
  · cases hg
    exact .inr ⟨_,by rw [eu.mp (show DA K F (.bool _) v from A)],q F H _ (dU.refl _ _ _ _) R kQ⟩
  · cases hg
def sJ:=gI (fun _ _=>true) fun i j=>.int (if j < i then j else i)
def qU:=gI (fun _ _=>true) fun i j=>.int (if j > i then j else i)
theorem A8:cR K (fun xs H Q=>∃i j,xs=[.int i,.int j]∧Q (.int (if j < i then j else i)) H) (g2 sJ):=p5 fun σ H0 F H e x y z v u Q R A B hg q=>by
  obtain⟨i,j,h1,h2,h3⟩:=hU (K:=K) (g:=fun i j=>.int (if j < i then j else i)) (fun _ _ _=>cg.mpr rfl) σ H0 F H e x y z v u Q R A B hg q
  exact⟨i,j,by rw [h1,h2],h3⟩
theorem A7:cR K (fun xs H Q=>∃i j,xs=[.int i,.int j]∧Q (.int (if j > i then j else i)) H) (g2 qU):=p5 fun σ H0 F H e x y z v u Q R A B hg q=>by
  obtain⟨i,j,h1,h2,h3⟩:=hU (K:=K) (g:=fun i j=>.int (if j > i then j else i)) (fun _ _ _=>cg.mpr rfl) σ H0 F H e x y z v u Q R A B hg q
  exact⟨i,j,by rw [h1,h2],h3⟩
def bQ:En→Rv→Option Rv:=fun e x=>(dG e x).map fun p=>.d (.tuple p.2)
theorem xu:cR K (fun xs H Q=>∃p ys,xs=[.ref p]∧((fH K H p ys∧∀l,H l=none→Q (.ref l) (aS H l (.tup ys)))∨(bK K H p ys∧Q (.ref p) H))) (g1 bQ):=en fun σ H0 F H e x z v Q R A hg q=>by
  obtain⟨⟨b,xs⟩,h5,h4⟩:=Option.map_eq_some_iff.mp hg
  obtain⟨p,vs,rfl,d1,s1⟩:=cL R A h5
  cases h4
  refine⟨p,vs,rfl,?_⟩
  cases b with
  | true=>
    refine .inl ⟨s1,fun t ht=>?_⟩
    obtain⟨R4,X4⟩:=R.newT (vs:=vs) ht
    exact q _ _ _ X4 R4 (bP.mpr ⟨t,_,rfl,.inl (.inl av),d1.mono X4.sf⟩)
  | false=>
    obtain⟨F4,R4,X4,hF⟩:=R.growT (ao.refl _) s1
    exact .inr ⟨s1,q _ _ _ X4 R4 (bP.mpr ⟨p,vs,rfl,hF,d1.mono X4.sf⟩)⟩
def gS:List PyData→Option (List Int)
  | []=>some []
  | .int i::r=>(gS r).map (i::·)
  | _=>none
theorem fY:∀{ds:List PyData} {ns:List Int},gS ds=some ns→ds=ns.map .int
  | [],_,h=>by cases h;rfl
  | .int i::r,_,h=>by
    obtain⟨ns,h1,rfl⟩:=Option.map_eq_some_iff.mp h
    rw [fY h1];rfl
theorem gF:∀(ns:List Int),gS (ns.map .int)=some ns
  | []=>rfl
  | i::r=>by simp [gS,gF r]
def pv:En→Rv→Option Rv:=fun e x=>match dG e x with
  | some (false,xs)=>(gS xs).bind fun ns=>if ns.length < 64 then some (.l ((eG ns).map .int)) else none
  | _=>none
def uw(K:PySem.W.Frag):List V→Hp→VK→Prop:=fun xs H Q=>∃(a:Addr) (ns:List Int),xs=[.ref a]∧bK K H a (ns.map V.int)∧ns.length < 64∧∀(l:Addr) (H':Hp),ao H H'→H l=none→H' l=some (.lst ((eG ns).map V.int))→Q (.ref l) H'
theorem oX:cD X (.builtin "sorted") (uw X.K):=by
  intro pins s σ H xs us Q I rv h
  obtain⟨a,ns,e1,e2,e3,q⟩:=h
  exact jo pins s σ H xs us Q I rv ⟨a,ns,e1,e2,e3,fun l ns' H' sm hn hl hp hs=>q l H' sm hn (by rw [←kX hp hs];exact hl)⟩
theorem xh:cR K (uw K) (g1 pv):=en fun σ H0 F H e x z v Q R A hg q=>by
  unfold pv at hg
  split at hg
  case h_2=>cases hg
  case h_1 xs h5=>
  obtain⟨p,vs,rfl,d1,s1⟩:=cL R A h5
  obtain⟨ns,h6,hg⟩:=Option.bind_eq_some_iff.mp hg
  split at hg
  case isFalse=>cases hg
  case isTrue hl=>
  cases hg
  rw [fY h6] at d1
  have s1':bK K H p vs:=s1
  rw [ay.ints.mp d1] at s1'
  refine⟨p,ns,rfl,s1',hl,fun l H' sm hn hl'=>?_⟩
  obtain⟨R4,X4⟩:=R.same sm
  exact q F H' _ X4 R4 ⟨l,_,rfl,hn,R.freeF hn,hl',ay.ints.mpr rfl,fun z=>R.ownH l ((R.sameOwn sm l).mp z) hn⟩
mutual
def eA:PyData→Bool
  | .tuple ds=>ez ds
  | .list _=>false
  | .dict _=>false
  | _=>true
def ez:List PyData→Bool
  | []=>true
  | d::r=>eA d&&ez r
end
mutual
def ec:PyData→Bool
  | .list _=>false
  | .tuple ds=>dy ds
  | _=>true
def dy:List PyData→Bool
  | []=>true
  | d::r=>ec d&&dy r
end
theorem kO{h:Heap}:∀{m:List (Int × Int)} {es:List DictEntry} {vs:List (jV × Value)} {P:Program} {w:World},KV (m.map fun p=>((Sum.inl p.1:jV),V.int p.2)) vs→Pairs (mE P w) es vs→
    ReadsAll h (es.map (·.key)) (m.map fun p=>PyData.int p.1) []∧ReadsAll h (es.map (·.val)) (m.map fun p=>PyData.int p.2) []
  | [],es,vs,P,w,r,q=>by
    cases r
    cases q
    exact⟨.nil,.nil⟩
  | p::m,es,vs,P,w,r,q=>by
    rw [List.map_cons] at r
    cases r with
    | @cons a b as bs h1 t=>
      cases q with
      | @cons e kv es' kvs' h2 h3 h4=>
        obtain⟨z1,z2⟩:=h1
        obtain⟨c1,c2⟩:=kO t h4
        obtain⟨tk,z2⟩:=z2
        have k1:tf (Sum.inl p.1) e.key=true:=by
          have:b.1=Sum.inl p.1:=z1.symm
          rw [←this];exact h2
        rcases aY k1 with ⟨i,t',e1,e2⟩ | ⟨x,t',e1,e2⟩
        · cases e1
          refine⟨?_,?_⟩
          · simp only [List.map_cons,e2]
            exact ReadsAll.cons (as:=[]) (bs:=[]) (.int p.1 t') c1
          · simp only [List.map_cons,h3,z2]
            exact ReadsAll.cons (as:=[]) (bs:=[]) (.int p.2 tk) c2
        · cases e1
mutual
theorem DA.readsR{X:Cx}{pins:List (Addr × Obj)}{σ:L2.St}{H:Hp}{s:Shared}(I:aq X pins σ H s):∀{d:PyData} {v:V} {u:Value},DA X.K H d v→bg v u→∃as,Reads s.heap u d as∧(ec d=true→sysModules∉as)
  | .none,_,_,q,r=>by
    simp only [DA] at q;subst q;cases r;exact⟨_,.none,fun _=>by simp⟩
  | .bool b,_,_,q,r=>by
    simp only [DA] at q;subst q;cases r;exact⟨_,.bool b,fun _=>by simp⟩
  | .int i,_,_,q,r=>by
    simp only [DA] at q;subst q;obtain⟨t,rfl⟩:=r;exact⟨_,.int i t,fun _=>by simp⟩
  | .str x,_,_,q,r=>by
    simp only [DA] at q;subst q;obtain⟨t,rfl⟩:=r;exact⟨_,.str x t,fun _=>by simp⟩
  | .tuple ds,_,_,q,r=>by
    simp only [DA] at q
    obtain⟨a,xs,e,hs,rr⟩:=q
    subst e;cases r
    obtain⟨its,rv,⟨o,ho,hc,n,hd⟩,hz⟩:=I.tuple hs
    obtain⟨as,q,z⟩:=ay.readsR I rr rv
    exact⟨_,.tuple ho hc hd q,fun c=>z (by simpa [ec] using c)⟩
  | .list ds,_,_,q,r=>by
    simp only [DA] at q
    obtain⟨a,xs,e,hs,rr⟩:=q
    subst e;cases r
    obtain⟨its,rv,ht,hz⟩:=I.list hs
    obtain⟨o,ho,hc,n,hd⟩:=ht.isList
    obtain⟨as,q,z⟩:=ay.readsR I rr rv
    exact⟨_,.list ho hc hd q,fun c=>by simp [ec] at c⟩
  | .dict kvs,_,_,q,r=>by
    simp only [DA] at q
    obtain⟨a,m,e,hs,rfl⟩:=q
    subst e;cases r
    obtain⟨_,hS,vs,kv,o,es,ep,ho,hx,hd,_,hp,_⟩:=(show el X.prog X.w H s.heap a (.dK (m.map fun p=>(Sum.inl p.1,V.int p.2))) from I.hok a _ hs)
    obtain⟨c1,c2⟩:=kO (h:=s.heap) kv hp
    refine⟨_,Reads.dict (as:=[]) (bs:=[]) ho hx.1 hd ?_ ?_,fun _=>?_⟩
    · rw [List.map_map];exact c1
    · rw [List.map_map];exact c2
    · have:a≠sysModules:=by simpa using hS
      simpa using this.symm
theorem ay.readsR{X:Cx}{pins:List (Addr × Obj)}{σ:L2.St}{H:Hp}{s:Shared}(I:aq X pins σ H s):∀{ds:List PyData} {xs:List V} {us:List Value},ay X.K H ds xs→aD xs us→∃as,ReadsAll s.heap us ds as∧(dy ds=true→sysModules∉as)
  | [],_,_,q,r=>by
    simp only [ay] at q;subst q;cases r;exact⟨_,.nil,fun _=>by simp⟩
  | d::ds,_,_,q,r=>by
    simp only [ay] at q
    obtain⟨x,rr,e,a,b⟩:=q
    subst e
    cases r with
    | cons p p'=>
      obtain⟨as,q1,z1⟩:=DA.readsR I a p
      obtain⟨bs,q2,z2⟩:=ay.readsR I b p'
      refine⟨_,.cons q1 q2,fun c=>?_⟩
      simp only [dy,Bool.and_eq_true] at c
      intro z
      rcases List.mem_append.mp z with z | z
      · exact z1 c.1 z
      · exact z2 c.2 z
end
def fB(d:PyData):Bool:=(eA d || (!d.hasDict || ec d))&&d.showable&&decide (d.depth≤60)&&decide (d.shown.length≤sizeLine)
def fW:En→Rv→Option Rv:=fun _ x=>match x with
  | .d d=>if fB d=true then some (.d (.str d.shown)) else none
  | _=>none
def uv(K:PySem.W.Frag):List V→Hp→VK→Prop:=fun xs H Q=>∃x d,xs=[x]∧DA K H d x∧(d.hasDict=true→ec d=true)∧d.showable=true∧d.depth≤60∧d.shown.length≤sizeLine∧Q (.str d.shown) H
mutual
theorem eB:∀(d:PyData),eA d=true→d.hasDict=false
  | .none,_=>rfl
  | .bool _,_=>rfl
  | .int _,_=>rfl
  | .str _,_=>rfl
  | .tuple ds,h=>by simp only [PyData.hasDict];exact iw ds (by simpa [eA] using h)
  | .list ds,h=>by simp [eA] at h
  | .dict _,h=>by simp [eA] at h
theorem iw:∀(ds:List PyData),ez ds=true→PyData.hasDictAll ds=false
  | [],_=>rfl
  | d::r,h=>by
    simp only [ez,Bool.and_eq_true] at h
    simp only [PyData.hasDictAll,eB d h.1,iw r h.2,Bool.or_self]
end
theorem oW{X:Cx}{k:Nat}(hr:cP k X.A):cD X (.builtin "repr") (uv X.K):=by
  intro pins s σ H xs us Q I r h
  obtain⟨x,d,rfl,ha,hdl,hsh,hdp,hsz,q⟩:=h
  obtain⟨u,rfl,ru⟩:∃u,us=[u]∧bg x u:=by
    cases r with
    | cons p p'=>cases p';exact⟨_,rfl,p⟩
  have hun:=hr.un
  obtain⟨as,rd,hm⟩:=DA.readsR I ha ru
  have fin:∀a,u=.ref a→wpAny (model X.prog X.w) X.A (call (.builtin "repr") [u]) (EP X pins σ Q) X.xe s:=fun a e=>by
    subst e
    exact repr_of_reads' rd hsh (fun z=>hm (hdl z)) hr.gd (by lia) (fun _ _ e=>e) (fun h' u tk hk=>⟨.str _,H,I.kept hk,⟨_,rfl⟩,q⟩) hsz
  cases d with
  | none=>simp only [DA] at ha;subst ha;cases ru;exact P.repr_of_none ⟨.str _,H,I.tok _,⟨_,rfl⟩,q⟩
  | bool b=>simp only [DA] at ha;subst ha;cases ru;exact P.repr_of_bool ⟨.str _,H,I.tok _,⟨_,rfl⟩,q⟩
  | int i=>
    simp only [DA] at ha;subst ha;obtain⟨t,rfl⟩:=ru
    simp only [PyData.showable,decide_eq_true_eq] at hsh
    exact P.repr_of_int hsh ⟨.str _,H,I.tok _,⟨_,rfl⟩,q⟩
  | str y=>simp only [DA] at ha;subst ha;obtain⟨t,rfl⟩:=ru;exact P.repr_of_str ⟨.str _,H,I.tok _,⟨_,rfl⟩,q⟩ hsz
  | list ds=>obtain⟨a,_,e,_⟩:=dW.mp ha;subst e;exact fin a ru
  | dict ds=>simp only [DA] at ha;obtain⟨a,_,e,_⟩:=ha;subst e;exact fin a ru
  | tuple ds=>obtain⟨a,_,e,_⟩:=bP.mp ha;subst e;exact fin a ru
theorem zT:cR K (uv K) (g1 fW):=en fun σ H0 F H e x z v Q R A hg q=>by
  unfold fW at hg
  split at hg
  case h_2=>cases hg
  case h_1 d=>
  split at hg
  case isFalse=>cases hg
  case isTrue hl=>
  cases hg
  unfold fB at hl
  rw [Bool.and_eq_true,Bool.and_eq_true,Bool.and_eq_true,decide_eq_true_iff,decide_eq_true_iff] at hl
  refine⟨v,d,rfl,DA.mono R.sm A,fun z=>?_,hl.1.1.2,hl.1.2,hl.2,q F H _ (dU.refl _ _ _ _) R ((yG (K:=K) (F:=F)).mpr rfl)⟩
  have c:=hl.1.1.1
  cases hf:eA d with
  | true=>rw [eB d hf] at z;cases z
  | false=>rw [hf,z] at c;simpa using c
end
end L2
namespace L2
open PySem PySem.Spec PyProof.Rows
section
variable{K:PySem.W.Frag}{σ:L2.St}{H0 F H F' H':Hp}{e e':En}
theorem aP.upd1(R:aP K F H σ e){σ':L2.St}(i:Nat)(hl:σ'.length=e'.length)(hσ:∀j,j≠i→σ'[j]?=σ[j]?)(he:∀j,j≠i→e'[j]?=e[j]?)(sF:ao F F')(sm:ao F' H')(hf:∀j a,j≠i→Fp σ e H j a→F' a=none)
    (hh:∀j a o,j≠i→Fp σ e H j a→H a=some o→H' a=some o)(hd:∀x,e'[i]?=some (some (.d x))→∃v,σ'[i]?=some (some v)∧DA K F' x v)
    (ho:∀xs,e'[i]?=some (some (.l xs))→∃l vs,σ'[i]?=some (some (.ref l))∧F' l=none∧H' l=some (.lst vs)∧ay K F' xs vs)
    (hn:∀xss,e'[i]?=some (some (.n xss))→∃(l:Addr) (bs:List Addr),σ'[i]?=some (some (.ref l))∧F' l=none∧H' l=some (.lst (bs.map V.ref))∧bs.length=xss.length∧bs.Nodup∧l∉bs∧
      ∀(k:Nat) (b:Addr) (ys:List PyData),bs[k]?=some b→xss[k]?=some ys→F' b=none∧∃us,H' b=some (.lst us)∧ay K F' ys us)
    (hi:∀a j,j≠i→Fp σ' e' H' i a→¬Fp σ e H j a):aP K F' H' σ' e'∧∀j a,j≠i→(Fp σ' e' H' j a↔ Fp σ e H j a):=by
  have fs:∀j a,j≠i→(Fp σ' e' H' j a↔ Fp σ e H j a):=by
    intro j a hj
    have key:∀xss l,e[j]?=some (some (.n xss))→σ[j]?=some (some (.ref l))→H' l=H l:=fun xss l h1 h2=>by
      obtain⟨l',bs,g1,g2,g3,_⟩:=R.nst j xss h1
      rw [h2] at g1;cases g1
      rw [g3]
      exact hh j l _ hj (.inr ⟨xss,l,bs,h1,h2,g3,.inl rfl⟩) g3
    unfold Fp
    rw [he j hj,hσ j hj]
    constructor
    · rintro(h1 | ⟨xss,l,bs,h1,h2,h3,h4⟩)
      · exact .inl h1
      · exact .inr ⟨xss,l,bs,h1,h2,by rw [←key xss l h1 h2];exact h3,h4⟩
    · rintro(h1 | ⟨xss,l,bs,h1,h2,h3,h4⟩)
      · exact .inl h1
      · exact .inr ⟨xss,l,bs,h1,h2,by rw [key xss l h1 h2];exact h3,h4⟩
  refine⟨⟨sm,hl,fun j x q=>?_,fun j xs q=>?_,fun j xss q=>?_,fun j k a q1 q2=>?_⟩,fs⟩
  · by_cases z:j=i
    · subst z;exact hd x q
    · rw [he j z] at q
      obtain⟨v,h1,h2⟩:=R.dat j x q
      exact⟨v,by rw [hσ j z];exact h1,DA.mono sF h2⟩
  · by_cases z:j=i
    · subst z;exact ho xs q
    · rw [he j z] at q
      obtain⟨l,vs,h1,h2,h3,h4⟩:=R.own j xs q
      have o:Fp σ e H j l:=.inl ⟨xs,q,h1⟩
      exact⟨l,vs,by rw [hσ j z];exact h1,hf j l z o,hh j l _ z o h3,h4.mono sF⟩
  · by_cases z:j=i
    · subst z;exact hn xss q
    · rw [he j z] at q
      obtain⟨l,bs,h1,h2,h3,h4,h5,h6,h7⟩:=R.nst j xss q
      have o:Fp σ e H j l:=.inr ⟨xss,l,bs,q,h1,h3,.inl rfl⟩
      refine⟨l,bs,by rw [hσ j z];exact h1,hf j l z o,hh j l _ z o h3,h4,h5,h6,fun k b ys g1 g2=>?_⟩
      obtain⟨c1,us,c2,c3⟩:=h7 k b ys g1 g2
      have ob:Fp σ e H j b:=.inr ⟨xss,l,bs,q,h1,h3,.inr (List.mem_of_getElem? g1)⟩
      exact⟨hf j b z ob,us,hh j b _ z ob c2,c3.mono sF⟩
  · by_cases zj:j=i
    · subst zj
      by_cases zk:k=j
      · exact zk.symm
      · exact absurd ((fs k a zk).mp q2) (hi a k zk q1)
    · by_cases zk:k=i
      · subst zk
        exact absurd ((fs j a zj).mp q1) (hi a j zj q2)
      · exact R.fp j k a ((fs j a zj).mp q1) ((fs k a zk).mp q2)
theorem aP.putL(R:aP K F H σ e){i:Nat}{xs ys:List PyData}{l:Addr}{vs:List V}(hi:e[i]?=some (some (.l xs)))(hl:σ[i]?=some (some (.ref l)))(hd:ay K F ys vs):
    aP K F (aS H l (.lst vs)) σ (e.set i (some (.l ys)))∧dU σ F H e F (aS H l (.lst vs)) (e.set i (some (.l ys))):=by
  obtain⟨l',vs',h1,h2,h3,h4⟩:=R.own i xs hi
  rw [hl] at h1;cases h1
  have hlt:i < e.length:=(List.getElem?_eq_some_iff.mp hi).1
  have fi:Fp σ e H i l:=.inl ⟨xs,hi,hl⟩
  have gi:(e.set i (some (Sv.l ys)))[i]?=some (some (.l ys)):=List.getElem?_set_self hlt
  obtain⟨R',fs⟩:=R.upd1 (F':=F) (H':=aS H l (.lst vs)) (e':=e.set i (some (.l ys))) i (by rw [List.length_set];exact R.len) (fun _ _=>rfl) (fun j hj=>List.getElem?_set_ne (Ne.symm hj)) (ao.refl F)
    (fun b o q=>by
      have z:b≠l:=fun z=>by rw [z,h2] at q;cases q
      rw [aA z];exact R.sm b o q)
    (fun j a _ q=>(R.fpAt q).1)
    (fun j a o hj q ha=>by
      have z:a≠l:=fun z=>hj (R.fp j i a q (by rw [z];exact fi))
      rw [aA z];exact ha)
    (fun x q=>by rw [gi] at q;cases q) (fun zs q=>by rw [gi] at q;cases q;exact⟨l,vs,hl,h2,av,hd⟩) (fun xss q=>by rw [gi] at q;cases q)
    (fun a j hj q q2=>by
      rcases q with ⟨zs,_,q⟩ | ⟨xss,_,_,q,_⟩
      · rw [hl] at q;cases q
        exact hj (R.fp j i _ q2 fi)
      · rw [gi] at q;cases q)
  refine⟨R',⟨ao.refl _,fun a q=>?_,fun _ _ q _ _=>q,fun a ws q=>?_,fun a o q n=>?_,fun j=>?_,fun a ⟨j,q⟩=>?_⟩⟩
  · by_cases z:a=l
    · rw [z,av] at q;cases q
    · rw [aA z] at q;exact q
  · by_cases z:a=l
    · rw [z];exact⟨vs,av⟩
    · rw [aA z];exact⟨ws,q⟩
  · have z:a≠l:=fun z=>n ⟨i,by rw [z];exact fi⟩
    rw [aA z];exact q
  · by_cases z:j=i
    · subst z;rw [gi];exact⟨fun _=>⟨xs,hi⟩,fun _=>⟨ys,rfl⟩⟩
    · rw [List.getElem?_set_ne (Ne.symm z)]
  · by_cases z:j=i
    · subst z
      rcases q with ⟨zs,_,q⟩ | ⟨xss,_,_,q,_⟩
      · rw [hl] at q;cases q;exact .inl ⟨j,fi⟩
      · rw [gi] at q;cases q
    · exact .inl ⟨j,(fs j a z).mp q⟩
theorem aP.setD(R:aP K F H σ e)(i:Nat){x:PyData}{v:V}(h:DA K F x v):aP K F H (σ.set i (some v)) (e.set i (some (.d x)))∧∀a,cX (σ.set i (some v)) (e.set i (some (.d x))) H a→cX σ e H a:=by
  have gi:∀s,(e.set i (some (Sv.d x)))[i]?=some (some s)→s=.d x∧i < e.length:=fun s q=>by
    have hlt:i < e.length:=by have:=(List.getElem?_eq_some_iff.mp q).1;simpa using this
    rw [List.getElem?_set_self hlt] at q
    exact⟨(Option.some.inj (Option.some.inj q)).symm,hlt⟩
  have nofp:∀a,¬Fp (σ.set i (some v)) (e.set i (some (.d x))) H i a:=fun a q=>by
    rcases q with ⟨zs,q,_⟩ | ⟨xss,_,_,q,_⟩
    · cases (gi _ q).1
    · cases (gi _ q).1
  obtain⟨R',fs⟩:=R.upd1 (F':=F) (H':=H) (σ':=σ.set i (some v)) (e':=e.set i (some (.d x))) i (by rw [List.length_set,List.length_set];exact R.len) (fun j hj=>List.getElem?_set_ne (Ne.symm hj)) (fun j hj=>List.getElem?_set_ne (Ne.symm hj)) (ao.refl F) R.sm
    (fun j a _ q=>(R.fpAt q).1) (fun j a o _ _ ha=>ha)
    (fun y q=>by
      obtain⟨z,hlt⟩:=gi _ q
      cases z
      exact⟨v,List.getElem?_set_self (by rw [R.len];exact hlt),h⟩)
    (fun zs q=>by cases (gi _ q).1) (fun xss q=>by cases (gi _ q).1) (fun a j hj q=>absurd q (nofp a))
  refine⟨R',fun a ⟨j,q⟩=>?_⟩
  by_cases z:j=i
  · subst z;exact absurd q (nofp a)
  · exact⟨j,(fs j a z).mp q⟩
theorem aP.setL(R:aP K F H σ e)(i:Nat){xs:List PyData}{l:Addr}{vs:List V}(h1:F l=none)(h2:H l=some (.lst vs))(h3:ay K F xs vs)(h4:¬cX σ e H l):aP K F H (σ.set i (some (.ref l))) (e.set i (some (.l xs)))∧∀a,cX (σ.set i (some (.ref l))) (e.set i (some (.l xs))) H a→cX σ e H a∨a=l:=by
  have gi:∀s,(e.set i (some (Sv.l xs)))[i]?=some (some s)→s=.l xs∧i < e.length:=fun s q=>by
    have hlt:i < e.length:=by have:=(List.getElem?_eq_some_iff.mp q).1;simpa using this
    rw [List.getElem?_set_self hlt] at q
    exact⟨(Option.some.inj (Option.some.inj q)).symm,hlt⟩
  have onefp:∀a,Fp (σ.set i (some (.ref l))) (e.set i (some (.l xs))) H i a→a=l:=fun a q=>by
    rcases q with ⟨zs,q,q2⟩ | ⟨xss,_,_,q,_⟩
    · obtain⟨_,hlt⟩:=gi _ q
      rw [List.getElem?_set_self (by rw [R.len];exact hlt)] at q2
      cases q2;rfl
    · cases (gi _ q).1
  obtain⟨R',fs⟩:=R.upd1 (F':=F) (H':=H) (σ':=σ.set i (some (.ref l))) (e':=e.set i (some (.l xs))) i (by rw [List.length_set,List.length_set];exact R.len) (fun j hj=>List.getElem?_set_ne (Ne.symm hj)) (fun j hj=>List.getElem?_set_ne (Ne.symm hj)) (ao.refl F) R.sm
    (fun j a _ q=>(R.fpAt q).1) (fun j a o _ _ ha=>ha) (fun y q=>by cases (gi _ q).1)
    (fun zs q=>by
      obtain⟨z,hlt⟩:=gi _ q
      cases z
      exact⟨l,vs,List.getElem?_set_self (by rw [R.len];exact hlt),h1,h2,h3⟩)
    (fun xss q=>by cases (gi _ q).1) (fun a j hj q q2=>h4 ⟨j,by rw [onefp a q] at q2;exact q2⟩)
  refine⟨R',fun a ⟨j,q⟩=>?_⟩
  by_cases z:j=i
  · subst z;exact .inr (onefp a q)
  · exact .inl ⟨j,(fs j a z).mp q⟩
end
section
variable{X:Cx}{K:PySem.W.Frag}{o a:Expr}{es:List Expr}{fo:FE}{fs:FA}{name:Str}{apos cpos:Pos}{id:String}
def mR(K:PySem.W.Frag)(r:V→List V→Hp→VK→Prop)(g:List PyData→List PyData→Option (PyData × List PyData)):Prop:=
  ∀(F H:Hp) (l:Addr) (xs ys ds:List PyData) (z:PyData) (vs us:List V) (Q:VK),F l=none→ao F H→H l=some (.lst vs)→ay K F xs vs→ay K F ds us→g xs ds=some (z,ys)→
    (∀w ws,DA K F z w→ay K F ys ws→Q w (aS H l (.lst ws)))→r (.ref l) us H Q
def cz(g:List PyData→List PyData→Option (PyData × List PyData))(fo:FE)(fs:FA):FE:=fun e=>(fo e).bind fun p=>match p.1 with
  | .s i=>(fs p.2).bind fun q=>(iv q.1).bind fun ds=>match q.2[i]? with
    | some (some (.l xs))=>(g xs ds).map fun z=>(.d z.1,q.2.set i (some (.l z.2)))
    | _=>none
  | _=>none
theorem ve{r:V→List V→Hp→VK→Prop}{g:List PyData→List PyData→Option (PyData × List PyData)}(hm:mR K r g){σ:L2.St}{H:Hp}{Q:VK}(h:fE K (cz g fo fs) σ H Q):De K "list" r (fE K fo) (fA K fs) σ H Q:=by
  obtain⟨F,e,z,e',R,hf,q⟩:=h
  unfold cz at hf
  obtain⟨⟨x,e1⟩,h1,hf⟩:=Option.bind_eq_some_iff.mp hf
  match x,h1,hf with
  | .s i,h1,hf=>
  dsimp only at hf
  obtain⟨⟨rs,e2⟩,h2,hf⟩:=Option.bind_eq_some_iff.mp hf
  obtain⟨ds,h3,hf⟩:=Option.bind_eq_some_iff.mp hf
  refine⟨F,e,_,e1,R,h1,fun F1 H1 v X1 R1 A1=>?_⟩
  obtain⟨g1,zs,g2⟩:=A1
  obtain⟨l,vs,c1,c2,c3,c4⟩:=R1.own i zs g2
  rw [g1] at c1;cases c1
  refine⟨.inl ⟨rfl,vs,.inl (.inl c3)⟩,F1,e1,rs,e2,R1,h2,fun F2 H2 us X2 R2 A2=>?_⟩
  match h4:e2[i]?,hf with
  | some (some (.l xs)),hf=>
  dsimp only at hf
  obtain⟨⟨zd,ys⟩,h5,hf⟩:=Option.map_eq_some_iff.mp hf
  cases hf
  obtain⟨F3,R3,s3,d3,f3⟩:=cS.frozen R2 A2 h3
  obtain⟨l',vs',k1,k2,k3,k4⟩:=R3.own i xs h4
  rw [g1] at k1;cases k1
  refine hm F3 H2 l xs ys ds zd vs' us Q k2 R3.sm k3 k4 d3 h5 fun w ws hw hws=>?_
  obtain⟨R4,X4⟩:=R3.putL h4 g1 hws
  exact q _ _ _ ((X1.trans (X2.frz s3 f3)).trans X4) R4 hw
theorem uj{r:V→List V→Hp→VK→Prop}{g:List PyData→List PyData→Option (PyData × List PyData)}(slot:Slot "list" name id)(hty:typeOf (.builtin id)=pure (.type "method_descriptor"))(hm:C4 X id r)(hf:mR X.K r g)(ho:PE X o (fE X.K fo))(ha:PA X (a::es) (fA X.K fs))
    (hbase:attributeBase o name X.env (eval o X.env)=eval o X.env)
    (hfew:((backTo cpos (starEach (a::es) X.env)).all (fun x=> !x.1)&&(backToKw cpos (keywordEach [] X.env)).all (fun x=>x.1.isSome)
      &&decide ((a::es).length+([]:List Keyword).length+(if ([]:List Keyword).isEmpty then 0 else 1) < 30))=true)
    (hline:(apos.endLine==cpos.line)=true)(hs:starEach (a::es) X.env=(false,eval a X.env)::starEach es X.env)(hplain:(backTo cpos (starEach es X.env)).any (·.1)=false):
    PE X (.Call (.Attribute o name apos) (a::es) [] cpos) (fE X.K (cz g fo fs)):=(Bi PySem.F.plainAttrs_list slot hty hm ho ha hbase hfew hline hs hplain).mono fun _ _ _ h=>ve hf h
def bu:List PyData→List PyData→Option (PyData × List PyData):=fun xs ds=>match ds with
  | [d]=>if xs.length < 1000000 then some (.none,xs++[d]) else none
  | _=>none
theorem rR:mR K ql bu:=by
  intro F H l xs ys ds z vs us Q hF sm hl d1 d2 hg q
  unfold bu at hg
  match ds,hg,d2 with
  | [d],hg,d2=>
    simp only [ay] at d2
    obtain⟨w,r,rfl,hw,rfl⟩:=d2
    dsimp only at hg
    split at hg
    case isFalse=>cases hg
    case isTrue hlt=>
    cases hg
    have:=d1.len
    have sl:sizeLine=16777216:=sizeLine_eq
    exact⟨l,vs,w,rfl,rfl,hl,by lia,q _ _ (mj.mpr rfl) (d1.append (ay.one hw))⟩
def A6:List PyData→List PyData→Option (PyData × List PyData):=fun xs ds=>match ds with
  | []=>(xs[xs.length - 1]?).map fun d=>(d,xs.dropLast)
  | _=>none
def i8:List PyData→List PyData→Option (PyData × List PyData):=fun xs ds=>match ds with
  | [.int i]=>if 0≤i∧i < 1000000000 then(xs[i.toNat]?).map fun d=>(d,xs.eraseIdx i.toNat) else none
  | _=>none
theorem wF:mR K ut i8:=by
  intro F H l xs ys ds z vs us Q hF sm hl d1 d2 hg q
  unfold i8 at hg
  match ds,hg,d2 with
  | [.int i],hg,d2=>
    simp only [ay,DA] at d2
    obtain⟨w,r,rfl,rfl,rfl⟩:=d2
    dsimp only at hg
    split at hg
    case isFalse=>cases hg
    case isTrue hlt=>
    obtain⟨d,h1,h2⟩:=Option.map_eq_some_iff.mp hg
    cases h2
    obtain⟨v,g1,g2⟩:=d1.get h1
    have hlt2:i.toNat < vs.length:=(List.getElem?_eq_some_iff.mp g1).1
    exact⟨l,vs,i,i.toNat,v,rfl,rfl,hl,by lia,by lia,seqIndex_of hlt.1 (by lia),g1,q _ _ g2 (d1.erase _)⟩
end
end L2
namespace L2
open PySem PySem.Spec PyProof.Rows
inductive Fl where
  | nx (e:En)
  | bk (e:En)
  | ct (e:En)
  | rt (r:Rv) (e:En)
abbrev FS:=En→Option Fl
structure cO (W:List Nat) (σ:L2.St) (F H:Hp) (e:En) (σ':L2.St) (F' H':Hp) (e':En):Prop where
  sf:ao F F'
  dom:∀a,H' a=none→H a=none
  fr:∀a vs,F a=none→H a=some (.lst vs)→¬cX σ e H a→F' a=none
  lst:∀a vs,H a=some (.lst vs)→∃vs',H' a=some (.lst vs')
  tmp:∀a o,H a=some o→¬cX σ e H a→H' a=some o
  own:∀a,cX σ' e' H' a→cX σ e H a∨H a=none
  wr:∀j,j∉W→σ'[j]?=σ[j]?
section
variable{K:PySem.W.Frag}{W W1 W2:List Nat}{σ σ1 σ2 σ':L2.St}{H0 F H F1 H1 F2 H2 F' H':Hp}{e e1 e2 e':En}
theorem cO.refl:cO W σ F H e σ F H e:=⟨ao.refl _,fun _ h=>h,fun _ _ h _ _=>h,fun _ vs h=>⟨vs,h⟩,fun _ _ h _=>h,fun _ h=>.inl h,fun _ _=>rfl⟩
theorem dU.s(x:dU σ F H e F' H' e'):cO W σ F H e σ F' H' e':=⟨x.sf,x.dom,x.fr,x.lst,x.tmp,x.ow,fun _ _=>rfl⟩
theorem cO.trans(x:cO W σ F H e σ1 F1 H1 e1)(y:cO W σ1 F1 H1 e1 σ2 F2 H2 e2):cO W σ F H e σ2 F2 H2 e2:=
  ⟨x.sf.trans y.sf,fun a h=>x.dom a (y.dom a h),fun a vs h n no=>let ⟨vs',q⟩:=x.lst a vs n;y.fr a vs' (x.fr a vs h n no) q (fun z=>(x.own a z).elim no fun z=>by rw [n] at z;cases z),fun a vs h=>let ⟨vs',q⟩:=x.lst a vs h;y.lst a vs' q,
    fun a o h n=>y.tmp a o (x.tmp a o h n) (fun z=>(x.own a z).elim n fun z=>by rw [h] at z;cases z),
    fun a h=>(y.own a h).elim (x.own a) (fun z=>.inr (x.dom a z)),
    fun j h=>(y.wr j h).trans (x.wr j h)⟩
theorem cO.mono(x:cO W1 σ F H e σ' F' H' e')(h:∀j,j∈W1→j∈W):cO W σ F H e σ' F' H' e':=⟨x.sf,x.dom,x.fr,x.lst,x.tmp,x.own,fun j n=>x.wr j fun z=>n (h j z)⟩
end
def j_(K:PySem.W.Frag)(W:List Nat)(σ:L2.St)(F H:Hp)(e:En)(D:oI):Fl→Prop
  | .nx e'=>∀F' H' σ',cO W σ F H e σ' F' H' e'→aP K F' H' σ' e'→D.nx σ' H'
  | .bk e'=>∀F' H' σ',cO W σ F H e σ' F' H' e'→aP K F' H' σ' e'→D.bk σ' H'
  | .ct e'=>∀F' H' σ',cO W σ F H e σ' F' H' e'→aP K F' H' σ' e'→D.ct σ' H'
  | .rt r e'=>∀F' H' σ' v,cO W σ F H e σ' F' H' e'→aP K F' H' σ' e'→bH K σ' H F' H' e' r v→D.rt v H'
def fS(K:PySem.W.Frag)(f:FS)(W:List Nat):TS:=fun D σ H=>∃F e fl,aP K F H σ e∧f e=some fl∧j_ K W σ F H e D fl
theorem PS.mono{X:Cx}{st:Stmt}{t t':TS}(h:PS X st t)(m:∀D σ H,t' D σ H→t D σ H):PS X st t':=fun pins s σ H D I q=>h pins s σ H D I (m D σ H q)
theorem jC.mono{X:Cx}{st:List Stmt}{t t':TS}(h:jC X st t)(m:∀D σ H,t' D σ H→t D σ H):jC X st t':=fun pins s σ H D I q=>h pins s σ H D I (m D σ H q)
theorem j_.later{K:PySem.W.Frag}{W W1 W2:List Nat}{σ σ1:L2.St}{F H F1 H1:Hp}{e e1:En}{D:oI}{fl:Fl}(h:j_ K W σ F H e D fl)(x:cO W1 σ F H e σ1 F1 H1 e1)(h1:∀j,j∈W1→j∈W)(h2:∀j,j∈W2→j∈W):j_ K W2 σ1 F1 H1 e1 D fl:=by
  cases fl with
  | nx e'=>exact fun F' H' σ' y R=>h F' H' σ' ((x.mono h1).trans (y.mono h2)) R
  | bk e'=>exact fun F' H' σ' y R=>h F' H' σ' ((x.mono h1).trans (y.mono h2)) R
  | ct e'=>exact fun F' H' σ' y R=>h F' H' σ' ((x.mono h1).trans (y.mono h2)) R
  | rt r e'=>exact fun F' H' σ' v y R A=>h F' H' σ' v ((x.mono h1).trans (y.mono h2)) R (A.weak x.dom)
section
variable{X:Cx}{K:PySem.W.Frag}{W W1 W2:List Nat}{st:Stmt}{fM:List Stmt}{f g:FS}{a b:Expr}{fa:FE}{ft:FT}{pos:Pos}
def gP:FS:=fun e=>some (.nx e)
def aC(f g:FS):FS:=fun e=>(f e).bind fun fl=>match fl with
  | .nx e1=>g e1
  | fl=>some fl
theorem ce:jC X [] (fS K gP []):=wJ.mono fun D σ H h=>by
  obtain⟨F,e,fl,R,hf,q⟩:=h
  cases hf
  exact q F H σ cO.refl R
theorem af(h1:PS X st (fS K f W1))(h2:jC X fM (fS K g W2)):jC X (st::fM) (fS K (aC f g) (W1++W2)):=(ug h1 h2).mono fun D σ H h=>by
  obtain⟨F,e,fl,R,hf,q⟩:=h
  unfold aC at hf
  obtain⟨fl1,h1,hf⟩:=Option.bind_eq_some_iff.mp hf
  have s1:∀j,j∈W1→j∈W1++W2:=fun j h=>List.mem_append.mpr (.inl h)
  have s2:∀j,j∈W2→j∈W1++W2:=fun j h=>List.mem_append.mpr (.inr h)
  refine⟨F,e,fl1,R,h1,?_⟩
  cases fl1 with
  | nx e1=>exact fun F' H' σ' x R'=>⟨F',e1,fl,R',hf,q.later x s1 s2⟩
  | bk e1=>cases hf;exact fun F' H' σ' x R'=>q F' H' σ' (x.mono s1) R'
  | ct e1=>cases hf;exact fun F' H' σ' x R'=>q F' H' σ' (x.mono s1) R'
  | rt r e1=>cases hf;exact fun F' H' σ' v x R' A=>q F' H' σ' v (x.mono s1) R' A
theorem am(h1:PS X st (fS K f W)):jC X [st] (fS K f W):=wK h1
def eD(fa:FE):FS:=fun e=>(fa e).map fun p=>.nx p.2
theorem cJ(he:PE X a (fE K fa))(hs:swapsWith a none pos.line X.env=pure false):PS X (.Expr a pos) (fS K (eD fa) []):=(wH he hs).mono fun D σ H h=>by
  obtain⟨F,e,fl,R,hf,q⟩:=h
  obtain⟨⟨x,e1⟩,h1,hf⟩:=Option.map_eq_some_iff.mp hf
  cases hf
  exact⟨F,e,x,e1,R,h1,fun F1 H1 v X1 R1 A1=>q F1 H1 σ X1.s R1⟩
def bY(fa:FE):FS:=fun e=>(fa e).map fun p=>.rt p.1 p.2
theorem aL(he:PE X a (fE K fa)):PS X (.Return (some a) pos) (fS K (bY fa) []):=(zC he).mono fun D σ H h=>by
  obtain⟨F,e,fl,R,hf,q⟩:=h
  obtain⟨⟨x,e1⟩,h1,hf⟩:=Option.map_eq_some_iff.mp hf
  cases hf
  exact⟨F,e,x,e1,R,h1,fun F1 H1 v X1 R1 A1=>q F1 H1 σ v X1.s R1 A1⟩
def lh(ft:FT)(f g:FS):FS:=fun e=>(ft e).bind fun p=>if p.1=true then f p.2 else g p.2
theorem fJ{c:Expr}{bs cs:List Stmt}(hc:PT X c (fT K ft))(ha:jC X bs (fS K f W1))(hb:jC X cs (fS K g W2)):PS X (.If c bs cs pos) (fS K (lh ft f g) (W1++W2)):=(Bo hc ha hb).mono fun D σ H h=>by
  obtain⟨F,e,fl,R,hf,q⟩:=h
  unfold lh at hf
  obtain⟨⟨x,e1⟩,h1,hf⟩:=Option.bind_eq_some_iff.mp hf
  refine⟨F,e,x,e1,R,h1,fun F1 H1 X1 R1=>?_⟩
  cases x with
  | true=>exact⟨F1,e1,fl,R1,hf,q.later (W1:=[]) X1.s (fun j h=>by cases h) fun j h=>List.mem_append.mpr (.inl h)⟩
  | false=>exact⟨F1,e1,fl,R1,hf,q.later (W1:=[]) X1.s (fun j h=>by cases h) fun j h=>List.mem_append.mpr (.inr h)⟩
def wO(i:Nat)(r:Rv)(e:En):Option En:=match r with
  | .d x=>some (e.set i (some (.d x)))
  | .l xs=>some (e.set i (some (.l xs)))
  | .s _=>none
theorem uh{σ:L2.St}{H F H1 F1:Hp}{e e1 e2:En}{i:Nat}{r:Rv}{v:V}(R:aP K F H σ e)(X1:dU σ F H e F1 H1 e1)(R1:aP K F1 H1 σ e1)(A1:bH K σ H F1 H1 e1 r v)(h:wO i r e1=some e2):
    cO [i] σ F H e (σ.set i (some v)) F1 H1 e2∧aP K F1 H1 (σ.set i (some v)) e2:=by
  have wr:∀j,j∉[i]→(σ.set i (some v))[j]?=σ[j]?:=fun j n=>List.getElem?_set_ne (fun z=>n (by simp [z]))
  cases r with
  | d x=>
    cases h
    obtain⟨R2,o2⟩:=R1.setD i A1
    exact⟨⟨X1.sf,X1.dom,X1.fr,X1.lst,X1.tmp,fun a h=>X1.ow a (o2 a h),wr⟩,R2⟩
  | l xs=>
    cases h
    obtain⟨l,vs,rfl,h1,h2,h3,h4,h5⟩:=A1
    obtain⟨R2,o2⟩:=R1.setL i h2 h3 h4 h5
    refine⟨⟨X1.sf,X1.dom,X1.fr,X1.lst,X1.tmp,fun a h=>?_,wr⟩,R2⟩
    rcases o2 a h with z | z
    · exact X1.ow a z
    · exact .inr (by rw [z];exact h1)
  | s j=>cases h
def aR(i:Nat)(fa:FE):FS:=fun e=>(fa e).bind fun p=>(wO i p.1 p.2).map .nx
theorem ar{i:Nat}{x:Str}{pos':Pos}(hN:X.N.Nodup)(hi:X.N[i]?=some x)(hx:Ap X.env.scope x)(he:PE X a (fE K fa))(hs:swapsWith a (some (.Name x pos')) pos.line X.env=pure false)(hf:X.fn x=true∨X.env.scope.names.lookup x=some .local):
    PS X (.Assign [.Name x pos'] a pos) (fS K (aR i fa) [i]):=(zD hN hi hx he hs hf).mono fun D σ H h=>by
  obtain⟨F,e,fl,R,hf,q⟩:=h
  unfold aR at hf
  obtain⟨⟨r,e1⟩,h1,hf⟩:=Option.bind_eq_some_iff.mp hf
  obtain⟨e2,h2,hf⟩:=Option.map_eq_some_iff.mp hf
  cases hf
  refine⟨F,e,r,e1,R,h1,fun F1 H1 v X1 R1 A1=>?_⟩
  obtain⟨x,R2⟩:=uh R X1 R1 A1 h2
  exact q F1 H1 _ x R2
abbrev FG:=PyData→En→Option En
def fG(K:PySem.W.Frag)(g:FG)(W:List Nat):TG:=fun v σ H Q=>∃F e x e',aP K F H σ e∧DA K F x v∧g x e=some e'∧∀σ',cO W σ F H e σ' F H e'→aP K F H σ' e'→Q σ' H
abbrev xH:=List PyData→En→Option En
def B8(K:PySem.W.Frag)(g:xH)(W:List Nat):vj:=fun vs σ H Q=>∃F e xs e',aP K F H σ e∧ay K F xs vs∧g xs e=some e'∧∀σ',cO W σ F H e σ' F H e'→aP K F H σ' e'→Q σ' H
theorem PG.mono{tg:Expr}{t t':TG}(h:PG X tg t)(m:∀v σ H Q,t' v σ H Q→t v σ H Q):PG X tg t':=fun pins s σ H v u Q I r q=>h pins s σ H v u Q I r (m v σ H Q q)
theorem rJ.mono{tg:List Expr}{t t':vj}(h:rJ X tg t)(m:∀v σ H Q,t' v σ H Q→t v σ H Q):rJ X tg t':=fun pins s σ H v u Q I r q=>h pins s σ H v u Q I r (m v σ H Q q)
def ag(i:Nat):FG:=fun x e=>some (e.set i (some (.d x)))
def bU:xH:=fun xs e=>match xs with
  | []=>some e
  | _=>none
def aE(g:FG)(gs:xH):xH:=fun xs e=>match xs with
  | x::r=>(g x e).bind fun e1=>gs r e1
  | _=>none
def cH(gs:xH):FG:=fun x e=>match x with
  | .tuple xs=>gs xs e
  | _=>none
theorem aw{i:Nat}{x:Str}(hN:X.N.Nodup)(hi:X.N[i]?=some x)(hx:Ap X.env.scope x)(hf:X.fn x=true∨X.env.scope.names.lookup x=some .local):PG X (.Name x pos) (fG K (ag i) [i]):=(wx hN hi hx hf).mono fun v σ H Q h=>by
  obtain⟨F,e,x,e',R,hx,hg,q⟩:=h
  cases hg
  obtain⟨R2,o2⟩:=R.setD i hx
  exact q _ ⟨ao.refl _,fun _ h=>h,fun _ _ h _ _=>h,fun _ vs h=>⟨vs,h⟩,fun _ _ h _=>h,fun a h=>.inl (o2 a h),fun j n=>List.getElem?_set_ne (fun z=>n (by simp [z]))⟩ R2
theorem iK:rJ X [] (B8 K bU []):=wz.mono fun v σ H Q h=>by
  obtain⟨F,e,x,e',R,hx,hg,q⟩:=h
  unfold bU at hg
  split at hg
  · cases hg
    simp only [ay] at hx
    exact⟨hx,q σ cO.refl R⟩
  · cases hg
theorem bX{es:List Expr}{g1:FG}{gs:xH}(h1:PG X a (fG K g1 W1))(h2:rJ X es (B8 K gs W2))
    (hs:(assignEach (a::es) X.env).map (·.2)=assign a X.env::(assignEach es X.env).map (·.2)):rJ X (a::es) (B8 K (aE g1 gs) (W1++W2)):=(t5 h1 h2 hs).mono fun v σ H Q h=>by
  obtain⟨F,e,xs,e',R,hx,hg,q⟩:=h
  unfold aE at hg
  match xs,hg,hx with
  | x::r,hg,hx=>
    simp only [ay] at hx
    obtain⟨w,ws,e1,hw,hr⟩:=hx
    dsimp only at hg
    obtain⟨e1',h3,h4⟩:=Option.bind_eq_some_iff.mp hg
    refine⟨w,ws,e1,F,e,x,e1',R,hw,h3,fun σ1 x1 R1=>⟨F,e1',r,e',R1,hr,h4,fun σ2 x2 R2=>?_⟩⟩
    exact q σ2 ((x1.mono fun j h=>List.mem_append.mpr (.inl h)).trans (x2.mono fun j h=>List.mem_append.mpr (.inr h))) R2
theorem kM{es:List Expr}{k n:Nat}{gs:xH}(hK:X.K=K)(hc:X.calm=true)(h:rJ X es (B8 K gs W))(hl:∀xs e e',gs xs e=some e'→xs.length=n)(hn:(assignEach es X.env).length=n)(hst:(assignEach es X.env).findIdx? (·.1)=none):PG X (.Tuple es k pos) (fG K (cH gs) W):=(wy hK hc h hn hst).mono fun v σ H Q h=>by
  obtain⟨F,e,x,e',R,hx,hg,q⟩:=h
  unfold cH at hg
  match x,hg,hx with
  | .tuple xs,hg,hx=>
    obtain⟨p,vs,e1,e2,e3⟩:=bP.mp hx
    exact⟨p,vs,e1,R.sm.tup e2,by rw [←e3.len];exact hl xs e e' hg,F,e,xs,e',R,e3,hg,q⟩
theorem kd(xs:List PyData)(e e':En)(h:bU xs e=some e'):xs.length=0:=by
  unfold bU at h
  split at h
  · rfl
  · cases h
theorem dq{g:FG}{gs:xH}{n:Nat}(hl:∀xs e e',gs xs e=some e'→xs.length=n)(xs:List PyData)(e e':En)(h:aE g gs xs e=some e'):xs.length=n+1:=by
  unfold aE at h
  match xs,h with
  | x::r,h=>
    obtain⟨e1,h3,h4⟩:=Option.bind_eq_some_iff.mp h
    simp [hl r e1 e' h4]
def uH(fa:FE)(g:FG):FS:=fun e=>(fa e).bind fun p=>match p.1 with
  | .d x=>(g x p.2).map .nx
  | _=>none
theorem zK{tg:Expr}{g:FG}(he:PE X a (fE K fa))(hg:PG X tg (fG K g W))(hs:swapsWithSole [tg] a pos.line X.env=pure false)(hw:swappedStores [tg] a X.env=pure none)
    (h1:(assignEach [tg] X.env).map (·.2)=[assign tg X.env]):PS X (.Assign [tg] a pos) (fS K (uH fa g) W):=(zz he hg hs hw h1).mono fun D σ H h=>by
  obtain⟨F,e,fl,R,hf,q⟩:=h
  unfold uH at hf
  obtain⟨⟨r,e1⟩,h1,hf⟩:=Option.bind_eq_some_iff.mp hf
  match r,h1,hf with
  | .d x,h1,hf=>
    obtain⟨e2,h2,hf⟩:=Option.map_eq_some_iff.mp hf
    cases hf
    exact⟨F,e,_,e1,R,h1,fun F1 H1 v X1 R1 A1=>⟨F1,e1,x,e2,R1,A1,h2,fun σ' x2 R2=>q F1 H1 σ' (X1.s.trans x2) R2⟩⟩
def uI(i j:Nat)(fs:FA):FS:=fun e=>(fs e).bind fun p=>match p.1 with
  | [.d x,.d y]=>some (.nx ((p.2.set i (some (.d x))).set j (some (.d y))))
  | _=>none
theorem zL{i j:Nat}{x y:Str}{fs:FA}{px py pt:Pos}{kt k2 pt2}(hc:X.calm=true)(hN:X.N.Nodup)(hi:X.N[i]?=some x)(hj:X.N[j]?=some y)(hij:i≠j)
    (hx:X.env.scope.names.lookup x=some .local)(hy:X.env.scope.names.lookup y=some .local)(ha:PA X [a,b] (fA K fs))
    (hw:swappedStores [.Tuple [.Name x px,.Name y py] kt pt] (.Tuple [a,b] k2 pt2) X.env=pure (some [x,y]))
    (hs:swapsWithSole [.Tuple [.Name x px,.Name y py] kt pt] (.Tuple [a,b] k2 pt2) pos.line X.env=pure false):
    PS X (.Assign [.Tuple [.Name x px,.Name y py] kt pt] (.Tuple [a,b] k2 pt2) pos) (fS K (uI i j fs) [i,j]):=(zB hc hN hi hj hij hx hy ha hw hs).mono fun D σ H h=>by
  obtain⟨F,e,fl,R,hf,q⟩:=h
  unfold uI at hf
  obtain⟨⟨rs,e1⟩,h1,hf⟩:=Option.bind_eq_some_iff.mp hf
  refine⟨F,e,rs,e1,R,h1,fun F1 H1 vs X1 R1 A1=>?_⟩
  match rs,hf,A1 with
  | [.d x,.d y],hf,A1=>
    cases hf
    obtain⟨v,u,rfl,a1,a2⟩:=mL A1
    obtain⟨R2,o2⟩:=R1.setD i a1
    obtain⟨R3,o3⟩:=R2.setD j a2
    refine⟨v,u,rfl,q F1 H1 _ ⟨X1.sf,X1.dom,X1.fr,X1.lst,X1.tmp,fun a h=>X1.ow a (o2 a (o3 a h)),fun m n=>?_⟩ R3⟩
    rw [List.getElem?_set_ne (fun z=>n (by simp [z])),List.getElem?_set_ne (fun z=>n (by simp [z]))]
def o_:Rv→Option PyData
  | .d x=>some x
  | .l xs=>some (.list xs)
  | .s _=>none
theorem qR{r:Rv}{d:PyData}(h:o_ r=some d):iv [r]=some [d]:=by
  cases r with
  | d x=>cases h;rfl
  | l xs=>cases h;rfl
  | s i=>cases h
def fF(ft:FT)(f:FS):Nat→FS
  | 0,_=>none
  | n+1,e=>(ft e).bind fun p=>if p.1=true then(f p.2).bind fun fl=>match fl with
      | .nx e1=>fF ft f n e1
      | .ct e1=>fF ft f n e1
      | .bk e1=>some (.nx e1)
      | .rt r e1=>some (.rt r e1)
    else some (.nx p.2)
def h_(n:Nat)(ft:FT)(f:FS):FS:=fF ft f n
theorem kN{n:Nat}{c:Expr}{body:List Stmt}(hp:PassesOwn (model X.prog X.w) X.A X.env X.xe)(hc:PT X c (fT K ft))(hb:jC X body (fS K f W)):PS X (.While c body [] pos) (fS K (h_ n ft f) W):=(uf hp hc hb).mono fun D σ H h=>by
  refine⟨fun m σ H=>∃F e fl,aP K F H σ e∧fF ft f m e=some fl∧j_ K W σ F H e D fl,⟨n,h⟩,?_⟩
  rintro m σ H ⟨F,e,fl,R,hf,q⟩
  cases m with
  | zero=>cases hf
  | succ m=>
    unfold fF at hf
    obtain⟨⟨x,e1⟩,h1,hf⟩:=Option.bind_eq_some_iff.mp hf
    refine⟨F,e,x,e1,R,h1,fun F1 H1 X1 R1=>?_⟩
    have sub:∀j,j∈([]:List Nat)→j∈W:=fun j h=>by cases h
    cases x with
    | false=>
      rw [if_neg (by simp)] at hf
      cases hf
      exact AW (q F1 H1 σ X1.s R1)
    | true=>
      rw [if_pos rfl] at hf
      refine AX ?_
      obtain⟨fl1,h2,hf⟩:=Option.bind_eq_some_iff.mp hf
      have q1:j_ K W σ F1 H1 e1 D fl:=q.later (W1:=[]) X1.s sub fun j h=>h
      refine⟨fun σ' H'=>∃F' e',aP K F' H' σ' e'∧fF ft f m e'=some fl∧j_ K W σ' F' H' e' D fl,fun σ' H' ⟨F',e',r1,r2,r3⟩=>⟨m,Nat.lt_succ_self m,F',e',fl,r1,r2,r3⟩,F1,e1,fl1,R1,h2,?_⟩
      cases fl1 with
      | nx e2=>exact fun F2 H2 σ2 x R2=>⟨F2,e2,R2,hf,q1.later x (fun j h=>h) fun j h=>h⟩
      | ct e2=>exact fun F2 H2 σ2 x R2=>⟨F2,e2,R2,hf,q1.later x (fun j h=>h) fun j h=>h⟩
      | bk e2=>cases hf;exact fun F2 H2 σ2 x R2=>q1 F2 H2 σ2 x R2
      | rt r e2=>cases hf;exact fun F2 H2 σ2 v x R2 A=>q1 F2 H2 σ2 v x R2 A
end
end L2
namespace L2
open PySem PySem.Spec PyProof.Rows
theorem PI.mono{X:Cx}{tg iter:Expr}{t t':TI}(h:PI X tg iter t)(m:∀σ H R,t' σ H R→t σ H R):PI X tg iter t':=fun pins s σ H R I q=>h pins s σ H R I (m σ H R q)
theorem PI.or{X:Cx}{tg iter:Expr}{t t':TI}(h:PI X tg iter t)(h':PI X tg iter t'):PI X tg iter (fun σ H R=>t σ H R∨t' σ H R):=fun pins s σ H R I q=>by
  rcases q with q | q
  · exact h pins s σ H R I q
  · exact h' pins s σ H R I q
abbrev eK:=List (Nat × List PyData)
def rO(K:PySem.W.Frag)(σ:L2.St)(F H:Hp)(own:eK):Prop:=∀p∈own,∃l vs,σ[p.1]?=some (some (.ref l))∧H l=some (.lst vs)∧ay K F p.2 vs
def oK(K:PySem.W.Frag)(σ:L2.St)(J:It)(items:List PyData)(own:eK)(F0:Hp):Prop:=∀F H,ao F0 F→ao F H→rO K σ F H own→
  (∀i,i < items.length→J.go i H)∧(∀i,items.length≤i→J.stop i H)∧∀i d x H',items[i]?=some d→J.yld i H x H'→∃F',ao H H'∧ao F F'∧ao F' H'∧(∀a,F a=none→H a≠none→F' a=none)∧DA K F' d x
abbrev FI:=En→Option (List PyData × eK × En)
def keeps(own:eK)(e:En):Prop:=∀p∈own,e[p.1]?=some (some (.l p.2))
def fI(K:PySem.W.Frag)(f:FI):TI:=fun σ H R=>∃F e items own e',aP K F H σ e∧f e=some (items,own,e')∧∀J F' H',dU σ F H e F' H' e'→aP K F' H' σ e'→keeps own e'→oK K σ J items own F'→R J H'
section
variable{K:PySem.W.Frag}{σ:L2.St}{H0 F H F' H':Hp}{e e':En}
theorem aP.held(R:aP K F H σ e){own:eK}(h:keeps own e):rO K σ F H own:=fun p hp=>by
  obtain⟨l,vs,h1,h2,h3,h4⟩:=R.own p.1 p.2 (h p hp)
  exact⟨l,vs,h1,h3,h4⟩
theorem aP.step(R:aP K F H σ e)(s:ao H H')(sF:ao F F')(sm:ao F' H')(fz:∀a,F a=none→H a≠none→F' a=none):aP K F' H' σ e∧dU σ F H e F' H' e:=by
  obtain⟨R',o'⟩:=R.keep sF sm (fun a ⟨i,h⟩=>by
    obtain⟨h1,vs,h2⟩:=R.fpAt h
    exact fz a h1 (by rw [h2];simp)) fun a o _ h=>s a o h
  exact⟨R',⟨sF,fun a h=>s.free h,fun a vs h1 h2 _=>fz a h1 (by rw [h2];simp),fun a vs h=>⟨vs,s _ _ h⟩,fun a o h _=>s a o h,fun _=>Iff.rfl,fun a h=>.inl ((o' a).mp h)⟩⟩
inductive rK (K:PySem.W.Frag) (σ:L2.St) (F:Hp) (p:Addr):Bool→List PyData→eK→Prop
  | tup {xs vs}:bK K F p vs→ay K F xs vs→rK K σ F p false xs []
  | lst {xs vs}:fH K F p vs→ay K F xs vs→rK K σ F p true xs []
  | own {i xs}:σ[i]?=some (some (.ref p))→rK K σ F p true xs [(i,xs)]
theorem rK.at{p:Addr}{b:Bool}{xs:List PyData}{own:eK}{F0:Hp}(h:rK K σ F0 p b xs own)(s0:ao F0 F)(s1:ao F H){own':eK}(hh:rO K σ F H own')(hs:∀q∈own,q∈own'):∃vs,ay K F xs vs∧(if b=true then fH K H p vs else bK K H p vs):=by
  cases h with
  | tup h1 h2=>exact⟨_,h2.mono s0,(s0.trans s1).tup h1⟩
  | lst h1 h2=>exact⟨_,h2.mono s0,(s0.trans s1).seq h1⟩
  | @own i xs h1=>
    obtain⟨l,vs,g1,g2,g3⟩:=hh (i,xs) (hs (i,xs) (by simp))
    dsimp only at g1 g3
    rw [h1] at g1;cases g1
    exact⟨vs,g3,.inl (.inl g2)⟩
def xl(e:En):Rv→Option (Bool × List PyData × eK)
  | .d (.tuple xs)=>some (false,xs,[])
  | .d (.list xs)=>some (true,xs,[])
  | .l xs=>some (true,xs,[])
  | .s i=>match e[i]? with
    | some (some (.l xs))=>some (true,xs,[(i,xs)])
    | _=>none
  | _=>none
theorem jS{r:Rv}{v:V}{b:Bool}{xs:List PyData}{own:eK}(R:aP K F H σ e)(A:bH K σ H0 F H e r v)(h:xl e r=some (b,xs,own)):
    ∃F' p,aP K F' H σ e∧ao F F'∧(∀a,F a=none→H0 a≠none→F' a=none)∧v=.ref p∧rK K σ F' p b xs own∧keeps own e:=by
  cases r with
  | d x=>
    cases x with
    | tuple ds=>
      cases h
      obtain⟨a,ys,e1,e2,e3⟩:=bP.mp A
      exact⟨F,a,R,ao.refl _,fun _ h _=>h,e1,.tup e2 e3,fun p hp=>by cases hp⟩
    | list ds=>
      cases h
      obtain⟨a,ys,e1,e2,e3⟩:=dW.mp A
      exact⟨F,a,R,ao.refl _,fun _ h _=>h,e1,.lst e2 e3,fun p hp=>by cases hp⟩
    | _=>cases h
  | l ys=>
    cases h
    obtain⟨F',R',s',d',f'⟩:=A.frozen R
    obtain⟨a,ys,e1,e2,e3⟩:=dW.mp d'
    exact⟨F',a,R',s',f',e1,.lst e2 e3,fun p hp=>by cases hp⟩
  | s i=>
    obtain⟨h1,ys,h2⟩:=A
    simp only [xl,h2] at h
    cases h
    obtain⟨l,vs,e1,e2,e3,e4⟩:=R.own i _ h2
    rw [h1] at e1;cases e1
    exact⟨F,l,R,ao.refl _,fun _ h _=>h,rfl,.own h1,fun p hp=>by simp only [List.mem_singleton] at hp;subst hp;exact h2⟩
theorem qX{p:Addr}{xs:List PyData}{own:eK}{F0:Hp}(h:rK K σ F0 p true xs own):oK K σ (Ce K p) xs own F0:=by
  intro F H s0 s1 hh
  obtain⟨vs,d,q⟩:=h.at s0 s1 hh fun _ h=>h
  have q:fH K H p vs:=q
  refine⟨fun i hi=>⟨vs,vs[i]'(by rw [←d.len];exact hi),q,List.getElem?_eq_getElem _⟩,fun i hi=>⟨vs,q,by rw [←d.len];exact hi⟩,fun i x v H' hx hy=>?_⟩
  obtain⟨rfl,hy⟩:=hy
  obtain⟨w,g1,g2⟩:=d.get hx
  have e:=hy vs q
  rw [g1] at e;cases e
  exact⟨F,ao.refl _,ao.refl _,s1,fun _ h _=>h,g2⟩
theorem sZ{p:Addr}{xs:List PyData}{own:eK}{F0:Hp}(h:rK K σ F0 p false xs own):oK K σ (Cf K p) xs own F0:=by
  intro F H s0 s1 hh
  obtain⟨vs,d,q⟩:=h.at s0 s1 hh fun _ h=>h
  have q:bK K H p vs:=q
  refine⟨fun i hi=>⟨vs,vs[i]'(by rw [←d.len];exact hi),q,List.getElem?_eq_getElem _⟩,fun i hi=>⟨vs,q,by rw [←d.len];exact hi⟩,fun i x v H' hx hy=>?_⟩
  obtain⟨rfl,hy⟩:=hy
  obtain⟨w,g1,g2⟩:=d.get hx
  have e:=hy vs q
  rw [g1] at e;cases e
  exact⟨F,ao.refl _,ao.refl _,s1,fun _ h _=>h,g2⟩
theorem ky{p:Addr}{x y:V}{a b:PyData}(s1:ao F H)(hp:H p=none)(hx:DA K F a x)(hy:DA K F b y):∃F',ao H (aS H p (.tup [x,y]))∧ao F F'∧ao F' (aS H p (.tup [x,y]))∧(∀c,F c=none→H c≠none→F' c=none)∧DA K F' (.tuple [a,b]) (.ref p):=by
  have hF:F p=none:=s1.free hp
  have sF:ao F (aS F p (.tup [x,y])):=ao.new hF
  refine⟨aS F p (.tup [x,y]),ao.new hp,sF,fun b o q=>?_,fun c h n=>?_,bP.mpr ⟨p,_,rfl,.inl (.inl av),.cons (DA.mono sF hx) (.one (DA.mono sF hy))⟩⟩
  · by_cases z:b=p
    · subst z;rw [av] at q ⊢;exact q
    · rw [aA z] at q ⊢;exact s1 _ _ q
  · have z:c≠p:=fun z=>n (by rw [z];exact hp)
    rw [aA z];exact h
def ey:Nat→List PyData→List PyData
  | _,[]=>[]
  | n,x::r=>.tuple [.int n,x]::ey (n+1) r
theorem gw:∀{xs:List PyData} {n i:Nat},(ey n xs)[i]?=(xs[i]?).map fun x=>.tuple [.int ((n+i:Nat):Int),x]
  | [],n,i=>by simp [ey]
  | x::r,n,0=>by simp [ey]
  | x::r,n,i+1=>by
    simp only [ey,List.getElem?_cons_succ]
    rw [gw (xs:=r) (n:=n+1) (i:=i)]
    congr 1
    funext y
    rw [show n+1+i=n+(i+1) by lia]
theorem gy:∀(xs:List PyData) (n:Nat),(ey n xs).length=xs.length
  | [],_=>rfl
  | x::r,n=>by simp [ey,gy r (n+1)]
theorem pz{p:Addr}{xs:List PyData}{own:eK}{F0:Hp}(h:rK K σ F0 p true xs own):oK K σ (yv K p) (ey 0 xs) own F0:=by
  intro F H s0 s1 hh
  obtain⟨vs,d,q⟩:=h.at s0 s1 hh fun _ h=>h
  have q:fH K H p vs:=q
  rw [gy]
  refine⟨fun i hi=>⟨vs,vs[i]'(by rw [←d.len];exact hi),q,List.getElem?_eq_getElem _⟩,fun i hi=>⟨vs,q,by rw [←d.len];exact hi⟩,fun i x v H' hx hy=>?_⟩
  obtain⟨t,y,rfl,ht,rfl,hy⟩:=hy
  rw [gw] at hx
  obtain⟨x',hx2,rfl⟩:=Option.map_eq_some_iff.mp hx
  obtain⟨w,g1,g2⟩:=d.get hx2
  have e:=hy vs q
  rw [g1] at e;cases e
  exact ky s1 ht (cg.mpr (by simp)) g2
theorem pA{p:Addr}{xs:List PyData}{own:eK}{F0:Hp}(h:rK K σ F0 p false xs own):oK K σ (yw K p) (ey 0 xs) own F0:=by
  intro F H s0 s1 hh
  obtain⟨vs,d,q⟩:=h.at s0 s1 hh fun _ h=>h
  have q:bK K H p vs:=q
  rw [gy]
  refine⟨fun i hi=>⟨vs,vs[i]'(by rw [←d.len];exact hi),q,List.getElem?_eq_getElem _⟩,fun i hi=>⟨vs,q,by rw [←d.len];exact hi⟩,fun i x v H' hx hy=>?_⟩
  obtain⟨t,y,rfl,ht,rfl,hy⟩:=hy
  rw [gw] at hx
  obtain⟨x',hx2,rfl⟩:=Option.map_eq_some_iff.mp hx
  obtain⟨w,g1,g2⟩:=d.get hx2
  have e:=hy vs q
  rw [g1] at e;cases e
  exact ky s1 ht (cg.mpr (by simp)) g2
def iX:List PyData→List PyData→List PyData
  | x::r,y::s=>.tuple [x,y]::iX r s
  | _,_=>[]
theorem oD:∀{xs ys:List PyData} {i:Nat} {d:PyData},(iX xs ys)[i]?=some d→∃x y,xs[i]?=some x∧ys[i]?=some y∧d=.tuple [x,y]
  | [],ys,i,d,h=>by simp [iX] at h
  | x::r,[],i,d,h=>by simp [iX] at h
  | x::r,y::s,0,d,h=>by
    simp only [iX,List.getElem?_cons_zero] at h
    cases h;exact⟨x,y,rfl,rfl,rfl⟩
  | x::r,y::s,i+1,d,h=>by
    simp only [iX,List.getElem?_cons_succ] at h
    obtain⟨a,b,h1,h2,h3⟩:=oD h
    exact⟨a,b,by simpa using h1,by simpa using h2,h3⟩
theorem oE:∀(xs ys:List PyData),(iX xs ys).length=min xs.length ys.length
  | [],ys=>by simp [iX]
  | x::r,[]=>by simp [iX]
  | x::r,y::s=>by simp [iX,oE r s]
theorem s_{P Q:Hp→Addr→List V→Prop}{J:It}{l1 l2:Addr}{b1 b2:Bool}{xs ys:List PyData}{kJ own2:eK}{F0:Hp}(h1:rK K σ F0 l1 b1 xs kJ)(h2:rK K σ F0 l2 b2 ys own2)
    (hP:∀H vs,(if b1=true then fH K H l1 vs else bK K H l1 vs)→P H l1 vs)(hQ:∀H vs,(if b2=true then fH K H l2 vs else bK K H l2 vs)→Q H l2 vs)
    (go:∀i H vs us x y,P H l1 vs→Q H l2 us→vs[i]?=some x→us[i]?=some y→J.go i H)(stop:∀i H vs us,P H l1 vs→Q H l2 us→(vs.length≤i∨us.length≤i)→J.stop i H)
    (yld:∀i H v H',J.yld i H v H'→∃p x y,v=.ref p∧H p=none∧H'=aS H p (.tup [x,y])∧∀xs ys,P H l1 xs→Q H l2 ys→xs[i]?=some x∧ys[i]?=some y):
    oK K σ J (iX xs ys) (kJ++own2) F0:=by
  intro F H s0 s1 hh
  obtain⟨vs,d1,q1⟩:=h1.at s0 s1 hh fun _ h=>List.mem_append.mpr (.inl h)
  obtain⟨us,d2,q2⟩:=h2.at s0 s1 hh fun _ h=>List.mem_append.mpr (.inr h)
  have q1:=hP H vs q1
  have q2:=hQ H us q2
  have l1':=d1.len
  have l2':=d2.len
  rw [oE]
  refine⟨fun i hi=>go i H vs us (vs[i]'(by lia)) (us[i]'(by lia)) q1 q2 (List.getElem?_eq_getElem _) (List.getElem?_eq_getElem _),fun i hi=>stop i H vs us q1 q2 (by lia),fun i x v H' hx hy=>?_⟩
  obtain⟨t,a,b,rfl,ht,rfl,hy3⟩:=yld i H v H' hy
  obtain⟨x',y',hx2,hy',rfl⟩:=oD hx
  obtain⟨w,g1,g2⟩:=d1.get hx2
  obtain⟨w',g3,g4⟩:=d2.get hy'
  obtain⟨e1,e2⟩:=hy3 vs us q1 q2
  rw [g1] at e1;cases e1
  rw [g3] at e2;cases e2
  exact ky s1 ht g2 g4
def aM(lo:Int)(n:Nat):List PyData:=(List.range n).map fun(i:Nat)=>.int (lo+(i:Int))
theorem pB{lo:Int}{n:Nat}{F0:Hp}:oK K σ (BZ lo n) (aM lo n) [] F0:=by
  intro F H s0 s1 hh
  unfold aM
  rw [List.length_map,List.length_range]
  refine⟨fun i hi=>hi,fun i hi=>hi,fun i x v H' hx hy=>?_⟩
  obtain⟨rfl,rfl⟩:=hy
  rw [List.getElem?_map] at hx
  obtain⟨k,h1,rfl⟩:=Option.map_eq_some_iff.mp hx
  have h2:=(List.getElem?_eq_some_iff.mp h1).2
  simp at h2
  subst h2
  exact⟨F,ao.refl _,ao.refl _,s1,fun _ h _=>h,cg.mpr rfl⟩
end
inductive Cd (K:PySem.W.Frag) (own:eK) (σ0:L2.St) (F1:Hp) (P:En→Prop) (G:L2.St→Hp→Hp→En→Prop) (σ:L2.St) (H:Hp):Prop
  | mk {F:Hp} {e:En} (R:aP K F H σ e) (kp:keeps own e) (hσ:∀p∈own,σ[p.1]?=σ0[p.1]?) (sF:ao F1 F) (hf:P e) (q:G σ F H e):Cd K own σ0 F1 P G σ H
section
variable{X:Cx}{K:PySem.W.Frag}{tg a b:Expr}{es:List Expr}{fa:FE}{fs:FA}{pos p tp:Pos}{k0:Nat}
def eH(fa:FE):FI:=fun e=>(fa e).bind fun p=>(xl p.2 p.1).map fun s=>(s.2.1,s.2.2,p.2)
theorem df(hK:X.K=K)(h:PE X a (fE K fa)):PI X tg a (fI K (eH fa)):=((ua (tg:=tg) hK h).or (wB (tg:=tg) hK h)).mono fun σ H R hh=>by
  obtain⟨F,e,items,own,e',R0,hf,q⟩:=hh
  unfold eH at hf
  obtain⟨⟨r,e1⟩,h1,hf⟩:=Option.bind_eq_some_iff.mp hf
  obtain⟨⟨b,xs,ow⟩,h2,hf⟩:=Option.map_eq_some_iff.mp hf
  cases hf
  cases b with
  | true=>
    refine .inl ⟨F,e,r,e1,R0,h1,fun F1 H1 v X1 R1 A1=>?_⟩
    obtain⟨F2,p,R2,s2,f2,rfl,sc,kp⟩:=jS R1 A1 h2
    obtain⟨vs,_,c⟩:=sc.at (ao.refl _) R2.sm (R2.held kp) fun _ h=>h
    exact⟨p,rfl,⟨vs,c⟩,q _ F2 H1 (X1.frz s2 f2) R2 kp (qX sc)⟩
  | false=>
    refine .inr ⟨F,e,r,e1,R0,h1,fun F1 H1 v X1 R1 A1=>?_⟩
    obtain⟨F2,p,R2,s2,f2,rfl,sc,kp⟩:=jS R1 A1 h2
    obtain⟨vs,_,c⟩:=sc.at (ao.refl _) R2.sm (R2.held kp) fun _ h=>h
    exact⟨p,rfl,⟨vs,c⟩,q _ F2 H1 (X1.frz s2 f2) R2 kp (sZ sc)⟩
def sX(fs:FA):FI:=fun e=>(fs e).bind fun p=>match p.1 with
  | [r]=>(xl p.2 r).map fun s=>(ey 0 s.2.1,s.2.2,p.2)
  | _=>none
theorem wV(hK:X.K=K)(hg:Gl X "enumerate")(hm:X.mg "enumerate"=none)(ha:PA X [a] (fA K fs))(hs:starEach [a] X.env=[(false,eval a X.env)]):PI X (.Tuple es k0 tp) (.Call (.Name "enumerate" p) [a] [] pos) (fI K (sX fs)):=((t9 (es:=es) (k0:=k0) (tp:=tp) hK hg hm ha hs).or (t_ (es:=es) (k0:=k0) (tp:=tp) hK hg hm ha hs)).mono fun σ H R hh=>by
  obtain⟨F,e,items,own,e',R0,hf,q⟩:=hh
  unfold sX at hf
  obtain⟨⟨rs,e1⟩,h1,hf⟩:=Option.bind_eq_some_iff.mp hf
  match rs,h1,hf with
  | [r],h1,hf=>
  obtain⟨⟨b,xs,ow⟩,h2,hf⟩:=Option.map_eq_some_iff.mp hf
  cases hf
  cases b with
  | true=>
    refine .inl ⟨F,e,_,e1,R0,h1,fun F1 H1 vs X1 R1 A1=>?_⟩
    obtain⟨v,rfl,A2⟩:=iN A1
    obtain⟨F2,p,R2,s2,f2,rfl,sc,kp⟩:=jS R1 A2 h2
    obtain⟨vs,_,c⟩:=sc.at (ao.refl _) R2.sm (R2.held kp) fun _ h=>h
    exact⟨p,rfl,⟨vs,c⟩,q _ F2 H1 (X1.frz s2 f2) R2 kp (pz sc)⟩
  | false=>
    refine .inr ⟨F,e,_,e1,R0,h1,fun F1 H1 vs X1 R1 A1=>?_⟩
    obtain⟨v,rfl,A2⟩:=iN A1
    obtain⟨F2,p,R2,s2,f2,rfl,sc,kp⟩:=jS R1 A2 h2
    obtain⟨vs,_,c⟩:=sc.at (ao.refl _) R2.sm (R2.held kp) fun _ h=>h
    exact⟨p,rfl,⟨vs,c⟩,q _ F2 H1 (X1.frz s2 f2) R2 kp (pA sc)⟩
def uC(j:Int):Bool:=decide (-1000000≤j)&&decide (j≤1000000)
theorem uD{j:Int}(h:uC j=true): -1000000≤j∧j≤1000000:=by
  unfold uC at h
  rw [Bool.and_eq_true,decide_eq_true_iff,decide_eq_true_iff] at h
  exact h
def bM(fs:FA):FI:=fun e=>(fs e).bind fun p=>match p.1 with
  | [r]=>(cT r).bind fun j=>if uC j=true then some (aM 0 j.toNat,[],p.2) else none
  | _=>none
theorem bN(hg:Gl X "range")(hm:X.mg "range"=none)(ha:PA X [a] (fA K fs))(hs:starEach [a] X.env=[(false,eval a X.env)]):PI X tg (.Call (.Name "range" p) [a] [] pos) (fI K (bM fs)):=(rj hg hm ha hs).mono fun σ H R hh=>by
  obtain⟨F,e,items,own,e',R0,hf,q⟩:=hh
  unfold bM at hf
  obtain⟨⟨rs,e1⟩,h1,hf⟩:=Option.bind_eq_some_iff.mp hf
  match rs,h1,hf with
  | [r],h1,hf=>
  obtain⟨j,h2,hf⟩:=Option.bind_eq_some_iff.mp hf
  split at hf
  case isFalse=>cases hf
  case isTrue hj=>
  cases hf
  refine⟨F,e,_,e1,R0,h1,fun F1 H1 vs X1 R1 A1=>?_⟩
  obtain⟨v,rfl,A2⟩:=iN A1
  have:=uD hj
  exact⟨j,by rw [bV A2 h2],by lia,by lia,q _ F1 H1 X1 R1 (fun _ h=>by cases h) pB⟩
open Classical in
noncomputable def lc(own:eK)(g:FG)(f:FS):List PyData→FS
  | [],e=>some (.nx e)
  | x::r,e=>(g x e).bind fun e1=>(f e1).bind fun fl=>match fl with
    | .nx e2=>if keeps own e2 then lc own g f r e2 else none
    | .ct e2=>if keeps own e2 then lc own g f r e2 else none
    | .bk e2=>some (.nx e2)
    | .rt v e2=>some (.rt v e2)
noncomputable def cQ(W:List Nat)(fi:FI)(g:FG)(f:FS):FS:=fun e=>(fi e).bind fun p=>if (p.2.1.all fun q=> !W.contains q.1)=true then lc p.2.1 g f p.1 p.2.2 else none
theorem dg{W1 W2:List Nat}{iter:Expr}{body:List Stmt}{fi:FI}{g:FG}{f:FS}(hp:PassesOwn (model X.prog X.w) X.A X.env X.xe)(hc:X.calm=true)(hi:PI X tg iter (fI K fi))(hg:PG X tg (fG K g W1))(hb:jC X body (fS K f W2))(hs:∀x,foldedSetIterable iter X.env x=pure x):
    PS X (.For tg iter body [] pos) (fS K (cQ (W1++W2) fi g f) (W1++W2)):=(zA hp hc hi hg hb hs).mono fun D σ0 H0 hh=>by
  obtain⟨F0,e0,fl,R0,hf,q0⟩:=hh
  unfold cQ at hf
  obtain⟨⟨items,own,e1⟩,h1,hf⟩:=Option.bind_eq_some_iff.mp hf
  dsimp only at hf
  split at hf
  case isFalse=>cases hf
  case isTrue hW=>
  have hW':∀p∈own,p.1∉W1++W2:=fun p hp=>by
    have:=List.all_eq_true.mp hW p hp
    simpa using this
  refine⟨F0,e0,items,own,e1,R0,h1,fun J F1 H1 X1 R1 kp ok=>?_⟩
  have s1:∀j,j∈W1→j∈W1++W2:=fun j h=>List.mem_append.mpr (.inl h)
  have s2:∀j,j∈W2→j∈W1++W2:=fun j h=>List.mem_append.mpr (.inr h)
  have q1:j_ K (W1++W2) σ0 F1 H1 e1 D fl:=q0.later (W1:=[]) X1.s (fun j h=>by cases h) fun j h=>h
  refine⟨fun i m σ H=>m=items.length - i∧i≤items.length∧Cd K own σ0 F1 (fun e=>lc own g f (items.drop i) e=some fl) (fun σ F H e=>j_ K (W1++W2) σ F H e D fl) σ H,
    ⟨items.length,by simp,Nat.zero_le _,.mk R1 kp (fun _ _=>rfl) (ao.refl _) hf q1⟩,?_⟩
  rintro i m σ H ⟨rfl,hi,⟨R,kp,hσ,sF,hf,q⟩⟩
  rename_i F e
  have held:rO K σ0 F H own:=fun p hp=>by
    obtain⟨l,vs,g1,g2⟩:=R.held kp p hp
    exact⟨l,vs,by rw [←hσ p hp];exact g1,g2⟩
  obtain⟨go,stop,yld⟩:=ok F H sF R.sm held
  by_cases hlt:i < items.length
  · have hd:items.drop i=items[i]::items.drop (i+1):=List.drop_eq_getElem_cons hlt
    rw [hd] at hf
    unfold lc at hf
    obtain⟨e2,h2,hf⟩:=Option.bind_eq_some_iff.mp hf
    obtain⟨fl2,h3,hf⟩:=Option.bind_eq_some_iff.mp hf
    refine .inr ⟨go i hlt,Cd K own σ0 F1 (fun e=>lc own g f (items.drop (i+1)) e=some fl) (fun σ F H e=>j_ K (W1++W2) σ F H e D fl),
      fun σ' H' r=>⟨items.length - (i+1),by lia,rfl,hlt,r⟩,fun x H' hy=>?_⟩
    obtain⟨F',sH,sF',sm',fz,hx⟩:=yld i items[i] x H' (List.getElem?_eq_getElem hlt) hy
    obtain⟨R',X'⟩:=R.step sH sF' sm' fz
    refine⟨F',e,items[i],e2,R',hx,h2,fun σ2 x2 R2=>⟨F',e2,fl2,R2,h3,?_⟩⟩
    have q2:j_ K (W1++W2) σ2 F' H' e2 D fl:=(q.later (W1:=[]) (W2:=W1++W2) X'.s (fun j h=>by cases h) fun j h=>h).later x2 s1 fun j h=>h
    have w2:∀p∈own,σ2[p.1]?=σ0[p.1]?:=fun p hp=>(x2.wr p.1 fun z=>hW' p hp (s1 _ z)).trans (hσ p hp)
    cases fl2 with
    | nx e3=>
      intro F3 H3 σ3 x3 R3
      dsimp only at hf
      split at hf
      case isFalse=>cases hf
      case isTrue kp3=>
      exact .mk R3 kp3 (fun p hp=>(x3.wr p.1 fun z=>hW' p hp (s2 _ z)).trans (w2 p hp)) (sF.trans (sF'.trans x3.sf)) hf (q2.later x3 s2 fun j h=>h)
    | ct e3=>
      intro F3 H3 σ3 x3 R3
      dsimp only at hf
      split at hf
      case isFalse=>cases hf
      case isTrue kp3=>
      exact .mk R3 kp3 (fun p hp=>(x3.wr p.1 fun z=>hW' p hp (s2 _ z)).trans (w2 p hp)) (sF.trans (sF'.trans x3.sf)) hf (q2.later x3 s2 fun j h=>h)
    | bk e3=>
      cases hf
      exact fun F3 H3 σ3 x3 R3=>q2 F3 H3 σ3 (x3.mono s2) R3
    | rt r e3=>
      cases hf
      exact fun F3 H3 σ3 v x3 R3 A3=>q2 F3 H3 σ3 v (x3.mono s2) R3 A3
  · have hd:items.drop i=[]:=List.drop_eq_nil_of_le (by lia)
    rw [hd] at hf
    cases hf
    exact .inl ⟨stop i (by lia),q F H σ cO.refl R⟩
end
end L2
namespace L2
open PySem PySem.Spec PyProof.Rows
def vm:Option (Option Sv)→Bool
  | some (some (.l _))=>true
  | _=>false
theorem vO{s:Option (Option Sv)}:vm s=true↔ ∃xs,s=some (some (.l xs)):=by
  unfold vm
  split
  · simp
  · rename_i h
    constructor
    · intro z;cases z
    · rintro⟨xs,rfl⟩;exact absurd rfl (h xs)
def jj(pos:Nat→Option Nat)(ei e:En):En:=e.mapIdx fun i s=>match s with
  | some (.l xs)=>match pos i with
    | some k=>(ei[k]?).join
    | none=>some (.l xs)
  | s=>s
theorem bz{pos:Nat→Option Nat}{ei e:En}{i:Nat}:(jj pos ei e)[i]?=(e[i]?).map fun s=>match s with
  | some (.l xs)=>match pos i with
    | some k=>(ei[k]?).join
    | none=>some (.l xs)
  | s=>s:=by unfold jj;rw [List.getElem?_mapIdx]
structure mS (σ:L2.St) (e:En) (σi:L2.St) (ei:En) (pos:Nat→Option Nat):Prop where
  a:∀(i k:Nat) (xs:List PyData),e[i]?=some (some (.l xs))→pos i=some k→σi[k]?=σ[i]?
  b:∀(k:Nat) (ys:List PyData),ei[k]?=some (some (.l ys))→∃(i:Nat) (xs:List PyData),e[i]?=some (some (.l xs))∧pos i=some k∧σi[k]?=σ[i]?
section
variable{K:PySem.W.Frag}{σ σi σi':L2.St}{F H F' H':Hp}{e ei ei':En}{pos:Nat→Option Nat}
def Ar(e:En):Prop:=∀(i:Nat) (xss:List (List PyData)),e[i]?≠some (some (.n xss))
theorem mS.own(s:mS σ e σi ei pos)(hn:Ar ei){a:Addr}{H H':Hp}(h:cX σi ei H a):∃(i k:Nat) (xs:List PyData),e[i]?=some (some (.l xs))∧pos i=some k∧σ[i]?=some (some (.ref a)):=by
  obtain⟨k,⟨ys,h1,h2⟩ | ⟨xss,_,_,h1,_⟩⟩:=h
  · obtain⟨i,xs,g1,g2,g3⟩:=s.b k ys h1
    exact⟨i,k,xs,g1,g2,by rw [←g3];exact h2⟩
  · exact absurd h1 (hn k xss)
theorem ou(R:aP K F H σ e)(s:mS σ e σi ei pos)(hnn:Ar ei)(sf:ao F F')(dom:∀a,H' a=none→H a=none)(fr:∀a vs,F a=none→H a=some (.lst vs)→¬cX σi ei H a→F' a=none)(lst:∀a vs,H a=some (.lst vs)→∃vs',H' a=some (.lst vs'))
    (tmp:∀a o,H a=some o→¬cX σi ei H a→H' a=some o)(R':aP K F' H' σi' ei')(hσ:∀(i k:Nat) (xs:List PyData),e[i]?=some (some (.l xs))→pos i=some k→σi'[k]?=σi[k]?)(hsh:∀(i k:Nat) (xs:List PyData),e[i]?=some (some (.l xs))→pos i=some k→∃ys,ei'[k]?=some (some (.l ys))):
    aP K F' H' σ (jj pos ei' e)∧dU σ F H e F' H' (jj pos ei' e)∧∀a,cX σ (jj pos ei' e) H' a→cX σ e H a:=by
  have shp:∀i:Nat,(∃xs,(jj pos ei' e)[i]?=some (some (.l xs)))↔ (∃xs,e[i]?=some (some (.l xs))):=by
    intro i
    rw [bz]
    match h:e[i]? with
    | none=>simp
    | some none=>simp
    | some (some (.d x))=>simp
    | some (some (.n x))=>simp
    | some (some (.l xs))=>
      simp only [Option.map_some]
      constructor
      · intro _;exact⟨xs,rfl⟩
      · intro _
        match hp:pos i with
        | none=>exact⟨xs,rfl⟩
        | some k=>
          obtain⟨ys,g⟩:=hsh i k xs h hp
          exact⟨ys,by show some ((ei'[k]?).join)=_;rw [g];rfl⟩
  have oth:∀(i:Nat) (s:Sv),(∀xs,s≠.l xs)→((jj pos ei' e)[i]?=some (some s)↔ e[i]?=some (some s)):=by
    intro i s hs
    constructor
    · intro h
      rw [bz] at h
      match h1:e[i]?,h with
      | some (some (.d y)),h=>exact h
      | some (some (.n y)),h=>exact h
      | some (some (.l ys)),h=>
        simp only [Option.map_some,Option.some.injEq] at h
        match hp:pos i,h with
        | none,h=>cases h;exact absurd rfl (hs _)
        | some k,h=>
          obtain⟨zs,g⟩:=hsh i k ys h1 hp
          change (ei'[k]?).join=_ at h
          rw [g] at h;cases h;exact absurd rfl (hs _)
      | some none,h=>simp at h
      | none,h=>simp at h
    · intro h
      rw [bz,h]
      cases s with
      | d y=>rfl
      | n y=>rfl
      | l y=>exact absurd rfl (hs y)
  have out:∀i a,Fp σ e H i a→(∀k xs,e[i]?=some (some (.l xs))→pos i≠some k)→¬cX σi ei H a:=by
    intro i a hi hp z
    obtain⟨j,k,ws,d1,d2,d3⟩:=s.own hnn (H':=H') z
    have:i=j:=R.fp i j a hi (.inl ⟨ws,d1,d3⟩)
    subst this
    exact hp k ws d1 d2
  have keep:∀i a o,Fp σ e H i a→(∀k xs,e[i]?=some (some (.l xs))→pos i≠some k)→H a=some o→H' a=some o:=fun i a o hi hp ha=>tmp a o ha (out i a hi hp)
  have sown:∀a,cX σi ei H a→cX σ e H a:=fun a z=>by
    obtain⟨j,k,ws,d1,d2,d3⟩:=s.own hnn (H':=H') z
    exact⟨j,.inl ⟨ws,d1,d3⟩⟩
  have fs:∀i a,Fp σ (jj pos ei' e) H' i a↔ Fp σ e H i a:=by
    intro i a
    have key:∀xss l,e[i]?=some (some (.n xss))→σ[i]?=some (some (.ref l))→H' l=H l:=fun xss l h1 h2=>by
      obtain⟨l',bs,g1,g2,g3,_⟩:=R.nst i xss h1
      rw [h2] at g1;cases g1
      rw [g3]
      exact keep i l _ (.inr ⟨xss,l,bs,h1,h2,g3,.inl rfl⟩) (fun k xs z=>by rw [h1] at z;cases z) g3
    constructor
    · rintro(⟨xs,h1,h2⟩ | ⟨xss,l,bs,h1,h2,h3,h4⟩)
      · obtain⟨ys,h⟩:=(shp i).mp ⟨xs,h1⟩
        exact .inl ⟨ys,h,h2⟩
      · have h1':=(oth i (.n xss) (fun _ z=>nomatch z)).mp h1
        exact .inr ⟨xss,l,bs,h1',h2,by rw [←key xss l h1' h2];exact h3,h4⟩
    · rintro(⟨xs,h1,h2⟩ | ⟨xss,l,bs,h1,h2,h3,h4⟩)
      · obtain⟨ys,h⟩:=(shp i).mpr ⟨xs,h1⟩
        exact .inl ⟨ys,h,h2⟩
      · exact .inr ⟨xss,l,bs,(oth i (.n xss) (fun _ z=>nomatch z)).mpr h1,h2,by rw [key xss l h1 h2];exact h3,h4⟩
  refine⟨⟨R'.sm,?_,fun i x h=>?_,fun i xs h=>?_,fun i xss h=>?_,fun i j a h1 h2=>R.fp i j a ((fs i a).mp h1) ((fs j a).mp h2)⟩,⟨sf,dom,fun a vs h1 h2 n=>fr a vs h1 h2 fun z=>n (sown a z),lst,fun a o h n=>tmp a o h fun z=>n (sown a z),shp,fun a ⟨i,h⟩=>.inl ⟨i,(fs i a).mp h⟩⟩,fun a ⟨i,h⟩=>⟨i,(fs i a).mp h⟩⟩
  · unfold jj;rw [List.length_mapIdx];exact R.len
  · obtain⟨v,g1,g2⟩:=R.dat i x ((oth i (.d x) (fun _ z=>nomatch z)).mp h)
    exact⟨v,g1,DA.mono sf g2⟩
  · obtain⟨ys,h1⟩:=(shp i).mp ⟨xs,h⟩
    obtain⟨l,vs,g1,g2,g3,g4⟩:=R.own i ys h1
    rw [bz,h1] at h
    simp only [Option.map_some,Option.some.injEq] at h
    match hp:pos i,h with
    | none,h=>
      cases h
      have np:∀k xs,e[i]?=some (some (Sv.l xs))→pos i≠some k:=fun k xs _ z=>by rw [hp] at z;cases z
      have fi:Fp σ e H i l:=.inl ⟨_,h1,g1⟩
      exact⟨l,vs,g1,fr l vs g2 g3 (out i l fi np),keep i l _ fi np g3,g4.mono sf⟩
    | some k,h=>
      obtain⟨zs,c1⟩:=hsh i k ys h1 hp
      change (ei'[k]?).join=_ at h
      rw [c1] at h;cases h
      obtain⟨l',vs',d1,d2,d3,d4⟩:=R'.own k _ c1
      rw [hσ i k ys h1 hp,s.a i k ys h1 hp] at d1
      exact⟨l',vs',d1,d2,d3,d4⟩
  · have h1:=(oth i (.n xss) (fun _ z=>nomatch z)).mp h
    obtain⟨l,bs,g1,g2,g3,g4,g5,g6,g7⟩:=R.nst i xss h1
    have np:∀k xs,e[i]?=some (some (Sv.l xs))→pos i≠some k:=fun k xs z=>by rw [h1] at z;cases z
    have fi:Fp σ e H i l:=.inr ⟨xss,l,bs,h1,g1,g3,.inl rfl⟩
    refine⟨l,bs,g1,fr l _ g2 g3 (out i l fi np),keep i l _ fi np g3,g4,g5,g6,fun k b ys q1 q2=>?_⟩
    obtain⟨c1,us,c2,c3⟩:=g7 k b ys q1 q2
    have fb:Fp σ e H i b:=.inr ⟨xss,l,bs,h1,g1,g3,.inr (List.mem_of_getElem? q1)⟩
    exact⟨fr b _ c1 c2 (out i b fb np),us,keep i b _ fb np c2,c3.mono sf⟩
end
def cE(e:En):List Rv→Option (List Sv)
  | []=>some []
  | .d x::r=>(cE e r).map (.d x::·)
  | .l xs::r=>(cE e r).map (.d (.list xs)::·)
  | .s i::r=>match e[i]? with
    | some (some (.l xs))=>(cE e r).map (.l xs::·)
    | _=>none
def ax:List Rv→List Nat
  | []=>[]
  | .s i::r=>i::ax r
  | .d _::r=>ax r
  | .l _::r=>ax r
def hV(rs:List Rv)(i:Nat):Option Nat:=rs.findIdx? fun r=>match r with
  | .s j=>j==i
  | _=>false
def noS:Rv→Prop
  | .s _=>False
  | _=>True
abbrev FM:=List Sv→Option (Rv × List Sv)
def cC(K:PySem.W.Frag)(n:Nat)(m:FM):Sp:=fun vs H Q _=>vs.length=n∧∃F as r as',aP K F H (vs.map some) (as.map some)∧Ar (as.map some)∧m as=some (r,as')∧noS r∧
  ∀F' H' v,dU (vs.map some) F H (as.map some) F' H' (as'.map some)→aP K F' H' (vs.map some) (as'.map some)→bH K (vs.map some) H F' H' (as'.map some) r v→Q v H'
def aX:List Rv→List Sv→Bool
  | [],[]=>true
  | .s _::r,.l _::s=>aX r s
  | .d _::r,_::s=>aX r s
  | .l _::r,_::s=>aX r s
  | _,_=>false
def yY:Rv→Bool
  | .s _=>false
  | _=>true
def em:List Rv→List Sv→En→En
  | .s i::r,.l ys::s,e=>em r s (e.set i (some (.l ys)))
  | .d _::r,_::s,e=>em r s e
  | .l _::r,_::s,e=>em r s e
  | _,_,e=>e
def cW(n:Nat)(m:FM)(fs:FA):FE:=fun e=>(fs e).bind fun p=>(cE p.2 p.1).bind fun as=>(m as).bind fun z=>if p.1.length=n∧(ax p.1).Nodup∧aX p.1 z.2=true∧yY z.1=true then some (z.1,em p.1 z.2 p.2) else none
theorem fw:∀{rs:List Rv} {as:List Sv},aX rs as=true→∀(k i:Nat),rs[k]?=some (.s i)→∃ys,as[k]?=some (.l ys)
  | [],[],_,k,i,h=>by simp at h
  | .s j::r,.l ys::s,h,k,i,hk=>by
    cases k with
    | zero=>exact⟨ys,rfl⟩
    | succ k=>simpa using fw (rs:=r) (as:=s) (by simpa [aX] using h) k i (by simpa using hk)
  | .d x::r,y::s,h,k,i,hk=>by
    cases k with
    | zero=>simp at hk
    | succ k=>simpa using fw (rs:=r) (as:=s) (by simpa [aX] using h) k i (by simpa using hk)
  | .l x::r,y::s,h,k,i,hk=>by
    cases k with
    | zero=>simp at hk
    | succ k=>simpa using fw (rs:=r) (as:=s) (by simpa [aX] using h) k i (by simpa using hk)
  | .s _::_,.d _::_,h,_,_,_=>by simp [aX] at h
  | .s _::_,[],h,_,_,_=>by simp [aX] at h
  | .d _::_,[],h,_,_,_=>by simp [aX] at h
  | .l _::_,[],h,_,_,_=>by simp [aX] at h
theorem jc{r0:Rv}{rs:List Rv}{i:Nat}:hV (r0::rs) i=if (match r0 with | .s j=>j==i | _=>false)=true then some 0 else(hV rs i).map (· +1):=by
  unfold hV;rw [List.findIdx?_cons]
theorem jd{rs:List Rv}{i k:Nat}(h:hV rs i=some k):rs[k]?=some (.s i):=by
  unfold hV at h
  rw [List.findIdx?_eq_some_iff_getElem] at h
  obtain⟨hk,h1,_⟩:=h
  rw [List.getElem?_eq_getElem hk]
  split at h1
  · rename_i heq
    rw [heq]
    have:=eq_of_beq h1
    rw [this]
  · cases h1
theorem dS:∀{rs:List Rv} {i:Nat},i∈ax rs↔ Rv.s i∈rs
  | [],i=>by simp [ax]
  | .s j::r,i=>by simp [ax,dS (rs:=r)]
  | .d x::r,i=>by simp [ax,dS (rs:=r)]
  | .l x::r,i=>by simp [ax,dS (rs:=r)]
theorem eg:∀{rs:List Rv} {i k j:Nat},(ax rs).Nodup→rs[k]?=some (.s i)→rs[j]?=some (.s i)→k=j
  | [],i,k,j,_,h,_=>by simp at h
  | .s m::r,i,k,j,hn,h1,h2=>by
    simp only [ax,List.nodup_cons] at hn
    cases k with
    | zero=>
      simp at h1;subst h1
      cases j with
      | zero=>rfl
      | succ j=>exact absurd (dS.mpr (List.mem_of_getElem? (by simpa using h2))) hn.1
    | succ k=>
      cases j with
      | zero=>
        simp at h2;subst h2
        exact absurd (dS.mpr (List.mem_of_getElem? (by simpa using h1))) hn.1
      | succ j=>
        have:=eg (rs:=r) (i:=i) (k:=k) (j:=j) hn.2 (by simpa using h1) (by simpa using h2)
        lia
  | .d x::r,i,k,j,hn,h1,h2=>by
    cases k with
    | zero=>simp at h1
    | succ k=>
      cases j with
      | zero=>simp at h2
      | succ j=>
        have:=eg (rs:=r) (i:=i) (k:=k) (j:=j) (by simpa [ax] using hn) (by simpa using h1) (by simpa using h2)
        lia
  | .l x::r,i,k,j,hn,h1,h2=>by
    cases k with
    | zero=>simp at h1
    | succ k=>
      cases j with
      | zero=>simp at h2
      | succ j=>
        have:=eg (rs:=r) (i:=i) (k:=k) (j:=j) (by simpa [ax] using hn) (by simpa using h1) (by simpa using h2)
        lia
theorem ud{rs:List Rv}{i:Nat}(h:i∉ax rs):hV rs i=none:=by
  unfold hV
  rw [List.findIdx?_eq_none_iff]
  intro r hr
  cases r with
  | d x=>rfl
  | l x=>rfl
  | s j=>
    have:j≠i:=fun z=>h (by rw [←z];exact dS.mpr hr)
    simpa using this
theorem jJ:∀{rs:List Rv} {as:List Sv} {e:En},(ax rs).Nodup→aX rs as=true→(∀j∈ax rs,∃xs,e[j]?=some (some (.l xs)))→em rs as e=jj (hV rs) (as.map some) e
  | [],[],e,_,_,_=>by
    refine List.ext_getElem? fun i=>?_
    rw [bz]
    have:hV [] i=none:=rfl
    rw [this]
    simp only [em]
    match e[i]? with
    | none=>rfl
    | some none=>rfl
    | some (some (.d x))=>rfl
    | some (some (.l x))=>rfl
    | some (some (.n x))=>rfl
  | .d x::r,y::s,e,hn,hl,hs=>by
    rw [show em (.d x::r) (y::s) e=em r s e from rfl,jJ (by simpa [ax] using hn) (by simpa [aX] using hl) (fun j hj=>hs j (by simpa [ax] using hj))]
    refine List.ext_getElem? fun i=>?_
    rw [bz,bz,jc]
    cases hV r i<;>simp
  | .l x::r,y::s,e,hn,hl,hs=>by
    rw [show em (.l x::r) (y::s) e=em r s e from rfl,jJ (by simpa [ax] using hn) (by simpa [aX] using hl) (fun j hj=>hs j (by simpa [ax] using hj))]
    refine List.ext_getElem? fun i=>?_
    rw [bz,bz,jc]
    cases hV r i<;>simp
  | .s k::r,.l ys::s,e,hn,hl,hs=>by
    simp only [ax,List.nodup_cons] at hn
    obtain⟨xs,hk⟩:=hs k (by simp [ax])
    have hlt:k < e.length:=(List.getElem?_eq_some_iff.mp hk).1
    rw [show em (.s k::r) (.l ys::s) e=em r s (e.set k (some (.l ys))) from rfl,jJ hn.2 (by simpa [aX] using hl) (fun j hj=>by
      have z:k≠j:=fun z=>hn.1 (by rw [z];exact hj)
      rw [List.getElem?_set_ne z]
      exact hs j (by simp [ax,hj]))]
    refine List.ext_getElem? fun i=>?_
    rw [bz,bz,jc]
    by_cases z:k=i
    · subst z
      rw [List.getElem?_set_self hlt,hk,ud hn.1]
      simp
    · rw [List.getElem?_set_ne z]
      have:((match (Rv.s k) with | .s j=>j==i | _=>false)=true)=False:=by simp [z]
      simp only [this,if_false]
      cases hV r i<;>simp
  | .s _::_,.d _::_,_,_,h,_=>by simp [aX] at h
  | .s _::_,.n _::_,_,_,h,_=>by simp [aX] at h
  | .s _::_,[],_,_,h,_=>by simp [aX] at h
  | .d _::_,[],_,_,h,_=>by simp [aX] at h
  | .l _::_,[],_,_,h,_=>by simp [aX] at h
  | [],_::_,_,_,h,_=>by simp [aX] at h
theorem dI{e:En}:∀{rs:List Rv} {as:List Sv},cE e rs=some as→∀j∈ax rs,∃xs,e[j]?=some (some (.l xs))
  | [],_,_,j,h=>by simp [ax] at h
  | .d x::rs,as,q,j,h=>by
    obtain⟨as',q1,rfl⟩:=Option.map_eq_some_iff.mp q
    exact dI q1 j (by simpa [ax] using h)
  | .l x::rs,as,q,j,h=>by
    obtain⟨as',q1,rfl⟩:=Option.map_eq_some_iff.mp q
    exact dI q1 j (by simpa [ax] using h)
  | .s k::rs,as,q,j,h=>by
    unfold cE at q
    match he:e[k]?,q with
    | some (some (.l xs)),q=>
      obtain⟨as',q1,rfl⟩:=Option.map_eq_some_iff.mp q
      simp only [ax,List.mem_cons] at h
      rcases h with rfl | h
      · exact⟨xs,he⟩
      · exact dI q1 j h
theorem ig{e:En}:∀{rs:List Rv} {as:List Sv} {k i:Nat},cE e rs=some as→rs[k]?=some (.s i)→∃xs,as[k]?=some (.l xs)
  | [],_,k,i,_,h=>by simp at h
  | .d x::rs,as,k,i,q,h=>by
    obtain⟨as',q1,rfl⟩:=Option.map_eq_some_iff.mp q
    cases k with
    | zero=>simp at h
    | succ k=>simpa using ig (k:=k) (i:=i) q1 (by simpa using h)
  | .l x::rs,as,k,i,q,h=>by
    obtain⟨as',q1,rfl⟩:=Option.map_eq_some_iff.mp q
    cases k with
    | zero=>simp at h
    | succ k=>simpa using ig (k:=k) (i:=i) q1 (by simpa using h)
  | .s j::rs,as,k,i,q,h=>by
    unfold cE at q
    match he:e[j]?,q with
    | some (some (.l xs)),q=>
      obtain⟨as',q1,rfl⟩:=Option.map_eq_some_iff.mp q
      cases k with
      | zero=>exact⟨xs,rfl⟩
      | succ k=>simpa using ig (k:=k) (i:=i) q1 (by simpa using h)
section
variable{X:Cx}{K:PySem.W.Frag}{σ:L2.St}{H0 H:Hp}{e:En}
theorem jF:∀{rs:List Rv} {vs:List V} {as:List Sv} {F:Hp},aP K F H σ e→cS K σ H0 F H e rs vs→cE e rs=some as→
    ∃F',aP K F' H σ e∧ao F F'∧(∀a,F a=none→H0 a≠none→F' a=none)∧vs.length=as.length∧rs.length=as.length∧
      (∀(k:Nat) (x:PyData),as[k]?=some (.d x)→∃v,vs[k]?=some v∧DA K F' x v)∧∀(k:Nat) (xs:List PyData),as[k]?=some (.l xs)→∃i,rs[k]?=some (.s i)∧e[i]?=some (some (.l xs))∧∃v,vs[k]?=some v∧σ[i]?=some (some v)
  | [],vs,as,F,R,h,q=>by
    cases q
    have h':vs=[]:=h
    subst h'
    exact⟨F,R,ao.refl _,fun _ h _=>h,rfl,rfl,fun k x h=>by simp at h,fun k x h=>by simp at h⟩
  | .d x::rs,_,as,F,R,h,q=>by
    obtain⟨v,ws,rfl,h1,h2⟩:=h
    obtain⟨as',q1,rfl⟩:=Option.map_eq_some_iff.mp q
    obtain⟨F',R',s',f',l1,l2,d',o'⟩:=jF R h2 q1
    refine⟨F',R',s',f',by simp [l1],by simp [l2],fun k y hk=>?_,fun k ys hk=>?_⟩
    · cases k with
      | zero=>simp at hk;subst hk;exact⟨v,rfl,DA.mono s' h1⟩
      | succ k=>simpa using d' k y (by simpa using hk)
    · cases k with
      | zero=>simp at hk
      | succ k=>simpa using o' k ys (by simpa using hk)
  | .l xs::rs,_,as,F,R,h,q=>by
    obtain⟨v,ws,rfl,h1,h2⟩:=h
    obtain⟨as',q1,rfl⟩:=Option.map_eq_some_iff.mp q
    obtain⟨F',R',s',f',l1,l2,d',o'⟩:=jF R h2 q1
    have key:∃F2,aP K F2 H σ e∧ao F' F2∧(∀a,F' a=none→H0 a≠none→F2 a=none)∧DA K F2 (.list xs) v:=by
      obtain⟨l,us,rfl,g1,g2,g3,g4,g5⟩:=h1
      cases hl:F' l with
      | none=>
        have h1':bH K σ H0 F' H e (.l xs) (.ref l):=⟨l,us,rfl,g1,hl,g3,ay.mono s' g4,g5⟩
        obtain⟨F2,R2,s2,d2,f2⟩:=h1'.frozen R'
        exact⟨F2,R2,s2,f2,d2⟩
      | some o=>
        have:=R'.sm _ _ hl
        rw [g3] at this;cases this
        exact⟨F',R',ao.refl _,fun _ h _=>h,dW.mpr ⟨l,us,rfl,.inl (.inl hl),ay.mono s' g4⟩⟩
    obtain⟨F2,R2,s2,f2,d2⟩:=key
    refine⟨F2,R2,s'.trans s2,fun a ha hn=>f2 a (f' a ha hn) hn,by simp [l1],by simp [l2],fun k y hk=>?_,fun k ys hk=>?_⟩
    · cases k with
      | zero=>simp at hk;subst hk;exact⟨v,rfl,d2⟩
      | succ k=>
        obtain⟨u,c1,c2⟩:=d' k y (by simpa using hk)
        exact⟨u,by simpa using c1,DA.mono s2 c2⟩
    · cases k with
      | zero=>simp at hk
      | succ k=>simpa using o' k ys (by simpa using hk)
  | .s i::rs,_,as,F,R,h,q=>by
    obtain⟨v,ws,rfl,h1,h2⟩:=h
    unfold cE at q
    match he:e[i]?,q with
    | some (some (.l xs)),q=>
      obtain⟨as',q1,rfl⟩:=Option.map_eq_some_iff.mp q
      obtain⟨F',R',s',f',l1,l2,d',o'⟩:=jF R h2 q1
      refine⟨F',R',s',f',by simp [l1],by simp [l2],fun k y hk=>?_,fun k ys hk=>?_⟩
      · cases k with
        | zero=>simp at hk
        | succ k=>simpa using d' k y (by simpa using hk)
      · cases k with
        | zero=>simp at hk;subst hk;exact⟨i,rfl,he,v,rfl,h1.1⟩
        | succ k=>simpa using o' k ys (by simpa using hk)
theorem dM{α:Type}{l:List α}{k:Nat}{x:α}:(l.map some)[k]?=some (some x)↔ l[k]?=some x:=by
  rw [List.getElem?_map]
  cases l[k]?<;>simp
theorem bH.noS{σ':L2.St}{e':En}{F H:Hp}{r:Rv}{v:V}(h:bH K σ' H0 F H e' r v)(n:L2.noS r)(ho:∀a,cX σ e H a→H0 a≠none):bH K σ H0 F H e r v:=by
  cases r with
  | d x=>exact h
  | l xs=>
    obtain⟨l,vs,e1,h1,h2,h3,h4,_⟩:=h
    exact⟨l,vs,e1,h1,h2,h3,h4,fun z=>ho l z h1⟩
  | s i=>exact absurd n (by simp [L2.noS])
theorem eY:∀{rs:List Rv} {as:List Sv},cE e rs=some as→Ar (as.map some)
  | [],_,q=>by cases q;intro i xss h;simp at h
  | .d x::rs,as,q=>by
    obtain⟨as',q1,rfl⟩:=Option.map_eq_some_iff.mp q
    have ih:=eY q1
    intro i xss h
    cases i with
    | zero=>simp at h
    | succ i=>exact ih i xss (by simpa using h)
  | .l x::rs,as,q=>by
    obtain⟨as',q1,rfl⟩:=Option.map_eq_some_iff.mp q
    have ih:=eY q1
    intro i xss h
    cases i with
    | zero=>simp at h
    | succ i=>exact ih i xss (by simpa using h)
  | .s j::rs,as,q=>by
    unfold cE at q
    match he:e[j]?,q with
    | some (some (.l xs)),q=>
      obtain⟨as',q1,rfl⟩:=Option.map_eq_some_iff.mp q
      have ih:=eY q1
      intro i xss h
      cases i with
      | zero=>simp at h
      | succ i=>exact ih i xss (by simpa using h)
theorem Ag{n:Nat}{m:FM}{fs:FA}{Q:VK}{E:XK}(h:fE K (cW n m fs) σ H Q):uW (cC K n m) [] E (fA K fs) σ H Q:=by
  obtain⟨F,e,z,e',R,hf,q⟩:=h
  unfold cW at hf
  obtain⟨⟨rs,e1⟩,h1,hf⟩:=Option.bind_eq_some_iff.mp hf
  obtain⟨as,h2,hf⟩:=Option.bind_eq_some_iff.mp hf
  obtain⟨⟨r,as'⟩,h3,hf⟩:=Option.bind_eq_some_iff.mp hf
  split at hf
  case isFalse=>cases hf
  case isTrue hc=>
  obtain⟨c1,c2,c3,c4⟩:=hc
  cases hf
  refine⟨F,e,rs,e1,R,h1,fun F1 H1 vs X1 R1 A1=>?_⟩
  obtain⟨F2,R2,s2,f2,l1,l2,d2,o2⟩:=jF R1 A1 h2
  have X2:=X1.frz s2 f2
  rw [List.append_nil]
  have hn:L2.noS r:=by
    cases r with
    | d x=>trivial
    | l x=>trivial
    | s i=>cases c4
  have nN:=eY h2
  have RA:aP K F2 H1 (vs.map some) (as.map some):=by
    refine⟨R2.sm,by simp [l1],fun k x hk=>?_,fun k xs hk=>?_,fun k xss hk=>absurd hk (nN k xss),fun k j l f1 f2=>?_⟩
    · obtain⟨v,g1,g2⟩:=d2 k x (dM.mp hk)
      exact⟨v,dM.mpr g1,g2⟩
    · obtain⟨i,g1,g2,v,g3,g4⟩:=o2 k xs (dM.mp hk)
      obtain⟨l,us,k1,k2,k3,k4⟩:=R2.own i xs g2
      rw [g4] at k1;cases k1
      exact⟨l,us,dM.mpr g3,k2,k3,k4⟩
    · obtain⟨xs,g1,g3⟩:=f1.resolve_right fun⟨xss,_,_,z,_⟩=>nN k xss z
      obtain⟨ys,g2,g4⟩:=f2.resolve_right fun⟨xss,_,_,z,_⟩=>nN j xss z
      obtain⟨i1,a1,a2,v1,a3,a4⟩:=o2 k xs (dM.mp g1)
      obtain⟨i2,b1,b2,v2,b3,b4⟩:=o2 j ys (dM.mp g2)
      have e1:=dM.mp g3
      have e2:=dM.mp g4
      rw [a3] at e1;cases e1
      rw [b3] at e2;cases e2
      have:i1=i2:=R2.inj i1 i2 xs ys l a2 b2 a4 b4
      subst this
      exact eg c2 a1 b1
  have sub:mS σ e1 (vs.map some) (as.map some) (hV rs):=by
    refine⟨fun i k xs g1 g2=>?_,fun k ys g1=>?_⟩
    · have g3:=jd g2
      obtain⟨zs,hs⟩:=ig h2 g3
      obtain⟨i',a1,a2,v,a3,a4⟩:=o2 k zs hs
      rw [g3] at a1;cases a1
      rw [dM.mpr a3,a4]
    · obtain⟨i,a1,a2,v,a3,a4⟩:=o2 k ys (dM.mp g1)
      refine⟨i,ys,a2,?_,by rw [dM.mpr a3,a4]⟩
      cases hp:hV rs i with
      | none=>
        unfold hV at hp
        rw [List.findIdx?_eq_none_iff] at hp
        have:=hp _ (List.mem_of_getElem? a1)
        simp at this
      | some j=>rw [eg c2 (jd hp) a1]
  refine⟨by rw [l1,←l2];exact c1,F2,as,r,as',RA,nN,h3,hn,fun F' H' v X3 R3 A3=>?_⟩
  obtain⟨R4,X4,o4⟩:=ou R2 sub nN X3.sf X3.dom X3.fr X3.lst X3.tmp R3 (fun _ _ _ _ _=>rfl) fun i k xs g1 g2=>by
    obtain⟨ys,g3⟩:=fw c3 k i (jd g2)
    exact⟨ys,dM.mpr g3⟩
  have hb:=jJ (e:=e1) c2 c3 (dI h2)
  rw [←hb] at R4 X4 o4
  exact q F' H' v (X2.trans X4) R4 ((A3.noS hn fun a z=>R2.ownH a (o4 a z)).weak X2.dom)
theorem aV{x:Str}{st:Stmt}{f:Addr}{fd:FuncData}{ps:List Str}{k n:Nat}{m:FM}{a:Expr}{es:List Expr}{fs:FA}{p pos:Pos}(h:bj X.K X.mg x st f fd ps)(G:aJ X.prog X.w X.K X.mg X.base cw k f fd ps (cC K n m))(hr:cP k X.A)(ha:PA X (a::es) (fA K fs))
    (hg:Gl X x)(hdb:(x==("__debug__":Str))=false)(he:starEach (a::es) X.env=(false,eval a X.env)::starEach es X.env)(hpl:(backTo pos (starEach es X.env)).any (·.1)=false):
    PE X (.Call (.Name x p) (a::es) [] pos) (fE K (cW n m fs)):=(CK h G hr ha hg hdb he hpl).mono fun _ _ _ h=>Ag h
def rE:List Sv→En→Option (List Sv)
  | [],_=>some []
  | .d x::r,e=>(rE r e.tail).map (.d x::·)
  | .l _::r,e=>match e.head? with
    | some (some (.l ys))=>(rE r e.tail).map (.l ys::·)
    | _=>none
  | .n _::_,_=>none
def vF(n:Nat)(e:En):Rv→Option Rv
  | .s i=>if n≤i then match e[i]? with
      | some (some (.l xs))=>some (.l xs)
      | _=>none
    else none
  | r=>some r
def nI(W:List Nat)(as:List Sv):Bool:=W.all fun j=>match as[j]? with
  | some (.l _)=>false
  | _=>true
def jv(n k:Nat)(W:List Nat)(f:FS):FM:=fun as=>if as.length=n∧nI W as=true then(f (as.map some++List.replicate k none)).bind fun fl=>match fl with
    | .rt r e=>(vF n e r).bind fun r'=>(rE as e).map fun as'=>(r',as')
    | .nx e=>(rE as e).map fun as'=>(.d .none,as')
    | _=>none
  else none
theorem jT:∀{as as':List Sv} {e:En},rE as e=some as'→as'.length=as.length∧(∀(j:Nat) (x:PyData),as'[j]?=some (.d x)↔ as[j]?=some (.d x))∧(∀(j:Nat) (ys:List PyData),as'[j]?=some (.l ys)→(∃xs,as[j]?=some (.l xs))∧e[j]?=some (some (.l ys)))∧∀(j:Nat) (xs:List PyData),as[j]?=some (.l xs)→∃ys,as'[j]?=some (.l ys)
  | [],_,e,h=>by cases h;simp
  | .d x::r,_,e,h=>by
    obtain⟨s,h1,rfl⟩:=Option.map_eq_some_iff.mp h
    obtain⟨g1,g2,g3,g4⟩:=jT h1
    refine⟨by simp [g1],fun j y=>?_,fun j ys hj=>?_,fun j xs hj=>?_⟩
    · cases j with
      | zero=>simp
      | succ j=>simpa using g2 j y
    · cases j with
      | zero=>simp at hj
      | succ j=>
        obtain⟨c1,c2⟩:=g3 j ys (by simpa using hj)
        refine⟨by simpa using c1,?_⟩
        rw [List.getElem?_tail] at c2
        exact c2
    · cases j with
      | zero=>simp at hj
      | succ j=>simpa using g4 j xs (by simpa using hj)
  | .l xs::r,_,e,h=>by
    unfold rE at h
    match he:e.head?,h with
    | some (some (.l ys)),h=>
      obtain⟨s,h1,rfl⟩:=Option.map_eq_some_iff.mp h
      obtain⟨g1,g2,g3,g4⟩:=jT h1
      refine⟨by simp [g1],fun j y=>?_,fun j zs hj=>?_,fun j zs hj=>?_⟩
      · cases j with
        | zero=>simp
        | succ j=>simpa using g2 j y
      · cases j with
        | zero=>
          simp at hj;subst hj
          exact⟨⟨xs,rfl⟩,by rw [List.head?_eq_getElem?] at he;exact he⟩
        | succ j=>
          obtain⟨c1,c2⟩:=g3 j zs (by simpa using hj)
          refine⟨by simpa using c1,?_⟩
          rw [List.getElem?_tail] at c2
          exact c2
      · cases j with
        | zero=>exact⟨ys,rfl⟩
        | succ j=>simpa using g4 j zs (by simpa using hj)
  | .n x::r,_,e,h=>by simp [rE] at h
end
end L2
namespace L2
open PySem PySem.Spec PyProof.Rows
theorem dn{α:Type}{l:List (Option α)}{k i:Nat}{x:α}(h:(l++List.replicate k none)[i]?=some (some x)):l[i]?=some (some x):=by
  rw [List.getElem?_append] at h
  split at h
  · exact h
  · rw [List.getElem?_replicate] at h
    split at h<;>simp at h
theorem du{α:Type}{l:List (Option α)}{k i:Nat}{x:α}(h:l[i]?=some (some x)):(l++List.replicate k none)[i]?=some (some x):=by
  have hi:i < l.length:=(List.getElem?_eq_some_iff.mp h).1
  rw [List.getElem?_append_left hi];exact h
section
variable{K:PySem.W.Frag}{F H:Hp}{σ:L2.St}{e:En}{k:Nat}
theorem ml{i:Nat}{a:Addr}:Fp (σ++List.replicate k none) (e++List.replicate k none) H i a↔ Fp σ e H i a:=by
  constructor
  · rintro(⟨xs,h1,h2⟩ | ⟨xss,l,bs,h1,h2,h3⟩)
    · exact .inl ⟨xs,dn h1,dn h2⟩
    · exact .inr ⟨xss,l,bs,dn h1,dn h2,h3⟩
  · rintro(⟨xs,h1,h2⟩ | ⟨xss,l,bs,h1,h2,h3⟩)
    · exact .inl ⟨xs,du h1,du h2⟩
    · exact .inr ⟨xss,l,bs,du h1,du h2,h3⟩
theorem mG{a:Addr}:cX (σ++List.replicate k none) (e++List.replicate k none) H a↔ cX σ e H a:=⟨fun⟨i,h⟩=>⟨i,ml.mp h⟩,fun⟨i,h⟩=>⟨i,ml.mpr h⟩⟩
theorem aP.pad(R:aP K F H σ e):aP K F H (σ++List.replicate k none) (e++List.replicate k none):=by
  refine⟨R.sm,by simp [R.len],fun i x h=>?_,fun i xs h=>?_,fun i xss h=>?_,fun i j a h1 h2=>R.fp i j a (ml.mp h1) (ml.mp h2)⟩
  · obtain⟨v,g1,g2⟩:=R.dat i x (dn h)
    exact⟨v,du g1,g2⟩
  · obtain⟨l,vs,g1,g2⟩:=R.own i xs (dn h)
    exact⟨l,vs,du g1,g2⟩
  · obtain⟨l,bs,g1,g2⟩:=R.nst i xss (dn h)
    exact⟨l,bs,du g1,g2⟩
end
theorem mN:∀{as as':List Sv} {e:En},rE as e=some as'→Ar (as'.map some)
  | [],_,e,h=>by cases h;intro i xss z;simp at z
  | .d x::r,_,e,h=>by
    obtain⟨s,h1,rfl⟩:=Option.map_eq_some_iff.mp h
    have ih:=mN h1
    intro i xss z
    cases i with
    | zero=>simp at z
    | succ i=>exact ih i xss (by simpa using z)
  | .l xs::r,_,e,h=>by
    unfold rE at h
    match he:e.head?,h with
    | some (some (.l ys)),h=>
      obtain⟨s,h1,rfl⟩:=Option.map_eq_some_iff.mp h
      have ih:=mN h1
      intro i xss z
      cases i with
      | zero=>simp at z
      | succ i=>exact ih i xss (by simpa using z)
  | .n x::r,_,e,h=>by simp [rE] at h
theorem nJ{W:List Nat}{as:List Sv}(h:nI W as=true){j:Nat}{xs:List PyData}(hj:as[j]?=some (.l xs)):j∉W:=fun z=>by
  unfold nI at h
  have:=List.all_eq_true.mp h j z
  rw [hj] at this
  cases this
section
variable{P:Program}{w:World}{K:PySem.W.Frag}{mg:Str→Option Value}{base:Heap}
theorem bj.fn{x:Str}{st:Stmt}{f:Addr}{fd:FuncData}{N ps:List Str}{k n k0:Nat}{W:List Nat}{fb:FS}(h:bj K mg x st f fd ps)(S:aH N ps (ah st))(hn:ps.length=n)(hN:N.length=n+k0)
    (hb:∀(cdv:Value) (A:Around) (outer:List Env) (s:Shared) (H:Hp) (E:XK),cP k (A.deeper (envOfC x (ah st) s.heap.objs.size f cdv))→jC (o8 cw P w K mg base N x (ah st) f cdv A outer s H E).nox (bL st) (fS K fb W)):
    aJ P w K mg base cw (k+1) f fd ps (cC K n (jv n k0 W fb)):=by
  refine h.F.ok S (fun vs H Q E q=>?_) fun cdv A outer s H vs Q E hr hsp=>⟨_,hb cdv A outer s H E hr,?_⟩
  · rw [hn];exact q.1
  · obtain⟨hl,F,as,r,as',R,nN,hm,nr,q⟩:=hsp
    unfold jv at hm
    split at hm
    case isFalse=>cases hm
    case isTrue hc=>
    obtain⟨la,nl⟩:=hc
    obtain⟨fl,h1,hm⟩:=Option.bind_eq_some_iff.mp hm
    have hst:start N vs=vs.map some++List.replicate k0 none:=by unfold start;rw [hN,hl];congr 2;lia
    rw [hst]
    have key:∀{as':List Sv} {e':En},rE as e'=some as'→∀F' H' σ',cO W (vs.map some++List.replicate k0 none) F H (as.map some++List.replicate k0 none) σ' F' H' e'→aP K F' H' σ' e'→
        dU (vs.map some) F H (as.map some) F' H' (as'.map some)∧aP K F' H' (vs.map some) (as'.map some)∧∀a,cX (vs.map some) (as'.map some) H' a→cX (vs.map some) (as.map some) H a:=by
      intro as' e' hu F' H' σ' X' R'
      obtain⟨u1,u2,u3,u4⟩:=jT hu
      have uN:=mN hu
      have ow:∀a,cX (vs.map some) (as'.map some) H' a→cX (vs.map some) (as.map some) H a:=by
        rintro a ⟨j,⟨ys,c1,c2⟩ | ⟨xss,_,_,z,_⟩⟩
        · obtain⟨⟨xs,c3⟩,_⟩:=u3 j ys (dM.mp c1)
          exact⟨j,.inl ⟨xs,dM.mpr c3,c2⟩⟩
        · exact absurd z (uN j xss)
      have sg:∀(j:Nat) (xs:List PyData),as[j]?=some (.l xs)→σ'[j]?=(vs.map some)[j]?:=fun j xs hj=>by
        rw [X'.wr j (nJ nl hj)]
        have hj2:j < (vs.map some).length:=by rw [List.length_map,hl,←la];exact(List.getElem?_eq_some_iff.mp hj).1
        rw [List.getElem?_append_left hj2]
      refine⟨⟨X'.sf,X'.dom,fun a vs h1 h2 hn=>X'.fr a vs h1 h2 fun z=>hn (mG.mp z),X'.lst,fun a o ha hn=>X'.tmp a o ha fun z=>hn (mG.mp z),fun j=>?_,fun a z=>.inl (ow a z)⟩,⟨R'.sm,?_,fun j y hj=>?_,fun j ys hj=>?_,fun j xss hj=>absurd hj (uN j xss),fun j i l f1 f2=>?_⟩,ow⟩
      · constructor
        · rintro⟨ys,hj⟩
          obtain⟨⟨xs,c⟩,_⟩:=u3 j ys (dM.mp hj)
          exact⟨xs,dM.mpr c⟩
        · rintro⟨xs,hj⟩
          obtain⟨ys,c⟩:=u4 j xs (dM.mp hj)
          exact⟨ys,dM.mpr c⟩
      · simp [u1,hl,la]
      · obtain⟨v,c1,c2⟩:=R.dat j y (dM.mpr ((u2 j y).mp (dM.mp hj)))
        exact⟨v,c1,DA.mono X'.sf c2⟩
      · obtain⟨⟨xs,c1⟩,c2⟩:=u3 j ys (dM.mp hj)
        obtain⟨l,us,d1,d2⟩:=R'.own j ys c2
        exact⟨l,us,by rw [←sg j xs c1];exact d1,d2⟩
      · obtain⟨xs,g1,g3⟩:=f1.resolve_right fun⟨xss,_,_,z,_⟩=>uN j xss z
        obtain⟨ys,g2,g4⟩:=f2.resolve_right fun⟨xss,_,_,z,_⟩=>uN i xss z
        obtain⟨⟨zs,c1⟩,c2⟩:=u3 j xs (dM.mp g1)
        obtain⟨⟨ws,c3⟩,c4⟩:=u3 i ys (dM.mp g2)
        exact R'.inj j i xs ys l c2 c4 (by rw [sg j zs c1];exact g3) (by rw [sg i ws c3];exact g4)
    refine⟨F,as.map some++List.replicate k0 none,fl,R.pad,h1,?_⟩
    cases fl with
    | bk e'=>cases hm
    | ct e'=>cases hm
    | nx e'=>
      obtain⟨as2,h2,hm⟩:=Option.map_eq_some_iff.mp hm
      cases hm
      intro F' H' σ' X' R'
      obtain⟨X2,R2,_⟩:=key h2 F' H' σ' X' R'
      exact q F' H' .non X2 R2 ((mj (K:=K) (F:=F')).mpr rfl)
    | rt r0 e'=>
      obtain⟨r1,h2,hm⟩:=Option.bind_eq_some_iff.mp hm
      obtain⟨as2,h3,hm⟩:=Option.map_eq_some_iff.mp hm
      cases hm
      intro F' H' σ' v X' R' A'
      obtain⟨X2,R2,ow2⟩:=key h3 F' H' σ' X' R'
      have noo:∀l,H l=none→¬cX (vs.map some) (as'.map some) H' l:=fun l hl z=>R.ownH l (ow2 l z) hl
      refine q F' H' v X2 R2 ?_
      cases r0 with
      | d y=>cases h2;exact A'
      | l ys=>
        cases h2
        obtain⟨l,us,d0,d1,d2,d3,d4,_⟩:=A'
        exact⟨l,us,d0,d1,d2,d3,d4,noo l d1⟩
      | s i=>
        simp only [vF] at h2
        split at h2
        case isFalse=>cases h2
        case isTrue hi=>
        obtain⟨a1,xs,a2⟩:=A'
        rw [a2] at h2
        cases h2
        obtain⟨l,us,d1,d2,d3,d4⟩:=R'.own i _ a2
        rw [a1] at d1;cases d1
        suffices hl0:H l=none from⟨l,us,rfl,hl0,d2,d3,d4,noo l hl0⟩
        rcases X'.own l ⟨i,.inl ⟨_,a2,a1⟩⟩ with z | z
        · obtain⟨j,zf⟩:=mG.mp z
          obtain⟨ys,z1,z2⟩:=zf.resolve_right fun⟨xss,_,_,z,_⟩=>nN j xss z
          have z1':=dM.mp z1
          obtain⟨u1,u2,u3,u4⟩:=jT h3
          obtain⟨ws,w1⟩:=u4 j ys z1'
          obtain⟨_,w2⟩:=u3 j ws w1
          have hj2:j < vs.length:=by rw [hl,←la];exact(List.getElem?_eq_some_iff.mp z1').1
          have e3:σ'[j]?=some (some (.ref l)):=by
            rw [X'.wr j (nJ nl z1'),List.getElem?_append_left (by simpa using hj2)]
            exact z2
          have:=R'.inj i j _ ws l a2 w2 a1 e3
          lia
        · exact z
end
def A0:Option Sv→Option Sv
  | some (.n _)=>none
  | s=>s
def lJ(cp:List (Nat × Str))(nT:Nat)(e:En):En:=cp.map (fun p=>A0 (e[p.1]?).join)++List.replicate nT none
def jb(cp:List (Nat × Str))(i:Nat):Option Nat:=cp.findIdx? fun p=>p.1==i
def dt(g:FG)(ft:FT)(fe:FE):List PyData→En→List PyData→Option (List PyData × En)
  | [],e,acc=>some (acc,e)
  | x::r,e,acc=>(g x e).bind fun e1=>(ft e1).bind fun b=>if b.1=true then(fe b.2).bind fun v=>(o_ v.1).bind fun d=>if acc.length < 1000000 then dt g ft fe r v.2 (acc++[d]) else none else dt g ft fe r b.2 acc
def j0(cp:List (Nat × Str))(ei e:En):Bool:=cp.all fun p=> !vm e[p.1]? || vm ei[(jb cp p.1).getD 0]?
def bA(cp:List (Nat × Str))(nT:Nat)(fi:FI)(g:FG)(ft:FT)(fe:FE):FE:=fun e=>(fi e).bind fun p=>if (p.2.1.all fun q=> !(cp.any fun c=>c.1==q.1))=true then(dt g ft fe p.1 (lJ cp nT p.2.2) []).bind fun z=>if j0 cp z.2 p.2.2=true then some (.l z.1,jj (jb cp) z.2 p.2.2) else none else none
section
variable{K:PySem.W.Frag}{F H:Hp}{σ:L2.St}{e:En}{cp:List (Nat × Str)}{nT:Nat}
theorem eT{i k:Nat}(h:jb cp i=some k):∃s,cp[k]?=some (i,s):=by
  unfold jb at h
  rw [List.findIdx?_eq_some_iff_getElem] at h
  obtain⟨hk,h1,_⟩:=h
  refine⟨cp[k].2,?_⟩
  rw [List.getElem?_eq_getElem hk]
  have:=eq_of_beq h1
  rw [←this]
theorem gE{k:Nat}{x:Sv}(h:(lJ cp nT e)[k]?=some (some x)):∃i s,cp[k]?=some (i,s)∧e[i]?=some (some x):=by
  unfold lJ at h
  have h:=dn h
  rw [List.getElem?_map] at h
  obtain⟨p,h1,h2⟩:=Option.map_eq_some_iff.mp h
  refine⟨p.1,p.2,h1,?_⟩
  cases q:e[p.1]? with
  | none=>rw [q] at h2;cases h2
  | some y=>
    rw [q] at h2
    match y,h2 with
    | some (.d z),h2=>exact congrArg some h2
    | some (.l z),h2=>exact congrArg some h2
    | some (.n z),h2=>cases h2
    | none,h2=>cases h2
theorem iB:Ar (lJ cp nT e):=by
  intro k xss h
  unfold lJ at h
  have h:=dn h
  rw [List.getElem?_map] at h
  obtain⟨p,h1,h2⟩:=Option.map_eq_some_iff.mp h
  match (e[p.1]?).join,h2 with
  | some (.d z),h2=>cases h2
  | some (.l z),h2=>cases h2
  | some (.n z),h2=>cases h2
  | none,h2=>cases h2
theorem jR{k i:Nat}{s:Str}{v:V}(h:cp[k]?=some (i,s))(hv:σ[i]?=some (some v)):(eW cp nT σ)[k]?=some (some v):=by
  unfold eW
  refine du ?_
  rw [List.getElem?_map,h]
  simp [hv]
theorem kU{k i:Nat}{s:Str}{v:V}(h:cp[k]?=some (i,s))(hv:(eW cp nT σ)[k]?=some (some v)):σ[i]?=some (some v):=by
  unfold eW at hv
  have hv:=dn hv
  rw [List.getElem?_map,h] at hv
  simp only [Option.map_some,Option.some.injEq] at hv
  cases q:σ[i]? with
  | none=>rw [q] at hv;cases hv
  | some y=>rw [q] at hv;exact congrArg some hv
theorem mf:∀{cp:List (Nat × Str)} {k j i:Nat} {s t:Str},(cp.map (·.1)).Nodup→cp[k]?=some (i,s)→cp[j]?=some (i,t)→k=j
  | [],k,j,i,s,t,_,h,_=>by simp at h
  | p::r,k,j,i,s,t,hn,h1,h2=>by
    simp only [List.map_cons,List.nodup_cons] at hn
    cases k with
    | zero=>
      simp at h1;subst h1
      cases j with
      | zero=>rfl
      | succ j=>
        have hm:(i,t)∈r:=List.mem_of_getElem? (i:=j) (by simpa using h2)
        exact absurd (List.mem_map.mpr ⟨(i,t),hm,rfl⟩) hn.1
    | succ k=>
      cases j with
      | zero=>
        simp at h2;subst h2
        have hm:(i,s)∈r:=List.mem_of_getElem? (i:=k) (by simpa using h1)
        exact absurd (List.mem_map.mpr ⟨(i,s),hm,rfl⟩) hn.1
      | succ j=>
        have:=mf (cp:=r) (k:=k) (j:=j) hn.2 (by simpa using h1) (by simpa using h2)
        lia
theorem aP.inn(R:aP K F H σ e)(hn:(cp.map (·.1)).Nodup):aP K F H (eW cp nT σ) (lJ cp nT e)∧mS σ e (eW cp nT σ) (lJ cp nT e) (jb cp):=by
  refine⟨⟨R.sm,by simp [eW,lJ],fun k x h=>?_,fun k xs h=>?_,fun k xss h=>absurd h (iB k xss),fun k j l f1 f2=>?_⟩,⟨fun i k xs h1 h2=>?_,fun k ys h=>?_⟩⟩
  · obtain⟨i,s,h1,h2⟩:=gE h
    obtain⟨v,g1,g2⟩:=R.dat i x h2
    exact⟨v,jR h1 g1,g2⟩
  · obtain⟨i,s,h1,h2⟩:=gE h
    obtain⟨l,vs,g1,g2⟩:=R.own i xs h2
    exact⟨l,vs,jR h1 g1,g2⟩
  · obtain⟨xs,h1,h3⟩:=f1.resolve_right fun⟨xss,_,_,z,_⟩=>iB k xss z
    obtain⟨ys,h2,h4⟩:=f2.resolve_right fun⟨xss,_,_,z,_⟩=>iB j xss z
    obtain⟨i,s,a1,a2⟩:=gE h1
    obtain⟨i',s',b1,b2⟩:=gE h2
    have:i=i':=R.inj i i' xs ys l a2 b2 (kU a1 h3) (kU b1 h4)
    subst this
    exact mf hn a1 b1
  · obtain⟨s,g⟩:=eT h2
    obtain⟨l,vs,g1,_⟩:=R.own i xs h1
    rw [g1];exact jR g g1
  · obtain⟨i,s,h1,h2⟩:=gE h
    obtain⟨l,vs,g1,_⟩:=R.own i ys h2
    refine⟨i,ys,h2,?_,by rw [g1];exact jR h1 g1⟩
    cases hp:jb cp i with
    | none=>
      unfold jb at hp
      rw [List.findIdx?_eq_none_iff] at hp
      have:=hp _ (List.mem_of_getElem? h1)
      simp at this
    | some j=>
      obtain⟨t,g⟩:=eT hp
      rw [mf hn g h1]
theorem aP.putT(R:aP K F H σ e){l:Addr}{ws:List V}(h1:F l=none)(h2:¬cX σ e H l):aP K F (aS H l (.lst ws)) σ e∧∀a,cX σ e (aS H l (.lst ws)) a↔ cX σ e H a:=
  R.keep (ao.refl F) (fun b o q=>by
    have z:b≠l:=fun z=>by rw [z,h1] at q;cases q
    rw [aA z];exact R.sm b o q) (fun a ⟨i,h⟩=>(R.fpAt h).1) fun a o ha q=>by
      have z:a≠l:=fun z=>h2 (by rw [←z];exact ha)
      rw [aA z];exact q
theorem cO.putT{W:List Nat}{σ':L2.St}{F' H':Hp}{e':En}(x:cO W σ F H e σ' F' H' e'){l:Addr}{o:HO}(h:H l=none)(ho:∀a,cX σ' e' (aS H' l o) a↔ cX σ' e' H' a):cO W σ F H e σ' F' (aS H' l o) e':=by
  refine⟨x.sf,fun a q=>?_,x.fr,fun a vs q=>?_,fun a u q n=>?_,fun a q=>x.own a ((ho a).mp q),x.wr⟩
  · by_cases z:a=l
    · rw [z];exact h
    · rw [aA z] at q;exact x.dom a q
  · have z:a≠l:=fun z=>by rw [z,h] at q;cases q
    rw [aA z];exact x.lst a vs q
  · have z:a≠l:=fun z=>by rw [z,h] at q;cases q
    rw [aA z];exact x.tmp a u q n
inductive CI (K:PySem.W.Frag) (W:List Nat) (σ0:L2.St) (F1 H1:Hp) (e0:En) (l:Addr) (P:Hp→En→List PyData→Prop) (σ':L2.St) (H':Hp):Prop
  | mk {F':Hp} {ei:En} {acc:List PyData} {vs:List V} (R:aP K F' H' σ' ei) (X:cO W σ0 F1 H1 e0 σ' F' H' ei) (fl:F' l=none) (no:¬cX σ' ei H' l) (hl:H' l=some (.lst vs)) (da:ay K F' acc vs) (hc:P F' ei acc):CI K W σ0 F1 H1 e0 l P σ' H'
theorem oA{Q:VK}{fi:FI}{g:FG}{W:List Nat}{ft:FT}{fe:FE}(hn:(cp.map (·.1)).Nodup)(hW:∀j∈W,cp.length≤j)(h:fE K (bA cp nT fi g ft fe) σ H Q):qB cp nT (fI K fi) (fG K g W) (fT K ft) (fE K fe) σ H Q:=by
  obtain⟨F0,e0,z,e',R0,hf,q⟩:=h
  unfold bA at hf
  obtain⟨⟨items,own,e1⟩,h1,hf⟩:=Option.bind_eq_some_iff.mp hf
  dsimp only at hf
  split at hf
  case isFalse=>cases hf
  case isTrue hO=>
  obtain⟨⟨out,eo⟩,h2,hf⟩:=Option.bind_eq_some_iff.mp hf
  dsimp only at hf
  split at hf
  case isFalse=>cases hf
  case isTrue hB=>
  cases hf
  refine⟨⟨F0,e0,items,own,e1,R0,h1,fun J F1 H1 X1 R1 kp ok=>?_⟩⟩
  intro l hl
  obtain⟨Ri,sub⟩:=R1.inn (nT:=nT) hn
  have hFl:F1 l=none:=R1.freeF hl
  let Iv:Nat→L2.St→Hp→Prop:=fun i=>CI K W (eW cp nT σ) F1 H1 (lJ cp nT e1) l fun _ ei acc=>dt g ft fe (items.drop i) ei acc=some (out,eo)
  have notown:∀p∈own,∀a,σ[p.1]?=some (some (.ref a))→¬cX (eW cp nT σ) (lJ cp nT e1) H1 a:=by
    rintro p hp a ha ⟨k,zf⟩
    obtain⟨xs,c1,c2⟩:=zf.resolve_right fun⟨xss,_,_,z,_⟩=>iB k xss z
    obtain⟨i,s,d1,d2⟩:=gE c1
    have e2:=kU d1 c2
    have:p.1=i:=R1.inj p.1 i p.2 xs a (kp p hp) d2 ha e2
    have hh:=List.all_eq_true.mp hO p hp
    simp only [Bool.not_eq_true',List.any_eq_false,beq_iff_eq] at hh
    exact hh (i,s) (List.mem_of_getElem? d1) this.symm
  refine⟨fun i m σ' H'=>m=items.length - i∧i≤items.length∧Iv i σ' H',⟨items.length,by simp,Nat.zero_le _,.mk (Ri.putT hFl (fun z=>(Ri.ownH l z) hl)).1 (cO.refl.putT hl (Ri.putT hFl (fun z=>(Ri.ownH l z) hl)).2) hFl (fun z=>(Ri.ownH l (((Ri.putT hFl (fun z=>(Ri.ownH l z) hl)).2 l).mp z)) hl) av ay.nil h2⟩,?_⟩
  rintro i m σ' H' ⟨rfl,hi,⟨R',X',fl,no,hl',da,hc⟩⟩
  rename_i F' ei acc vs
  have held:rO K σ F' H' own:=fun p hp=>by
    obtain⟨a,us,c1,c2,c3,c4⟩:=R1.own p.1 p.2 (kp p hp)
    exact⟨a,us,c1,X'.tmp a _ c3 (notown p hp a c1),c4.mono X'.sf⟩
  obtain⟨go,stop,yld⟩:=ok F' H' X'.sf R'.sm held
  by_cases hlt:i < items.length
  · have hd:items.drop i=items[i]::items.drop (i+1):=List.drop_eq_getElem_cons hlt
    rw [hd] at hc
    unfold dt at hc
    obtain⟨e2,c2,hc⟩:=Option.bind_eq_some_iff.mp hc
    obtain⟨⟨b,e3⟩,c3,hc⟩:=Option.bind_eq_some_iff.mp hc
    refine .inr ⟨go i hlt,Iv (i+1),fun σ2 H2 r=>⟨items.length - (i+1),by lia,rfl,hlt,r⟩,fun x H2 hy=>?_⟩
    obtain⟨F2,sH,sF2,sm2,fz,hx⟩:=yld i items[i] x H2 (List.getElem?_eq_getElem hlt) hy
    obtain⟨R2,X2⟩:=R'.step sH sF2 sm2 fz
    refine⟨F2,ei,items[i],e2,R2,hx,c2,fun σ3 X3 R3=>⟨F2,e2,b,e3,R3,c3,fun F4 H4 X4 R4=>?_⟩⟩
    have hlH2:H2 l=some (.lst vs):=sH _ _ hl'
    have no2:¬cX σ' ei H2 l:=fun z=>by
      rcases X2.ow l z with z | z
      · exact no z
      · rw [hl'] at z;cases z
    have no3:¬cX σ3 e2 H2 l:=fun z=>by
      rcases X3.own l z with z | z
      · exact no2 z
      · rw [hlH2] at z;cases z
    have fl2:F2 l=none:=fz l fl (by rw [hl'];simp)
    have hlH4:H4 l=some (.lst vs):=X4.tmp l _ hlH2 no3
    have fl4:F4 l=none:=X4.fr l vs fl2 hlH2 no3
    have no4:¬cX σ3 e3 H4 l:=fun z=>by
      rcases X4.ow l z with z | z
      · exact no3 z
      · rw [hlH2] at z;cases z
    have E4:cO W (eW cp nT σ) F1 H1 (lJ cp nT e1) σ3 F4 H4 e3:=((X'.trans X2.s).trans X3).trans X4.s
    cases b with
    | false=>
      rw [if_neg (by simp)] at hc
      exact AW (.mk R4 E4 fl4 no4 hlH4 (da.mono (sF2.trans X4.sf)) hc)
    | true=>
      rw [if_pos rfl] at hc
      obtain⟨⟨r,e5⟩,c5,hc⟩:=Option.bind_eq_some_iff.mp hc
      obtain⟨d,c6,hc⟩:=Option.bind_eq_some_iff.mp hc
      split at hc
      case isFalse=>cases hc
      case isTrue hlen=>
      refine AX ⟨F4,e3,r,e5,R4,c5,fun F5 H5 v X5 R5 A5=>?_⟩
      have hlH5:H5 l=some (.lst vs):=X5.tmp l _ hlH4 no4
      have fl5:F5 l=none:=X5.fr l vs fl4 hlH4 no4
      have no5:¬cX σ3 e5 H5 l:=fun z=>by
        rcases X5.ow l z with z | z
        · exact no4 z
        · rw [hlH4] at z;cases z
      obtain⟨F6,R6,s6,d6,f6⟩:=cS.frozen R5 (rs:=[r]) (vs:=[v]) ⟨v,[],rfl,A5,rfl⟩ (qR c6)
      have fl6:F6 l=none:=f6 l fl5 (by rw [hlH4];simp)
      have X6:=X5.frz s6 f6
      have ll:=da.len
      have sl:sizeLine=16777216:=sizeLine_eq
      have dv:DA K F6 d v:=by
        simp only [ay] at d6
        obtain⟨v',r',e',hv,_⟩:=d6
        cases e';exact hv
      obtain⟨R7,o7⟩:=R6.putT (ws:=vs++[v]) fl6 no5
      exact⟨vs,hlH5,by lia,.mk R7 ((E4.trans X6.s).putT hl o7) fl6 (fun z=>no5 ((o7 l).mp z)) av ((da.mono (sF2.trans (X4.sf.trans (X5.sf.trans s6)))).append (ay.one dv)) hc⟩
  · have hd:items.drop i=[]:=List.drop_eq_nil_of_le (by lia)
    rw [hd] at hc
    cases hc
    refine .inl ⟨stop i (by lia),?_⟩
    obtain⟨R9,X9,o9⟩:=ou R1 sub iB X'.sf X'.dom X'.fr X'.lst X'.tmp R' (fun i k xs g1 g2=>X'.wr k fun z=>by
      obtain⟨s,g⟩:=eT g2
      have:=(List.getElem?_eq_some_iff.mp g).1
      have:=hW k z
      lia) fun i k xs g1 g2=>by
        obtain⟨s,g⟩:=eT g2
        unfold j0 at hB
        have hb:=List.all_eq_true.mp hB _ (List.mem_of_getElem? g)
        simp only [g1,g2,Option.getD_some,vm,Bool.not_true,Bool.false_or] at hb
        exact vO.mp hb
    exact q F' H' (.ref l) (X1.trans X9) R9 ⟨l,vs,rfl,X1.dom l hl,fl,hl',da,fun z=>R1.ownH l (o9 l z) hl⟩
end
end L2
namespace L2
open PySem PySem.Spec PyProof.Rows
section
variable{X:Cx}{K:PySem.W.Frag}{a b:Expr}{es:List Expr}{fa fb:FE}{fs:FA}{pos p p2 p3:Pos}{lo hi:Option Expr}
def sN:En→Rv→Option Rv:=fun _ x=>(cT x).map fun i=>.d (.int (-i))
theorem Ba:B4 K (rU fun i=>.int (-i)) sN:=by
  intro σ H0 F H e x z v Q R A hg q
  obtain⟨i,h5,h4⟩:=Option.map_eq_some_iff.mp hg
  cases h4
  exact⟨i,bV A h5,q F H _ (dU.refl _ _ _ _) R kQ⟩
theorem Bp(ha:PE X a (fE K fa)):PE X (.UnaryOp .USub a pos) (fE K (Ah sN fa)):=Br Ae Ba ha
theorem cU(hK:X.K=K)(ha:PE X a (fE K fa))(hb:PE X b (fE K fb)):PE X (.BinOp a .Add b pos) (fE K (ap dY fa fb)):=lO (hK ▸ wc) AE ha hb
theorem qi(ha:PE X a (fE K fa))(hb:PE X b (fE K fb)):PE X (.BinOp a .Sub b pos) (fE K (ap gZ fa fb)):=lO zm BG ha hb
theorem cI(hK:X.K=K)(ha:PE X a (fE K fa))(hb:PE X b (fE K fb)):PE X (.BinOp a .Mult b pos) (fE K (ap bG fa fb)):=lO (hK ▸ wg) A_ ha hb
theorem gc(ha:PE X a (fE K fa))(hb:PE X b (fE K fb)):PE X (.BinOp a .FloorDiv b pos) (fE K (ap dZ fa fb)):=lO tV yI ha hb
theorem aQ(ha:PE X a (fE K fa))(hb:PE X b (fE K fb)):PE X (.BinOp a .Mod b pos) (fE K (ap aT fa fb)):=lO wf A9 ha hb
theorem yi(ha:PE X a (fE K fa))(hb:PE X b (fE K fb)):PE X (.BinOp a .Pow b pos) (fE K (ap pq fa fb)):=lO zh Bn ha hb
theorem aF(hK:X.K=K)(ha:PE X a (fE K fa))(hb:PE X b (fE K fb))(hs:l5 b):PE X (.Subscript a b pos) (fE K (ap bf fa fb)):=Bq (hK ▸ CB) CC ha hb hs
theorem wU{fl fh:FO}(hK:X.K=K)(he:PE X a (fE K fa))(hl:PO X lo (fO K fl))(hh:PO X hi (fO K fh)):PE X (.Subscript a (.Slice lo hi none p2) pos) (fE K (Aw fa fl fh)):=by subst hK;exact um he hl hh
structure mQ (X:Cx) (K:PySem.W.Frag) (op:CmpOp) (g:En→Rv→Rv→Option Rv):Prop where
  ex:∃r,fP X (compareOp op) r∧gp K r g
theorem r8:mQ X K .Lt vk:=⟨_,Bf,CG⟩
theorem vB:mQ X K .Gt vM:=⟨_,Be,Ct⟩
theorem AK:mQ X K .GtE AO:=⟨_,Bd,Cs⟩
theorem ma{k:Nat}(hK:X.K=K)(hr:cP k X.A):mQ X K .Eq (c9 false):=⟨_,hK ▸ zb hr,xT⟩
theorem yC{k:Nat}(hK:X.K=K)(hr:cP k X.A):mQ X K .NotEq (c9 true):=⟨_,hK ▸ zg hr,xT⟩
theorem Cp{k:Nat}(hK:X.K=K)(hr:cP k X.A):mQ X K .In (x8 false):=⟨_,hK ▸ zc hr,CA⟩
theorem lN{op:CmpOp}{g:En→Rv→Rv→Option Rv}(h:mQ X K op g)(ha:PE X a (fE K fa))(hb:PE X b (fE K fb))(hm:behindInMarks op b=false):PE X (.Compare a [op] [b] pos) (fE K (ap g fa fb)):=by
  obtain⟨r,h1,h2⟩:=h.ex;exact zI h1 h2 ha hb hm
theorem bD{op:CmpOp}{g:En→Rv→Rv→Option Rv}(h:mQ X K op g)(ha:PE X a (fE K fa))(hb:PE X b (fE K fb))(hm:behindInMarks op b=false):PT X (.Compare a [op] [b] pos) (fT K (a_ (ap g fa fb))):=by
  obtain⟨r,h1,h2⟩:=h.ex;exact zM h1 h2 ha hb hm
structure k8 (X:Cx) (K:PySem.W.Frag) (x:Str) (g:En→List Rv→Option Rv):Prop where
  ex:(∃id r,cD X (.builtin id) r∧cR K r g∧bootBuiltins x=some (.builtin id))∨∃T r,cD X (.type T) r∧cR K r g∧bootBuiltins x=some (.type T)
theorem bi{x:Str}{g:En→List Rv→Option Rv}(h:k8 X K x g)(hg:Gl X x)(hm:X.mg x=none)(ha:PA X (a::es) (fA K fs))(hn:x≠"__name__")(hdb:(x==("__debug__":Str))=false)
    (he:starEach (a::es) X.env=(false,eval a X.env)::starEach es X.env)(hpl:(backTo pos (starEach es X.env)).any (·.1)=false):PE X (.Call (.Name x p) (a::es) [] pos) (fE K (aO g fs)):=by
  rcases h.ex with ⟨id,r,h1,h2,h3⟩ | ⟨T,r,h1,h2,h3⟩
  · exact uk h1 h2 hg hm h3 ha hn hdb he hpl
  · exact ro h1 h2 hg hm h3 ha hn hdb he hpl
theorem b_len(hK:X.K=K):k8 X K "len" (g1 iy):=⟨.inl ⟨_,_,hK ▸ md,AZ,PySem.boot_len⟩⟩
theorem b_abs:k8 X K "abs" (g1 qT):=⟨.inl ⟨_,_,r9,AD,PyProof.Rows.boot_abs⟩⟩
theorem b_min(hc:X.calm=true):k8 X K "min" (g2 sJ):=⟨.inl ⟨_,_,qP hc,A8,PyProof.Rows.boot_min⟩⟩
theorem b_max(hc:X.calm=true):k8 X K "max" (g2 qU):=⟨.inl ⟨_,_,qO hc,A7,PyProof.Rows.boot_max⟩⟩
theorem b_int:k8 X K "int" (g1 nh):=⟨.inr ⟨_,_,qN,AV,PyProof.Rows.boot_int⟩⟩
theorem b_tuple(hK:X.K=K):k8 X K "tuple" (g1 bQ):=⟨.inr ⟨_,_,hK ▸ k_,xu,PyProof.Rows.boot_tuple⟩⟩
theorem b_sorted(hK:X.K=K):k8 X K "sorted" (g1 pv):=⟨.inl ⟨_,_,hK ▸ oX,xh,PyProof.Rows.boot_sorted⟩⟩
theorem b_repr{k:Nat}(hK:X.K=K)(hr:cP k X.A):k8 X K "repr" (g1 fW):=⟨.inl ⟨_,_,hK ▸ oW hr,zT,PyProof.Rows.boot_repr⟩⟩
abbrev b_:FT:=fun e=>some (true,e)
theorem rP.mono{ifs:List Expr}{t t':TT}(h:rP X ifs t)(m:∀σ H Q,t' σ H Q→t σ H Q):rP X ifs t':=fun pins s σ H Q I q=>h pins s σ H Q I (m σ H Q q)
theorem gK:rP X [] (fT K b_):=wM.mono fun σ H Q h=>by
  obtain⟨F,e,b,e',R,hf,q⟩:=h
  cases hf
  exact q F H (dU.refl _ _ _ _) R
theorem iL{c:Expr}{ft:FT}(h:PT X c (fT K ft)):rP X [c] (fT K ft):=wN h
theorem gb{elt iter tg:Expr}{ifs:List Expr}{scope:Scope}{fi:FI}{g:FG}{ft:FT}{fe:FE}{W:List Nat}(sc0:Scope)(N0:List Str)(cp:List (Nat × Str))(tgN:List Str)
    (hc:X.calm=true)(hsc:X.env.scope=sc0)(hN0:X.N=N0)(hi:PI X tg iter (fI K fi))
    (hg:∀C s0 H0 fp,PG (aB X scope cp tgN C s0 H0 fp) tg (fG K g W))
    (ht:∀C s0 H0 fp,rP (aB X scope cp tgN C s0 H0 fp) ifs (fT K ft))
    (he:∀C s0 H0 fp,PE (aB X scope cp tgN C s0 H0 fp) elt (fE K fe))
    (hk:scope.kind=.function)(hcell:∀y∈scope.names,y.2≠.cell)(hnames:∀y∈scope.names,y.2=.local→scope.names.lookup y.1=some .local)
    (hfr:∀y∈scope.names,y.2=.free→scope.names.lookup y.1=some .free∧sc0.names.lookup y.1=some .cell)
    (hcp:∀p∈cp,N0[p.1]?=some p.2)(hcq:∀p∈cp,sc0.names.lookup p.2=some .cell∧scope.names.lookup p.2=some .free)(hnd:(cp.map (·.1)).Nodup)(hW:∀j∈W,cp.length≤j)
    (hs:∀x,foldedSetIterable iter X.env x=pure x):
    PE X (.ListComp elt [⟨tg,iter,ifs,0⟩] scope pos) (fE K (bA cp tgN.length fi g ft fe)):=(ww sc0 N0 cp tgN hc hsc hN0 hi hg ht he hk hcell hnames hfr hcp hcq hs).mono fun _ _ _ h=>oA hnd hW h
theorem je{ix:Nat}{nm:Str}{posn poss:Pos}{elt iter tg:Expr}{ifs:List Expr}{scope:Scope}{fi:FI}{g:FG}{ft:FT}{fe:FE}{W:List Nat}(sc0:Scope)(N0:List Str)(cp:List (Nat × Str))(tgN:List Str)
    (hc:X.calm=true)(hsc:X.env.scope=sc0)(hN0:X.N=N0)(hi:PI X tg iter (fI K fi))
    (hg:∀C s0 H0 fp,PG (aB X scope cp tgN C s0 H0 fp) tg (fG K g W))
    (ht:∀C s0 H0 fp,rP (aB X scope cp tgN C s0 H0 fp) ifs (fT K ft))
    (he:∀C s0 H0 fp,PE (aB X scope cp tgN C s0 H0 fp) elt (fE K fe))
    (hk:scope.kind=.function)(hcell:∀y∈scope.names,y.2≠.cell)(hnames:∀y∈scope.names,y.2=.local→scope.names.lookup y.1=some .local)
    (hfr:∀y∈scope.names,y.2=.free→scope.names.lookup y.1=some .free∧sc0.names.lookup y.1=some .cell)
    (hcp:∀p∈cp,N0[p.1]?=some p.2)(hcq:∀p∈cp,sc0.names.lookup p.2=some .cell∧scope.names.lookup p.2=some .free)(hnd:(cp.map (·.1)).Nodup)(hW:∀j∈W,cp.length≤j)
    (hNd:X.N.Nodup)(hix:X.N[ix]?=some nm)(hlc:X.env.scope.names.lookup nm=some .local)(hsw:swapsWith (.ListComp elt [⟨tg,iter,ifs,0⟩] scope pos) (some (.Name nm posn)) poss.line X.env=pure true)
    (hs:∀x,foldedSetIterable iter X.env x=pure x):
    PS X (.Assign [.Name nm posn] (.ListComp elt [⟨tg,iter,ifs,0⟩] scope pos) poss) (fS K (aR ix (bA cp tgN.length fi g ft fe)) [ix]):=(pH sc0 N0 cp tgN hc hsc hN0 hi hg ht he hk hcell hnames hfr hcp hcq hNd hix hlc hsw hs).mono fun D σ H h=>by
  obtain⟨F,e,fl,R,hf,q⟩:=h
  unfold aR at hf
  obtain⟨⟨r,e1⟩,h1,hf⟩:=Option.bind_eq_some_iff.mp hf
  obtain⟨e2,h2,hf⟩:=Option.map_eq_some_iff.mp hf
  cases hf
  refine oA hnd hW ⟨F,e,r,e1,R,h1,fun F1 H1 v X1 R1 A1=>?_⟩
  obtain⟨x,R2⟩:=uh R X1 R1 A1 h2
  exact q F1 H1 _ x R2
variable{o:Expr}{fo:FE}{apos cpos:Pos}
theorem bW(hK:X.K=K)(ho:PE X o (fE K fo))(ha:PA X (a::es) (fA K fs))(hbase:attributeBase o "append" X.env (eval o X.env)=eval o X.env)
    (hfew:((backTo cpos (starEach (a::es) X.env)).all (fun x=> !x.1)&&(backToKw cpos (keywordEach [] X.env)).all (fun x=>x.1.isSome)
      &&decide ((a::es).length+([]:List Keyword).length+(if ([]:List Keyword).isEmpty then 0 else 1) < 30))=true)
    (hline:(apos.endLine==cpos.line)=true)(hs:starEach (a::es) X.env=(false,eval a X.env)::starEach es X.env)(hplain:(backTo cpos (starEach es X.env)).any (·.1)=false):
    PE X (.Call (.Attribute o "append" apos) (a::es) [] cpos) (fE K (cz bu fo fs)):=by
  subst hK;exact uj PySem.F.slot_list_append PySem.F.type_list_append i9 rR ho ha hbase hfew hline hs hplain
theorem wR(hK:X.K=K)(ho:PE X o (fE K fo))(ha:PA X (a::es) (fA K fs))(hbase:attributeBase o "pop" X.env (eval o X.env)=eval o X.env)
    (hfew:((backTo cpos (starEach (a::es) X.env)).all (fun x=> !x.1)&&(backToKw cpos (keywordEach [] X.env)).all (fun x=>x.1.isSome)
      &&decide ((a::es).length+([]:List Keyword).length+(if ([]:List Keyword).isEmpty then 0 else 1) < 30))=true)
    (hline:(apos.endLine==cpos.line)=true)(hs:starEach (a::es) X.env=(false,eval a X.env)::starEach es X.env)(hplain:(backTo cpos (starEach es X.env)).any (·.1)=false):
    PE X (.Call (.Attribute o "pop" apos) (a::es) [] cpos) (fE K (cz i8 fo fs)):=by
  subst hK;exact uj PySem.F.slot_list_pop PySem.F.type_list_pop tJ wF ho ha hbase hfew hline hs hplain
end
end L2
namespace L2
open PySem PySem.Spec PyProof.Rows
theorem pL{K:PySem.W.Frag}{H:Hp}{a:Addr}{ns:List Int}{m:FM}{as':List Sv}{Q:VK}{E:XK}(hS:fH K H a (ns.map V.int))(hm:m [.d (.list (ns.map .int))]=some (.d (.bool true),as'))(q:∀H',Q (.bl true) H'):cC K 1 m [.ref a] H Q E:=by
  refine⟨rfl,H,[.d (.list (ns.map .int))],_,as',?_,?_,hm,trivial,fun F' H' v X' R' A'=>?_⟩
  · refine⟨ao.refl _,rfl,fun i x h=>?_,fun i xs h=>?_,fun i xss h=>?_,fun i j l f1 _=>?_⟩
    · match i,h with
      | 0,h=>
        simp at h;subst h
        exact⟨.ref a,rfl,dW.mpr ⟨a,_,rfl,hS,ay.ints.mpr rfl⟩⟩
      | i+1,h=>simp at h
    · match i,h with
      | 0,h=>simp at h
      | i+1,h=>simp at h
    · match i,h with
      | 0,h=>simp at h
      | i+1,h=>simp at h
    · rcases f1 with ⟨_,h,_⟩ | ⟨_,_,_,h,_⟩
      · match i,h with
        | 0,h=>simp at h
        | i+1,h=>simp at h
      · match i,h with
        | 0,h=>simp at h
        | i+1,h=>simp at h
  · intro i xss h
    match i,h with
    | 0,h=>simp at h
    | i+1,h=>simp at h
  · rw [eu.mp (show DA K F' (.bool true) v from A')];exact q H'
end L2
namespace L2
open PySem PySem.Spec PyProof.Rows
section
variable{K:PySem.W.Frag}{σ:L2.St}{H0 F H F' H':Hp}{e e':En}
end
section
variable{X:Cx}{K:PySem.W.Frag}{a b:Expr}{es:List Expr}{fa fb:FE}{fs:FA}{pos p p2 p3 pos':Pos}{x:Str}{i:Nat}
def nC(k:Int):En→Option Int:=fun _=>some k
end
end L2
namespace L2
open PySem PySem.Spec PyProof.Rows
theorem iZ{C:Int→Int→Bool}{f:Int→Int→PyData}{e:En}{i j:Int}(h:C i j=true):gI C f e (.d (.int i)) (.d (.int j))=some (.d (f i j)):=by simp [gI,cT,h]
theorem m_{e:En}{i j:Int}:dY e (.d (.int i)) (.d (.int j))=some (.d (.int (i+j))):=rfl
theorem ka{e:En}{i j:Int}:gZ e (.d (.int i)) (.d (.int j))=some (.d (.int (i - j))):=rfl
theorem a8{e:En}{i j:Int}(h:hR i j=true):bG e (.d (.int i)) (.d (.int j))=some (.d (.int (i*j))):=by
  unfold bG ya sL;rw [iZ h];rfl
theorem tK{i j:Int}(h1: -(2 ^ 64) < i)(h2:i < 2 ^ 64):hR i j=true:=by
  have:fD i=true:=by unfold fD;rw [decide_eq_true h1,decide_eq_true h2];rfl
  unfold hR;rw [this];simp
theorem ku{i j:Int}(h1: -(2 ^ 64) < j)(h2:j < 2 ^ 64):hR i j=true:=by
  have:fD j=true:=by unfold fD;rw [decide_eq_true h1,decide_eq_true h2];rfl
  unfold hR;rw [this];simp
theorem d_{i j:Int}(h1:Bt 4000 i)(h2:Bt 4000 j):hR i j=true:=by unfold hR;rw [ff.mpr h1,ff.mpr h2];simp
theorem aI{e:En}{i j:Int}(h:0 < j):aT e (.d (.int i)) (.d (.int j))=some (.d (.int (i % j))):=by
  unfold aT;rw [iZ (by simp;lia)]
  rw [Int.fmod_eq_emod_of_nonneg i (by lia)]
theorem dR{e:En}{i j:Int}(h:0 < j)(h2:Bt 8000 j):dZ e (.d (.int i)) (.d (.int j))=some (.d (.int (i / j))):=by
  unfold dZ;rw [iZ (by simp [ff.mpr h2];lia)]
  rw [Int.fdiv_eq_ediv_of_nonneg i (by lia)]
theorem mq{e:En}{i j:Int}{neg:Bool}:c9 neg e (.d (.int i)) (.d (.int j))=some (.d (.bool (if neg then !(i==j) else i==j))):=by
  unfold c9;simp [gR,SeqAt.shaped,PyData.canLay0,PyData.depth,PyData.eqv]
theorem qc{e:En}{i j:Int}:vk e (.d (.int i)) (.d (.int j))=some (.d (.bool (decide (i < j)))):=rfl
theorem qa{e:En}{i j:Int}:Dv e (.d (.int i)) (.d (.int j))=some (.d (.bool (decide (i≤j)))):=rfl
theorem p_{e:En}{i j:Int}:vM e (.d (.int i)) (.d (.int j))=some (.d (.bool (decide (j < i)))):=rfl
theorem p9{e:En}{i j:Int}:AO e (.d (.int i)) (.d (.int j))=some (.d (.bool (decide (j≤i)))):=rfl
theorem nj{e:En}{i j:Int}:g2 sJ e [.d (.int i),.d (.int j)]=some (.d (.int (min i j))):=by
  show some (Rv.d (.int (if j < i then j else i)))=_
  congr 3
  split<;>lia
theorem ni{e:En}{i j:Int}:g2 qU e [.d (.int i),.d (.int j)]=some (.d (.int (max i j))):=by
  show some (Rv.d (.int (if j > i then j else i)))=_
  congr 3
  split<;>lia
theorem kb{e:En}{i:Int}:sN e (.d (.int i))=some (.d (.int (-i))):=rfl
theorem lF{e:En}{b:Bool}:g1 nh e [.d (.bool b)]=some (.d (.int (if b then 1 else 0))):=rfl
theorem m9{e:En}{i:Int}:g1 qT e [.d (.int i)]=some (.d (.int i.natAbs)):=by
  show some (Rv.d (.int (if i < 0 then -i else i)))=_
  congr 3
  split<;>lia
theorem j3{j:Int}(h1:0 < j)(h2:j < 2 ^ 64):Bt 8000 j:=Bt.mono (m:=64) (by unfold Bt;lia) (by decide)
theorem eZ{α:Type}{xs:List α}{i:Int}(h0:0≤i)(h:i < xs.length):atI xs i=xs[i.toNat]?:=by
  unfold atI Aq
  rw [if_pos h0,if_pos h];rfl
theorem ng{e:En}{i:Nat}{xs:List PyData}{neg:Bool}(h:e[i]?=some (some (.l xs)))(hs:SeqAt.shaped (.list xs)=true):c9 neg e (.s i) (.l [])=some (.d (.bool (if neg then !xs.isEmpty else xs.isEmpty))):=by
  unfold c9
  simp only [gR,h,Option.bind_some,hs]
  have h0:SeqAt.shaped (.list [])=true:=by simp [SeqAt.shaped,PyData.canLay0,PyData.canLayAll0,PyData.depth,PyData.depthAll]
  rw [h0]
  cases xs<;>simp [PyData.eqv,PyData.eqvAll]
theorem jy(ns:List Int):SeqAt.shaped (.list (ns.map .int))=true∧SeqAt.shaped (.tuple (ns.map .int))=true:=by
  have h1:PyData.canLayAll0 (ns.map PyData.int)=true:=by
    induction ns with
    | nil=>rfl
    | cons n r ih=>simp [PyData.canLayAll0,PyData.canLay0,ih]
  have h2:PyData.depthAll (ns.map PyData.int)=0:=by
    clear h1
    induction ns with
    | nil=>rfl
    | cons n r ih=>simp [PyData.depthAll,PyData.depth,ih]
  constructor<;>simp [SeqAt.shaped,PyData.canLay0,PyData.depth,h1,h2]
theorem a'{own:eK}{g:FG}{f:FS}(P:Nat→En→Prop):∀(items:List PyData) (k:Nat) (e:En),(∀i x e,items[i]?=some x→P (k+i) e→∃e1 e2,g x e=some e1∧f e1=some (.nx e2)∧keeps own e2∧P (k+i+1) e2)→P k e→∃e',lc own g f items e=some (.nx e')∧P (k+items.length) e'
  | [],k,e,_,h=>⟨e,rfl,h⟩
  | x::r,k,e,hs,h=>by
    obtain⟨e1,e2,h1,h2,h3,h4⟩:=hs 0 x e rfl h
    obtain⟨e',h5,h6⟩:=a' P r (k+1) e2 (fun i y e hy hp=>by
      have:=hs (i+1) y e (by simpa using hy) (by rw [show k+(i+1)=k+1+i by lia];exact hp)
      rw [show k+(i+1)+1=k+1+i+1 by lia] at this
      exact this) h4
    refine⟨e',?_,by rw [List.length_cons,show k+(r.length+1)=k+1+r.length by lia];exact h6⟩
    unfold lc
    simp only [h1,h2,Option.bind_some,if_pos h3]
    exact h5
theorem bh{e:En}:keeps [] e:=fun _ h=>by cases h
theorem bO{W:List Nat}{fi:FI}{g:FG}{f:FS}{e e1:En}{items:List PyData}(h:fi e=some (items,[],e1)):cQ W fi g f e=lc [] g f items e1:=by
  unfold cQ;rw [h];rfl
theorem cv{lo:Int}{n i:Nat}{x:PyData}(h:(aM lo n)[i]?=some x):x=.int (lo+i)∧i < n:=by
  unfold aM at h
  rw [List.getElem?_map] at h
  obtain⟨k,h1,rfl⟩:=Option.map_eq_some_iff.mp h
  obtain⟨h2,h3⟩:=List.getElem?_eq_some_iff.mp h1
  simp at h2 h3
  subst h3
  exact⟨rfl,h2⟩
theorem dh{lo:Int}{n:Nat}:(aM lo n).length=n:=by simp [aM]
theorem ck{fs:FA}{e e1:En}{n:Int}(h:fs e=some ([.d (.int n)],e1))(h1: -1000000≤n)(h2:n≤1000000):bM fs e=some (aM 0 n.toNat,[],e1):=by
  unfold bM;rw [h]
  have:uC n=true:=by unfold uC;rw [decide_eq_true h1,decide_eq_true h2];rfl
  simp [cT,this]
theorem ic{ft:FT}{f:FS}(P:En→Prop)(μ:En→Nat)(hs:∀e,P e→(∃e1,ft e=some (false,e1)∧True)∨∃e1 e2,ft e=some (true,e1)∧f e1=some (.nx e2)∧P e2∧μ e2 < μ e):
    ∀(n:Nat) (e:En),P e→μ e < n→∃e0 e',fF ft f n e=some (.nx e')∧P e0∧ft e0=some (false,e'):=by
  intro n
  induction n with
  | zero=>intro e _ h;lia
  | succ n ih=>
    intro e hp hm
    rcases hs e hp with ⟨e1,h1,_⟩ | ⟨e1,e2,h1,h2,h3,h4⟩
    · exact⟨e,e1,by unfold fF;rw [h1];rfl,hp,h1⟩
    · obtain⟨e0,e',g1,g2⟩:=ih e2 h3 (by lia)
      exact⟨e0,e',by unfold fF;rw [h1];simp only [Option.bind_some,if_true,h2];exact g1,g2⟩
theorem bB{cs:En}{ft:FT}{fe:FE}{b:PyData→Bool}{y:PyData→PyData}:∀(items:List PyData) (t:Option Sv) (acc:List PyData),(∀x∈items,ft (cs++[some (.d x)])=some (b x,cs++[some (.d x)]))→(∀x∈items,b x=true→fe (cs++[some (.d x)])=some (.d (y x),cs++[some (.d x)]))→
    acc.length+items.length≤1000000→∃t',dt (ag cs.length) ft fe items (cs++[t]) acc=some (acc++(items.filter b).map y,cs++[t'])
  | [],t,acc,_,_,_=>⟨t,by simp [dt]⟩
  | x::r,t,acc,h1,h2,hl=>by
    have hg:ag cs.length x (cs++[t])=some (cs++[some (.d x)]):=by simp [ag]
    have h1x:=h1 x (by simp)
    unfold dt
    rw [hg]
    simp only [Option.bind_some,h1x]
    cases hb:b x with
    | true=>
      simp only [if_true,h2 x (by simp) hb,Option.bind_some,o_]
      rw [if_pos (by simp at hl;lia)]
      obtain⟨t',ih⟩:=bB (b:=b) (y:=y) r (some (.d x)) (acc++[y x]) (fun z hz=>h1 z (by simp [hz])) (fun z hz=>h2 z (by simp [hz])) (by simp at hl ⊢;lia)
      exact⟨t',by rw [ih];simp [hb]⟩
    | false=>
      simp only [Bool.false_eq_true,if_false]
      obtain⟨t',ih⟩:=bB (b:=b) (y:=y) r (some (.d x)) acc (fun z hz=>h1 z (by simp [hz])) (fun z hz=>h2 z (by simp [hz])) (by simp at hl;lia)
      exact⟨t',by rw [ih];simp [hb]⟩
theorem kf{fa:FE}{e e1:En}{xs:List PyData}(h:fa e=some (.d (.tuple xs),e1)):eH fa e=some (xs,[],e1):=by
  unfold eH;rw [h];rfl
theorem vN{fa:FE}{e e1:En}{xs:List PyData}(h:fa e=some (.d (.list xs),e1)):eH fa e=some (xs,[],e1):=by
  unfold eH;rw [h];rfl
theorem my{fa:FE}{e e1:En}{xs:List PyData}(h:fa e=some (.l xs,e1)):eH fa e=some (xs,[],e1):=by
  unfold eH;rw [h];rfl
theorem dz{cp:List (Nat × Str)}{nT:Nat}{fi:FI}{g:FG}{ft:FT}{fe:FE}{e e1 cs:En}{t t':En}{items out:List PyData}(h1:fi e=some (items,[],e1))(hc:lJ cp nT e1=cs++t)(hl:cs.length=cp.length)(h3:dt g ft fe items (lJ cp nT e1) []=some (out,cs++t')):bA cp nT fi g ft fe e=some (.l out,e1):=by
  have key:∀i x,e1[i]?=some (some (.l x))→∀k,jb cp i=some k→(cs++t')[k]?=some (some (.l x)):=by
    intro i x hi k hk
    obtain⟨s,hs⟩:=eT hk
    have hk2:k < cp.length:=(List.getElem?_eq_some_iff.mp hs).1
    have:(lJ cp nT e1)[k]?=some (some (.l x)):=by
      unfold lJ
      rw [List.getElem?_append_left (by simpa using hk2),List.getElem?_map,hs]
      simp [hi,A0]
    rw [hc,List.getElem?_append_left (by lia)] at this
    rw [List.getElem?_append_left (by lia)]
    exact this
  unfold bA
  rw [h1]
  simp only [Option.bind_some,List.all_nil,if_true,h3]
  have hb:j0 cp (cs++t') e1=true:=by
    unfold j0
    rw [List.all_eq_true]
    intro p hp
    match hi:e1[p.1]? with
    | none=>simp [vm]
    | some none=>simp [vm]
    | some (some (.d x))=>simp [vm]
    | some (some (.n x))=>simp [vm]
    | some (some (.l x))=>
      cases hq:jb cp p.1 with
      | none=>
        unfold jb at hq
        rw [List.findIdx?_eq_none_iff] at hq
        have:=hq p hp
        simp at this
      | some k=>simp [key p.1 x hi k hq,vm]
  rw [if_pos hb]
  congr 2
  refine List.ext_getElem? fun i=>?_
  rw [bz]
  match hi:e1[i]? with
  | none=>rfl
  | some none=>rfl
  | some (some (.d x))=>rfl
  | some (some (.n x))=>rfl
  | some (some (.l x))=>
    cases hp:jb cp i with
    | none=>simp [hp]
    | some k=>simp [hp,key i x hi k hp]
theorem gU{α:Type}{xs:List α}{i:Int}(h0:0≤i)(h1:i < xs.length):∃x∈xs,atI xs i=some x:=by
  rw [eZ h0 h1]
  exact⟨xs[i.toNat]'(by lia),List.getElem_mem _,List.getElem?_eq_getElem _⟩
theorem x9{e:En}{xs:List PyData}{i:Int}:bf e (.l xs) (.d (.int i))=(atI xs i).map .d:=rfl
theorem lG{e:En}{xs:List PyData}{i:Int}:bf e (.d (.tuple xs)) (.d (.int i))=(atI xs i).map .d:=rfl
theorem sD{e:En}{xs:List PyData}{i:Int}:bf e (.d (.list xs)) (.d (.int i))=(atI xs i).map .d:=rfl
theorem x_{e:En}{j:Nat}{xs:List PyData}{i:Int}(h:e[j]?=some (some (.l xs))):bf e (.s j) (.d (.int i))=(atI xs i).map .d:=by
  simp [bf,dG,h,cT]
theorem sI{e:En}{xs:List PyData}:g1 iy e [.d (.tuple xs)]=some (.d (.int xs.length)):=rfl
theorem qb{e:En}{xs:List PyData}:g1 iy e [.d (.list xs)]=some (.d (.int xs.length)):=rfl
theorem sE{e:En}{xs:List PyData}:g1 iy e [.l xs]=some (.d (.int xs.length)):=rfl
theorem sG{e:En}{j:Nat}{xs:List PyData}(h:e[j]?=some (some (.l xs))):g1 iy e [.s j]=some (.d (.int xs.length)):=by
  simp [g1,iy,dG,h]
theorem nv{e:En}{j:Nat}{xs:List PyData}(h:e[j]?=some (some (.l xs))):g1 bQ e [.s j]=some (.d (.tuple xs)):=by
  simp [g1,bQ,dG,h]
theorem nu{e:En}{xs:List PyData}:g1 bQ e [.l xs]=some (.d (.tuple xs)):=rfl
theorem lH{e:En}{xs:List PyData}:g1 bQ e [.d (.list xs)]=some (.d (.tuple xs)):=rfl
theorem ny{e:En}{xs:List PyData}:g1 bQ e [.d (.tuple xs)]=some (.d (.tuple xs)):=rfl
theorem yc{e:En}{xs:List PyData}{lo hi:Option Int}:Cr e (.d (.tuple xs)) lo hi=some (.d (.tuple (cutD xs lo hi))):=rfl
theorem sy{e:En}{xs ys:List PyData}(h:xs.length+ys.length≤1000000):dY e (.d (.tuple xs)) (.d (.tuple ys))=some (.d (.tuple (xs++ys))):=by
  simp [dY,ya,x6,gI,cT,p8,dG,h]
theorem yK{e:En}{i j:Int}(h:j≠0):aT e (.d (.int i)) (.d (.int j))=some (.d (.int (i.fmod j))):=by
  unfold aT;rw [iZ (by simpa using h)]
theorem vL{e:En}{i j:Int}(h:j≠0)(h2:Bt 8000 j):dZ e (.d (.int i)) (.d (.int j))=some (.d (.int (i.fdiv j))):=by
  unfold dZ;rw [iZ (by simp [ff.mpr h2,h])]
theorem iz{e:En}{i j:Int}(h:ue i j=true):pq e (.d (.int i)) (.d (.int j))=some (.d (.int (i ^ j.toNat))):=by
  unfold pq;rw [iZ h]
theorem iJ:ue 10 18=true:=by decide
theorem bF{f g:FS}{e e1:En}(h:f e=some (.nx e1)):aC f g e=g e1:=by unfold aC;rw [h];rfl
theorem BD{ft:FT}{f g:FS}{e e1:En}(h:ft e=some (true,e1)):lh ft f g e=f e1:=by unfold lh;rw [h];rfl
theorem BC{ft:FT}{f g:FS}{e e1:En}(h:ft e=some (false,e1)):lh ft f g e=g e1:=by unfold lh;rw [h];rfl
def lK(i:Nat)(e:En):Nat:=match e[i]? with
  | some (some (.l xs))=>xs.length
  | _=>0
def tL(i:Nat)(e:En):Nat:=match e[i]? with
  | some (some (.d (.int k)))=>k.natAbs
  | _=>0
theorem mD{n m:Nat}(h:n < 2 ^ m)(hm:m≤4200):n < 2 ^ 4200:=Nat.lt_of_lt_of_le h (Nat.pow_le_pow_right (by decide) hm)
theorem l9{α:Type}{a:α}{r:List α}:atI (a::r) 0=some a:=by
  rw [eZ (by decide) (by simp)];rfl
theorem oR{α:Type}{a b:α}{r:List α}:atI (a::b::r) 1=some b:=by
  rw [eZ (by decide) (by simp;lia)];rfl
theorem oS{α:Type}{a b c:α}{r:List α}:atI (a::b::c::r) 2=some c:=by
  rw [eZ (by decide) (by simp;lia)];rfl
theorem oT{α:Type}{a b c d:α}{r:List α}:atI (a::b::c::d::r) 3=some d:=by
  rw [eZ (by decide) (by simp;lia)];rfl
theorem mU{W:aW}{k:Int}(h:oJ W k):atI (W.ties.map bS) k=some (bS (W.tie k)):=by
  rw [eZ h.1 (by rw [List.length_map];exact h.2),List.getElem?_map,h.get];rfl
theorem fQ{ns:List Int}{k:Int}(h0:0≤k)(h1:k < (ns.length:Int)):atI (ns.map PyData.int) k=some (.int (ns.getD k.toNat 0)):=by
  rw [eZ h0 (by rw [List.length_map];exact h1),List.getElem?_map]
  have:k.toNat < ns.length:=by lia
  simp [this]
theorem xR{a b c d:PyData}:cutD [a,b,c,d] none (some 2)=[a,b]:=rfl
theorem lC{a b c d:PyData}:cutD [a,b,c,d] (some 2) none=[c,d]:=rfl
theorem lB{a b c:PyData}:cutD [a,b,c] (some 1) none=[b,c]:=rfl
theorem mY(ns:List Int):PyData.canLayAll0 (ns.map PyData.int)=true:=by
  induction ns with
  | nil=>rfl
  | cons n r ih=>simp [PyData.canLayAll0,PyData.canLay0,ih]
theorem mT{x:Int}:∀(ns:List Int),((ns.map PyData.int).any fun y=>PyData.eqv y (.int x))=ns.contains x
  | []=>rfl
  | n::r=>by
    rw [List.map_cons,List.any_cons,mT r,List.contains_cons]
    show(n==x || _)=_
    rw [show(n==x)=(x==n) by rw [Bool.eq_iff_iff];simp;exact eq_comm]
theorem j'{e:En}{x:Int}{ns:List Int}{neg:Bool}:x8 neg e (.d (.int x)) (.d (.tuple (ns.map .int)))=some (.d (.bool (if neg then !ns.contains x else ns.contains x))):=by
  unfold x8
  simp only [gR,dG,Option.bind_some,mY,mT]
  simp [PyData.canLay0,PyData.depth]
theorem mr{e:En}{x a b:Int}{neg:Bool}:x8 neg e (.d (.int x)) (.d (.tuple [.int a,.int b]))=some (.d (.bool (if neg then !(a==x || b==x) else(a==x || b==x)))):=by
  have h:=j' (e:=e) (x:=x) (ns:=[a,b]) (neg:=neg)
  simp only [List.map_cons,List.map_nil] at h
  rw [h]
  have:[a,b].contains x=(a==x || b==x):=by
    simp only [List.contains_cons,List.contains_nil,Bool.or_false]
    rw [show(x==a)=(a==x) by rw [Bool.eq_iff_iff];simp;exact eq_comm,show(x==b)=(b==x) by rw [Bool.eq_iff_iff];simp;exact eq_comm]
  rw [this]
theorem iu(W:aW):au W=.tuple [.int W.things,.tuple (W.ties.map bS),.tuple (W.pat.map .int),.int W.asks]:=rfl
end L2
namespace L2
open PySem PySem.Spec PyProof.Rows
abbrev Std:=List Int × List Int
structure AA (W:aW) (s:Std):Prop where
  inw:∀k∈s.1,oJ W k
  nd:s.1.Nodup
  tk:s.2.length≤2*s.1.length
  th:∀t∈s.2,0≤t∧t < W.things
def nxt(W:aW)(s:Std)(k:Int)(b:Bool):Std:=(aW.askd s.1 k,W.took s.2 k b)
structure Nd where
  tie:Int
  yes:Int
  no:Int
def Ax(W:aW)(n:Nat)(S:Nat→Std)(i:Nat)(k:Int)(b:Bool)(l:Int):Prop:=l= -1∨(0≤l∧l < (n:Int)∧S l.toNat=nxt W (S i) k b)
structure Ck (W:aW) (n:Nat) (S:Nat→Std) (i:Nat) (x:Nd):Prop where
  tie:oJ W x.tie
  st:AA W (S i)
  may:W.may (S i).1 (S i).2 x.tie=true
  yes:Ax W n S i x.tie true x.yes
  no:Ax W n S i x.tie false x.no
def Cm(W:aW)(T:List Nd)(S:Nat→Std):Prop:=∀(i:Nat) (x:Nd),T[i]?=some x→Ck W T.length S i x
structure Wt where
  st:Std
  par:Int
  side:Int
structure Dn (W:aW) (T:List Nd) (S:Nat→Std) (ws:List Wt):Prop where
  tr:Cm W T S
  wt:∀w∈ws,AA W w.st∧(w.par= -1∨∃(p:Nat) (x:Nd),w.par=(p:Int)∧T[p]?=some x∧((w.side=0∧w.st=L2.nxt W (S p) x.tie true)∨(w.side=1∧w.st=L2.nxt W (S p) x.tie false)))
  side:∀w∈ws,w.side=0∨w.side=1
end L2
namespace L2
open PySem PySem.Spec PyProof.Rows
theorem jk{cp:List (Nat × Str)}{nT:Nat}{fi:FI}{g:FG}{ft:FT}{fe:FE}{e e1 cs:En}{t t':En}{items out:List PyData}{own:eK}(h1:fi e=some (items,own,e1))(ho:(own.all fun q=> !(cp.any fun c=>c.1==q.1))=true)(hc:lJ cp nT e1=cs++t)(hl:cs.length=cp.length)(h3:dt g ft fe items (lJ cp nT e1) []=some (out,cs++t')):bA cp nT fi g ft fe e=some (.l out,e1):=by
  have key:=dz (cp:=cp) (nT:=nT) (fi:=fun _=>some (items,[],e1)) (g:=g) (ft:=ft) (fe:=fe) (e:=e) rfl hc hl h3
  unfold bA at key ⊢
  rw [h1]
  simp only [Option.bind_some,List.all_nil,if_true] at key
  simp only [Option.bind_some,ho,if_true]
  exact key
def nm(nums:List Int)(l:Int):Int:=(atI nums l).getD (-1)
structure C5 (order:List Int) (n:Nat) (nums:List Int):Prop where
  len:nums.length=n+1
  top:nums[n]?=some (-1)
  at':∀(j:Nat) (v:Int),j < n→nums[j]?=some v→v= -1∨∃p:Nat,v=(p:Int)∧order[p]?=some (j:Int)
def tM(T:List Nd)(w:Int):Nd:=T.getD w.toNat ⟨0,0,0⟩
end L2
namespace L2
open PySem PySem.Spec PyProof.Rows
structure Dt (S:Nat→Std) (n:Nat) (ss:List Std):Prop where
  len:ss.length=n
  at':∀(j:Nat) (s:Std),ss[j]?=some s→s.1.length≤(S j).1.length∧s.2.length≤2*s.1.length∧(∀k∈s.1,0≤k∧k < 16)∧∀t∈s.2,0≤t∧t < 12
end L2
namespace L2
open PySem PySem.Spec PyProof.Rows
theorem bw(s:String):PyData.strOk (Str.ofString s)=true:=by
  rw [Str.ofString_eq_toList]
  unfold PyData.strOk
  simp only [List.size_toArray,List.length_map]
  rw [show(List.map Char.toNat s.toList).toArray.all (fun a=>decide (a < 1114112)) 0 s.toList.length=(List.map Char.toNat s.toList).all (fun a=>decide (a < 1114112)) by simp]
  rw [List.all_map,List.all_eq_true]
  intro c _
  show decide (c.toNat < 1114112)=true
  rw [decide_eq_true_eq]
  have:=c.valid
  unfold UInt32.isValidChar Nat.isValidChar at this
  show c.val.toNat < _
  lia
theorem dj{a b:Str}(h1:PyData.strOk a=true)(h2:PyData.strOk b=true):PyData.strOk (a++b)=true:=by
  unfold PyData.strOk at*
  rw [show(a++b).cps=a.cps++b.cps from rfl]
  simp only [Array.all_append,h1,h2,Bool.and_self]
theorem kZ{sep:Str}(h:PyData.strOk sep=true):∀(ts:List Str),(∀t∈ts,PyData.strOk t=true)→PyData.strOk (Str.join sep ts)=true
  | [],_=>by show PyData.strOk Str.empty=true;simp [PyData.strOk,Str.empty]
  | [x],hx=>hx x (by simp)
  | x::y::r,hx=>dj (dj (hx x (by simp)) h) (kZ h (y::r) fun t ht=>hx t (by simp at ht ⊢;exact .inr ht))
theorem ji{ts:List Str}(h:∀t∈ts,PyData.strOk t=true):PyData.strOk (tupleText ts)=true:=by
  unfold tupleText
  exact dj (dj (bw _) (kZ (bw _) ts h)) (bw _)
structure Sz (n dep:Nat) (d:PyData):Prop where
  fl:eA d=true
  sh:d.showable=true
  dp:d.depth≤dep
  ln:d.shown.length≤n
  so:PyData.strOk d.shown=true
theorem Sz.int{k:Int}(h0:0≤k)(h1:k < 16):Sz 2 2 (.int k):=by
  have:k=0∨k=1∨k=2∨k=3∨k=4∨k=5∨k=6∨k=7∨k=8∨k=9∨k=10∨k=11∨k=12∨k=13∨k=14∨k=15:=by lia
  rcases this with rfl | rfl | rfl | rfl | rfl | rfl | rfl | rfl | rfl | rfl | rfl | rfl | rfl | rfl | rfl | rfl<;>exact⟨rfl,by decide,by simp [PyData.depth],by decide,bw _⟩
theorem Sz.all{n dep:Nat}:∀{ds:List PyData},(∀d∈ds,Sz n dep d)→ez ds=true∧PyData.showableAll ds=true∧PyData.depthAll ds≤dep∧piled (PyData.shownAll ds)≤ds.length*(n+2)∧∀t∈PyData.shownAll ds,PyData.strOk t=true
  | [],_=>⟨rfl,rfl,by simp [PyData.depthAll],by simp [PyData.shownAll,piled],by simp [PyData.shownAll]⟩
  | d::r,h=>by
    obtain⟨a1,a2,a3,a4,a5⟩:=h d (by simp)
    obtain⟨b1,b2,b3,b4,b5⟩:=Sz.all (ds:=r) fun x hx=>h x (by simp [hx])
    refine⟨?_,?_,?_,?_,?_⟩
    · simp only [ez,a1,b1,Bool.and_self]
    · simp only [PyData.showableAll,a2,b2,Bool.and_self]
    · simp only [PyData.depthAll];lia
    · simp only [PyData.shownAll,ee,List.length_cons,Nat.succ_mul];lia
    · intro t ht
      simp only [PyData.shownAll,List.mem_cons] at ht
      rcases ht with rfl | ht
      · exact a5
      · exact b5 t ht
theorem Sz.tup{n dep m:Nat}{ds:List PyData}(h:∀d∈ds,Sz n dep d)(hl:ds.length≤m):Sz (m*(n+2)+3) (dep+2) (.tuple ds):=by
  obtain⟨b1,b2,b3,b4,b5⟩:=Sz.all h
  refine⟨by simpa [eA] using b1,b2,by simp only [PyData.depth];lia,?_,by simp only [PyData.shown];exact ji b5⟩
  have h2:=gL (PyData.shownAll ds)
  have:=Nat.mul_le_mul_right (n+2) hl
  simp only [PyData.shown]
  lia
theorem Sz.ok{n dep:Nat}{d:PyData}(h:Sz n dep d)(h1:n≤16777216)(h2:dep≤60):fB d=true:=by
  have sl:sizeLine=16777216:=sizeLine_eq
  unfold fB
  rw [h.fl,h.sh,decide_eq_true (Nat.le_trans h.dp h2),decide_eq_true (show d.shown.length≤sizeLine by rw [sl];exact Nat.le_trans h.ln h1)]
  rfl
theorem Sz.ints{ns:List Int}{m:Nat}(hl:ns.length≤m)(h:∀r∈ns,0≤r∧r < 16):Sz (m*4+3) 4 (.tuple (ns.map .int)):=Sz.tup (n:=2) (dep:=2) (fun d hd=>by
  obtain⟨x,hx,rfl⟩:=List.mem_map.mp hd
  exact Sz.int (h x hx).1 (h x hx).2) (by rw [List.length_map];exact hl)
theorem qd{e:En}{d:PyData}(h:fB d=true):g1 fW e [.d d]=some (.d (.str d.shown)):=by
  simp [g1,fW,h]
theorem vK{e:En}{s:Str}(h:PyData.strOk s=true):c9 false e (.d (.str s)) (.d (.str s))=some (.d (.bool true)):=by
  simp [c9,gR,SeqAt.shaped,PyData.canLay0,PyData.depth,PyData.eqv,h]
end L2
namespace L2
open PySem PySem.Spec PyProof.Rows
def rn(T:List Nd)(ans:List Bool):Nat→Int→List (Int × Bool)
  | 0,_=>[]
  | f+1,at'=>if at' < 0 then [] else((tM T at').tie,ans.getD (tM T at').tie.toNat false)::rn T ans f (if ans.getD (tM T at').tie.toNat false=true then(tM T at').yes else(tM T at').no)
def rt(T:List Nd):Int:=if T.length=0 then -1 else 0
structure C8 (W:aW) (T:List Nd) (S:Nat→Std) (ans:List Bool) (r:List (Int × Bool)) (a:Int):Prop where
  at':a= -1∨(0≤a∧a < (T.length:Int)∧r.length≤(S a.toNat).1.length)
  eq:r++rn T ans (17 - r.length) a=rn T ans 17 (rt T)
  len:r.length≤16
  inw:∀p∈r,oJ W p.1
theorem Sz.bool{b:Bool}:Sz 5 2 (.bool b):=by
  cases b
  · exact⟨rfl,rfl,by simp [PyData.depth],by show(Str.ofString "False").length≤5;decide,bw _⟩
  · exact⟨rfl,rfl,by simp [PyData.depth],by show(Str.ofString "True").length≤5;decide,bw _⟩
end L2
namespace L2
open PySem PySem.Spec PyProof.Rows
abbrev Fr:=Int × Int
def dF(f:Fr):PyData:=.tuple [.int f.1,.int f.2]
def tm(a b:Fr):Fr:=lowM (a.1*b.1) (a.2*b.2)
def pl(a b:Fr):Fr:=lowM (a.1*b.2+b.1*a.2) (a.2*b.2)
theorem fx{t b:Int}(hb:0 < b)(ht:0≤t):∃d:Int,0 < d∧(lowM t b).1*d=t∧(lowM t b).2*d=b∧0 < (lowM t b).2∧0≤(lowM t b).1:=by
  obtain⟨d,h1,h2,h3,h4,h5⟩:=eR (t:=t) (b:=b) (by lia)
  have d0:0 < d:=by
    rcases Int.lt_trichotomy d 0 with z | z | z
    · have:=Int.mul_neg_of_pos_of_neg h5 z
      lia
    · exact absurd z h2
    · exact z
  refine⟨d,d0,h3,h4,h5,?_⟩
  rcases Int.lt_or_le (lowM t b).1 0 with z | z
  · have:=Int.mul_neg_of_neg_of_pos z d0
    lia
  · exact z
theorem jO{t b i:Int}(hb:0 < b)(ht:0≤t)(h:t≤i*b):(lowM t b).1≤i*(lowM t b).2:=by
  obtain⟨d,d0,h3,h4,h5,h6⟩:=fx hb ht
  refine Int.le_of_mul_le_mul_right (a:=d) ?_ d0
  rw [h3,Int.mul_assoc,h4]
  exact h
theorem iC{t b:Int}(hb:0 < b)(ht:0≤t):(lowM t b).2 ∣ b:=by
  obtain⟨d,d0,h3,h4,h5,h6⟩:=fx hb ht
  exact⟨d,h4.symm⟩
theorem tG{t b M u:Int}(hb:0 < b)(ht:0≤t)(h:t*M=b*u):(lowM t b).2 ∣ M:=by
  have g:=kj (t:=t) (b:=b) (by lia)
  obtain⟨d,d0,h3,h4,h5,h6⟩:=fx hb ht
  generalize (lowM t b).1=p at*
  generalize (lowM t b).2=q at*
  have e:p*M=q*u:=by
    refine Int.eq_of_mul_eq_mul_right (a:=d) (by lia) ?_
    rw [show p*M*d=(p*d)*M by rw [Int.mul_assoc,Int.mul_comm M d,←Int.mul_assoc],h3,h,←h4,Int.mul_assoc,Int.mul_comm d u,←Int.mul_assoc]
  have dv:q.natAbs ∣ (p*M).natAbs:=Int.natAbs_dvd_natAbs.mpr ⟨u,e⟩
  rw [Int.natAbs_mul] at dv
  have cp:Nat.Coprime q.natAbs p.natAbs:=by
    have:Nat.gcd p.natAbs q.natAbs=1:=g
    rw [Nat.Coprime,Nat.gcd_comm];exact this
  exact Int.natAbs_dvd_natAbs.mp (cp.dvd_of_dvd_mul_left dv)
structure qK (M:Int) (f:Fr):Prop where
  pos:0 < f.2
  lo:0≤f.1
  hi:f.1≤f.2
  dv:f.2 ∣ M
theorem qK.tm{M N:Int}{a b:Fr}(h:qK M a)(k:qK N b):qK (M*N) (tm a b):=by
  have p:0 < a.2*b.2:=Int.mul_pos h.pos k.pos
  have t:0≤a.1*b.1:=Int.mul_nonneg h.lo k.lo
  obtain⟨d,d0,h3,h4,h5,h6⟩:=fx p t
  refine⟨h5,h6,?_,Int.dvd_trans (iC p t) (Int.mul_dvd_mul h.dv k.dv)⟩
  have:=jO (i:=1) p t (by rw [Int.one_mul];exact Int.mul_le_mul h.hi k.hi k.lo (Int.le_of_lt h.pos))
  rw [Int.one_mul] at this
  exact this
structure oG (M i:Int) (f:Fr):Prop where
  pos:0 < f.2
  lo:0≤f.1
  hi:f.1≤i*f.2
  dv:f.2 ∣ M
theorem qK.bt{M:Int}{f:Fr}{n:Nat}(h:qK M f)(hM:Bt n M)(h0:0 < M):Bt n f.1∧Bt n f.2:=by
  have l:=Int.le_of_dvd h0 h.dv
  have:=h.pos;have:=h.lo;have:=h.hi
  exact⟨hM.of_le (by lia),hM.of_le (by lia)⟩
theorem oG.bt{M i:Int}{f:Fr}{n m:Nat}(h:oG M i f)(hM:Bt n M)(h0:0 < M)(hi:Bt m i):Bt (m+n) f.1∧Bt n f.2:=by
  have l:=Int.le_of_dvd h0 h.dv
  have p:=h.pos;have q:=h.lo;have r:=h.hi
  have b2:Bt n f.2:=hM.of_le (by lia)
  exact⟨(hi.mul b2).of_le (by lia),b2⟩
def bp(W:aW):List Int→Int
  | []=>1
  | k::r=>(W.tie k).bot*bp W r
def AH(W:aW):Int:=bp W W.rng
def ch(W:aW)(k:Int)(b:Bool):Fr:=if b then((W.tie k).top,(W.tie k).bot) else((W.tie k).bot - (W.tie k).top,(W.tie k).bot)
structure Ds (W:aW) (S:Nat→Std) (n:Nat) (rs:List Fr):Prop where
  len:rs.length=n
  at':∀(j:Nat) (f:Fr),rs[j]?=some f→qK (bp W (S j).1) f
theorem yz{rs:List Fr}{i:Nat}{z:Fr}(h:i < rs.length):atI (rs.map dF) (i:Int)=some (dF (rs.getD i z)):=by
  rw [eZ (by lia) (by rw [List.length_map];lia),List.getElem?_map]
  simp [h,dF]
structure Do (W:aW) (i:Nat) (ss:List Fr):Prop where
  len:ss.length=W.ties.length
  at':∀(j:Nat) (f:Fr),ss[j]?=some f→oG (AH W) (i:Int) f
theorem Sz.intB{n:Nat}{k:Int}(h:Bt n k)(h0:0 < n)(hn:n≤1900):Sz (n+1) 2 (.int k):=by
  have l:=h.log h0
  refine⟨rfl,?_,by simp [PyData.depth],?_,bw _⟩
  · show decide (k.natAbs.log2 < 1920)=true
    rw [decide_eq_true_eq];lia
  · have:=int_text_length_le h0 l
    show(Str.ofString (toString k)).length≤n+1
    rw [PySem.ofString_length];exact this
end L2
namespace L2
open PySem PySem.Spec PyProof.Rows
def Aj(sc:Scope)(x:Str):Bool:=match sc.names.lookup x with
  | some .local=>true
  | some .cell=>true
  | some .free=>true
  | _=>false
theorem xC{sc:Scope}{x:Str}(h:Aj sc x=true):AC sc x:=by
  unfold Aj at h
  unfold AC
  split at h
  · rename_i e;exact .inl e
  · rename_i e;exact .inr (.inl e)
  · rename_i e;exact .inr (.inr e)
  · cases h
section
variable{X:Cx}{K:PySem.W.Frag}
theorem qw(i:Nat){x:Str}{pos:Pos}(hN:X.N[i]?=some x)(hv:Aj X.env.scope x=true)(hd:((x==("__debug__":Str)) || (x==("__classdict__":Str)))=false):PE X (.Name x pos) (fE K (ae i)):=qv i hN (xC hv) (Bool.or_eq_false_iff.mp hd).1 (Bool.or_eq_false_iff.mp hd).2
end
end L2
namespace L2
open PySem PySem.Spec PyProof.Rows
section
variable{X:Cx}{tg a b c:Expr}{ta:TA}{p pos p2 pos2:Pos}
end
section
variable{K:PySem.W.Frag}{σ:L2.St}
end
section
variable{X:Cx}{K:PySem.W.Frag}{tg a b c:Expr}{fs:FA}{pos p p2 pos2:Pos}
end
end L2
namespace L2
open PySem PySem.Spec PyProof.Rows
end L2
namespace L2
open PySem PySem.Spec PyProof.Rows
section
variable(P:Program)(w:World)
end
section
variable{P:Program}{w:World}{H H':Hp}{h h':Heap}{a:Addr}{o:HO}
end
section
variable{P:Program}{w:World}{H:Hp}{h h':Heap}{x e:Addr}{o':HO}
end
section
variable{fs fs' ex ex':List Addr}{H H1 H2:Hp}{h h1 h2 h':Heap}{a x e:Addr}{o:HO}
end
end L2
namespace L2
open PySem PySem.Spec PyProof.Rows
section
variable{X:Cx}{pins:List (Addr × Obj)}{σ:List (Option V)}{H H':Hp}{s:Shared}{h':Heap}
end
end L2
namespace L2
open PySem PySem.Spec PyProof.Rows
section
variable{X:Cx}
variable{a b:Expr}{ta tb:TE}{pos:Pos}
variable{tA tB':TT}{fM:List Expr}
end
end L2
namespace L2
open PySem PySem.Spec PyProof.Rows
section
variable{X:Cx}{pins:List (Addr × Obj)}{σ:St}{H:Hp}{s:Shared}{a:Addr}{xs ys:List V}
end
section
variable{X:Cx}{pins:List (Addr × Obj)}{σ:St}{H:Hp}{s:Shared}{E:Value→Shared→Prop}
end
section
variable{X:Cx}{st:Stmt}{fM:List Stmt}{t u:TS}{e:Expr}{te:TE}{pos:Pos}
end
section
variable{X:Cx}{pos:Pos}
end
section
variable{X:Cx}{pos:Pos}
end
end L2
namespace L2
open PySem PySem.Spec PyProof.Rows
section
variable{X:Cx}{tg:Expr}
end
end L2
namespace L2
open PySem PySem.Spec PyProof.Rows
section
variable{X:Cx}{a b c:Expr}{ta tb tc:TE}{pos:Pos}
end
section
variable{X:Cx}{a b c:Expr}{ta tb tc:TE}{pos:Pos}
end
end L2
namespace L2
open PySem PySem.Spec PyProof.Rows
section
variable{prog:Program}{w:World}{A:Around}{E:Value→Shared→Prop}{s:Shared}{K:PySem.W.Frag}{x dx C f:Addr}{mA:Str→Option Value}{name:Str}{v:Value}
end
section
variable{P:Program}{w:World}{H H':Hp}{h h':Heap}{a C dx:Addr}{fs fs':List (Str × V)}
end
section
variable{X:Cx}{pins:List (Addr × Obj)}{σ:St}{H:Hp}{s:Shared}{a C dx:Addr}{fs:List (Str × V)}{f:Str}{v:V}{A:Around}{E:Value→Shared→Prop}
end
section
variable{X:Cx}{o e value:Expr}{f:Str}{pos pos' tpos:Pos}{ta tv:TE}
end
section
variable{X:Cx}{pins:List (Addr × Obj)}{σ:St}{H:Hp}{s:Shared}{A:Around}{E:Value→Shared→Prop}{Q:Value→Shared→Prop}{c:Value}{b:Bool}
end
end L2
namespace L2
open PySem PySem.Spec PyProof.Rows
section
variable{X:Cx}{e:Expr}{es:List Expr}{te:TE}{t:TA}{pos:Pos}
end
section
variable{X:Cx}{pins:List (Addr × Obj)}{σ:St}{H:Hp}{s s':Shared}
end
section
variable{X:Cx}{CX:qH}{k:Nat}{f C:Addr}{fd:FuncData}{ps:List Str}{sp:Sp}{dvs:List V}{ds:List Value}{E:XK}{x m:Str}{p pos apos:Pos}{e o:Expr}{es:List Expr}{ta:TE}{t:TA}
end
section
variable{X:Cx}{CX:qH}{k:Nat}{f C:Addr}{fd:FuncData}{ps ks:List Str}{sp:Sp}{E:XK}{x m:Str}{p pos apos kpos:Pos}{e o:Expr}{es:List Expr}{kws:List Keyword}{te ta:TE}{t tk:TA}{nm:Option Str}
variable{g:List Value→List Value→List Value}{gV:List V→List V→List V}
end
end L2
namespace L2
open PySem PySem.Spec PyProof.Rows
section
variable{X:Cx}{x:Str}{p pos:Pos}{e:Expr}{es:List Expr}{t:TA}{id T:String}{r:List V→Hp→VK→Prop}
end
end L2
namespace L2
open PySem PySem.Spec PyProof.Rows
section
variable{κ:Type}[DecidableEq κ]
end
section
variable{P:Program}{w:World}{H:Hp}{h:Heap}{a:Addr}
end
section
variable{X:Cx}{pins:List (Addr × Obj)}{σ:St}{H:Hp}{s:Shared}{a:Addr}{y v:V}{u r:Value}{o:Option V}{A:Around}{E:Value→Shared→Prop}
end
section
variable{X:Cx}{pins:List (Addr × Obj)}{σ:St}{H:Hp}{s:Shared}{a:Addr}{kvs:List (jV × V)}{k:jV}{u:Value}{A:Around}{E:Value→Shared→Prop}
end
section
variable{X:Cx}{o i e value:Expr}{pos pos' tpos:Pos}{td ty tv:TE}
end
section
variable{X:Cx}{pos:Pos}
end
section
variable{X:Cx}{pins:List (Addr × Obj)}{σ:St}{H:Hp}{s:Shared}{a:Addr}{y d:V}{u r:Value}{o:Option V}{A:Around}{E:Value→Shared→Prop}
end
section
variable{X:Cx}{o e f:Expr}{apos cpos:Pos}{td ty tx:TE}
end
section
variable{X:Cx}{pins:List (Addr × Obj)}{σ:St}{H:Hp}{s:Shared}{a:Addr}{kvs:List (jV × V)}{A:Around}{E:Value→Shared→Prop}
end
section
variable{X:Cx}{pins:List (Addr × Obj)}{σ:St}{H:Hp}{s:Shared}{a:Addr}{y:V}{u:Value}{A:Around}{E:Value→Shared→Prop}
end
end L2
namespace Att
open PySem PySem.W PySem.Calls PyProof.Rows
section
variable{prog:Program}{w:World}{A:Around}{E:Value→Shared→Prop}{s:Shared}{K:Frag}
end
end Att
namespace L2
open PySem PySem.Spec PyProof.Rows
end L2
namespace L2
open PySem PySem.Spec PyProof.Rows
end L2
namespace L2
open PySem PySem.Spec PyProof.Rows
section
variable{P:Program}{w:World}{K:PySem.W.Frag}{mg:Str→Option Value}{base:Heap}
end
section
variable{X:Cx}
end
section
variable{κ:Type}[DecidableEq κ]
end
end L2
namespace L2
open PySem PySem.Spec PyProof.Rows
section
variable{X:Cx}{K:PySem.W.Frag}{a:Expr}{fa:FE}{pos p p2:Pos}
end
end L2
namespace L2
open PySem PySem.Spec PyProof.Rows
section
variable{X:Cx}{K:PySem.W.Frag}
end
end L2
namespace L2
open PySem PySem.Spec PyProof.Rows
section
variable{X:Cx}{K:PySem.W.Frag}{σ:L2.St}{F H:Hp}{e:En}{pos p1 p2:Pos}
end
end L2
namespace L2
open PySem PySem.Spec PyProof.Rows
section
variable{X:Cx}{K:PySem.W.Frag}{a b c d:Expr}{ta tb tc td:TE}{fa fb fc fd:FE}{pos:Pos}
end
end L2
namespace L2
open PySem PySem.Spec PyProof.Rows
section
variable{X:Cx}{K:PySem.W.Frag}{a b:Expr}{es:List Expr}{fa fb:FE}{fs:FA}{pos p apos:Pos}
end
end L2
namespace L2
open PySem PySem.Spec PyProof.Rows
section
variable{X:Cx}{K:PySem.W.Frag}{a b:Expr}{fa fb:FE}{fs:FA}{pos p p2 p3:Pos}
end
end L2
namespace L2
open PySem PySem.Spec PyProof.Rows
theorem oG.plS{M i j:Int}{a b:Fr}(h:oG M i a)(k:oG M j b):oG M (i+j) (L2.pl a b):=by
  have p:0 < a.2*b.2:=Int.mul_pos h.pos k.pos
  have t:0≤a.1*b.2+b.1*a.2:=Int.add_nonneg (Int.mul_nonneg h.lo (Int.le_of_lt k.pos)) (Int.mul_nonneg k.lo (Int.le_of_lt h.pos))
  obtain⟨d,d0,h3,h4,h5,h6⟩:=fx p t
  refine⟨h5,h6,jO p t ?_,?_⟩
  · have e1:a.1*b.2≤i*a.2*b.2:=Int.mul_le_mul_of_nonneg_right h.hi (Int.le_of_lt k.pos)
    have e2:b.1*a.2≤j*b.2*a.2:=Int.mul_le_mul_of_nonneg_right k.hi (Int.le_of_lt h.pos)
    rw [Int.add_mul,show i*(a.2*b.2)=i*a.2*b.2 by ac_rfl,show j*(a.2*b.2)=j*b.2*a.2 by ac_rfl]
    lia
  · obtain⟨x,hx⟩:=h.dv
    obtain⟨y,hy⟩:=k.dv
    refine tG (u:=a.1*x+b.1*y) p t ?_
    rw [Int.add_mul,Int.mul_add]
    congr 1
    · rw [hx]
      rw [show a.1*b.2*(a.2*x)=a.2*b.2*(a.1*x) by ac_rfl]
    · rw [hy]
      rw [show b.1*a.2*(b.2*y)=a.2*b.2*(b.1*y) by ac_rfl]
def bq(W:aW)(as:List Int):Int:=bp W (W.rng.filter fun k=> !as.contains k)
def wI(l:Nat):Int:=1000*(2 ^ (16 - l) - 1)
structure Dl (W:aW) (k:Int) (as:List Int) (y n:Fr):Prop where
  y:oG (bq W (aW.askd as k)) (wI (as.length+1)) y
  n:oG (bq W (aW.askd as k)) (wI (as.length+1)) n
  len:as.length≤15
  inw:oJ W k
  new:k∉as
def lk(ws:List Fr)(l:Int):Fr:=if l= -1 then(0,1) else ws.getD l.toNat (0,1)
structure Du (W:aW) (S:Nat→Std) (n:Nat) (ws:List Fr):Prop where
  len:ws.length=n
  at':∀(j:Nat) (f:Fr),ws[j]?=some f→oG (bq W (S j).1) (wI (S j).1.length) f
theorem Al{M i:Int}(h:0≤i):oG M i (0,1):=⟨by decide,by decide,by show(0:Int)≤i*1;lia,Int.one_dvd _⟩
theorem Sz.int10{n m:Nat}{k:Int}(hb:Bt m k)(m0:0 < m)(m1:m≤1900)(h:k.natAbs < 10 ^ n)(h0:0 < n):Sz (n+1) 2 (.int k):=by
  refine⟨rfl,?_,by simp [PyData.depth],?_,bw _⟩
  · show decide (k.natAbs.log2 < 1920)=true
    rw [decide_eq_true_eq]
    have:=hb.log m0
    lia
  · have:=int_text_length_le10 h0 h
    show(Str.ofString (toString k)).length≤n+1
    rw [PySem.ofString_length];exact this
end L2
namespace L2
open PySem PySem.Spec PyProof.Rows
theorem fg{cs:En}{g:FG}{ft:FT}{fe:FE}{b:PyData→Bool}{y:PyData→PyData}{u:PyData→En}(n:Nat):∀(items:List PyData) (t:En) (acc:List PyData),t.length=n→(∀x∈items,∀t:En,t.length=n→g x (cs++t)=some (cs++u x))→(∀x∈items,(u x).length=n)→
    (∀x∈items,ft (cs++u x)=some (b x,cs++u x))→(∀x∈items,b x=true→fe (cs++u x)=some (.d (y x),cs++u x))→acc.length+items.length≤1000000→
    ∃t',t'.length=n∧dt g ft fe items (cs++t) acc=some (acc++(items.filter b).map y,cs++t')
  | [],t,acc,h,_,_,_,_,_=>⟨t,h,by simp [dt]⟩
  | x::r,t,acc,h,hg,hu,h1,h2,hl=>by
    have h1x:=h1 x (by simp)
    unfold dt
    rw [hg x (by simp) t h]
    simp only [Option.bind_some,h1x]
    cases hb:b x with
    | true=>
      simp only [if_true,h2 x (by simp) hb,Option.bind_some,o_]
      rw [if_pos (by simp at hl;lia)]
      obtain⟨t',e1,ih⟩:=fg (b:=b) (y:=y) (u:=u) n r (u x) (acc++[y x]) (hu x (by simp)) (fun z hz=>hg z (by simp [hz])) (fun z hz=>hu z (by simp [hz])) (fun z hz=>h1 z (by simp [hz])) (fun z hz=>h2 z (by simp [hz])) (by simp at hl ⊢;lia)
      exact⟨t',e1,by rw [ih];simp [hb]⟩
    | false=>
      simp only [Bool.false_eq_true,if_false]
      obtain⟨t',e1,ih⟩:=fg (b:=b) (y:=y) (u:=u) n r (u x) acc (hu x (by simp)) (fun z hz=>hg z (by simp [hz])) (fun z hz=>hu z (by simp [hz])) (fun z hz=>h1 z (by simp [hz])) (fun z hz=>h2 z (by simp [hz])) (by simp at hl;lia)
      exact⟨t',e1,by rw [ih];simp [hb]⟩
theorem lY{x:Str}(h:PyData.strOk x=true):∀c∈x.cps.toList,c < 1114112:=by
  intro c hc
  unfold PyData.strOk at h
  rw [Array.all_eq_true'] at h
  have:=h c (by simpa using hc)
  simpa using this
theorem uT{l:Array Nat}(h:∀c∈l.toList,c < 1114112):PyData.strOk ⟨l⟩=true:=by
  unfold PyData.strOk
  rw [Array.all_eq_true']
  intro c hc
  simpa using h c (by simpa using hc)
theorem vD(c:Char):c.toNat < 1114112:=by
  have:=c.valid
  unfold UInt32.isValidChar Nat.isValidChar at this
  show c.val.toNat < _
  lia
open PySem.Builtin.Str in
theorem nQ{q c:Nat}(hc:c < 1114112):∀d∈reprChar q c,d < 1114112:=by
  intro d hd
  unfold reprChar at hd
  have hx:∀w:Nat,∀d∈(List.replicate (w - ((Nat.toDigits 16 c).map Char.toNat).length) 48++(Nat.toDigits 16 c).map Char.toNat),d < 1114112:=by
    intro w d hd
    rcases List.mem_append.mp hd with h | h
    · have:=List.eq_of_mem_replicate h;lia
    · obtain⟨ch,_,rfl⟩:=List.mem_map.mp h;exact vD ch
  dsimp only at hd
  split at hd
  · simp only [List.mem_cons,List.not_mem_nil,or_false] at hd;lia
  split at hd
  · simp only [List.mem_cons,List.not_mem_nil,or_false] at hd;lia
  split at hd
  · simp only [List.mem_cons,List.not_mem_nil,or_false] at hd;lia
  split at hd
  · simp only [List.mem_cons,List.not_mem_nil,or_false] at hd;lia
  split at hd
  · simp only [List.mem_cons,List.not_mem_nil,or_false] at hd;lia
  split at hd
  · rcases List.mem_append.mp hd with h | h
    · simp only [List.mem_cons,List.not_mem_nil,or_false] at h;lia
    · exact hx 2 d h
  split at hd
  · rcases List.mem_append.mp hd with h | h
    · simp only [List.mem_cons,List.not_mem_nil,or_false] at h;lia
    · exact hx 4 d h
  · rcases List.mem_append.mp hd with h | h
    · simp only [List.mem_cons,List.not_mem_nil,or_false] at h;lia
    · exact hx 8 d h
open PySem.Builtin.Str in
theorem lP{q:Nat}:∀(l:List Nat) (acc:Array Nat),(∀c∈l,c < 1114112)→(∀c∈acc.toList,c < 1114112)→∀c∈(l.foldl (fun out c=>out++(reprChar q c).toArray) acc).toList,c < 1114112
  | [],acc,_,h=>h
  | x::r,acc,h1,h2=>lP r _ (fun c hc=>h1 c (by simp [hc])) fun c hc=>by
    simp only [Array.toList_append,List.mem_append] at hc
    rcases hc with hc | hc
    · exact h2 c hc
    · exact nQ (h1 x (by simp)) c hc
theorem nR{x:Str}(h:PyData.strOk x=true):PyData.strOk (reprText x)=true:=by
  unfold reprText
  refine uT fun c hc=>?_
  have hq:reprQuote x < 1114112:=by unfold reprQuote;split<;>lia
  rw [Array.toList_push] at hc
  rcases List.mem_append.mp hc with hc | hc
  · rw [←Array.foldl_toList] at hc
    exact lP _ _ (lY h) (fun c hc=>by simp at hc;lia) c hc
  · simp at hc;lia
theorem Sz.str{x:Str}{n:Nat}(h:PyData.strOk x=true)(hl:x.length≤n):Sz (10*n+2) 2 (.str x):=by
  refine⟨rfl,rfl,by simp [PyData.depth],?_,nR h⟩
  have:=PySem.StrLaws.reprText_len x fun c hc=>Nat.lt_of_lt_of_le (lY h c hc) (by decide)
  show(reprText x).length≤_
  lia
end L2
namespace L2
open PySem PySem.Spec PyProof.Rows
section
variable{X:Cx}{K:PySem.W.Frag}{a:Expr}{fa:FE}{pos p pos2 p2:Pos}
end
end L2
namespace L2
open PySem PySem.Spec PyProof.Rows
section
variable{X:Cx}{K:PySem.W.Frag}{a:Expr}{fa:FE}
end
end L2
namespace L2
open PySem PySem.Spec PyProof.Rows
abbrev Rn:=List (Int × Bool)
def vJ(R:Rn):List Int:=R.map (·.1)
def xS(W:aW)(R:Rn):List Int:=(R.filter (·.2)).flatMap fun r=>[(W.tie r.1).one,(W.tie r.1).other]
structure Dr (W:aW) (R:Rn) (asked taken:List Int):Prop where
  pa:asked.Perm (vJ R)
  pt:taken.Perm (xS W R)
  inw:∀k∈vJ R,oJ W k
  nd:(vJ R).Nodup
  nk:(xS W R).Nodup
  bd:∀t:Int,0≤t→t < W.things→W.many (vJ R) t≤W.pat.getD t.toNat 0
  ak:(R.length:Int)≤W.asks
  sa:asked.Pairwise (· ≤·)
  st:taken.Pairwise (· ≤·)
end L2
namespace L2
open PySem PySem.Spec PyProof.Rows
section
variable{prog:Program}{w:World}{A:Around}{R:Result→Shared→Prop}
end
def z3(l:Addr)(wi:TI)(g:TG)(tc:TT)(te:TE)(σ:L2.St)(H:Hp)(N:L2.St→Hp→Prop):Prop:=
  wi σ H fun J H1=>∃W:Nat→Nat→L2.St→Hp→Prop,(∃m,W 0 m σ H1)∧∀i m σ' H',W i m σ' H'→
    (J.stop i H'∧N σ' H')∨(J.go i H'∧∃N2:L2.St→Hp→Prop,(∀σ2 H2,N2 σ2 H2→∃m',m' < m∧W (i+1) m' σ2 H2)∧
      ∀x H2,J.yld i H' x H2→g x σ' H2 fun σ2 H3=>tc σ2 H3 fun b H4=>if b=true then te σ2 H4 fun v H5=>∃ys,H5 l=some (.lst ys)∧ys.length < sizeLine∧N2 σ2 (aS H5 l (.lst (ys++[v]))) else N2 σ2 H4)
structure CQ (cp:List (Nat × Str)) (nT:Nat) (wi:TI) (g:TG) (tc:TT) (wi2:TI) (g2:TG) (tc2:TT) (te:TE) (σ:L2.St) (H:Hp) (Q:VK):Prop where
  go:wi σ H fun J H1=>∀l,H1 l=none→
  ∃W:Nat→Nat→L2.St→Hp→Prop,(∃m,W 0 m (eW cp nT σ) (aS H1 l (.lst [])))∧∀i m σ' H',W i m σ' H'→
    (J.stop i H'∧Q (.ref l) H')∨(J.go i H'∧∃N:L2.St→Hp→Prop,(∀σ2 H2,N σ2 H2→∃m',m' < m∧W (i+1) m' σ2 H2)∧
      ∀x H2,J.yld i H' x H2→g x σ' H2 fun σ2 H3=>tc σ2 H3 fun b H4=>if b=true then z3 l wi2 g2 tc2 te σ2 H4 N else N σ2 H4)
section
variable{K:PySem.W.Frag}{F H:Hp}{σ:L2.St}{e:En}{cp:List (Nat × Str)}{nT:Nat}
end
section
variable{X:Cx}{K:PySem.W.Frag}{pos:Pos}
end
section
variable{X:Cx}{K:PySem.W.Frag}{pos:Pos}
variable{o:Expr}{fo:FE}{apos cpos:Pos}
end
end L2
namespace L2
open PySem PySem.Spec PyProof.Rows
section
variable{X:Cx}{K:PySem.W.Frag}
end
end L2
namespace L2
open PySem PySem.Spec PyProof.Rows
structure qJ (f:Fr):Prop where
  pos:0 < f.2
  cop:Int.gcd f.1 f.2=1
def Vl(M:Int)(f:Fr)(v:Int):Prop:=f.1*M=v*f.2
theorem Vl.of{M i:Int}{f:Fr}(h:oG M i f):Vl M f (f.1*(M / f.2)):=by
  unfold Vl
  obtain⟨c,hc⟩:=h.dv
  have hp:=h.pos
  rw [hc,Int.mul_ediv_cancel_left _ (by lia),Int.mul_assoc,Int.mul_comm c f.2]
theorem Vl.pl{M:Int}{a b:Fr}{v w:Int}(ha:Vl M a v)(hb:Vl M b w)(pa:0 < a.2)(pb:0 < b.2):Vl M (pl a b) (v+w):=by
  unfold Vl at*
  have p:a.2*b.2≠0:=Int.ne_of_gt (Int.mul_pos pa pb)
  have hc:=ki (t:=a.1*b.2+b.1*a.2) (b:=a.2*b.2) p
  change (L2.pl a b).1*(a.2*b.2)=(L2.pl a b).2*(a.1*b.2+b.1*a.2) at hc
  generalize (L2.pl a b).1=x at*
  generalize (L2.pl a b).2=y at*
  refine Int.eq_of_mul_eq_mul_right (a:=a.2*b.2) p ?_
  have e1:x*M*(a.2*b.2)=y*(a.1*M*b.2+b.1*M*a.2):=by
    rw [show x*M*(a.2*b.2)=x*(a.2*b.2)*M by rw [Int.mul_assoc,Int.mul_comm M,←Int.mul_assoc],hc,Int.mul_assoc y,Int.add_mul]
    congr 2
    · rw [Int.mul_assoc,Int.mul_comm b.2 M,←Int.mul_assoc]
    · rw [Int.mul_assoc,Int.mul_comm a.2 M,←Int.mul_assoc]
  rw [e1,ha,hb]
  have e2:v*a.2*b.2+w*b.2*a.2=(v+w)*(a.2*b.2):=by
    rw [Int.add_mul,Int.mul_assoc v,Int.mul_assoc w,Int.mul_comm b.2 a.2]
  rw [e2,←Int.mul_assoc,Int.mul_comm y (v+w)]
theorem qJ.lowM{t b:Int}(h:0 < b):qJ (L2.lowM t b):=by
  obtain⟨d,_,_,_,_,h5⟩:=eR (t:=t) (b:=b) (by lia)
  exact⟨h5,kj (by lia)⟩
theorem qJ.pl{a b:Fr}(pa:0 < a.2)(pb:0 < b.2):qJ (pl a b):=qJ.lowM (Int.mul_pos pa pb)
def bZ(a:Fr)(L:List Fr):Fr:=L.foldl pl a
theorem qA{M j:Int}:∀(L:List Fr) {a:Fr} {i:Int},oG M i a→qJ a→0≤j→(∀f∈L,oG M j f)→oG M (i+j*(L.length:Int)) (bZ a L)∧qJ (bZ a L)∧∀v,Vl M a v→Vl M (bZ a L) (v+(L.map fun f=>f.1*(M / f.2)).sum)
  | [],a,i,h,hl,_,_=>⟨by simpa [bZ] using h,hl,fun v hv=>by simpa [bZ] using hv⟩
  | f::r,a,i,h,hl,hj,hf=>by
    have k:=hf f (by simp)
    have hp:=h.plS k
    obtain⟨c1,c2,c3⟩:=qA r (a:=pl a f) hp (qJ.pl h.pos k.pos) hj fun x hx=>hf x (by simp [hx])
    refine⟨?_,c2,fun v hv=>?_⟩
    · have e:i+j*((f::r).length:Int)=i+j+j*(r.length:Int):=by
        simp only [List.length_cons,Int.natCast_add,Int.natCast_one,Int.mul_add,Int.mul_one];lia
      rw [e];exact c1
    · have:=c3 _ (hv.pl (Vl.of k) h.pos k.pos)
      simp only [List.map_cons,List.sum_cons]
      rw [Int.add_assoc] at this
      exact this
theorem qG:qJ ((0,1):Fr):=⟨by decide,by decide⟩
def cV:Nat→List (List Bool)
  | 0=>[[]]
  | n+1=>(cV n).flatMap fun r=>[r++[true],r++[false]]
abbrev Pg:=List Int × Int
structure C7 (k:Nat) (ps:List Pg):Prop where
  ne:ps≠[]
  len:ps.length≤2 ^ k
  pt:∀p∈ps,p.1.length≤2*k∧0≤p.2∧p.2≤1000*(k:Int)
end L2
namespace L2
open PySem PySem.Spec PyProof.Rows
end L2
namespace L2
open PySem PySem.Spec PyProof.Rows
section
variable{prog:Program}{w:World}{A:Around}{E:Value→Shared→Prop}{s:Shared}
end
section
variable{X:Cx}{a:Expr}{ta:TA}{p p2 pos pos2:Pos}
variable{K:PySem.W.Frag}{fs:FA}{p3:Pos}
end
end L2
namespace L2
open PySem PySem.Spec PyProof.Rows
theorem lA{g:FG}{ft:FT}{fe:FE}(P:Nat→En→Prop)(R:PyData→Prop):∀(items:List PyData) (k:Nat) (e:En) (acc:List PyData),(∀i x e,items[i]?=some x→P (k+i) e→∃e1 r d e2,g x e=some e1∧ft e1=some (true,e1)∧fe e1=some (r,e2)∧o_ r=some d∧R d∧P (k+i+1) e2)→P k e→acc.length+items.length≤1000000→
    ∃out e',dt g ft fe items e acc=some (acc++out,e')∧out.length=items.length∧(∀d∈out,R d)∧P (k+items.length) e'
  | [],k,e,acc,_,h,_=>⟨[],e,by simp [dt],rfl,(fun _ h=>by cases h),h⟩
  | x::r,k,e,acc,hs,h,hl=>by
    obtain⟨e1,v,d,e2,h1,h2,h3,h3',h4,h5⟩:=hs 0 x e rfl h
    simp only [List.length_cons] at hl
    obtain⟨out,e',h6,h7,h8,h9⟩:=lA P R r (k+1) e2 (acc++[d]) (fun i y e hy hp=>by
      have:=hs (i+1) y e (by simpa using hy) (by rw [show k+(i+1)=k+1+i by lia];exact hp)
      rw [show k+(i+1)+1=k+1+i+1 by lia] at this
      exact this) (by simpa using h5) (by simp;lia)
    refine⟨d::out,e',?_,by simp [h7],fun y hy=>?_,by rw [List.length_cons,show k+(r.length+1)=k+1+r.length by lia];exact h9⟩
    · unfold dt
      simp only [h1,h2,h3,h3',Option.bind_some,if_true]
      rw [if_pos (by lia),h6]
      simp
    · rcases List.mem_cons.mp hy with rfl | hy
      · exact h4
      · exact h8 y hy
theorem rG{cp:List (Nat × Str)}{nT:Nat}{fi:FI}{g:FG}{ft:FT}{fe:FE}{e e1 eo:En}{items out:List PyData}(h1:fi e=some (items,[],e1))(h3:dt g ft fe items (lJ cp nT e1) []=some (out,eo))(hb:j0 cp eo e1=true):bA cp nT fi g ft fe e=some (.l out,jj (jb cp) eo e1):=by
  unfold bA
  rw [h1]
  simp only [Option.bind_some,List.all_nil,if_true,h3]
  rw [if_pos hb]
end L2
namespace L2
open PySem PySem.Spec PyProof.Rows
mutual
def vn:Nat→PyData→Bool
  | _,.none=>true
  | _,.bool _=>true
  | _,.int i=>decide (i.natAbs < 2 ^ 128)
  | _,.str x=>PyData.strOk x&&decide (x.length≤10)
  | k,.list xs=>decide (0 < k)&&lM (k - 1) xs
  | k,.tuple xs=>decide (0 < k)&&lM (k - 1) xs
  | _,.dict _=>false
def lM:Nat→List PyData→Bool
  | _,[]=>true
  | k,x::r=>vn k x&&lM k r
end
mutual
def wt:PyData→Nat
  | .list xs=>l4 xs+1
  | .tuple xs=>l4 xs+1
  | .dict _=>1
  | .none=>1
  | .bool _=>1
  | .int _=>1
  | .str _=>1
def l4:List PyData→Nat
  | []=>0
  | x::r=>wt x+l4 r
end
theorem oy:∀(ts:List Str) (k:Nat) (acc:Str),(textFrom k acc ts).length≤acc.length+piled ts
  | [],_,acc=>by show acc.length≤acc.length+0;lia
  | t::r,k,acc=>by
    have ih:=oy r (k+1) (acc++(if k > 0 then ", " else "":String)++t)
    have e:(acc++(if k > 0 then ", " else "":String)++t).length≤acc.length+2+t.length:=by
      rw [strLen_append,strLen_append]
      have:(Str.ofString (if k > 0 then ", " else "")).length≤2:=by split<;>decide
      lia
    show(textFrom (k+1) _ r).length≤_
    rw [ee];lia
theorem tF(ts:List Str):(listText ts).length≤piled ts+2:=by
  unfold listText
  rw [strLen_append]
  have h:=oy ts 0 "["
  have h1:(("[":Str)).length=1:=by decide
  have h2:(("]":Str)).length=1:=by decide
  lia
theorem k7:∀(ts:List Str) (k:Nat) (acc:Str),PyData.strOk acc=true→(∀t∈ts,PyData.strOk t=true)→PyData.strOk (textFrom k acc ts)=true
  | [],_,acc,h,_=>h
  | t::r,k,acc,h,hs=>k7 r (k+1) _ (dj (dj h (bw _)) (hs t (by simp))) fun u hu=>hs u (by simp [hu])
theorem rC{ts:List Str}(h:∀t∈ts,PyData.strOk t=true):PyData.strOk (listText ts)=true:=dj (k7 ts 0 _ (bw _) h) (bw _)
structure BX (d:PyData) (k:Nat):Prop where
  lay:d.canLay0=true
  sh:d.showable=true
  dp:d.depth≤k
  ln:d.shown.length+2≤104*wt d
  so:PyData.strOk d.shown=true
theorem jY{d:PyData}{n:Nat}{k:Nat}(h:Sz n 0 d∨Sz n 2 d)(hn:n≤102)(hw:wt d=1)(hl:d.canLay0=true)(hd:d.depth=0):BX d k:=by
  rcases h with h | h<;>exact⟨hl,h.sh,by lia,by have:=h.ln;lia,h.so⟩
mutual
theorem oQ{k:Nat}:∀{d:PyData},vn k d=true→BX d k
  | .none,_=>⟨rfl,rfl,by simp [PyData.depth],by show(Str.ofString "None").length+2≤104*1;decide,bw _⟩
  | .bool b,_=>jY (.inr Sz.bool) (by decide) rfl rfl (by simp [PyData.depth])
  | .int i,h=>by
    simp only [vn,decide_eq_true_eq] at h
    exact jY (.inr (Sz.int10 (n:=39) (m:=128) (show Bt 128 i from h) (by decide) (by decide) (Nat.lt_of_lt_of_le h (by decide)) (by decide))) (by decide) rfl rfl (by simp [PyData.depth])
  | .str x,h=>by
    simp only [vn,Bool.and_eq_true,decide_eq_true_eq] at h
    exact jY (.inr (Sz.str (n:=10) h.1 h.2)) (by decide) rfl (by simpa [PyData.canLay0] using h.1) (by simp [PyData.depth])
  | .dict _,h=>by simp [vn] at h
  | .list xs,h=>by
    simp only [vn,Bool.and_eq_true,decide_eq_true_eq] at h
    obtain⟨a1,a2,a3,a4,a5⟩:=l8 h.2
    have:=tF (PyData.shownAll xs)
    refine⟨by simpa [PyData.canLay0] using a1,a2,by simp only [PyData.depth];lia,by simp only [PyData.shown,wt];lia,by simp only [PyData.shown];exact rC a5⟩
  | .tuple xs,h=>by
    simp only [vn,Bool.and_eq_true,decide_eq_true_eq] at h
    obtain⟨a1,a2,a3,a4,a5⟩:=l8 h.2
    have:=gL (PyData.shownAll xs)
    refine⟨by simpa [PyData.canLay0] using a1,a2,by simp only [PyData.depth];lia,by simp only [PyData.shown,wt];lia,by simp only [PyData.shown];exact ji a5⟩
theorem l8{k:Nat}:∀{ds:List PyData},lM k ds=true→PyData.canLayAll0 ds=true∧PyData.showableAll ds=true∧PyData.depthAll ds≤k∧piled (PyData.shownAll ds)≤104*l4 ds∧∀t∈PyData.shownAll ds,PyData.strOk t=true
  | [],_=>⟨rfl,rfl,by simp [PyData.depthAll],by simp [PyData.shownAll,piled],by simp [PyData.shownAll]⟩
  | d::r,h=>by
    simp only [lM,Bool.and_eq_true] at h
    obtain⟨a1,a2,a3,a4,a5⟩:=oQ h.1
    obtain⟨b1,b2,b3,b4,b5⟩:=l8 h.2
    refine⟨by simp only [PyData.canLayAll0,a1,b1,Bool.and_self],by simp only [PyData.showableAll,a2,b2,Bool.and_self],by simp only [PyData.depthAll];lia,by simp only [PyData.shownAll,ee,l4];lia,fun t ht=>?_⟩
    simp only [PyData.shownAll,List.mem_cons] at ht
    rcases ht with rfl | ht
    · exact a5
    · exact b5 t ht
end
theorem sC{e:En}{s:Str}(h:PyData.strOk s=true):c9 true e (.d (.str s)) (.d (.str s))=some (.d (.bool false)):=by
  unfold c9
  simp only [gR,Option.bind_some]
  have h0:SeqAt.shaped (.str s)=true:=by simp [SeqAt.shaped,PyData.canLay0,PyData.depth,h]
  rw [h0]
  simp [PyData.eqv]
end L2
namespace L2
open PySem PySem.Spec PyProof.Rows
section
variable{X:Cx}{K:PySem.W.Frag}
variable{a b:Expr}{fa fb:FE}{pos:Pos}
end
end L2
namespace L2
open PySem PySem.Spec PyProof.Rows
def tx(s:Str):List Nat:=s.cps.toList
end L2
namespace L2
open PySem PySem.Spec PyProof.Rows
end L2
namespace L2
open PySem PySem.Spec PyProof.Rows
end L2
namespace L2
open PySem PySem.Spec PyProof.Rows
section
variable{X:Cx}{K:PySem.W.Frag}{es:List Expr}{k0:Nat}{tp:Pos}{a b:Expr}{fs:FA}{p pos:Pos}
def qf(fs:FA):FI:=fun e=>(fs e).bind fun p=>match p.1 with
  | [.d (.tuple xs),.d (.tuple ys)]=>some (iX xs ys,[],p.2)
  | _=>none
theorem wW(hK:X.K=K)(hg:Gl X "zip")(hm:X.mg "zip"=none)(ha:PA X [a,b] (fA K fs))(hs:starEach [a,b] X.env=[(false,eval a X.env),(false,eval b X.env)])(hs2:starEach [b] X.env=[(false,eval b X.env)]):PI X (.Tuple es k0 tp) (.Call (.Name "zip" p) [a,b] [] pos) (fI K (qf fs)):=
    (zy (es:=es) (k0:=k0) (tp:=tp) hK hg hm ha hs hs2).mono fun σ H R hh=>by
  obtain⟨F,e,items,own,e',R0,hf,q⟩:=hh
  unfold qf at hf
  obtain⟨⟨rs,e1⟩,h1,hf⟩:=Option.bind_eq_some_iff.mp hf
  match rs,h1,hf with
  | [.d (.tuple xs),.d (.tuple ys)],h1,hf=>
  cases hf
  refine⟨F,e,_,e1,R0,h1,fun F1 H1 vs X1 R1 A1=>?_⟩
  obtain⟨v,u,rfl,a1,a2⟩:=mL A1
  obtain⟨p1,vs,rfl,s1,d1⟩:=bP.mp (show DA K F1 (.tuple xs) v from a1)
  obtain⟨p2,us,rfl,s2,d2⟩:=bP.mp (show DA K F1 (.tuple ys) u from a2)
  exact⟨p1,p2,rfl,⟨vs,R1.sm.tup s1⟩,⟨us,R1.sm.tup s2⟩,q _ F1 H1 X1 R1 (fun z hz=>by cases hz) (s_ (kJ:=[]) (own2:=[]) (P:=bK K) (Q:=bK K) (.tup s1 d1) (.tup s2 d2) (fun _ _ h=>h) (fun _ _ h=>h) (fun i H vs us x y h1 h2 h3 h4=>⟨vs,us,x,y,h1,h2,h3,h4⟩) (fun i H vs us h1 h2 h3=>⟨vs,us,h1,h2,h3⟩) fun i H v H' h=>h)⟩
end
end L2
namespace L2
open PySem PySem.Spec PyProof.Rows
def Dx(x:Nd)(b:Bool):Int:=if b=true then x.yes else x.no
def yf(T:List Nd)(i:Nat)(b:Bool):Int:=match T[i]? with
  | some x=>Dx x b
  | none=> -1
def Cn(T:List Nd):Prop:=∀(i j:Nat) (a b:Bool),yf T i a=yf T j b→yf T i a≠ -1→i=j∧a=b
def C1(w:Wt):Int × Int:=(w.par,w.side)
structure DD (T:List Nd) (ws:List Wt):Prop where
  unq:Cn T
  rng:∀i a,yf T i a= -1∨(0 < yf T i a∧yf T i a < (T.length:Int))
  free:∀w∈ws,w.par= -1∨(0≤w.par∧w.par < (T.length:Int)∧yf T w.par.toNat (w.side==0)= -1)
  dst:(ws.map C1).Nodup
  side:∀w∈ws,w.side=0∨w.side=1
structure DF (T:List Nd) (w0 ws order:List Int):Prop where
  nd:(order++ws).Nodup
  par:∀v∈order++ws,v=0∨∃u∈order,∃b,yf T u.toNat b=v∧v≠ -1
  fst:(order=[]∧ws=w0)∨order[0]?=some 0
end L2
namespace L2
open PySem PySem.Spec PyProof.Rows
section
variable{prog:Program}{w:World}{A:Around}{E:Value→Shared→Prop}{s:Shared}
end
section
variable{X:Cx}{tg a:Expr}{ta:TA}{p pos:Pos}
end
section
variable{X:Cx}{K:PySem.W.Frag}{σ:L2.St}{tg a:Expr}{fs:FA}{p pos:Pos}
end
end L2
namespace L2
open PySem PySem.Spec PyProof.Rows
section
variable{X:Cx}{a k:Expr}{p2 pos:Pos}{fa fk:FE}{K:PySem.W.Frag}
section
variable{prog:Program}{w:World}{A:Around}{E:Value→Shared→Prop}{s:Shared}
end
end
end L2
namespace L2
open PySem PySem.Spec PyProof.Rows
section
variable{X:Cx}{a b:Expr}{ta:TA}{p p2 pos pos2:Pos}{K:PySem.W.Frag}{fs:FA}
end
section
variable{X:Cx}{o i e:Expr}{fo fi:FE}{tpos pos:Pos}{K:PySem.W.Frag}
end
end L2
namespace L2
open PySem PySem.Spec PyProof.Rows
section
variable{X:Cx}{K:PySem.W.Frag}
end
end L2
namespace L2
open PySem PySem.Spec PyProof.Rows
section
open PySem.MeetsSeq2 PySem.AutoSeq1 PySem.SeqAt
end
section
variable{X:Cx}{K:PySem.W.Frag}{o a:Expr}{to te:TE}{name:Str}{apos cpos:Pos}{T id:String}{r:V→List V→Hp→VK→Prop}{fo fa:FE}
end
end L2
namespace L2
open PySem PySem.Spec PyProof.Rows
section
variable{X:Cx}{K:PySem.W.Frag}{o a:Expr}{apos cpos:Pos}{fo fa:FE}
end
end L2
namespace L2
open PySem PySem.Spec PyProof.Rows
section
variable{K:PySem.W.Frag}{F H:Hp}{σ:L2.St}{e:En}{cp:List (Nat × Str)}{nT:Nat}
end
section
variable{X:Cx}{K:PySem.W.Frag}{a b:Expr}{es:List Expr}{fa fb:FE}{fs:FA}{pos p p2 p3:Pos}{lo hi:Option Expr}
end
end L2
namespace L2
open PySem PySem.Spec PyProof.Rows
section
variable{X:Cx}{K:PySem.W.Frag}
end
end L2
namespace L2
open PySem PySem.Spec PyProof.Rows
section
variable{X:Cx}{K:PySem.W.Frag}{a b:Expr}{fa fb:FE}{pos:Pos}
end
end L2
namespace L2
open PySem PySem.Spec PyProof.Rows
section
variable{X:Cx}{K:PySem.W.Frag}
theorem jp{prog:Program}{w:World}{A:Around}{E:Value→Shared→Prop}{s:Shared}{t:Addr}{vs:List Value}{Q:List Value→Shared→Prop}(ht:s.heap.IsList t vs.toArray)
    (h:Q vs {s with heap:=(s.heap.push (seqObj "list" #[] 0)).update s.heap.objs.size (Obj.mapSeq (· ++vs.toArray))})(hsz:vs.length≤sizeLine):wpAny (model prog w) A (collect (.ref t)) Q E s:=by
  obtain⟨o,ho,hc,n,hd⟩:=id ht;unfold collect;refine wpAny_bind (wpAny_runValue (codeAny_builtin entry_proto_collect' ?_))
  show wpAny _ _ (do again (.builtin "list.__iadd__" ⟨[←newList [],.ref t],[]⟩)) _ _ s
  refine wpAny_bind (wpAny_newList (wpAny_pure ⟨Code.quiet_builtin _ (by decide+kernel),?_⟩));refine codeAny_builtin entry_list_iadd' ?_
  show wpAny _ _ (Builtin.List.listExtendWith (.ref s.heap.objs.size) (.ref t) (.ref s.heap.objs.size)) _ _ {s with heap:=s.heap.push (seqObj "list" #[] 0)}
  unfold Builtin.List.listExtendWith;have ho':(s.heap.push (seqObj "list" #[] 0)).get? t=some o:=Heap.get?_push_of_some _ ho
  refine wpAny_bind (wpAny_typeOf (T:="list") ⟨o,ho',hc⟩ ?_)
  rw [if_pos (by rw [show(Value.type "list"==Value.type "list")=true from rfl,Bool.or_true,Bool.true_or])]
  refine wpAny_bind (listItems_at ho' hd ?_);refine wpAny_bind (listItems_at (xs:=#[]) (n:=0) (Heap.get?_push_size _ rfl) rfl ?_)
  rw [if_neg (by simp)];refine wpAny_bind (listUpdate_at (xs:=#[]) (n:=0) (Heap.get?_push_size _ rfl) rfl ?_ (Nat.zero_le _) (by show(#[]++vs.toArray).size≤sizeLine+1;simp only [Array.size_append,List.size_toArray,List.length_nil];lia))
  refine wpAny_pure ?_
  show wpAny (model prog w) A (load s.heap.objs.size >>= fun o=>match o.data with | .seq xs _=>pure xs.toList | _=>unsupported "internal:collect") Q E {s with heap:=(s.heap.push (seqObj "list" #[] 0)).update s.heap.objs.size (Obj.mapSeq (· ++vs.toArray))}
  refine wpAny_bind (wpAny_load (get?_update_seq (Heap.get?_push_size _ rfl) _) ?_);show wpAny _ _ (pure ((#[]:Array Value)++vs.toArray).toList) Q E _;rw [show((#[]:Array Value)++vs.toArray).toList=vs by simp];exact wpAny_pure h
theorem pJ{prog:Program}{w:World}{A:Around}{E:Value→Shared→Prop}{s:Shared}{t:Addr}{vs:List Value}{ns:List Int}{Q:Value→Shared→Prop}(ht:s.heap.IsList t vs.toArray)(hI:IntsAre vs ns)(h64:vs.length < 64)
    (h:∀(out:Array Value) (ns':List Int),IntsAre out.toList ns'→ns'.Perm ns→ns'.Pairwise (· ≤·)→Q (.ref (s.heap.objs.size+1)) {s with heap:=sortedAll s.heap vs out}):wpAny (model prog w) A (call (.builtin "sorted") [.ref t]) Q E s:=by
  refine Calls.call_function_entry kind_sorted plain_sorted entry_sorted (args_sorted1 _) ?_;unfold Builtin.«sorted»
  refine wpAny_bind (m:=checkCount "sorted" 1 1 _) (wpAny_pure ?_);refine wpAny_bind (jp ht ?_ (Nat.le_trans (Nat.le_of_lt h64) (by decide)))
  have z:((s.heap.push (seqObj "list" #[] 0)).update s.heap.objs.size (Obj.mapSeq (· ++vs.toArray))).objs.size=s.heap.objs.size+1:=by rw [Heap.size_update,size_push']
  have o:(((s.heap.push (seqObj "list" #[] 0)).update s.heap.objs.size (Obj.mapSeq (· ++vs.toArray))).push (seqObj "list" vs.toArray 0)).get? (s.heap.objs.size+1)=some (seqObj "list" vs.toArray 0):=by rw [←z];exact Heap.get?_push_size _ rfl
  refine wpAny_bind (wpAny_newList ?_);show wpAny _ _ _ _ _ {s with heap:=((s.heap.push (seqObj "list" #[] 0)).update s.heap.objs.size (Obj.mapSeq (· ++vs.toArray))).push (seqObj "list" vs.toArray 0)}
  rw [z];refine wpAny_bind (wpAny_holding (wpAny_call_entry slot_list_sort ⟨_,o,rfl⟩ entry_list_sort (list_sort_tree o hI h64 fun out ns' b1 b2 b3=>⟨_,rfl,?_⟩) (args_list_sort _)))
  exact wpAny_pure ⟨_,rfl,h out ns' b1 b2 b3⟩
theorem me:cD X (.builtin "sorted") (fun xs H Q=>∃(a:Addr) (ns:List Int),xs=[.ref a]∧fH X.K H a (ns.map V.int)∧ns.length < 64∧∀(l:Addr) (ns':List Int) (H':Hp),ao H H'→H l=none→H' l=some (.lst (ns'.map V.int))→ns'.Perm ns→ns'.Pairwise (· ≤·)→Q (.ref l) H'):=by
  intro pins s σ H xs us Q I r h
  obtain⟨a,ns,rfl,hs,h64,q⟩:=h
  obtain⟨u,rfl,ru⟩:=i_ r
  cases ru
  obtain⟨its,rv,p,hz⟩:=I.list hs
  have hl:=rv.length
  rw [List.length_map] at hl
  refine pJ p.isList (fq rv) (by lia) fun out ns' a1 a2 a3=>?_
  obtain⟨e,he⟩:=sortedAll_at s.heap its out
  have hf:H (s.heap.objs.size+1)=none:=I.hok.fresh (Nat.le_succ _)
  refine⟨.ref (s.heap.objs.size+1),aS H (s.heap.objs.size+1) (.lst (ns'.map V.int)),I.laid (t':=s.toks) (fun _ _=>sortedAll_old) (Nat.le_succ _) ⟨?_,out.toList,e,gM a1,?_⟩,rfl,q _ ns' _ (ao.new hf) hf av a2 a3⟩
  · rw [List.length_map,a2.length_eq]
    exact Nat.le_trans (Nat.le_of_lt h64) (by decide)
  · simpa [seqObj] using he
def fj:En→Rv→Option Rv:=fun e x=>(dG e x).bind fun z=>(gS z.2).bind fun ns=>if ns.length < 64 then some (.l ((eG ns).map .int)) else none
def mI(K:PySem.W.Frag):List V→Hp→VK→Prop:=fun xs H Q=>∃(a:Addr) (ns:List Int),xs=[.ref a]∧(fH K H a (ns.map V.int)∨bK K H a (ns.map V.int))∧ns.length < 64∧∀(l:Addr) (H':Hp),ao H H'→H l=none→H' l=some (.lst ((eG ns).map V.int))→Q (.ref l) H'
theorem oY:cD X (.builtin "sorted") (mI X.K):=by
  intro pins s σ H xs us Q I rv h
  obtain⟨a,ns,e1,e2,e3,q⟩:=h
  rcases e2 with e2 | e2
  · exact me pins s σ H xs us Q I rv ⟨a,ns,e1,e2,e3,fun l ns' H' sm hn hl hp hs=>q l H' sm hn (by rw [←kX hp hs];exact hl)⟩
  · exact jo pins s σ H xs us Q I rv ⟨a,ns,e1,e2,e3,fun l ns' H' sm hn hl hp hs=>q l H' sm hn (by rw [←kX hp hs];exact hl)⟩
theorem xi:cR K (mI K) (g1 fj):=en fun σ H0 F H e x z v Q R A hg q=>by
  unfold fj at hg
  obtain⟨⟨b,ds⟩,h1,hg⟩:=Option.bind_eq_some_iff.mp hg
  obtain⟨ns,h6,hg⟩:=Option.bind_eq_some_iff.mp hg
  split at hg
  case isFalse=>cases hg
  case isTrue hl=>
  cases hg
  obtain⟨p,vs,rfl,d1,s1⟩:=cL R A h1
  have e1:ds=ns.map .int:=fY h6
  subst e1
  have e2:=ay.ints.mp d1
  subst e2
  refine⟨p,ns,rfl,?_,hl,fun l H' sm hn hl'=>?_⟩
  · cases b with
    | true=>exact .inl s1
    | false=>exact .inr s1
  obtain⟨R4,X4⟩:=R.same sm
  exact q F H' _ X4 R4 ⟨l,_,rfl,hn,R.freeF hn,hl',ay.ints.mpr rfl,fun z=>R.ownH l ((R.sameOwn sm l).mp z) hn⟩
theorem sQ{e:En}{i:Nat}{ns:List Int}(hi:e[i]?=some (some (.l (ns.map .int))))(h:ns.length < 64):g1 fj e [.s i]=some (.l ((eG ns).map .int)):=by
  simp [g1,fj,dG,hi,gF,h]
end
end L2
namespace L2
open PySem PySem.Spec PyProof.Rows
mutual
theorem gY:∀(d:PyData),eA d=true→ec d=true
  | .none,_=>rfl
  | .bool _,_=>rfl
  | .int _,_=>rfl
  | .str _,_=>rfl
  | .tuple ds,h=>by simp only [ec];exact js ds (by simpa [eA] using h)
  | .list ds,h=>by simp [eA] at h
  | .dict _,h=>by simp [eA] at h
theorem js:∀(ds:List PyData),ez ds=true→dy ds=true
  | [],_=>rfl
  | d::r,h=>by
    simp only [ez,Bool.and_eq_true] at h
    simp only [dy,gY d h.1,js r h.2,Bool.and_self]
end
structure Sw (b:Bool) (n dep:Nat) (d:PyData):Prop where
  dl:bif b then ec d=true else d.hasDict=false
  sh:d.showable=true
  dp:d.depth≤dep
  ln:d.shown.length+2≤n
  so:PyData.strOk d.shown=true
theorem Sw.mono{b:Bool}{n m dep e:Nat}{d:PyData}(h:Sw b n dep d)(h1:n≤m)(h2:dep≤e):Sw b m e d:=⟨h.dl,h.sh,Nat.le_trans h.dp h2,Nat.le_trans h.ln h1,h.so⟩
theorem Sz.sw{n dep:Nat}{d:PyData}(h:Sz n dep d)(b:Bool):Sw b (n+2) dep d:=⟨by cases b;exact eB d h.fl;exact gY d h.fl,h.sh,h.dp,by have:=h.ln;lia,h.so⟩
theorem BX.swF{k:Nat}{d:PyData}(h:BX d k)(f:eA d=true)(b:Bool):Sw b (104*wt d) k d:=⟨by cases b;exact eB d f;exact gY d f,h.sh,h.dp,h.ln,h.so⟩
theorem Sw.all{b:Bool}{n dep:Nat}:∀{ds:List PyData},(∀d∈ds,Sw b n dep d)→(bif b then dy ds=true else PyData.hasDictAll ds=false)∧PyData.showableAll ds=true∧PyData.depthAll ds≤dep∧piled (PyData.shownAll ds)≤ds.length*n∧∀t∈PyData.shownAll ds,PyData.strOk t=true
  | [],_=>⟨by cases b<;>rfl,rfl,by simp [PyData.depthAll],by simp [PyData.shownAll,piled],by simp [PyData.shownAll]⟩
  | d::r,h=>by
    obtain⟨a1,a2,a3,a4,a5⟩:=h d (by simp)
    obtain⟨b1,b2,b3,b4,b5⟩:=Sw.all (ds:=r) fun x hx=>h x (by simp [hx])
    refine⟨?_,?_,?_,?_,?_⟩
    · cases b
      · simp only [cond_false] at a1 b1 ⊢;simp only [PyData.hasDictAll,a1,b1,Bool.or_self]
      · simp only [cond_true] at a1 b1 ⊢;simp only [dy,a1,b1,Bool.and_self]
    · simp only [PyData.showableAll,a2,b2,Bool.and_self]
    · simp only [PyData.depthAll];lia
    · simp only [PyData.shownAll,ee,List.length_cons,Nat.succ_mul];lia
    · intro t ht
      simp only [PyData.shownAll,List.mem_cons] at ht
      rcases ht with rfl | ht
      · exact a5
      · exact b5 t ht
theorem Sw.tup{b:Bool}{n dep m:Nat}{ds:List PyData}(h:∀d∈ds,Sw b n dep d)(hl:ds.length≤m):Sw b (m*n+5) (dep+1) (.tuple ds):=by
  obtain⟨b1,b2,b3,b4,b5⟩:=Sw.all h
  refine⟨by cases b<;>simpa [ec,PyData.hasDict] using b1,b2,by simp only [PyData.depth];lia,?_,by simp only [PyData.shown];exact ji b5⟩
  have h2:=gL (PyData.shownAll ds)
  have:=Nat.mul_le_mul_right n hl
  simp only [PyData.shown]
  lia
theorem Sw.ok{b:Bool}{n dep:Nat}{d:PyData}(h:Sw b n dep d)(h1:n≤16777216)(h2:dep≤60):fB d=true:=by
  have sl:sizeLine=16777216:=sizeLine_eq
  have hd:(!d.hasDict || ec d)=true:=by
    have:=h.dl
    cases b
    · simp only [cond_false] at this;simp [this]
    · simp only [cond_true] at this;simp [this]
  have:=h.ln
  unfold fB
  rw [hd,h.sh,decide_eq_true (Nat.le_trans h.dp h2),decide_eq_true (show d.shown.length≤sizeLine by rw [sl];lia)]
  simp
theorem Sw.repr{b:Bool}{n dep:Nat}{d:PyData}(h:Sw b n dep d)(h1:n≤16777216)(h2:dep≤60)(e:En):g1 fW e [.d d]=some (.d (.str d.shown)):=qd (h.ok h1 h2)
theorem Sw.int{b:Bool}{i:Int}(h:i.natAbs < 2 ^ 128):Sw b 200 0 (.int i):=((oQ (k:=0) (d:=.int i) (by simp only [vn,decide_eq_true_eq];exact h)).swF rfl b).mono (by simp [wt]) (by decide)
theorem Sw.ints{b:Bool}{ns:List Int}{m:Nat}(h:∀r∈ns,r.natAbs < 2 ^ 128)(hl:ns.length≤m):Sw b (m*200+5) 1 (.tuple (ns.map .int)):=Sw.tup (n:=200) (dep:=0) (fun d hd=>by
  obtain⟨x,hx,rfl⟩:=List.mem_map.mp hd
  exact Sw.int (h x hx)) (by rw [List.length_map];exact hl)
end L2
namespace L2
open PySem PySem.Spec PyProof.Rows
def de:List Fr→Int
  | []=>1
  | f::r=>f.2*de r
theorem gJ:∀{ws:List Fr},(∀f∈ws,0 < f.2)→0 < de ws
  | [],_=>by decide
  | f::r,h=>Int.mul_pos (h f (by simp)) (gJ fun g hg=>h g (by simp [hg]))
theorem fy:∀{ws:List Fr} {f:Fr},f∈ws→f.2 ∣ de ws
  | [],f,h=>by cases h
  | g::r,f,h=>by
    rcases List.mem_cons.mp h with rfl | h
    · exact⟨de r,rfl⟩
    · exact Int.dvd_trans (fy h) ⟨g.2,by rw [de,Int.mul_comm]⟩
theorem hX{n:Nat}:∀{ws:List Fr},(∀f∈ws,Bt n f.2)→Bt (n*ws.length+1) (de ws)
  | [],_=>by show Bt 1 1;unfold Bt;decide
  | f::r,h=>by
    have:=(h f (by simp)).mul (hX (ws:=r) fun g hg=>h g (by simp [hg]))
    rw [de]
    exact this.mono (by rw [List.length_cons,Nat.mul_succ];lia)
structure S1 (n:Nat) (f:Fr):Prop where
  low:qJ f
  lo:0≤f.1
  hi:f.1≤f.2
  bt:Bt n f.2
theorem S1.mono{n m:Nat}{f:Fr}(h:S1 n f)(hm:n≤m):S1 m f:=⟨h.low,h.lo,h.hi,h.bt.mono hm⟩
theorem S1.top{n:Nat}{f:Fr}(h:S1 n f):Bt n f.1:=h.bt.of_le (by have:=h.lo;have:=h.hi;lia)
theorem S1.rok{n:Nat}{f:Fr}{M:Int}(h:S1 n f)(hd:f.2 ∣ M):qK M f:=⟨h.low.pos,h.lo,h.hi,hd⟩
def o6(t:jm):Fr:=(t.top,t.bot)
theorem j4{W:aW}(ok:W.Ok){t:jm}(ht:t∈W.ties):S1 7 (o6 t):=by
  have o:=ok.ties t ht
  exact⟨⟨by have:=o.b0;show 0 < t.bot;lia,o.cop⟩,o.c0,o.c1,by have:=o.b1;have:=o.b0;show Bt 7 t.bot;unfold Bt;lia⟩
def ye(e:Int)(t:jm):Bool:=t.one==e || t.other==e
def oH(W:aW)(ws:List Fr)(e:Int):List (Fr × jm):=(ws.zip W.ties).filter fun p=>ye e p.2
def B_(W:aW)(ws:List Fr)(e:Int):Fr:=bZ (0,1) ((oH W ws e).map fun p=>tm p.1 (o6 p.2))
def B'(W:aW)(ws:List Fr)(e:Int):Fr:=bZ (0,1) ((oH W ws e).map (·.1))
def AY(W:aW)(ws:List Fr)(e:Nat):List (Fr × Int):=[(B_ W ws e,1),(B' W ws e,W.pat.getD e 0)]
def gN(W:aW)(ws:List Fr):Nat→List (Fr × Int)
  | 0=>[(bZ (0,1) ws,W.asks)]
  | n+1=>gN W ws n++AY W ws n
def cM(W:aW)(ws:List Fr):Int:=de ws*de (W.ties.map o6)
theorem r6{W:aW}(ok:W.Ok){ws:List Fr}{n:Nat}(h:∀f∈ws,S1 n f):0 < cM W ws∧Bt (n*ws.length+114) (cM W ws):=by
  have hc:∀f∈W.ties.map o6,S1 7 f:=fun f hf=>by
    obtain⟨t,ht,rfl⟩:=List.mem_map.mp hf
    exact j4 ok ht
  refine⟨Int.mul_pos (gJ fun f hf=>(h f hf).low.pos) (gJ fun f hf=>(hc f hf).low.pos),?_⟩
  have wl:=ok.len
  exact((hX fun f hf=>(h f hf).bt).mul (hX fun f hf=>(hc f hf).bt)).mono (by rw [List.length_map];lia)
theorem dN{W:aW}{ws:List Fr}{e:Int}{p:Fr × jm}(h:p∈oH W ws e):p.1∈ws∧p.2∈W.ties∧ye e p.2=true:=by
  have:=List.mem_filter.mp h
  have hz:=List.of_mem_zip (show(p.1,p.2)∈ws.zip W.ties from this.1)
  exact⟨hz.1,hz.2,this.2⟩
theorem qz{W:aW}{ws:List Fr}{e:Int}:(oH W ws e).length≤ws.length:=Nat.le_trans (List.length_filter_le _ _) (by rw [List.length_zip];lia)
theorem jQ{W:aW}{ws:List Fr}{n:Nat}(h:∀f∈ws,S1 n f){f:Fr}(hf:f∈ws):qK (cM W ws) f:=(h f hf).rok (Int.dvd_trans (fy hf) ⟨_,rfl⟩)
theorem uE{W:aW}(ok:W.Ok){ws:List Fr}{n:Nat}(h:∀f∈ws,S1 n f){f:Fr}{t:jm}(hf:f∈ws)(ht:t∈W.ties):qK (cM W ws) (tm f (o6 t)):=((h f hf).rok (fy hf)).tm ((j4 ok ht).rok (fy (List.mem_map_of_mem ht)))
theorem uU{M:Int}{L:List Fr}(h:∀f∈L,qK M f):oG M (L.length:Int) (bZ (0,1) L)∧qJ (bZ (0,1) L):=by
  obtain⟨h1,h2,_⟩:=qA (M:=M) (j:=1) L (a:=(0,1)) (i:=0) (Al (Int.le_refl 0)) qG (by decide) fun f hf=>⟨(h f hf).pos,(h f hf).lo,by rw [Int.one_mul];exact(h f hf).hi,(h f hf).dv⟩
  rw [Int.zero_add,Int.one_mul] at h1
  exact⟨h1,h2⟩
structure DG (b f g:Fr):Prop where
  pf:0 < f.2
  pg:0 < g.2
  eq:g.1*(f.2*b.1)=g.2*(f.1*b.2)
def w_(b f:Fr):Fr:=lowM (f.1*b.2) (f.2*b.1)
theorem zX{b f:Fr}{n m:Nat}(hf:S1 n f)(b1:0 < b.2)(b2:b.2≤b.1)(bt:Bt m b.1):S1 (n+m) (w_ b f):=by
  have hb:0 < b.1:=by lia
  have p:=Int.mul_pos hf.low.pos hb
  have t:0≤f.1*b.2:=Int.mul_nonneg hf.lo (Int.le_of_lt b1)
  obtain⟨d,d0,h3,h4,h5,h6⟩:=fx p t
  refine⟨qJ.lowM p,h6,?_,?_⟩
  · have:=jO (i:=1) p t (by rw [Int.one_mul];exact Int.mul_le_mul hf.hi b2 (Int.le_of_lt b1) (Int.le_of_lt hf.low.pos))
    rwa [Int.one_mul] at this
  · have l:=Int.le_of_dvd p (iC p t)
    have:=(qJ.lowM (t:=f.1*b.2) p).pos
    exact(hf.bt.mul bt).of_le (by show(lowM _ _).2.natAbs≤_;lia)
end L2
namespace L2
open PySem PySem.Spec PyProof.Rows
end L2
namespace L2
open PySem PySem.Spec PyProof.Rows
end L2
namespace L2
open PySem PySem.Spec PyProof.Rows
structure DE (O:aW) (ss ws:List Std):Prop where
  len:ss.length=ws.length
  at':∀j,(ss.getD j ([],[])).1=(ws.getD j ([],[])).1∧(ss.getD j ([],[])).2.length≤2*(ss.getD j ([],[])).1.length∧∀k∈(ss.getD j ([],[])).1,oJ O k
structure DC (O:aW) (T:List Nd):Prop where
  tie:∀(i:Nat) (x:Nd),T[i]?=some x→oJ O x.tie
  lk:∀(i:Nat) (x:Nd),T[i]?=some x→(-1≤x.yes∧x.yes < (T.length:Int))∧(-1≤x.no∧x.no < (T.length:Int))
end L2
namespace L2
open PySem PySem.Spec PyProof.Rows
section
variable{K:PySem.W.Frag}
variable{X:Cx}{σ:L2.St}{H0 H:Hp}{e:En}
end
end L2
namespace L2
open PySem PySem.Spec PyProof.Rows
section
variable{X:Cx}{a b:Expr}{ta:TA}{p p2 pos pos2:Pos}
end
end L2
namespace L2
open PySem PySem.Spec PyProof.Rows
section
variable{X:Cx}{K:PySem.W.Frag}{fs:FA}{a b:Expr}{p p2 pos pos2:Pos}
end
end L2
namespace L2
open PySem PySem.Spec PyProof.Rows
end L2
namespace L2
open PySem PySem.Spec PyProof.Rows PySem.W
def ph(lt:Nat→Nat→Bool)(n:Nat){α:Type}:KasT α→(α→Prop)→Prop
  | .ret a,Q=>Q a
  | .ask i j k,Q=>i < n∧j < n∧ph lt n (k (lt i j)) Q
theorem eP{lt:Nat→Nat→Bool}{n:Nat}{α β:Type}{f:α→KasT β}{Q:β→Prop}:∀(t:KasT α),ph lt n t (fun a=>ph lt n (f a) Q)→ph lt n (t.bind f) Q
  | .ret _,h=>h
  | .ask i j k,h=>⟨h.1,h.2.1,eP (k (lt i j)) h.2.2⟩
theorem bT{lt:Nat→Nat→Bool}{n:Nat}{α:Type}{Q Q':α→Prop}(hq:∀a,Q a→Q' a):∀(t:KasT α),ph lt n t Q→ph lt n t Q'
  | .ret a,h=>hq a h
  | .ask i j k,h=>⟨h.1,h.2.1,bT hq (k (lt i j)) h.2.2⟩
theorem si{lt:Nat→Nat→Bool}{n:Nat}{α:Type}{Q:α→Prop}{cmp:Nat→Nat→(Bool→Shared→Prop)→Shared→Prop}{s:Shared}(hc:∀i j C,i < n→j < n→C (lt i j) s→cmp i j C s):∀(t:KasT α),ph lt n t Q→t.kasWp cmp (fun a s'=>s'=s∧Q a) s
  | .ret _,h=>⟨rfl,h⟩
  | .ask i j k,h=>hc i j _ h.1 h.2.1 (si hc (k (lt i j)) h.2.2)
structure vt (lt:Nat→Nat→Bool):Prop where
  irr:∀i,lt i i=false
  tr:∀{i j k},lt i j=false→lt j k=false→lt i k=false
  asy:∀{i j},lt i j=true→lt j i=false
abbrev gA(p:Array Nat)(i:Nat):Nat:=p.getD i 0
structure k9 (n:Nat) (p:Array Nat):Prop where
  sz:p.size=n
  pm:p.Perm (List.toArray (List.range n))
theorem k9.lt{n:Nat}{p:Array Nat}(h:k9 n p){i:Nat}(hi:i < n):gA p i < n:=by
  have hi':i < p.size:=by rw [h.sz];exact hi
  have e:gA p i=p[i]:=by simp [gA,Array.getD,hi']
  rw [e]
  have:=(h.pm.mem_iff (a:=p[i])).mp (Array.getElem_mem hi')
  simpa using this
def SA(lt:Nat→Nat→Bool)(p:Array Nat)(m:Nat):Prop:=∀i j,i < j→j < m→lt (gA p j) (gA p i)=false
def mP(lt:Nat→Nat→Bool)(p:Array Nat)(m:Nat):Prop:=∀i j,i < j→j < m→lt (gA p i) (gA p j)=false
def EA(lt:Nat→Nat→Bool)(p:Array Nat)(a b:Nat):Prop:=∀i j,a≤i→i < b→a≤j→j < b→lt (gA p i) (gA p j)=false
theorem m8{p q:Array Nat}{i j:Nat}(h:p[i]?=q[j]?):gA p i=gA q j:=by
  unfold gA
  rw [Array.getD_eq_getD_getElem?,Array.getD_eq_getD_getElem?,h]
theorem mn{p:Array Nat}{a b k:Nat}(hb:b≤p.size):gA (kas_rev p a b) k=if a≤k∧k < b then gA p (a+b - 1 - k) else gA p k:=by
  have h:=getElem?_mirror_all (xs:=p) (i:=a) hb k
  split
  · rename_i c;rw [if_pos c] at h;exact m8 h
  · rename_i c;rw [if_neg c] at h;exact m8 h
theorem k9.rev{n:Nat}{p:Array Nat}(h:k9 n p)(a b:Nat):k9 n (kas_rev p a b):=⟨by rw [kas_rev_size];exact h.sz,(mirror_perm _ _ _ _).trans h.pm⟩
section
variable{lt:Nat→Nat→Bool}{n:Nat}(O:vt lt)
include O
theorem SA.snoc{p:Array Nat}{m:Nat}(h:SA lt p m)(h1:1≤m)(hl:lt (gA p m) (gA p (m - 1))=false):SA lt p (m+1):=fun i j hij hj=>by
  by_cases e:j=m
  · subst e
    by_cases e2:i=j - 1
    · rw [e2];exact hl
    · exact O.tr hl (h i (j - 1) (by lia) (by lia))
  · exact h i j hij (by lia)
theorem mP.snoc{p:Array Nat}{m:Nat}(h:mP lt p m)(h1:1≤m)(hl:lt (gA p (m - 1)) (gA p m)=false):mP lt p (m+1):=fun i j hij hj=>by
  by_cases e:j=m
  · subst e
    by_cases e2:i=j - 1
    · rw [e2];exact hl
    · exact O.tr (h i (j - 1) (by lia) (by lia)) hl
  · exact h i j hij (by lia)
theorem pj{p:Array Nat}(hp:k9 n p){N:Nat}(hN:N≤n):∀(f m:Nat),1≤m→m+f=N→SA lt p m→ph lt n (kas_asc p f m) fun r=>m≤r∧r≤N∧SA lt p r∧(r < N→lt (gA p r) (gA p (r - 1))=true)
  | 0,m,h1,hm,hs=>⟨Nat.le_refl _,by lia,hs,fun h=>by lia⟩
  | f+1,m,h1,hm,hs=>by
    refine⟨hp.lt (by lia),hp.lt (by lia),?_⟩
    dsimp only
    by_cases c:lt (gA p m) (gA p (m - 1))=true
    · rw [if_pos c]
      exact⟨Nat.le_refl _,by lia,hs,fun _=>c⟩
    · rw [if_neg c]
      have c':lt (gA p m) (gA p (m - 1))=false:=by simpa using c
      exact bT (fun r ⟨a,b⟩=>⟨by lia,b⟩) _ (pj hp hN f (m+1) (by lia) (by lia) (SA.snoc O hs h1 c'))
theorem mP.rev{p:Array Nat}{a b m:Nat}(h:mP lt p m)(he:EA lt p a b)(hb:b≤m)(hm:m≤p.size):mP lt (kas_rev p a b) m:=fun i j hij hj=>by
  rw [mn (by lia),mn (by lia)]
  by_cases ci:a≤i∧i < b
  · rw [if_pos ci]
    by_cases cj:a≤j∧j < b
    · rw [if_pos cj];exact he _ _ (by lia) (by lia) (by lia) (by lia)
    · rw [if_neg cj];exact h _ _ (by lia) hj
  · rw [if_neg ci]
    by_cases cj:a≤j∧j < b
    · rw [if_pos cj];exact h _ _ (by lia) (by lia)
    · rw [if_neg cj];exact h _ _ hij hj
theorem jN{N:Nat}(hN:N≤n):∀(f:Nat) (p:Array Nat) (m q:Nat),k9 n p→q+1≤m→m+f=N→mP lt p m→EA lt p (m - (q+1)) m→
    ph lt n (kas_desc f p m q) fun r=>k9 n r.1∧m≤r.2.1∧r.2.1≤N∧mP lt r.1 r.2.1∧r.2.2+1≤r.2.1∧EA lt r.1 (r.2.1 - (r.2.2+1)) r.2.1
  | 0,p,m,q,hp,hq,hm,hd,he=>⟨hp,Nat.le_refl _,by show m≤N;lia,hd,hq,he⟩
  | f+1,p,m,q,hp,hq,hm,hd,he=>by
    have sz:=hp.sz
    refine⟨hp.lt (by lia),hp.lt (by lia),?_⟩
    dsimp only
    by_cases c:lt (gA p m) (gA p (m - 1))=true
    · rw [if_pos c]
      have d2:=mP.snoc O hd (by lia) (O.asy c)
      have e1:∀p':Array Nat,EA lt p' (m+1 - (0+1)) (m+1):=fun p' i j a b c d=>by
        obtain rfl:i=j:=by lia
        exact O.irr _
      split
      · exact bT (fun r ⟨a,b,c⟩=>⟨a,by lia,c⟩) _ (jN hN f _ (m+1) 0 (hp.rev _ _) (by lia) (by lia) (mP.rev O d2 he (by lia) (by lia)) (e1 _))
      · exact bT (fun r ⟨a,b,c⟩=>⟨a,by lia,c⟩) _ (jN hN f _ (m+1) 0 hp (by lia) (by lia) d2 (e1 _))
    · rw [if_neg c]
      have c':lt (gA p m) (gA p (m - 1))=false:=by simpa using c
      refine⟨hp.lt (by lia),hp.lt (by lia),?_⟩
      dsimp only
      by_cases d:lt (gA p (m - 1)) (gA p m)=true
      · rw [if_pos d];exact⟨hp,Nat.le_refl _,by show m≤N;lia,hd,hq,he⟩
      · rw [if_neg d]
        have d':lt (gA p (m - 1)) (gA p m)=false:=by simpa using d
        refine bT (fun r ⟨a,b,c⟩=>⟨a,by lia,c⟩) _ (jN hN f _ (m+1) (q+1) hp (by lia) (by lia) (mP.snoc O hd (by lia) d') fun i j a b c e=>?_)
        by_cases i1:i=m
        · subst i1
          by_cases j1:j=i
          · subst j1;exact O.irr _
          · exact O.tr c' (he _ _ (by lia) (by lia) (by lia) (by lia))
        · by_cases j1:j=m
          · subst j1;exact O.tr (he i (j - 1) (by lia) (by lia) (by lia) (by lia)) d'
          · exact he _ _ (by lia) (by lia) (by lia) (by lia)
abbrev Cc(lt:Nat→Nat→Bool)(n N:Nat)(r:Nat × Array Nat):Prop:=k9 n r.2∧1≤r.1∧r.1≤N∧SA lt r.2 r.1
theorem m7{N m:Nat}(hN:N≤n){p:Array Nat}(hp:k9 n p)(h1:1≤m)(hm:m≤N)(hd:mP lt p m):ph lt n (kas_tail3 m N p) (Cc lt n N):=by
  have sz:=hp.sz
  refine eP _ (bT (fun r ⟨a,b,c,_⟩=>⟨hp.rev _ _,by show 1≤r;lia,b,c⟩) _ (pj O (hp.rev 0 m) hN (N - m) m h1 (by lia) fun i j hij hj=>?_))
  rw [mn (by lia),mn (by lia),if_pos (by lia),if_pos (by lia)]
  exact hd _ _ (by lia) (by lia)
theorem jr{N m:Nat}(hN:N≤n){p:Array Nat}(hp:k9 n p)(hm:m+1≤N)(hd:mP lt p (m+1)):ph lt n (kas_descPart m N p) (Cc lt n N):=by
  refine eP _ (bT (fun r ⟨a,b,c,d,e,f⟩=>?_) _ (jN O hN (N - (m+1)) p (m+1) 0 hp (by lia) (by lia) hd fun i j a b c d=>by
    obtain rfl:i=j:=by lia
    exact O.irr _))
  have:=a.sz
  split
  · exact m7 O hN (a.rev _ _) (by lia) c (mP.rev O d f (Nat.le_refl _) (by lia))
  · exact m7 O hN a (by lia) c d
theorem sk{p:Array Nat}(hp:k9 n p)(h1:1≤n):ph lt n (kas_count n p) (Cc lt n n):=by
  refine eP _ (bT (fun m ⟨a,b,c,d⟩=>?_) _ (pj O hp (Nat.le_refl n) (n - 1) 1 (Nat.le_refl _) (by lia) fun i j hij hj=>by lia))
  by_cases e:m=n
  · subst e
    rw [if_pos (by simp)]
    exact⟨hp,a,Nat.le_refl _,c⟩
  · rw [if_neg (by simpa using e)]
    have dl:=O.asy (d (by lia))
    have sz:=hp.sz
    split
    · refine⟨hp.lt (by lia),hp.lt (by lia),?_⟩
      dsimp only
      by_cases q:lt (gA p 0) (gA p (m - 1))=true
      · rw [if_pos q];exact⟨hp,a,b,c⟩
      · rw [if_neg q]
        have q':lt (gA p 0) (gA p (m - 1))=false:=by simpa using q
        have ea:EA lt p 0 m:=fun i j _ hi _ hj=>by
          have x1:lt (gA p i) (gA p 0)=false:=by
            by_cases z:i=0
            · rw [z];exact O.irr _
            · exact c 0 i (by lia) hi
          have x2:lt (gA p (m - 1)) (gA p j)=false:=by
            by_cases z:j=m - 1
            · rw [z];exact O.irr _
            · exact c j (m - 1) (by lia) (by lia)
          exact O.tr x1 (O.tr q' x2)
        have da:mP lt p (m+1):=mP.snoc O (fun i j hij hj=>ea i j (by lia) (by lia) (by lia) hj) a dl
        exact jr O (Nat.le_refl n) (hp.rev 0 m) (by lia) (mP.rev O da ea (by lia) (by lia))
    · obtain rfl:m=1:=by lia
      exact jr O (Nat.le_refl n) hp (by lia) (mP.snoc O (fun i j hij hj=>by lia) a dl)
theorem j9{p:Array Nat}(hp:k9 n p){k:Nat}(hk:k < n)(hs:SA lt p k):∀(f l r:Nat),l≤r→r≤k→r - l≤f→(∀i,i < l→lt (gA p k) (gA p i)=false)→(∀i,r≤i→i < k→lt (gA p k) (gA p i)=true)→
    ph lt n (kas_place p k f l r) fun x=>x≤k∧(∀i,i < x→lt (gA p k) (gA p i)=false)∧∀i,x≤i→i < k→lt (gA p k) (gA p i)=true
  | 0,l,r,h1,h2,h3,hl,hr=>⟨by lia,hl,fun i a b=>hr i (by lia) b⟩
  | f+1,l,r,h1,h2,h3,hl,hr=>by
    unfold kas_place
    split
    · exact⟨by lia,hl,fun i a b=>hr i (by lia) b⟩
    · refine⟨hp.lt hk,hp.lt (by lia),?_⟩
      dsimp only
      by_cases c:lt (gA p k) (gA p ((l+r) / 2))=true
      · rw [if_pos c]
        refine j9 hp hk hs f l ((l+r) / 2) (by lia) (by lia) (by lia) hl fun i a b=>?_
        by_cases z:i=(l+r) / 2
        · rw [z];exact c
        · cases q:lt (gA p k) (gA p i) with
          | true=>rfl
          | false=>
            have:=O.tr q (hs ((l+r) / 2) i (by lia) b)
            rw [c] at this;cases this
      · rw [if_neg c]
        have c':lt (gA p k) (gA p ((l+r) / 2))=false:=by simpa using c
        refine j9 hp hk hs f ((l+r) / 2+1) r (by lia) h2 (by lia) (fun i a=>?_) hr
        by_cases z:i=(l+r) / 2
        · rw [z];exact c'
        · exact O.tr c' (hs i ((l+r) / 2) (by lia) (by lia))
theorem sv{p:Array Nat}{k d i:Nat}(hk:k < p.size)(hd:d≤k):gA (bubble p k d) i=if i=k - d then gA p k else if k - d < i∧i≤k then gA p (i - 1) else gA p i:=by
  have h:=getElem?_bubble hk d hd i
  by_cases c:i=k - d
  · rw [if_pos c] at h ⊢;exact m8 h
  · rw [if_neg c] at h ⊢
    by_cases c2:k - d < i∧i≤k
    · rw [if_pos c2] at h ⊢;exact m8 h
    · rw [if_neg c2] at h ⊢;exact m8 h
theorem sj:∀(f:Nat) (p:Array Nat) (k:Nat),k9 n p→k+f=n→SA lt p k→ph lt n (kas_bin f p k) fun p'=>k9 n p'∧SA lt p' n
  | 0,p,k,hp,hk,hs=>by
    obtain rfl:k=n:=by lia
    exact⟨hp,hs⟩
  | f+1,p,k,hp,hk,hs=>by
    have sz:=hp.sz
    refine eP _ (bT (fun l ⟨a,L,R⟩=>?_) _ (j9 O hp (by lia) hs k 0 k (by lia) (Nat.le_refl _) (by lia) (fun i h=>by lia) (fun i h1 h2=>by lia)))
    refine sj f _ (k+1) ⟨by rw [bubble_size];exact sz,(bubble_perm _ _ _).trans hp.pm⟩ (by lia) fun i j hij hj=>?_
    rw [sv O (by lia) (by lia),sv O (by lia) (by lia)]
    have e:k - (k - l)=l:=by lia
    rw [e]
    by_cases j1:j=l
    · rw [if_pos j1,if_neg (by lia),if_neg (by lia)]
      exact L i (by lia)
    · rw [if_neg j1]
      by_cases j2:l < j∧j≤k
      · rw [if_pos j2]
        by_cases i1:i=l
        · rw [if_pos i1];exact O.asy (R (j - 1) (by lia) (by lia))
        · rw [if_neg i1]
          by_cases i2:l < i∧i≤k
          · rw [if_pos i2];exact hs _ _ (by lia) (by lia)
          · rw [if_neg i2];exact hs _ _ (by lia) (by lia)
      · rw [if_neg j2,if_neg (by lia),if_neg (by lia)]
        exact hs _ _ hij (by lia)
theorem vH(h1:1≤n):ph lt n (kas_sort n) fun p=>k9 n p∧SA lt p n:=by
  refine eP _ (bT (fun r ⟨a,b,c,d⟩=>?_) _ (sk O (p:=List.toArray (List.range n)) ⟨by simp,Array.Perm.refl _⟩ h1))
  split
  · refine sj O _ _ _ a (by lia) ?_
    rw [show max r.1 1=r.1 by lia]
    exact d
  · obtain e:r.1=n:=by lia
    rw [e] at d
    exact⟨a,d⟩
end
end L2
namespace L2
open PySem PySem.Spec PyProof.Rows PySem.W
section
variable{prog:Program}{w:World}{A:Around}{E:Value→Shared→Prop}{s:Shared}
theorem pE{a:Addr}{vs:List Value}{n:Nat}{P:PySem.Fin→Shared→Prop}(ho:s.heap.get? a=some (seqObj "list" vs.toArray n))(h64:vs.length < 64){κ:SortKind}{lt:Nat→Nat→Bool}(O:vt lt)
    (hk:2≤vs.length→∀h':Heap,(∀b o,b≠a→s.heap.get? b=some o→h'.get? b=some o)→∀Q:SortKind→Shared→Prop,Q κ {s with heap:=h'}→wpAny (model prog w) A (keyKind' vs.toArray) Q (fun _ _=>False) {s with heap:=h'})
    (hlt:∀h':Heap,(∀b o,b≠a→s.heap.get? b=some o→h'.get? b=some o)→∀i j (C:Bool→Shared→Prop),i < vs.length→j < vs.length→C (lt i j) {s with heap:=h'}→wpAny (model prog w) A (keyLt' κ (vs.getD i Value.none) (vs.getD j Value.none)) C (fun _ _=>False) {s with heap:=h'})
    (h:∀p:Array Nat,k9 vs.length p→SA lt p vs.length→P (.done (.ret .none)) {s with heap:=sortedHeap s.heap a vs (List.toArray (p.toList.map fun i=>vs.getD i Value.none))}):
    wpAny (model prog w) A (Builtin.«list.sort» ⟨[.ref a],[]⟩) P E s:=by
  rw [list_sort_plain]
  have ha:a < s.heap.objs.size:=Heap.lt_size ho
  refine wpAny_bind (listItems_at ho rfl ?_)
  refine wpAny_bind (listUpdate_at ho rfl ?_ (by rw [List.size_toArray,sizeLine_eq];lia) (Nat.zero_le _))
  obtain⟨e1,ho1⟩:∃e1,(s.heap.update a (Obj.mapSeq fun _=>#[])).get? a=some (seqObj "list" #[] e1):=⟨_,get?_update_seq ho (fun _=>#[])⟩
  refine wpAny_bind (seqEpoch_at ho1 rfl ?_)
  refine wpAny_bind (wpAny_newTuple ?_ (by show vs.length≤_;rw [sizeLine_eq];lia))
  refine wpAny_bind (wpAny_newList ?_ (Nat.zero_le _))
  refine wpAny_holding ?_
  have ho6:(((s.heap.update a (Obj.mapSeq fun _=>#[])).push (seqObj "tuple" vs.toArray 0)).push (seqObj "list" #[] 0)).get? a=some (seqObj "list" #[] e1):=by
    rw [Heap.get?_push_ne _ _ _ (by rw [size_push',Heap.size_update];exact Nat.ne_of_lt (Nat.lt_succ_of_lt ha)),Heap.get?_push_ne _ _ _ (by rw [Heap.size_update];exact Nat.ne_of_lt ha)]
    exact ho1
  have kp:∀b o,b≠a→s.heap.get? b=some o→(((s.heap.update a (Obj.mapSeq fun _=>#[])).push (seqObj "tuple" vs.toArray 0)).push (seqObj "list" #[] 0)).get? b=some o:=fun b o ne e=>
    Heap.get?_push_of_some _ (Heap.get?_push_of_some _ (by rw [Heap.get?_update_ne _ _ _ _ ne];exact e))
  show wpAny (model prog w) A _ P E {s with heap:=((s.heap.update a (Obj.mapSeq fun _=>#[])).push (seqObj "tuple" vs.toArray 0)).push (seqObj "list" #[] 0)}
  dsimp only
  by_cases h2:vs.toArray.size < 2
  · rw [if_pos h2,if_pos h2]
    refine wpAny_bind (wpAny_pure ?_)
    rw [StateT.run_pure]
    refine wpAny_bind (wpAny_pure ?_)
    dsimp only
    refine wpAny_bind (seqEpoch_at ho6 rfl ?_)
    refine wpAny_bind (listUpdate_at ho6 rfl ?_ (hsz2:=by rw [Array.size_map];show(vs.toArray.zip vs.toArray).size≤_;rw [show(vs.toArray.zip vs.toArray).size=vs.length by simp,sizeLine_eq];lia))
    simp only [bne_self_eq_false,Bool.false_eq_true,if_false]
    refine wpAny_pure ?_
    have q:=h (List.toArray (List.range vs.length)) ⟨by simp,Array.Perm.refl _⟩ (fun i j hij hj=>by simp at h2;lia)
    have e:(arrOf (SortSt.mk' general' (vs.toArray.zip vs.toArray) #[] 7 none)).map (·.2)=List.toArray ((List.toArray (List.range vs.length)).toList.map fun i=>vs.getD i Value.none):=by
      refine kat_snds (ks:=vs) rfl (p:=List.toArray (List.range vs.length)) ?_
      have e:=kas_range (vs.toArray.zip vs.toArray)
      rw [show(vs.toArray.zip vs.toArray).size=vs.length by simp] at e
      exact e.symm
    rw [e]
    exact q
  · have l2:2≤vs.length:=by simp at h2;lia
    rw [if_neg h2,if_neg h2]
    refine wpAny_bind (wpAny_mono (hk l2 _ kp (fun κ' s'=>κ'=κ∧s'={s with heap:=((s.heap.update a (Obj.mapSeq fun _=>#[])).push (seqObj "tuple" vs.toArray 0)).push (seqObj "list" #[] 0)}) ⟨rfl,rfl⟩) (fun κ' s0 hk=>?_) fun _ _ x=>x.elim)
    obtain⟨rfl,rfl⟩:=hk
    have ev:=si (cmp:=kas_ask prog w A κ' vs) (s:={s with heap:=((s.heap.update a (Obj.mapSeq fun _=>#[])).push (seqObj "tuple" vs.toArray 0)).push (seqObj "list" #[] 0)}) (fun i j C hi hj hc=>hlt _ kp i j C hi hj hc) _ (vH O (n:=vs.length) (by lia))
    refine wpAny_bind (wpAny_mono (kat_run (E:=E) (Q:=fun st' s'=>∃p:Array Nat,arrOf st'=p.map (kas_item (vs.toArray.zip vs.toArray))∧failedOf st'=none∧s'={s with heap:=((s.heap.update a (Obj.mapSeq fun _=>#[])).push (seqObj "tuple" vs.toArray 0)).push (seqObj "list" #[] 0)}∧k9 vs.length p∧SA lt p vs.length) (ks:=vs) rfl l2 h64 (fun p st' s' a1 a2 a3 a4=>⟨p,a2,a3,a4.1,a4.2⟩) ev) ?_ fun _ _ e=>e)
    rintro⟨⟨⟩,st'⟩ s' ⟨p,har,hf,rfl,hp,hs⟩
    dsimp only
    have hout:=kat_snds (ks:=vs) rfl har
    rw [hout]
    refine wpAny_bind (seqEpoch_at ho6 rfl ?_)
    refine wpAny_bind (listUpdate_at ho6 rfl ?_ (hsz2:=by rw [List.size_toArray,List.length_map,Array.length_toList,hp.sz,sizeLine_eq];lia))
    rw [hf]
    simp only [bne_self_eq_false,Bool.false_eq_true,if_false]
    exact wpAny_pure (h p hp hs)
theorem oq{t:Addr}{vs:List Value}{Q:Value→Shared→Prop}(ht:s.heap.IsList t vs.toArray)(h64:vs.length < 64){κ:SortKind}{lt:Nat→Nat→Bool}(O:vt lt)
    (hk:2≤vs.length→∀h':Heap,(∀b o,s.heap.get? b=some o→h'.get? b=some o)→∀Q:SortKind→Shared→Prop,Q κ {s with heap:=h'}→wpAny (model prog w) A.in1.in1 (keyKind' vs.toArray) Q (fun _ _=>False) {s with heap:=h'})
    (hlt:∀h':Heap,(∀b o,s.heap.get? b=some o→h'.get? b=some o)→∀i j (C:Bool→Shared→Prop),i < vs.length→j < vs.length→C (lt i j) {s with heap:=h'}→wpAny (model prog w) A.in1.in1 (keyLt' κ (vs.getD i Value.none) (vs.getD j Value.none)) C (fun _ _=>False) {s with heap:=h'})
    (h:∀p:Array Nat,k9 vs.length p→SA lt p vs.length→Q (.ref (s.heap.objs.size+1)) {s with heap:=sortedAll s.heap vs (List.toArray (p.toList.map fun i=>vs.getD i Value.none))}):wpAny (model prog w) A (call (.builtin "sorted") [.ref t]) Q E s:=by
  refine Calls.call_function_entry kind_sorted plain_sorted entry_sorted (args_sorted1 _) ?_;unfold Builtin.«sorted»
  refine wpAny_bind (m:=checkCount "sorted" 1 1 _) (wpAny_pure ?_);refine wpAny_bind (jp ht ?_ (Nat.le_trans (Nat.le_of_lt h64) (by decide)))
  have z:((s.heap.push (seqObj "list" #[] 0)).update s.heap.objs.size (Obj.mapSeq (· ++vs.toArray))).objs.size=s.heap.objs.size+1:=by rw [Heap.size_update,size_push']
  have o:(((s.heap.push (seqObj "list" #[] 0)).update s.heap.objs.size (Obj.mapSeq (· ++vs.toArray))).push (seqObj "list" vs.toArray 0)).get? (s.heap.objs.size+1)=some (seqObj "list" vs.toArray 0):=by rw [←z];exact Heap.get?_push_size _ rfl
  have keep:∀b o,s.heap.get? b=some o→(((s.heap.push (seqObj "list" #[] 0)).update s.heap.objs.size (Obj.mapSeq (· ++vs.toArray))).push (seqObj "list" vs.toArray 0)).get? b=some o:=fun b o q=>by
    have hlt:b < s.heap.objs.size:=Heap.lt_size q
    rw [Heap.get?_push_ne _ _ _ (by rw [z];exact Nat.ne_of_lt (Nat.lt_succ_of_lt hlt)),Heap.get?_update_ne _ _ _ _ (Nat.ne_of_lt hlt),Heap.get?_push_ne _ _ _ (Nat.ne_of_lt hlt)]
    exact q
  have ne:∀b o,s.heap.get? b=some o→b≠s.heap.objs.size+1:=fun b o q=>Nat.ne_of_lt (Nat.lt_succ_of_lt (Heap.lt_size q))
  refine wpAny_bind (wpAny_newList ?_ (by rw [sizeLine_eq];lia));show wpAny _ _ _ _ _ {s with heap:=((s.heap.push (seqObj "list" #[] 0)).update s.heap.objs.size (Obj.mapSeq (· ++vs.toArray))).push (seqObj "list" vs.toArray 0)}
  rw [z];refine wpAny_bind (wpAny_holding (wpAny_call_entry slot_list_sort ⟨_,o,rfl⟩ entry_list_sort (pE (s:={s with heap:=((s.heap.push (seqObj "list" #[] 0)).update s.heap.objs.size (Obj.mapSeq (· ++vs.toArray))).push (seqObj "list" vs.toArray 0)}) o h64 O (fun l2 h' hh Q' hq=>hk l2 h' (fun b o e=>hh b o (ne b o e) (keep b o e)) Q' hq) (fun h' hh i j C hi hj hc=>hlt h' (fun b o e=>hh b o (ne b o e) (keep b o e)) i j C hi hj hc) fun p hp hs=>⟨_,rfl,?_⟩) (args_list_sort _)))
  exact wpAny_pure ⟨_,rfl,h p hp hs⟩
end
def yg(fin:Bool):List Int→List Int→Bool
  | a::r,b::t=>if a=b then yg fin r t else decide (a < b)
  | _,_=>fin
theorem tI:∀(r t:List Int),yg (decide (r.length < t.length)) r t=decide (r < t)
  | [],[]=>by simp [yg]
  | [],b::t=>by simp [yg]
  | a::r,[]=>by simp [yg]
  | a::r,b::t=>by
    unfold yg
    have e:decide ((a::r).length < (b::t).length)=decide (r.length < t.length):=by simp
    rw [e]
    by_cases c:a=b
    · rw [if_pos c,tI r t]
      subst c
      simp [List.cons_lt_cons_iff]
    · rw [if_neg c]
      simp [List.cons_lt_cons_iff,c]
theorem tD{prog:Program}{w:World}{A:Around}{fin:Bool}{Q:Bool→Shared→Prop}{s:Shared}:∀{xs ys:List Value} {r t:List Int} (i:Nat),IntsAre xs r→IntsAre ys t→Q (yg fin r t) s→KatLex prog w A true fin Q (xs.zip ys) i s
  | [],_,_,_,i,h1,h2,h=>by cases h1;exact kat_nil h
  | _::_,[],_,_,i,h1,h2,h=>by cases h2;cases h1;exact kat_nil h
  | _,_,_,_,i,.cons a u h1,.cons b v h2,h=>by
    refine kat_cons (wpAny_eqBool_int ?_)
    unfold yg at h
    by_cases c:a=b
    · rw [if_pos c] at h
      rw [beq_iff_eq.mpr c]
      exact kat_yes (tD (i+1) h1 h2 h)
    · rw [if_neg c] at h
      rw [beq_false_of_ne c]
      refine kat_no ?_
      cases i with
      | zero=>exact oneLt_int h
      | succ j=>exact kat_one _ _ (wpAny_lt_int h)
def cN(rs:List (List Int)):List (List Int):=rs.mergeSort fun a b=>decide (a≤b)
theorem uR{rs rs':List (List Int)}(p:rs'.Perm rs)(h:rs'.Pairwise (· ≤·)):rs'=cN rs:=by
  have h2:=List.pairwise_mergeSort (le:=fun a b:List Int=>decide (a≤b)) (fun a b c h1 h2=>by simp only [decide_eq_true_eq] at*;exact List.le_trans h1 h2) (fun a b=>by simp only [Bool.or_eq_true,decide_eq_true_eq];exact List.le_total a b) rs
  exact List.Perm.eq_of_pairwise (le:=(· ≤·)) (fun a b _ _ h1 h2=>List.le_antisymm h1 h2) h (h2.imp fun h=>by simpa using h) (p.trans (List.mergeSort_perm rs _).symm)
theorem CH(rs:List (List Int)):vt fun i j=>decide (rs.getD i [] < rs.getD j []) where
  irr i:=decide_eq_false (List.lt_irrefl _)
  tr {i j k} h1 h2:=by
    simp only [decide_eq_false_iff_not,List.not_lt] at*
    exact List.le_trans h2 h1
  asy {i j} h:=by
    simp only [decide_eq_true_eq,decide_eq_false_iff_not] at*
    exact List.lt_asymm h
end L2
namespace L2
open PySem PySem.Spec PyProof.Rows PySem.W
section
variable{X:Cx}{K:PySem.W.Frag}
def Az(K:PySem.W.Frag)(H:Hp)(us:List V)(rs:List (List Int)):Prop:=us.length=rs.length∧∀(i:Nat) (r:List Int),rs[i]?=some r→∃p,us[i]?=some (.ref p)∧bK K H p (r.map V.int)
def rQ(h:Heap)(v:Value)(r:List Int):Prop:=∃(a:Addr) (o:Obj) (xs:List Value) (n:Nat),v=.ref a∧h.get? a=some o∧o.cls=.type "tuple"∧o.data=.seq xs.toArray n∧IntsAre xs r
theorem rQ.kept{h h':Heap}{v:Value}{r:List Int}(x:rQ h v r)(k:∀b o,h.get? b=some o→h'.get? b=some o):rQ h' v r:=
  let ⟨a,o,xs,n,e1,e2,e3⟩:=x;⟨a,o,xs,n,e1,k _ _ e2,e3⟩
theorem kh{h:Heap}:∀(vs:List Value) (rs:List (List Int)),vs.length=rs.length→(∀(i:Nat) (r:List Int),rs[i]?=some r→r≠[]∧∃v,vs[i]?=some v∧rQ h v r)→∃fs,KatTups h vs fs∧fs.length=vs.length∧∀v∈fs,∃n t,v=Value.int n t
  | [],[],_,_=>⟨[],.nil,rfl,fun v hv=>by cases hv⟩
  | [],_::_,hl,_=>by simp at hl
  | _::_,[],hl,_=>by simp at hl
  | v::vs,r::rs,hl,hh=>by
    obtain⟨fs,t,l,hf⟩:=kh vs rs (by simpa using hl) fun i r hr=>hh (i+1) r (by simpa using hr)
    obtain⟨ne,v',hv,a,o,xs,n,e1,e2,e3,e4,e5⟩:=hh 0 r rfl
    have:v'=v:=by simpa using hv.symm
    subst this
    subst e1
    cases e5 with
    | nil=>exact absurd rfl ne
    | cons m t' h5=>
      refine⟨_::fs,KatTups.cons e2 e3 e4 (by rfl) t,by simp [l],fun v hv=>?_⟩
      rcases List.mem_cons.mp hv with rfl | hv
      · exact⟨_,_,rfl⟩
      · exact hf v hv
theorem fX:∀{vs:List Value} {ns:List Int},IntsAre vs ns→vs.length=ns.length
  | _,_,.nil=>rfl
  | _,_,.cons _ _ h=>by simp [fX h]
theorem kL{rs:List (List Int)}{p:Array Nat}{n:Nat}(hp:k9 n p)(hs:SA (fun i j=>decide (rs.getD i [] < rs.getD j [])) p n):(p.toList.map fun i=>rs.getD i []).Pairwise (· ≤·):=by
  rw [List.pairwise_iff_getElem]
  intro i j hi hj hij
  rw [List.length_map,Array.length_toList,hp.sz] at hi hj
  have:=hs i j hij hj
  simp only [decide_eq_false_iff_not,List.not_lt] at this
  have ei:gA p i=p[i]'(by rw [hp.sz];exact hi):=by simp [gA,Array.getD,hp.sz,hi]
  have ej:gA p j=p[j]'(by rw [hp.sz];exact hj):=by simp [gA,Array.getD,hp.sz,hj]
  rw [ei,ej] at this
  simpa using this
theorem kr{α:Type}(l:List α)(d:α):(List.range l.length).map (fun i=>l.getD i d)=l:=by
  refine List.ext_getElem? fun i=>?_
  rw [List.getElem?_map]
  by_cases h:i < l.length
  · rw [List.getElem?_range h];simp [h]
  · rw [List.getElem?_eq_none (by simp;lia),List.getElem?_eq_none (by lia)];rfl
theorem nV{rs:List (List Int)}{p:Array Nat}(hp:k9 rs.length p)(hs:SA (fun i j=>decide (rs.getD i [] < rs.getD j [])) p rs.length):(p.toList.map fun i=>rs.getD i [])=cN rs:=by
  refine uR ?_ (kL hp hs)
  have q:p.toList.Perm (List.range rs.length):=by simpa using Array.perm_iff_toList_perm.mp hp.pm
  have:=q.map fun i=>rs.getD i []
  rwa [kr] at this
theorem l0{us:List V}{vs:List Value}(h:aD us vs):∀(p:List Nat),(∀i∈p,i < us.length)→aD (p.map fun i=>us.getD i .non) (p.map fun i=>vs.getD i Value.none)
  | [],_=>.nil
  | i::p,hp=>by
    refine .cons ?_ (l0 h p fun j hj=>hp j (List.mem_cons_of_mem _ hj))
    have hi:=hp i (by simp)
    obtain⟨u,h1,h2⟩:=h.get (i:=i) (x:=us[i]) (List.getElem?_eq_getElem hi)
    simp only [List.getD_eq_getElem?_getD,h1,List.getElem?_eq_getElem hi,Option.getD_some]
    exact h2
def mJ(K:PySem.W.Frag):List V→Hp→VK→Prop:=fun xs H Q=>∃(a:Addr) (us:List V) (rs:List (List Int)),xs=[.ref a]∧fH K H a us∧Az K H us rs∧(∀r∈rs,r≠[])∧rs.length < 64∧
  ∀(p:List Nat) (l:Addr) (H':Hp),(∀i∈p,i < rs.length)→(p.map fun i=>rs.getD i [])=cN rs→ao H H'→H l=none→H' l=some (.lst (p.map fun i=>us.getD i .non))→Q (.ref l) H'
theorem oZ:cD X (.builtin "sorted") (mJ X.K):=by
  intro pins s σ H xs us0 Q I r h
  obtain⟨a,us,rs,rfl,hs,⟨ul,hr⟩,hne,h64,q⟩:=h
  obtain⟨u,rfl,ru⟩:=i_ r
  cases ru
  obtain⟨its,rv,p0,hz⟩:=I.list hs
  have hl:=rv.length
  have rows:∀(i:Nat) (r:List Int),rs[i]?=some r→r≠[]∧∃v,its[i]?=some v∧rQ s.heap v r:=fun i r e=>by
    obtain⟨p,h1,h2⟩:=hr i r e
    obtain⟨v,h3,h4⟩:=rv.get h1
    obtain⟨xs,rx,⟨o,h5,h6,n,h7⟩,_⟩:=I.tuple h2
    exact⟨hne r (List.mem_of_getElem? e),v,h3,p,o,xs,n,h4,h5,h6,h7,fq rx⟩
  refine oq p0.isList (by lia) (κ:=tuples' true) (CH rs) (fun l2 h' kp Q' hq=>?_) (fun h' kp i j C hi hj hc=>?_) fun p hp hss=>?_
  · obtain⟨fs,t,fl,hf⟩:=kh (h:=h') its rs (by lia) fun i r e=>let ⟨n,v,x,y⟩:=rows i r e;⟨n,v,x,y.kept kp⟩
    refine kat_kind (fs:=fs) (T:=.type "int") t (by lia) (fun v hv=>?_) rfl hq
    obtain⟨n,t,rfl⟩:=hf v hv
    exact Looks.of_pure rfl
  · have gi:rs[i]?=some rs[i]:=List.getElem?_eq_getElem (by lia)
    have gj:rs[j]?=some rs[j]:=List.getElem?_eq_getElem (by lia)
    obtain⟨-,v,h1,h2⟩:=rows i _ gi
    obtain⟨-,v2,h3,h4⟩:=rows j _ gj
    obtain⟨a1,o1,xs,n1,rfl,e2,e3,e4,e5⟩:=h2.kept kp
    obtain⟨a2,o2,ys,n2,rfl,f2,f3,f4,f5⟩:=h4.kept kp
    rw [List.getD_eq_getElem?_getD,List.getD_eq_getElem?_getD,h1,h3,Option.getD_some,Option.getD_some]
    refine kat_lt e2 e4 f2 f4 (tD 0 e5 f5 ?_)
    rw [List.size_toArray,List.size_toArray,fX e5,fX f5,tI]
    have e:(decide (rs.getD i [] < rs.getD j []))=decide (rs[i] < rs[j]):=by
      rw [List.getD_eq_getElem?_getD,List.getD_eq_getElem?_getD,gi,gj];rfl
    rw [e] at hc
    exact hc
  · have hn:its.length=rs.length:=by lia
    rw [hn] at hp hss
    have hpl:∀i∈p.toList,i < rs.length:=fun i hi=>by
      have q:p.toList.Perm (List.range rs.length):=by simpa using Array.perm_iff_toList_perm.mp hp.pm
      simpa using q.mem_iff.mp hi
    obtain⟨e,he⟩:=sortedAll_at s.heap its (List.toArray (p.toList.map fun i=>its.getD i Value.none))
    have hf:H (s.heap.objs.size+1)=none:=I.hok.fresh (Nat.le_succ _)
    refine⟨.ref (s.heap.objs.size+1),aS H (s.heap.objs.size+1) (.lst (p.toList.map fun i=>us.getD i .non)),I.laid (t':=s.toks) (fun _ _=>sortedAll_old) (Nat.le_succ _) ⟨?_,p.toList.map (fun i=>its.getD i Value.none),e,l0 rv _ (fun i hi=>by rw [ul];exact hpl i hi),?_⟩,rfl,q p.toList _ _ hpl (nV hp hss) (ao.new hf) hf av⟩
    · rw [List.length_map,Array.length_toList,hp.sz]
      exact Nat.le_trans (Nat.le_of_lt h64) (by decide)
    · simpa [seqObj] using he
def cB(r:List Int):PyData:=.tuple (r.map .int)
def nS:PyData→Option (List Int)
  | .tuple ds=>(gS ds).bind fun ns=>if ns.isEmpty then none else some ns
  | _=>none
def jf:List PyData→Option (List (List Int))
  | []=>some []
  | d::ds=>(nS d).bind fun r=>(jf ds).map fun rs=>r::rs
theorem uF{d:PyData}{r:List Int}(h:nS d=some r):d=cB r∧r≠[]:=by
  unfold nS at h
  split at h
  · obtain⟨ns,h1,h2⟩:=Option.bind_eq_some_iff.mp h
    split at h2
    · cases h2
    · rename_i c
      cases h2
      exact⟨by rw [fY h1];rfl,fun z=>c (by rw [z];rfl)⟩
  · cases h
theorem lQ:∀{ds:List PyData} {rs:List (List Int)},jf ds=some rs→ds=rs.map cB∧∀r∈rs,r≠[]
  | [],rs,h=>by cases h;exact⟨rfl,fun r hr=>by cases hr⟩
  | d::ds,rs,h=>by
    unfold jf at h
    obtain⟨r,h1,h2⟩:=Option.bind_eq_some_iff.mp h
    obtain⟨rs',h3,rfl⟩:=Option.map_eq_some_iff.mp h2
    obtain⟨e1,e2⟩:=uF h1
    obtain⟨e3,e4⟩:=lQ h3
    subst e1 e3
    exact⟨rfl,fun r' hr=>(List.mem_cons.mp hr).elim (fun z=>z ▸ e2) (e4 r')⟩
theorem kP:∀{rs:List (List Int)},(∀r∈rs,r≠[])→jf (rs.map cB)=some rs
  | [],_=>rfl
  | r::rs,h=>by
    have ih:=kP fun r' hr=>h r' (List.mem_cons_of_mem r hr)
    have ne:=h r (by simp)
    have e:nS (cB r)=some r:=by
      show((gS (r.map .int)).bind fun ns=>if ns.isEmpty then none else some ns)=some r
      rw [gF]
      cases r with
      | nil=>exact absurd rfl ne
      | cons a t=>rfl
    show((nS (cB r)).bind fun r'=>(jf (rs.map cB)).map fun rs'=>r'::rs')=_
    rw [e,ih];rfl
def kc:En→Rv→Option Rv:=fun e x=>(dG e x).bind fun z=>(jf z.2).bind fun rs=>if z.1=true∧rs.length < 64 then some (.l ((cN rs).map cB)) else none
theorem m5{F:Hp}{ds:List PyData}{us:List V}(h:ay K F ds us):∀(p:List Nat),(∀i∈p,i < ds.length)→ay K F (p.map fun i=>ds.getD i .none) (p.map fun i=>us.getD i .non)
  | [],_=>ay.nil
  | i::p,hp=>by
    have hi:=hp i (by simp)
    obtain⟨v,h1,h2⟩:=h.get (List.getElem?_eq_getElem hi)
    refine ay.cons ?_ (m5 h p fun j hj=>hp j (List.mem_cons_of_mem _ hj))
    simp only [List.getD_eq_getElem?_getD,h1,List.getElem?_eq_getElem hi,Option.getD_some]
    exact h2
theorem xj:cR K (mJ K) (g1 kc):=en fun σ H0 F H e x z v Q R A hg q=>by
  unfold kc at hg
  obtain⟨⟨b,ds⟩,h1,hg⟩:=Option.bind_eq_some_iff.mp hg
  obtain⟨rs,h6,hg⟩:=Option.bind_eq_some_iff.mp hg
  split at hg
  case isFalse=>cases hg
  case isTrue hl=>
  cases hg
  obtain⟨hb,hl⟩:=hl
  dsimp only at hb
  subst hb
  obtain⟨p,vs,rfl,d1,s1⟩:=cL R A h1
  rw [if_pos rfl] at s1
  obtain⟨e1,ne⟩:=lQ h6
  dsimp only at e1
  subst e1
  have dl:=d1.len
  rw [List.length_map] at dl
  refine⟨p,vs,rs,rfl,s1,⟨dl.symm,fun i r hr=>?_⟩,ne,hl,fun pl l H' hpl hs sm hn hl'=>?_⟩
  · obtain⟨v,h1,h2⟩:=d1.get (i:=i) (d:=cB r) (by rw [List.getElem?_map,hr];rfl)
    obtain⟨a,xs,rfl,h3,h4⟩:=bP.mp h2
    have:=ay.ints.mp h4
    subst this
    exact⟨a,h1,R.sm.tup h3⟩
  · obtain⟨R4,X4⟩:=R.same sm
    have dp:=m5 d1 pl (fun i hi=>by rw [List.length_map];exact hpl i hi)
    have e:(pl.map fun i=>(rs.map cB).getD i .none)=(cN rs).map cB:=by
      rw [←hs,List.map_map]
      refine List.map_congr_left fun i hi=>?_
      have il:=hpl i hi
      simp [List.getD_eq_getElem?_getD,il]
    rw [e] at dp
    exact q F H' _ X4 R4 ⟨l,_,rfl,hn,R.freeF hn,hl',dp,fun z=>R.ownH l ((R.sameOwn sm l).mp z) hn⟩
theorem sR{e:En}{i:Nat}{rs:List (List Int)}(hi:e[i]?=some (some (.l (rs.map cB))))(hn:∀r∈rs,r≠[])(h:rs.length < 64):g1 kc e [.s i]=some (.l ((cN rs).map cB)):=by
  simp [g1,kc,dG,hi,kP hn,h]
def dA:En→Rv→Option Rv:=fun e x=>match fj e x with
  | some z=>some z
  | none=>kc e x
theorem o5:cD X (.builtin "sorted") (fun xs H Q=>mI X.K xs H Q∨mJ X.K xs H Q):=fun pins s σ H xs us Q I rv h=>h.elim (oY pins s σ H xs us Q I rv) (oZ pins s σ H xs us Q I rv)
theorem xk:cR K (fun xs H Q=>mI K xs H Q∨mJ K xs H Q) (g1 dA):=fun σ H0 F H e xs z vs Q R A hg q=>by
  match xs,A,hg with
  | [x],A,hg=>
    have hg':dA e x=some z:=hg
    unfold dA at hg'
    cases c:fj e x with
    | some y=>rw [c] at hg';exact .inl (xi σ H0 F H e [x] y vs Q R A c (fun F' H' w a b d=>q F' H' w a b (by cases hg';exact d)))
    | none=>rw [c] at hg';exact .inr (xj σ H0 F H e [x] z vs Q R A hg' q)
theorem vx(hK:X.K=K):k8 X K "sorted" (g1 dA):=by
  subst hK
  exact⟨.inl ⟨_,_,o5,xk,PyProof.Rows.boot_sorted⟩⟩
theorem nq{e:En}{i:Nat}{r:List Int}{rs:List (List Int)}(hi:e[i]?=some (some (.l ((r::rs).map cB))))(hn:∀x∈r::rs,x≠[])(h:(r::rs).length < 64):g1 dA e [.s i]=some (.l ((cN (r::rs)).map cB)):=by
  have z:fj e (.s i)=none:=by
    have:dG e (.s i)=some (true,(r::rs).map cB):=by simp [dG,hi]
    unfold fj
    rw [this]
    rfl
  show dA e (.s i)=_
  unfold dA
  rw [z]
  exact sR hi hn h
theorem sT{e:En}{i:Nat}{ns:List Int}(hi:e[i]?=some (some (.l (ns.map .int))))(h:ns.length < 64):g1 dA e [.s i]=some (.l ((eG ns).map .int)):=by
  have:=sQ hi h
  show dA e (.s i)=_
  unfold dA
  rw [show fj e (.s i)=_ from this]
theorem sS{e:En}{i:Nat}{rs:List (List Int)}(hi:e[i]?=some (some (.l (rs.map cB))))(hn:∀x∈rs,x≠[])(h:rs.length < 64):g1 dA e [.s i]=some (.l ((cN rs).map cB)):=by
  cases rs with
  | nil=>
    have:=sT (ns:=[]) hi (by decide)
    rw [this]
    have e1:cN []=[]:=by simp [cN]
    have e2:eG []=[]:=by simp [eG]
    rw [e1,e2];rfl
  | cons r rs=>exact nq hi hn h
end
end L2
namespace L2
open PySem PySem.Spec PyProof.Rows
section
variable{X:Cx}{K:PySem.W.Frag}
def sY(k:Int):Value→Bool
  | .int a _=>a==k
  | _=>false
theorem nB{k:Int}{t:Tok}:∀{vs:List Value} {ns:List Int},IntsAre vs ns→∀y∈vs,MeetsSeq.EqGives y (.int k t) (sY k y)
  | _,_,.nil,y,hy=>by cases hy
  | _,_,.cons a u h,y,hy=>by
    rcases List.mem_cons.mp hy with rfl | hy
    · exact MeetsSeq.EqGives.int a k u t
    · exact nB h y hy
theorem mz{k:Int}:∀{vs:List Value} {ns:List Int} (_:IntsAre vs ns) (j:Nat) (hj:j < vs.length),∃hn:j < ns.length,sY k vs[j]=(ns[j]==k)
  | _,_,.nil,j,hj=>by simp at hj
  | _,_,.cons a u h,0,hj=>⟨by simp,rfl⟩
  | _,_,.cons a u h,j+1,hj=>by
    obtain⟨h1,h2⟩:=mz (k:=k) h j (by simpa using hj)
    exact⟨by simpa using h1,by simpa using h2⟩
theorem j8{α β:Type}(f:α→β):∀(l:List α) (i:Nat),(l.map f).eraseIdx i=(l.eraseIdx i).map f
  | [],_=>rfl
  | _::_,0=>rfl
  | a::l,i+1=>by simp [j8 f l i]
def qm:V→List V→Hp→VK→Prop:=fun x vs H Q=>∃(l:Addr) (ns:List Int) (k:Int),x=.ref l∧vs=[.int k]∧H l=some (.lst (ns.map V.int))∧k∈ns∧Q .non (aS H l (.lst ((ns.erase k).map V.int)))
theorem qZ:Cj X "list.remove" qm:=by
  intro pins s σ H x vs v us Q I rx rv h
  obtain⟨l,ns,k,rfl,rfl,hH,hk,q⟩:=h
  cases rx
  obtain⟨u,rfl,ru⟩:=rv.one
  obtain⟨t,rfl⟩:=ru
  obtain⟨z,its,n,r,hl,e⟩:=I.lstM hH
  rw [List.length_map] at hl z
  have ia:=fq r
  have hj:ns.idxOf k < ns.length:=List.idxOf_lt_length_of_mem hk
  have hj':ns.idxOf k < its.length:=by lia
  have hit:sY k its[ns.idxOf k]=true:=by
    obtain⟨h1,h2⟩:=mz (k:=k) ia (ns.idxOf k) hj'
    rw [h2,List.getElem_idxOf];simp
  have er:ns.erase k=ns.eraseIdx (ns.idxOf k):=by rw [List.erase_eq_eraseIdx_of_idxOf rfl]
  have rr:=r.eraseIdx (ns.idxOf k)
  rw [j8,←er] at rr
  refine call_meets F.slot_list_remove ⟨_,e,rfl⟩ F.entry_list_remove (F.args_list_remove_2 _ _)
    (MeetsSeq.list_remove l its.toArray n (.int k t) (sY k) (fun y hy=>nB ia y (by simpa using hy)) (ns.idxOf k) (by rw [List.size_toArray];exact hj') (by simpa using hit) (fun m hm hlt=>by
      have hm':m < its.length:=by simpa using hm
      obtain⟨h1,h2⟩:=mz (k:=k) ia m hm'
      show sY k its[m]=false
      rw [h2]
      have:=List.not_of_lt_findIdx (p:=(· ==k)) (xs:=ns) hlt
      simpa using this) (by rw [List.size_toArray];lia)) ⟨e,?_⟩
  refine⟨.non,_,I.lset (its':=its.eraseIdx (ns.idxOf k)) hH e ?_ rr ?_,rfl,q⟩
  · show its.toArray.eraseIdxIfInBounds (ns.idxOf k)=(its.eraseIdx (ns.idxOf k)).toArray
    rw [List.eraseIdxIfInBounds_toArray]
  · have:=List.length_erase_le (a:=k) (l:=ns)
    rw [List.length_map]
    lia
def iH:List PyData→List PyData→Option (PyData × List PyData):=fun xs ds=>match ds with
  | [.int k]=>(gS xs).bind fun ns=>if k∈ns then some (.none,(ns.erase k).map .int) else none
  | _=>none
theorem uB:mR K qm iH:=by
  intro F H l xs ys ds z vs us Q hF sm hl d1 d2 hg q
  unfold iH at hg
  match ds,hg,d2 with
  | [.int k],hg,d2=>
    simp only [ay,DA] at d2
    obtain⟨w,r,rfl,rfl,rfl⟩:=d2
    dsimp only at hg
    obtain⟨ns,h1,hg⟩:=Option.bind_eq_some_iff.mp hg
    split at hg
    case isFalse=>cases hg
    case isTrue hk=>
    cases hg
    have e1:=fY h1
    subst e1
    have e2:=ay.ints.mp d1
    subst e2
    exact⟨l,ns,k,rfl,rfl,hl,hk,q _ _ (mj.mpr rfl) (ay.ints.mpr rfl)⟩
variable{o a:Expr}{es:List Expr}{fo:FE}{fs:FA}{apos cpos:Pos}
theorem ui(hK:X.K=K)(ho:PE X o (fE K fo))(ha:PA X (a::es) (fA K fs))(hbase:attributeBase o "remove" X.env (eval o X.env)=eval o X.env)
    (hfew:((backTo cpos (starEach (a::es) X.env)).all (fun x=> !x.1)&&(backToKw cpos (keywordEach [] X.env)).all (fun x=>x.1.isSome)
      &&decide ((a::es).length+([]:List Keyword).length+(if ([]:List Keyword).isEmpty then 0 else 1) < 30))=true)
    (hline:(apos.endLine==cpos.line)=true)(hs:starEach (a::es) X.env=(false,eval a X.env)::starEach es X.env)(hplain:(backTo cpos (starEach es X.env)).any (·.1)=false):
    PE X (.Call (.Attribute o "remove" apos) (a::es) [] cpos) (fE K (cz iH fo fs)):=by
  subst hK;exact uj PySem.F.slot_list_remove PySem.F.type_list_remove qZ uB ho ha hbase hfew hline hs hplain
end
end L2
namespace V52
open PySem PySem.Spec PyProof.Rows L2
variable{P:Program}{w:World}{K:W.Frag}{mg:Str→Option Value}{base:Heap}{f:Addr}{fd:FuncData}
local macro_rules|`(tactic|trivial)=>`(tactic|first|exact .inl rfl|exact .inr rfl|assumption)
local macro_rules|`(¬$n:num)=>`(@qw _ _ $n _ _ (by rfl) (by rfl) (by decide))
local macro_rules|`($a∘$b)=>`(@CL _ _ _ _ _ _ $a $b (by rfl))
def top(i:Nat):Stmt:=PySem.Challenge.pw_askedpairs_k52_orders_by_shares.main.body.getD i (.Pass ⟨0,0,0,0⟩)
theorem x4{α:Type u}{β:Type v}{f:α→β}:List.map f []=[]:=rfl
theorem xZ{α:Type u}{β:Type v}{f:α→β}{a:α}{l:List α}:List.map f (a::l)=f a::List.map f l:=rfl
theorem xV{α:Type u}{l:List α}:[]++l=l:=rfl
theorem xU{α:Type u}{a:α}{l m:List α}:(a::l)++m=a::(l++m):=rfl
theorem xX{α:Type u}{a:α}{l:List α}:(a::l)[0]?=some a:=rfl
theorem xY{α:Type u}{a:α}{l:List α}{i:Nat}:(a::l)[i+1]?=l[i]?:=rfl
theorem xW{α:Type u}{β:Type v}{a:α}{f:α→Option β}:Option.bind (some a) f=f a:=rfl
theorem x5{α:Type u}{β:Type v}{a:α}{f:α→β}:Option.map f (some a)=some (f a):=rfl
abbrev aK:Stmt:=top 1
abbrev cx:Stmt:=top 3
abbrev di:Stmt:=top 4
abbrev iP:Stmt:=top 6
abbrev iO:Stmt:=top 7
abbrev gf:Stmt:=top 8
abbrev nW:Stmt:=top 9
abbrev jw:Stmt:=top 10
abbrev kR:Stmt:=top 11
abbrev iQ:Stmt:=top 12
abbrev jg:Stmt:=top 13
abbrev kS:Stmt:=top 14
abbrev eU:Stmt:=top 15
abbrev iR:Stmt:=top 16
abbrev kT:Stmt:=top 17
abbrev nY:Stmt:=top 18
abbrev nX:Stmt:=top 19
abbrev eE:Stmt:=top 20
abbrev eV:Stmt:=top 21
abbrev gh:Stmt:=top 22
abbrev lR:Stmt:=top 23
abbrev iS:Stmt:=top 24
structure jW (mg:Str→Option Value):Prop where
  b_abs:mg "abs"=none
  b_len:mg "len"=none
  b_min:mg "min"=none
  b_max:mg "max"=none
  b_range:mg "range"=none
  b_repr:mg "repr"=none
  b_tuple:mg "tuple"=none
  b_int:mg "int"=none
  b_sorted:mg "sorted"=none
  b_zip:mg "zip"=none
  b_enumerate:mg "enumerate"=none
noncomputable def cm:FI:=(eH (aO (g1 dA) (aa (ae 3) aj)))
noncomputable def aZ:FE:=(ae 1)
noncomputable def cn:FI:=(sX (aa (ae 0) aj))
noncomputable def a7:FE:=(dH (aa (ap bG (Ah sN (ap bf (ae 2) (vC (.int 0)))) (ap dZ (ae 0) (ap bf (ae 2) (vC (.int 1))))) (aa (ae 1) aj)))
noncomputable def cq:FI:=(eH (ae 0))
noncomputable def bo:FS:=(aR 1 (ap bG (ae 1) (ap bf (ae 2) (vC (.int 1)))))
noncomputable def eO:FS:=(aC (aR 1 (vC (.int 1)))
    (aC (cQ ([2]++[1]) cq (ag 2) bo)
    (aC (aR 3 (bA [(1,"common")] 2 cn (cH (aE (ag 1) (aE (ag 2) bU))) b_ a7))
    (bY (bA [] 2 cm (cH (aE (ag 0) (aE (ag 1) bU))) b_ aZ)))))
noncomputable def aG:FM:=jv 1 3 ([1]++(([2]++[1])++([3]++[]))) eO
theorem eF:aH ["row","common","part","tops"] ["row"] (ah aK):=⟨rfl,rfl,rfl,by decide+kernel,rfl,by decide+kernel,by decide+kernel⟩
theorem iI(h:bj K mg "greatest_first" aK f fd ["row"])(T:jW mg):aJ P w K mg base cw 1 f fd ["row"] (cC K 1 aG):=by
  have nd:=eF.nd
  exact h.fn eF rfl rfl (fun cdv A outer s H E hr=>(@af _ _ _ _ _ _ _ _ (@ar _ _ _ _ _ 1 _ _ nd rfl (Or.inr rfl) ab (by rfl) (by trivial))
      (@af _ _ _ _ _ _ _ _ (@dg _ _ _ _ _ _ _ _ _ _ _ PassesOwn.never rfl (@df _ _ _ _ _ rfl (¬0)) (@aw _ _ _ 2 _ nd rfl (Or.inl rfl) (by trivial))
      (@am _ _ _ _ _ (@ar _ _ _ _ _ 1 _ _ nd rfl (Or.inr rfl) (@cI _ _ _ _ _ _ _ rfl (¬1) (@aF _ _ _ _ _ _ _ rfl (¬2) ab (fun _ _=>rfl))) (by rfl) (by trivial))) (by intro _;rfl))
      (@af _ _ _ _ _ _ _ _ (@je _ _ _ (3) _ _ _ _ _ _ _ _ _ _ _ _ _ (ah aK) ["row","common","part","tops"] [(1,"common")] ["at","part"] rfl rfl rfl (@wV _ _ _ _ _ _ _ _ _ rfl rfl T.b_enumerate ((¬0)∘ac) (by rfl))
        (fun C s0 H0 fp=>(@kM _ _ _ _ _ _ _ _ rfl rfl (@bX _ _ _ _ _ _ _ _ (@aw _ _ _ 1 _ (show List.Nodup (["common","at","part"]:List Str) by decide+kernel) rfl (Or.inl rfl) (by trivial)) (@bX _ _ _ _ _ _ _ _ (@aw _ _ _ 2 _ (show List.Nodup (["common","at","part"]:List Str) by decide+kernel) rfl (Or.inl rfl) (by trivial)) (@iK _ _) (by rfl)) (by rfl)) (dq (dq kd)) (by rfl) (by rfl))) (fun C s0 H0 fp=>(@gK _ _))
        (fun C s0 H0 fp=>(@be _ _ _ _ _ _ ((@cI _ _ _ _ _ _ _ rfl (@Bp _ _ _ _ _ (@aF _ _ _ _ _ _ _ rfl (¬2) ab (fun _ _=>rfl))) (@gc _ _ _ _ _ _ _ (¬0) (@aF _ _ _ _ _ _ _ rfl (¬2) ab (fun _ _=>rfl))))∘((¬1)∘ac)))) rfl (by decide+kernel) (by decide+kernel) (by decide+kernel) (by decide+kernel) (by decide+kernel) (by decide+kernel) (by decide+kernel) nd rfl rfl (by rfl) (by intro _;rfl))
      (@am _ _ _ _ _ (@aL _ _ _ _ _ (@gb _ _ _ _ _ _ _ _ _ _ _ _ _ (ah aK) ["row","common","part","tops"] [] ["top","at"] rfl rfl rfl (@df _ _ _ _ _ rfl (@bi _ _ _ _ _ _ _ _ _ (@vx _ _ rfl) (by rfl) T.b_sorted ((¬3)∘ac) (by decide) (by decide) (by rfl) (by rfl)))
        (fun C s0 H0 fp=>(@kM _ _ _ _ _ _ _ _ rfl rfl (@bX _ _ _ _ _ _ _ _ (@aw _ _ _ 0 _ (show List.Nodup (["top","at"]:List Str) by decide+kernel) rfl (Or.inl rfl) (by trivial)) (@bX _ _ _ _ _ _ _ _ (@aw _ _ _ 1 _ (show List.Nodup (["top","at"]:List Str) by decide+kernel) rfl (Or.inl rfl) (by trivial)) (@iK _ _) (by rfl)) (by rfl)) (dq (dq kd)) (by rfl) (by rfl))) (fun C s0 H0 fp=>(@gK _ _))
        (fun C s0 H0 fp=>(¬1)) rfl (by decide+kernel) (by decide+kernel) (by decide+kernel) (by decide+kernel) (by decide+kernel) (by decide+kernel) (by decide+kernel) (by intro _;rfl))))))))
noncomputable def eI:FI:=(eH (cW 1 aG (aa (ae 1) aj)))
noncomputable def bR:FT:=(a_ (ap vM (ap bf (ap bf (ae 0) (ae 1)) (vC (.int 0))) (vC (.int 0))))
noncomputable def dm:FE:=(ae 1)
noncomputable def jn:FS:=(bY (aO (g1 bQ) (aa (bA [(1,"shares")] 1 eI (ag 1) bR dm) aj)))
noncomputable def dw:FM:=jv 2 0 [] jn
theorem iT:aH ["web","shares"] ["web","shares"] (ah cx):=⟨rfl,rfl,rfl,by decide+kernel,rfl,by decide+kernel,by decide+kernel⟩
theorem mF(h:bj K mg "by_shares" cx f fd ["web","shares"])(T:jW mg){f_greatest_first:Addr}{e_greatest_first:FuncData}(h_greatest_first:bj K mg "greatest_first" aK f_greatest_first e_greatest_first ["row"])(G_greatest_first:aJ P w K mg base cw 1 f_greatest_first e_greatest_first ["row"] (cC K 1 aG)):aJ P w K mg base cw 2 f fd ["web","shares"] (cC K 2 dw):=by
  have nd:=iT.nd
  exact h.fn iT rfl rfl (fun cdv A outer s H E hr=>(@am _ _ _ _ _ (@aL _ _ _ _ _ (@bi _ _ _ _ _ _ _ _ _ (@b_tuple _ _ rfl) (by rfl) T.b_tuple ((@gb _ _ _ _ _ _ _ _ _ _ _ _ _ (ah cx) ["web","shares"] [(1,"shares")] ["tie"] rfl rfl rfl (@df _ _ _ _ _ rfl (@aV _ _ _ _ _ _ _ _ _ _ _ _ _ _ _ h_greatest_first G_greatest_first (hr.mono (by decide)) ((¬1)∘ac) (by rfl) (by decide) (by rfl) (by rfl)))
        (fun C s0 H0 fp=>(@aw _ _ _ 1 _ (show List.Nodup (["shares","tie"]:List Str) by decide+kernel) rfl (Or.inl rfl) (by trivial))) (fun C s0 H0 fp=>(@iL _ _ _ _ (@bD _ _ _ _ _ _ _ _ _ (@vB _ _) (@aF _ _ _ _ _ _ _ rfl (@aF _ _ _ _ _ _ _ rfl (¬0) (¬1) (fun _ _=>rfl)) ab (fun _ _=>rfl)) ab (a9 _))))
        (fun C s0 H0 fp=>(¬1)) rfl (by decide+kernel) (by decide+kernel) (by decide+kernel) (by decide+kernel) (by decide+kernel) (by decide+kernel) (by decide+kernel) (by intro _;rfl))∘ac) (by decide) (by decide) (by rfl) (by rfl)))))
noncomputable def fm:FI:=(eH (cW 1 aG (aa (ae 1) aj)))
noncomputable def cF:FT:=(a_ (ap vk (ap bf (ae 0) (ae 2)) (ap bf (ap bf (ae 1) (ae 2)) (vC (.int 0)))))
noncomputable def dJ:FE:=(ae 2)
noncomputable def jZ:FS:=(bY (aO (g1 bQ) (aa (bA [(2,"rolls"),(1,"shares")] 1 fm (ag 2) cF dJ) aj)))
noncomputable def d9:FM:=jv 3 0 [] jZ
theorem jx:aH ["web","shares","rolls"] ["web","shares","rolls"] (ah di):=⟨rfl,rfl,rfl,by decide+kernel,rfl,by decide+kernel,by decide+kernel⟩
theorem nM(h:bj K mg "by_rolls" di f fd ["web","shares","rolls"])(T:jW mg){f_greatest_first:Addr}{e_greatest_first:FuncData}(h_greatest_first:bj K mg "greatest_first" aK f_greatest_first e_greatest_first ["row"])(G_greatest_first:aJ P w K mg base cw 1 f_greatest_first e_greatest_first ["row"] (cC K 1 aG)):aJ P w K mg base cw 2 f fd ["web","shares","rolls"] (cC K 3 d9):=by
  have nd:=jx.nd
  exact h.fn jx rfl rfl (fun cdv A outer s H E hr=>(@am _ _ _ _ _ (@aL _ _ _ _ _ (@bi _ _ _ _ _ _ _ _ _ (@b_tuple _ _ rfl) (by rfl) T.b_tuple ((@gb _ _ _ _ _ _ _ _ _ _ _ _ _ (ah di) ["web","shares","rolls"] [(2,"rolls"),(1,"shares")] ["tie"] rfl rfl rfl (@df _ _ _ _ _ rfl (@aV _ _ _ _ _ _ _ _ _ _ _ _ _ _ _ h_greatest_first G_greatest_first (hr.mono (by decide)) ((¬1)∘ac) (by rfl) (by decide) (by rfl) (by rfl)))
        (fun C s0 H0 fp=>(@aw _ _ _ 2 _ (show List.Nodup (["rolls","shares","tie"]:List Str) by decide+kernel) rfl (Or.inl rfl) (by trivial))) (fun C s0 H0 fp=>(@iL _ _ _ _ (@bD _ _ _ _ _ _ _ _ _ (@r8 _ _) (@aF _ _ _ _ _ _ _ rfl (¬0) (¬2) (fun _ _=>rfl)) (@aF _ _ _ _ _ _ _ rfl (@aF _ _ _ _ _ _ _ rfl (¬1) (¬2) (fun _ _=>rfl)) ab (fun _ _=>rfl)) (a9 _))))
        (fun C s0 H0 fp=>(¬2)) rfl (by decide+kernel) (by decide+kernel) (by decide+kernel) (by decide+kernel) (by decide+kernel) (by decide+kernel) (by decide+kernel) (by intro _;rfl))∘ac) (by decide) (by decide) (by rfl) (by rfl)))))
noncomputable def pX:FS:=(aC (aR 2 (ap aT (ap dY (ap dY (ap bG (ap aT (ae 0) (vC (.int 2147483647))) (vC (.int 48271))) (ap bG (ap bG (vC (.int 7919)) (ae 1)) (ae 1))) (vC (.int 104729))) (vC (.int 2147483647))))
    (bY (ap aT (ap bG (ae 2) (ae 2)) (vC (.int 2147483629)))))
noncomputable def gH:FM:=jv 2 1 ([2]++[]) pX
theorem og:aH ["_law_cell","_law_k","_law_number"] ["_law_cell","_law_k"] (ah iP):=⟨rfl,rfl,rfl,by decide+kernel,rfl,by decide+kernel,by decide+kernel⟩
theorem tS(h:bj K mg "_law_mixed" iP f fd ["_law_cell","_law_k"])(T:jW mg):aJ P w K mg base cw 1 f fd ["_law_cell","_law_k"] (cC K 2 gH):=by
  have nd:=og.nd
  exact h.fn og rfl rfl (fun cdv A outer s H E hr=>(@af _ _ _ _ _ _ _ _ (@ar _ _ _ _ _ 2 _ _ nd rfl (Or.inl rfl) (@aQ _ _ _ _ _ _ _ (@cU _ _ _ _ _ _ _ rfl (@cU _ _ _ _ _ _ _ rfl (@cI _ _ _ _ _ _ _ rfl (@aQ _ _ _ _ _ _ _ (¬0) ab) ab) (@cI _ _ _ _ _ _ _ rfl (@cI _ _ _ _ _ _ _ rfl ab (¬1)) (¬1))) ab) ab) (by rfl) (by trivial))
      (@am _ _ _ _ _ (@aL _ _ _ _ _ (@aQ _ _ _ _ _ _ _ (@cI _ _ _ _ _ _ _ rfl (¬2) (¬2)) ab)))))
noncomputable def dP:FT:=(pR (a_ (ap AO (ae 3) (ap pq (vC (.int 10)) (vC (.int 18))))) (a_ (ap vk (aO (g1 iy) (aa (ae 1) aj)) (vC (.int 900)))))
noncomputable def gq:FS:=(aC (eD (cz bu (ae 1) (aa (ap aT (ae 3) (vC (.int 2147483629))) aj)))
    (aR 3 (ap dZ (ae 3) (vC (.int 2147483629)))))
noncomputable def gC:FI:=(bM (aa (vC (.int 12)) aj))
noncomputable def eL:FS:=(eD (cz bu (ae 1) (aa (cW 2 gH (aa (cW 2 gH (aa (ae 3) (aa (ap dY (ap bG (vC (.int 3)) (ae 4)) (vC (.int 1))) aj))) (aa (ap dY (ap dY (ae 4) (ae 2)) (vC (.int 2))) aj))) aj)))
noncomputable def i0:FI:=(bM (aa (aO (g2 sJ) (aa (aO (g1 iy) (aa (ae 0) aj)) (aa (vC (.int 63)) aj))) aj))
noncomputable def dO:FS:=(aC (aR 3 (aO (g1 qT) (aa (ap bf (ae 0) (ae 2)) aj)))
    (aC (lh (a_ (ap vk (ae 3) (ap pq (vC (.int 10)) (vC (.int 18)))))
    (cQ ([4]++[]) gC (ag 4) eL)
    gP)
    (aC (h_ (2 ^ 4200) dP gq)
    (lh (a_ (ap AO (ae 3) (vC (.int 2147483629))))
    (eD (cz bu (ae 1) (aa (ap aT (ae 3) (vC (.int 2147483629))) aj)))
    gP))))
noncomputable def pW:FS:=(aC (aR 1 (eJ aj))
    (aC (cQ ([2]++([3]++((([4]++[])++[])++(([]++[3])++([]++[]))))) i0 (ag 2) dO)
    (bY (ae 1))))
noncomputable def iD:FM:=jv 1 4 ([1]++(([2]++([3]++((([4]++[])++[])++(([]++[3])++([]++[])))))++[])) pW
theorem nZ:aH ["_law_script","_law_drawn","_law_k","_law_cell","_law_j"] ["_law_script"] (ah iO):=⟨rfl,rfl,rfl,by decide+kernel,rfl,by decide+kernel,by decide+kernel⟩
theorem tQ(h:bj K mg "_law_draws" iO f fd ["_law_script"])(T:jW mg){fLmixed:Addr}{eLmixed:FuncData}(hLmixed:bj K mg "_law_mixed" iP fLmixed eLmixed ["_law_cell","_law_k"])(GLmixed:aJ P w K mg base cw 1 fLmixed eLmixed ["_law_cell","_law_k"] (cC K 2 gH)):aJ P w K mg base cw 2 f fd ["_law_script"] (cC K 1 iD):=by
  have nd:=nZ.nd
  exact h.fn nZ rfl rfl (fun cdv A outer s H E hr=>(@af _ _ _ _ _ _ _ _ (@ar _ _ _ _ _ 1 _ _ nd rfl (Or.inl rfl) (@bJ _ _ _ _ _ ac) (by rfl) (by trivial))
      (@af _ _ _ _ _ _ _ _ (@dg _ _ _ _ _ _ _ _ _ _ _ PassesOwn.never rfl (@bN _ _ _ _ _ _ _ rfl T.b_range ((@bi _ _ _ _ _ _ _ _ _ (@b_min _ _ rfl) (by rfl) T.b_min ((@bi _ _ _ _ _ _ _ _ _ (@b_len _ _ rfl) (by rfl) T.b_len ((¬0)∘ac) (by decide) (by decide) (by rfl) (by rfl))∘(ab∘ac)) (by decide) (by decide) (by rfl) (by rfl))∘ac) (by rfl)) (@aw _ _ _ 2 _ nd rfl (Or.inl rfl) (by trivial))
      (@af _ _ _ _ _ _ _ _ (@ar _ _ _ _ _ 3 _ _ nd rfl (Or.inl rfl) (@bi _ _ _ _ _ _ _ _ _ (@b_abs _ _) (by rfl) T.b_abs ((@aF _ _ _ _ _ _ _ rfl (¬0) (¬2) (fun _ _=>rfl))∘ac) (by decide) (by decide) (by rfl) (by rfl)) (by rfl) (by trivial))
      (@af _ _ _ _ _ _ _ _ (@fJ _ _ _ _ _ _ _ _ _ _ _ (@bD _ _ _ _ _ _ _ _ _ (@r8 _ _) (¬3) (@yi _ _ _ _ _ _ _ ab ab) (a9 _))
      (@am _ _ _ _ _ (@dg _ _ _ _ _ _ _ _ _ _ _ PassesOwn.never rfl (@bN _ _ _ _ _ _ _ rfl T.b_range (ab∘ac) (by rfl)) (@aw _ _ _ 4 _ nd rfl (Or.inl rfl) (by trivial))
      (@am _ _ _ _ _ (@cJ _ _ _ _ _ (@bW _ _ _ _ _ _ _ _ _ rfl (¬1) ((@aV _ _ _ _ _ _ _ _ _ _ _ _ _ _ _ hLmixed GLmixed (hr.mono (by decide)) ((@aV _ _ _ _ _ _ _ _ _ _ _ _ _ _ _ hLmixed GLmixed (hr.mono (by decide)) ((¬3)∘((@cU _ _ _ _ _ _ _ rfl (@cI _ _ _ _ _ _ _ rfl ab (¬4)) ab)∘ac)) (by rfl) (by decide) (by rfl) (by rfl))∘((@cU _ _ _ _ _ _ _ rfl (@cU _ _ _ _ _ _ _ rfl (¬4) (¬2)) ab)∘ac)) (by rfl) (by decide) (by rfl) (by rfl))∘ac) (by rfl) (by rfl) (by rfl) (by rfl) (by rfl)) (by rfl))) (by intro _;rfl)))
      (@ce _ _))
      (@af _ _ _ _ _ _ _ _ (@kN _ _ _ _ _ _ _ _ _ PassesOwn.never (@Bs _ _ _ _ (@uq _ _ _ _ _ _ _ _ (@bD _ _ _ _ _ _ _ _ _ (@AK _ _) (¬3) (@yi _ _ _ _ _ _ _ ab ab) (a9 _)) (@qk _ _ _ _ _ (@bD _ _ _ _ _ _ _ _ _ (@r8 _ _) (@bi _ _ _ _ _ _ _ _ _ (@b_len _ _ rfl) (by rfl) T.b_len ((¬1)∘ac) (by decide) (by decide) (by rfl) (by rfl)) ab (a9 _)))))
      (@af _ _ _ _ _ _ _ _ (@cJ _ _ _ _ _ (@bW _ _ _ _ _ _ _ _ _ rfl (¬1) ((@aQ _ _ _ _ _ _ _ (¬3) ab)∘ac) (by rfl) (by rfl) (by rfl) (by rfl) (by rfl)) (by rfl))
      (@am _ _ _ _ _ (@ar _ _ _ _ _ 3 _ _ nd rfl (Or.inl rfl) (@gc _ _ _ _ _ _ _ (¬3) ab) (by rfl) (by trivial)))))
      (@am _ _ _ _ _ (@fJ _ _ _ _ _ _ _ _ _ _ _ (@bD _ _ _ _ _ _ _ _ _ (@AK _ _) (¬3) ab (a9 _))
      (@am _ _ _ _ _ (@cJ _ _ _ _ _ (@bW _ _ _ _ _ _ _ _ _ rfl (¬1) ((@aQ _ _ _ _ _ _ _ (¬3) ab)∘ac) (by rfl) (by rfl) (by rfl) (by rfl) (by rfl)) (by rfl)))
      (@ce _ _)))))) (by intro _;rfl))
      (@am _ _ _ _ _ (@aL _ _ _ _ _ (¬1))))))
noncomputable def oU:FS:=(aC (lh (a_ (ap (c9 false) (ae 0) (eJ aj)))
    (bY (vC (.int 0)))
    gP)
    (bY (cz i8 (ae 0) (aa (vC (.int 0)) aj))))
noncomputable def aU:FM:=jv 1 0 (([]++[])++[]) oU
theorem qp:aH ["_law_drawn"] ["_law_drawn"] (ah gf):=⟨rfl,rfl,rfl,by decide+kernel,rfl,by decide+kernel,by decide+kernel⟩
theorem v0(h:bj K mg "_law_next" gf f fd ["_law_drawn"])(T:jW mg):aJ P w K mg base cw 1 f fd ["_law_drawn"] (cC K 1 aU):=by
  have nd:=qp.nd
  exact h.fn qp rfl rfl (fun cdv A outer s H E hr=>(@af _ _ _ _ _ _ _ _ (@fJ _ _ _ _ _ _ _ _ _ _ _ (@bD _ _ _ _ _ _ _ _ _ (@ma _ _ _ rfl hr) (¬0) (@bJ _ _ _ _ _ ac) (a9 _))
      (@am _ _ _ _ _ (@aL _ _ _ _ _ ab))
      (@ce _ _))
      (@am _ _ _ _ _ (@aL _ _ _ _ _ (@wR _ _ _ _ _ _ _ _ _ rfl (¬0) (ab∘ac) (by rfl) (by rfl) (by rfl) (by rfl) (by rfl))))))
noncomputable def io:FT:=(a_ (ap (c9 true) (ae 1) (vC (.int 0))))
noncomputable def jH:FS:=(uI 0 1 (aa (ae 1) (aa (ap aT (ae 0) (ae 1)) aj)))
noncomputable def xK:FS:=(aC (h_ (2 ^ 4200) io jH)
    (bY (aO (g1 qT) (aa (ae 0) aj))))
noncomputable def nG:FM:=jv 2 0 ([0,1]++[]) xK
theorem uK:aH ["_law_one","_law_other"] ["_law_one","_law_other"] (ah nW):=⟨rfl,rfl,rfl,by decide+kernel,rfl,by decide+kernel,by decide+kernel⟩
theorem y0(h:bj K mg "_law_gcd" nW f fd ["_law_one","_law_other"])(T:jW mg):aJ P w K mg base cw 1 f fd ["_law_one","_law_other"] (cC K 2 nG):=by
  have nd:=uK.nd
  exact h.fn uK rfl rfl (fun cdv A outer s H E hr=>(@af _ _ _ _ _ _ _ _ (@kN _ _ _ _ _ _ _ _ _ PassesOwn.never (@bD _ _ _ _ _ _ _ _ _ (@yC _ _ _ rfl hr) (¬1) ab (a9 _))
      (@am _ _ _ _ _ (@zL _ _ _ _ _ 0 1 _ _ _ _ _ _ _ _ _ rfl nd rfl rfl (by decide) rfl rfl ((¬1)∘((@aQ _ _ _ _ _ _ _ (¬0) (¬1))∘ac)) (by rfl) (by rfl))))
      (@am _ _ _ _ _ (@aL _ _ _ _ _ (@bi _ _ _ _ _ _ _ _ _ (@b_abs _ _) (by rfl) T.b_abs ((¬0)∘ac) (by decide) (by decide) (by rfl) (by rfl))))))
noncomputable def xM:FS:=(aC (aR 2 (cW 2 nG (aa (ae 0) (aa (ae 1) aj))))
    (bY (dH (aa (ap dZ (ae 0) (ae 2)) (aa (ap dZ (ae 1) (ae 2)) aj)))))
noncomputable def eC:FM:=jv 2 1 ([2]++[]) xM
theorem uL:aH ["_law_top","_law_bottom","_law_common"] ["_law_top","_law_bottom"] (ah jw):=⟨rfl,rfl,rfl,by decide+kernel,rfl,by decide+kernel,by decide+kernel⟩
theorem y3(h:bj K mg "_law_low" jw f fd ["_law_top","_law_bottom"])(T:jW mg){fLgcd:Addr}{eLgcd:FuncData}(hLgcd:bj K mg "_law_gcd" nW fLgcd eLgcd ["_law_one","_law_other"])(GLgcd:aJ P w K mg base cw 1 fLgcd eLgcd ["_law_one","_law_other"] (cC K 2 nG)):aJ P w K mg base cw 2 f fd ["_law_top","_law_bottom"] (cC K 2 eC):=by
  have nd:=uL.nd
  exact h.fn uL rfl rfl (fun cdv A outer s H E hr=>(@af _ _ _ _ _ _ _ _ (@ar _ _ _ _ _ 2 _ _ nd rfl (Or.inl rfl) (@aV _ _ _ _ _ _ _ _ _ _ _ _ _ _ _ hLgcd GLgcd (hr.mono (by decide)) ((¬0)∘((¬1)∘ac)) (by rfl) (by decide) (by rfl) (by rfl)) (by rfl) (by trivial))
      (@am _ _ _ _ _ (@aL _ _ _ _ _ (@be _ _ _ _ _ _ ((@gc _ _ _ _ _ _ _ (¬0) (¬2))∘((@gc _ _ _ _ _ _ _ (¬1) (¬2))∘ac)))))))
noncomputable def rV:FS:=(bY (cW 2 eC (aa (ap dY (ap bG (ap bf (ae 0) (vC (.int 0))) (ap bf (ae 1) (vC (.int 1)))) (ap bG (ap bf (ae 1) (vC (.int 0))) (ap bf (ae 0) (vC (.int 1))))) (aa (ap bG (ap bf (ae 0) (vC (.int 1))) (ap bf (ae 1) (vC (.int 1)))) aj))))
noncomputable def km:FM:=jv 2 0 [] rV
theorem qr:aH ["_law_one","_law_other"] ["_law_one","_law_other"] (ah kR):=⟨rfl,rfl,rfl,by decide+kernel,rfl,by decide+kernel,by decide+kernel⟩
theorem v_(h:bj K mg "_law_plus" kR f fd ["_law_one","_law_other"])(T:jW mg){fLlow:Addr}{eLlow:FuncData}(hLlow:bj K mg "_law_low" jw fLlow eLlow ["_law_top","_law_bottom"])(GLlow:aJ P w K mg base cw 2 fLlow eLlow ["_law_top","_law_bottom"] (cC K 2 eC)):aJ P w K mg base cw 3 f fd ["_law_one","_law_other"] (cC K 2 km):=by
  have nd:=qr.nd
  exact h.fn qr rfl rfl (fun cdv A outer s H E hr=>(@am _ _ _ _ _ (@aL _ _ _ _ _ (@aV _ _ _ _ _ _ _ _ _ _ _ _ _ _ _ hLlow GLlow (hr.mono (by decide)) ((@cU _ _ _ _ _ _ _ rfl (@cI _ _ _ _ _ _ _ rfl (@aF _ _ _ _ _ _ _ rfl (¬0) ab (fun _ _=>rfl)) (@aF _ _ _ _ _ _ _ rfl (¬1) ab (fun _ _=>rfl))) (@cI _ _ _ _ _ _ _ rfl (@aF _ _ _ _ _ _ _ rfl (¬1) ab (fun _ _=>rfl)) (@aF _ _ _ _ _ _ _ rfl (¬0) ab (fun _ _=>rfl))))∘((@cI _ _ _ _ _ _ _ rfl (@aF _ _ _ _ _ _ _ rfl (¬0) ab (fun _ _=>rfl)) (@aF _ _ _ _ _ _ _ rfl (¬1) ab (fun _ _=>rfl)))∘ac)) (by rfl) (by decide) (by rfl) (by rfl)))))
noncomputable def pZ:FS:=(bY (cW 2 eC (aa (ap bG (ap bf (ae 0) (vC (.int 0))) (ap bf (ae 1) (vC (.int 0)))) (aa (ap bG (ap bf (ae 0) (vC (.int 1))) (ap bf (ae 1) (vC (.int 1)))) aj))))
noncomputable def iF:FM:=jv 2 0 [] pZ
theorem oh:aH ["_law_one","_law_other"] ["_law_one","_law_other"] (ah iQ):=⟨rfl,rfl,rfl,by decide+kernel,rfl,by decide+kernel,by decide+kernel⟩
theorem tT(h:bj K mg "_law_times" iQ f fd ["_law_one","_law_other"])(T:jW mg){fLlow:Addr}{eLlow:FuncData}(hLlow:bj K mg "_law_low" jw fLlow eLlow ["_law_top","_law_bottom"])(GLlow:aJ P w K mg base cw 2 fLlow eLlow ["_law_top","_law_bottom"] (cC K 2 eC)):aJ P w K mg base cw 3 f fd ["_law_one","_law_other"] (cC K 2 iF):=by
  have nd:=oh.nd
  exact h.fn oh rfl rfl (fun cdv A outer s H E hr=>(@am _ _ _ _ _ (@aL _ _ _ _ _ (@aV _ _ _ _ _ _ _ _ _ _ _ _ _ _ _ hLlow GLlow (hr.mono (by decide)) ((@cI _ _ _ _ _ _ _ rfl (@aF _ _ _ _ _ _ _ rfl (¬0) ab (fun _ _=>rfl)) (@aF _ _ _ _ _ _ _ rfl (¬1) ab (fun _ _=>rfl)))∘((@cI _ _ _ _ _ _ _ rfl (@aF _ _ _ _ _ _ _ rfl (¬0) ab (fun _ _=>rfl)) (@aF _ _ _ _ _ _ _ rfl (¬1) ab (fun _ _=>rfl)))∘ac)) (by rfl) (by decide) (by rfl) (by rfl)))))
noncomputable def rT:FS:=(bY (ap vk (ap bG (ap bf (ae 0) (vC (.int 0))) (ap bf (ae 1) (vC (.int 1)))) (ap bG (ap bf (ae 1) (vC (.int 0))) (ap bf (ae 0) (vC (.int 1))))))
noncomputable def fZ:FM:=jv 2 0 [] rT
theorem qo:aH ["_law_one","_law_other"] ["_law_one","_law_other"] (ah jg):=⟨rfl,rfl,rfl,by decide+kernel,rfl,by decide+kernel,by decide+kernel⟩
theorem vZ(h:bj K mg "_law_less" jg f fd ["_law_one","_law_other"])(T:jW mg):aJ P w K mg base cw 1 f fd ["_law_one","_law_other"] (cC K 2 fZ):=by
  have nd:=qo.nd
  exact h.fn qo rfl rfl (fun cdv A outer s H E hr=>(@am _ _ _ _ _ (@aL _ _ _ _ _ (@lN _ _ _ _ _ _ _ _ _ (@r8 _ _) (@cI _ _ _ _ _ _ _ rfl (@aF _ _ _ _ _ _ _ rfl (¬0) ab (fun _ _=>rfl)) (@aF _ _ _ _ _ _ _ rfl (¬1) ab (fun _ _=>rfl))) (@cI _ _ _ _ _ _ _ rfl (@aF _ _ _ _ _ _ _ rfl (¬1) ab (fun _ _=>rfl)) (@aF _ _ _ _ _ _ _ rfl (¬0) ab (fun _ _=>rfl))) (a9 _)))))
noncomputable def rW:FS:=(bY (ap (c9 false) (aO (g1 fW) (aa (ae 0) aj)) (aO (g1 fW) (aa (ae 1) aj))))
noncomputable def i7:FM:=jv 2 0 [] rW
theorem qs:aH ["_law_found","_law_due_here"] ["_law_found","_law_due_here"] (ah kS):=⟨rfl,rfl,rfl,by decide+kernel,rfl,by decide+kernel,by decide+kernel⟩
theorem wa(h:bj K mg "_law_same" kS f fd ["_law_found","_law_due_here"])(T:jW mg):aJ P w K mg base cw 1 f fd ["_law_found","_law_due_here"] (cC K 2 i7):=by
  have nd:=qs.nd
  exact h.fn qs rfl rfl (fun cdv A outer s H E hr=>(@am _ _ _ _ _ (@aL _ _ _ _ _ (@lN _ _ _ _ _ _ _ _ _ (@ma _ _ _ rfl hr) (@bi _ _ _ _ _ _ _ _ _ (@b_repr _ _ _ rfl hr) (by rfl) T.b_repr ((¬0)∘ac) (by decide) (by decide) (by rfl) (by rfl)) (@bi _ _ _ _ _ _ _ _ _ (@b_repr _ _ _ rfl hr) (by rfl) T.b_repr ((¬1)∘ac) (by decide) (by decide) (by rfl) (by rfl)) (a9 _)))))
noncomputable def fR:FS:=(aC (lh (a_ (ap (c9 false) (ae 1) (vC (.int 0))))
    (bY (ap bf (eJ (aa (dH (aa (vC (.int 1)) (aa (vC (.int 2)) aj))) (aa (dH (aa (vC (.int 1)) (aa (vC (.int 3)) aj))) (aa (dH (aa (vC (.int 2)) (aa (vC (.int 3)) aj))) (aa (dH (aa (vC (.int 1)) (aa (vC (.int 1)) aj))) (aa (dH (aa (vC (.int 0)) (aa (vC (.int 1)) aj))) (aa (dH (aa (vC (.int 3)) (aa (vC (.int 4)) aj))) aj))))))) (ap aT (ae 0) (vC (.int 6)))))
    gP)
    (aC (lh (a_ (ap (c9 false) (ae 1) (vC (.int 1))))
    (aC (aR 2 (ap dY (vC (.int 2)) (ap aT (ae 0) (vC (.int 9)))))
    (bY (cW 2 eC (aa (ap dY (vC (.int 1)) (ap aT (ap dZ (ae 0) (vC (.int 9))) (ap gZ (ae 2) (vC (.int 1))))) (aa (ae 2) aj)))))
    gP)
    (aC (lh (a_ (ap (c9 false) (ae 1) (vC (.int 2))))
    (aC (aR 2 (ap dY (vC (.int 1)) (ap aT (ae 0) (vC (.int 100)))))
    (bY (cW 2 eC (aa (ap aT (ap dZ (ae 0) (vC (.int 100))) (ap dY (ae 2) (vC (.int 1)))) (aa (ae 2) aj)))))
    gP)
    (bY (dH (aa (vC (.int 1)) (aa (vC (.int 1)) aj)))))))
noncomputable def bv:FM:=jv 2 1 (([]++[])++((([2]++[])++[])++((([2]++[])++[])++[]))) fR
theorem lS:aH ["_law_number","_law_kind","_law_bottom"] ["_law_number","_law_kind"] (ah eU):=⟨rfl,rfl,rfl,by decide+kernel,rfl,by decide+kernel,by decide+kernel⟩
theorem rf(h:bj K mg "_law_chance" eU f fd ["_law_number","_law_kind"])(T:jW mg){fLlow:Addr}{eLlow:FuncData}(hLlow:bj K mg "_law_low" jw fLlow eLlow ["_law_top","_law_bottom"])(GLlow:aJ P w K mg base cw 2 fLlow eLlow ["_law_top","_law_bottom"] (cC K 2 eC)):aJ P w K mg base cw 3 f fd ["_law_number","_law_kind"] (cC K 2 bv):=by
  have nd:=lS.nd
  exact h.fn lS rfl rfl (fun cdv A outer s H E hr=>(@af _ _ _ _ _ _ _ _ (@fJ _ _ _ _ _ _ _ _ _ _ _ (@bD _ _ _ _ _ _ _ _ _ (@ma _ _ _ rfl hr) (¬1) ab (a9 _))
      (@am _ _ _ _ _ (@aL _ _ _ _ _ (@aF _ _ _ _ _ _ _ rfl (@bJ _ _ _ _ _ ((@be _ _ _ _ _ _ (ab∘(ab∘ac)))∘((@be _ _ _ _ _ _ (ab∘(ab∘ac)))∘((@be _ _ _ _ _ _ (ab∘(ab∘ac)))∘((@be _ _ _ _ _ _ (ab∘(ab∘ac)))∘((@be _ _ _ _ _ _ (ab∘(ab∘ac)))∘((@be _ _ _ _ _ _ (ab∘(ab∘ac)))∘ac))))))) (@aQ _ _ _ _ _ _ _ (¬0) ab) (fun _ _=>rfl))))
      (@ce _ _))
      (@af _ _ _ _ _ _ _ _ (@fJ _ _ _ _ _ _ _ _ _ _ _ (@bD _ _ _ _ _ _ _ _ _ (@ma _ _ _ rfl hr) (¬1) ab (a9 _))
      (@af _ _ _ _ _ _ _ _ (@ar _ _ _ _ _ 2 _ _ nd rfl (Or.inl rfl) (@cU _ _ _ _ _ _ _ rfl ab (@aQ _ _ _ _ _ _ _ (¬0) ab)) (by rfl) (by trivial))
      (@am _ _ _ _ _ (@aL _ _ _ _ _ (@aV _ _ _ _ _ _ _ _ _ _ _ _ _ _ _ hLlow GLlow (hr.mono (by decide)) ((@cU _ _ _ _ _ _ _ rfl ab (@aQ _ _ _ _ _ _ _ (@gc _ _ _ _ _ _ _ (¬0) ab) (@qi _ _ _ _ _ _ _ (¬2) ab)))∘((¬2)∘ac)) (by rfl) (by decide) (by rfl) (by rfl)))))
      (@ce _ _))
      (@af _ _ _ _ _ _ _ _ (@fJ _ _ _ _ _ _ _ _ _ _ _ (@bD _ _ _ _ _ _ _ _ _ (@ma _ _ _ rfl hr) (¬1) ab (a9 _))
      (@af _ _ _ _ _ _ _ _ (@ar _ _ _ _ _ 2 _ _ nd rfl (Or.inl rfl) (@cU _ _ _ _ _ _ _ rfl ab (@aQ _ _ _ _ _ _ _ (¬0) ab)) (by rfl) (by trivial))
      (@am _ _ _ _ _ (@aL _ _ _ _ _ (@aV _ _ _ _ _ _ _ _ _ _ _ _ _ _ _ hLlow GLlow (hr.mono (by decide)) ((@aQ _ _ _ _ _ _ _ (@gc _ _ _ _ _ _ _ (¬0) ab) (@cU _ _ _ _ _ _ _ rfl (¬2) ab))∘((¬2)∘ac)) (by rfl) (by decide) (by rfl) (by rfl)))))
      (@ce _ _))
      (@am _ _ _ _ _ (@aL _ _ _ _ _ (@be _ _ _ _ _ _ (ab∘(ab∘ac)))))))))
noncomputable def p4:FS:=(bY (ap bf (eJ (aa (ap aT (ae 0) (vC (.int 7))) (aa (ap dY (vC (.int 5)) (ap aT (ae 0) (vC (.int 2)))) (aa (ap aT (ae 0) (vC (.int 1001))) (aa (ap gZ (vC (.int 1000)) (ap aT (ae 0) (vC (.int 3)))) aj))))) (ap aT (ae 1) (vC (.int 4)))))
noncomputable def iG:FM:=jv 2 0 [] p4
theorem oi:aH ["_law_number","_law_kind"] ["_law_number","_law_kind"] (ah iR):=⟨rfl,rfl,rfl,by decide+kernel,rfl,by decide+kernel,by decide+kernel⟩
theorem tU(h:bj K mg "_law_worth" iR f fd ["_law_number","_law_kind"])(T:jW mg):aJ P w K mg base cw 1 f fd ["_law_number","_law_kind"] (cC K 2 iG):=by
  have nd:=oi.nd
  exact h.fn oi rfl rfl (fun cdv A outer s H E hr=>(@am _ _ _ _ _ (@aL _ _ _ _ _ (@aF _ _ _ _ _ _ _ rfl (@bJ _ _ _ _ _ ((@aQ _ _ _ _ _ _ _ (¬0) ab)∘((@cU _ _ _ _ _ _ _ rfl ab (@aQ _ _ _ _ _ _ _ (¬0) ab))∘((@aQ _ _ _ _ _ _ _ (¬0) ab)∘((@qi _ _ _ _ _ _ _ ab (@aQ _ _ _ _ _ _ _ (¬0) ab))∘ac))))) (@aQ _ _ _ _ _ _ _ (¬1) ab) (fun _ _=>rfl)))))
noncomputable def ke:FI:=(bM (aa (ae 2) aj))
noncomputable def eN:FS:=(aC (aR 8 (cW 1 aU (aa (ae 0) aj)))
    (aC (aR 9 (ap bf (eJ (aa (ap aT (ae 8) (ae 1)) (aa (vC (.int 0)) (aa (ap aT (ae 7) (ae 1)) (aa (ap aT (ae 8) (ae 1)) (aa (ap aT (ae 8) (vC (.int 2))) (aa (ap aT (ae 8) (ae 1)) aj))))))) (ae 3)))
    (aC (aR 10 (ap aT (ap dY (ap dY (ae 9) (vC (.int 1))) (ap aT (ap dZ (ae 8) (vC (.int 12))) (ap gZ (ae 1) (vC (.int 1))))) (ae 1)))
    (aC (lh (a_ (ap (c9 false) (ae 3) (vC (.int 4))))
    (uH (dH (aa (vC (.int 0)) (aa (vC (.int 1)) aj))) (cH (aE (ag 9) (aE (ag 10) bU))))
    gP)
    (aC (aR 11 (cW 1 aU (aa (ae 0) aj)))
    (aC (aR 12 (dH (aa (aO (g2 sJ) (aa (ae 9) (aa (ae 10) aj))) (aa (aO (g2 qU) (aa (ae 9) (aa (ae 10) aj))) aj))))
    (eD (cz bu (ae 6) (aa (ap dY (ae 12) (dH (aa (cW 2 bv (aa (ae 11) (aa (ae 4) aj))) (aa (cW 2 iG (aa (ap dZ (ae 11) (vC (.int 10007))) (aa (ae 5) aj))) aj)))) aj)))))))))
noncomputable def rX:FS:=(aC (aR 3 (ap aT (cW 1 aU (aa (ae 0) aj)) (vC (.int 6))))
    (aC (aR 4 (ap aT (cW 1 aU (aa (ae 0) aj)) (vC (.int 4))))
    (aC (aR 5 (ap aT (cW 1 aU (aa (ae 0) aj)) (vC (.int 4))))
    (aC (aR 6 (eJ aj))
    (aC (cQ ([7]++([8]++([9]++([10]++((([9]++([10]++[]))++[])++([11]++([12]++[]))))))) ke (ag 7) eN)
    (bY (aO (g1 bQ) (aa (ae 6) aj))))))))
noncomputable def kn:FM:=jv 3 10 ([3]++([4]++([5]++([6]++(([7]++([8]++([9]++([10]++((([9]++([10]++[]))++[])++([11]++([12]++[])))))))++[]))))) rX
theorem qt:aH ["_law_drawn","_law_things","_law_many","_law_shape","_law_odds","_law_worths","_law_found","_law_k","_law_number","_law_one","_law_other","_law_cell","_law_ends"] ["_law_drawn","_law_things","_law_many"] (ah kT):=⟨rfl,rfl,rfl,by decide+kernel,rfl,by decide+kernel,by decide+kernel⟩
theorem wb(h:bj K mg "_law_ties" kT f fd ["_law_drawn","_law_things","_law_many"])(T:jW mg){fLnext:Addr}{eLnext:FuncData}(hLnext:bj K mg "_law_next" gf fLnext eLnext ["_law_drawn"])(GLnext:aJ P w K mg base cw 1 fLnext eLnext ["_law_drawn"] (cC K 1 aU)){fLchance:Addr}{eLchance:FuncData}(hLchance:bj K mg "_law_chance" eU fLchance eLchance ["_law_number","_law_kind"])(GLchance:aJ P w K mg base cw 3 fLchance eLchance ["_law_number","_law_kind"] (cC K 2 bv)){fLworth:Addr}{eLworth:FuncData}(hLworth:bj K mg "_law_worth" iR fLworth eLworth ["_law_number","_law_kind"])(GLworth:aJ P w K mg base cw 1 fLworth eLworth ["_law_number","_law_kind"] (cC K 2 iG)):aJ P w K mg base cw 4 f fd ["_law_drawn","_law_things","_law_many"] (cC K 3 kn):=by
  have nd:=qt.nd
  exact h.fn qt rfl rfl (fun cdv A outer s H E hr=>(@af _ _ _ _ _ _ _ _ (@ar _ _ _ _ _ 3 _ _ nd rfl (Or.inl rfl) (@aQ _ _ _ _ _ _ _ (@aV _ _ _ _ _ _ _ _ _ _ _ _ _ _ _ hLnext GLnext (hr.mono (by decide)) ((¬0)∘ac) (by rfl) (by decide) (by rfl) (by rfl)) ab) (by rfl) (by trivial))
      (@af _ _ _ _ _ _ _ _ (@ar _ _ _ _ _ 4 _ _ nd rfl (Or.inl rfl) (@aQ _ _ _ _ _ _ _ (@aV _ _ _ _ _ _ _ _ _ _ _ _ _ _ _ hLnext GLnext (hr.mono (by decide)) ((¬0)∘ac) (by rfl) (by decide) (by rfl) (by rfl)) ab) (by rfl) (by trivial))
      (@af _ _ _ _ _ _ _ _ (@ar _ _ _ _ _ 5 _ _ nd rfl (Or.inl rfl) (@aQ _ _ _ _ _ _ _ (@aV _ _ _ _ _ _ _ _ _ _ _ _ _ _ _ hLnext GLnext (hr.mono (by decide)) ((¬0)∘ac) (by rfl) (by decide) (by rfl) (by rfl)) ab) (by rfl) (by trivial))
      (@af _ _ _ _ _ _ _ _ (@ar _ _ _ _ _ 6 _ _ nd rfl (Or.inl rfl) (@bJ _ _ _ _ _ ac) (by rfl) (by trivial))
      (@af _ _ _ _ _ _ _ _ (@dg _ _ _ _ _ _ _ _ _ _ _ PassesOwn.never rfl (@bN _ _ _ _ _ _ _ rfl T.b_range ((¬2)∘ac) (by rfl)) (@aw _ _ _ 7 _ nd rfl (Or.inl rfl) (by trivial))
      (@af _ _ _ _ _ _ _ _ (@ar _ _ _ _ _ 8 _ _ nd rfl (Or.inl rfl) (@aV _ _ _ _ _ _ _ _ _ _ _ _ _ _ _ hLnext GLnext (hr.mono (by decide)) ((¬0)∘ac) (by rfl) (by decide) (by rfl) (by rfl)) (by rfl) (by trivial))
      (@af _ _ _ _ _ _ _ _ (@ar _ _ _ _ _ 9 _ _ nd rfl (Or.inl rfl) (@aF _ _ _ _ _ _ _ rfl (@bJ _ _ _ _ _ ((@aQ _ _ _ _ _ _ _ (¬8) (¬1))∘(ab∘((@aQ _ _ _ _ _ _ _ (¬7) (¬1))∘((@aQ _ _ _ _ _ _ _ (¬8) (¬1))∘((@aQ _ _ _ _ _ _ _ (¬8) ab)∘((@aQ _ _ _ _ _ _ _ (¬8) (¬1))∘ac))))))) (¬3) (fun _ _=>rfl)) (by rfl) (by trivial))
      (@af _ _ _ _ _ _ _ _ (@ar _ _ _ _ _ 10 _ _ nd rfl (Or.inl rfl) (@aQ _ _ _ _ _ _ _ (@cU _ _ _ _ _ _ _ rfl (@cU _ _ _ _ _ _ _ rfl (¬9) ab) (@aQ _ _ _ _ _ _ _ (@gc _ _ _ _ _ _ _ (¬8) ab) (@qi _ _ _ _ _ _ _ (¬1) ab))) (¬1)) (by rfl) (by trivial))
      (@af _ _ _ _ _ _ _ _ (@fJ _ _ _ _ _ _ _ _ _ _ _ (@bD _ _ _ _ _ _ _ _ _ (@ma _ _ _ rfl hr) (¬3) ab (a9 _))
      (@am _ _ _ _ _ (@zK _ _ _ _ _ _ _ _ (@be _ _ _ _ _ _ (ab∘(ab∘ac))) (@kM _ _ _ _ _ _ _ _ rfl rfl (@bX _ _ _ _ _ _ _ _ (@aw _ _ _ 9 _ nd rfl (Or.inl rfl) (by trivial)) (@bX _ _ _ _ _ _ _ _ (@aw _ _ _ 10 _ nd rfl (Or.inl rfl) (by trivial)) (@iK _ _) (by rfl)) (by rfl)) (dq (dq kd)) (by rfl) (by rfl)) (by rfl) (by rfl) (by rfl)))
      (@ce _ _))
      (@af _ _ _ _ _ _ _ _ (@ar _ _ _ _ _ 11 _ _ nd rfl (Or.inl rfl) (@aV _ _ _ _ _ _ _ _ _ _ _ _ _ _ _ hLnext GLnext (hr.mono (by decide)) ((¬0)∘ac) (by rfl) (by decide) (by rfl) (by rfl)) (by rfl) (by trivial))
      (@af _ _ _ _ _ _ _ _ (@ar _ _ _ _ _ 12 _ _ nd rfl (Or.inl rfl) (@be _ _ _ _ _ _ ((@bi _ _ _ _ _ _ _ _ _ (@b_min _ _ rfl) (by rfl) T.b_min ((¬9)∘((¬10)∘ac)) (by decide) (by decide) (by rfl) (by rfl))∘((@bi _ _ _ _ _ _ _ _ _ (@b_max _ _ rfl) (by rfl) T.b_max ((¬9)∘((¬10)∘ac)) (by decide) (by decide) (by rfl) (by rfl))∘ac))) (by rfl) (by trivial))
      (@am _ _ _ _ _ (@cJ _ _ _ _ _ (@bW _ _ _ _ _ _ _ _ _ rfl (¬6) ((@cU _ _ _ _ _ _ _ rfl (¬12) (@be _ _ _ _ _ _ ((@aV _ _ _ _ _ _ _ _ _ _ _ _ _ _ _ hLchance GLchance (hr.mono (by decide)) ((¬11)∘((¬4)∘ac)) (by rfl) (by decide) (by rfl) (by rfl))∘((@aV _ _ _ _ _ _ _ _ _ _ _ _ _ _ _ hLworth GLworth (hr.mono (by decide)) ((@gc _ _ _ _ _ _ _ (¬11) ab)∘((¬5)∘ac)) (by rfl) (by decide) (by rfl) (by rfl))∘ac))))∘ac) (by rfl) (by rfl) (by rfl) (by rfl) (by rfl)) (by rfl))))))))) (by intro _;rfl))
      (@am _ _ _ _ _ (@aL _ _ _ _ _ (@bi _ _ _ _ _ _ _ _ _ (@b_tuple _ _ rfl) (by rfl) T.b_tuple ((¬6)∘ac) (by decide) (by decide) (by rfl) (by rfl))))))))))
noncomputable def mx:FI:=(bM (aa (ae 3) aj))
noncomputable def jI:FS:=(eD (cz bu (ae 7) (aa (ap bf (eJ (aa (vC (.int 20)) (aa (ap dY (vC (.int 1)) (ap aT (cW 1 aU (aa (ae 0) aj)) (vC (.int 3)))) (aa (ap aT (cW 1 aU (aa (ae 0) aj)) (vC (.int 21))) aj)))) (ae 6)) aj)))
noncomputable def xN:FS:=(aC (aR 3 (ap aT (cW 1 aU (aa (ae 0) aj)) (ap dY (ae 1) (vC (.int 1)))))
    (aC (aR 4 (ap bG (ap aT (cW 1 aU (aa (ae 0) aj)) (ap dY (ae 2) (vC (.int 1)))) (aO (g1 nh) (aa (ap vM (ae 3) (vC (.int 1))) aj))))
    (aC (aR 5 (cW 3 kn (aa (ae 0) (aa (aO (g2 qU) (aa (vC (.int 2)) (aa (ae 3) aj))) (aa (ae 4) aj)))))
    (aC (aR 6 (ap aT (cW 1 aU (aa (ae 0) aj)) (vC (.int 3))))
    (aC (aR 7 (eJ aj))
    (aC (cQ ([8]++[]) mx (ag 8) jI)
    (aC (aR 9 (ap bf (eJ (aa (vC (.int 40)) (aa (ap dY (vC (.int 1)) (ap aT (cW 1 aU (aa (ae 0) aj)) (aO (g2 qU) (aa (vC (.int 1)) (aa (ae 4) aj))))) (aa (ap aT (cW 1 aU (aa (ae 0) aj)) (vC (.int 41))) aj)))) (ap aT (cW 1 aU (aa (ae 0) aj)) (vC (.int 3)))))
    (bY (dH (aa (ae 3) (aa (ae 5) (aa (aO (g1 bQ) (aa (ae 7) aj)) (aa (ae 9) aj)))))))))))))
noncomputable def nH:FM:=jv 3 7 ([3]++([4]++([5]++([6]++([7]++(([8]++[])++([9]++[]))))))) xN
theorem uO:aH ["_law_drawn","_law_most","_law_ties_here","_law_things","_law_many","_law_rows","_law_way","_law_patience","_law_k","_law_asks"] ["_law_drawn","_law_most","_law_ties_here"] (ah nY):=⟨rfl,rfl,rfl,by decide+kernel,rfl,by decide+kernel,by decide+kernel⟩
theorem y6(h:bj K mg "_law_web" nY f fd ["_law_drawn","_law_most","_law_ties_here"])(T:jW mg){fLties:Addr}{eLties:FuncData}(hLties:bj K mg "_law_ties" kT fLties eLties ["_law_drawn","_law_things","_law_many"])(GLties:aJ P w K mg base cw 4 fLties eLties ["_law_drawn","_law_things","_law_many"] (cC K 3 kn)){fLnext:Addr}{eLnext:FuncData}(hLnext:bj K mg "_law_next" gf fLnext eLnext ["_law_drawn"])(GLnext:aJ P w K mg base cw 1 fLnext eLnext ["_law_drawn"] (cC K 1 aU)):aJ P w K mg base cw 5 f fd ["_law_drawn","_law_most","_law_ties_here"] (cC K 3 nH):=by
  have nd:=uO.nd
  exact h.fn uO rfl rfl (fun cdv A outer s H E hr=>(@af _ _ _ _ _ _ _ _ (@ar _ _ _ _ _ 3 _ _ nd rfl (Or.inl rfl) (@aQ _ _ _ _ _ _ _ (@aV _ _ _ _ _ _ _ _ _ _ _ _ _ _ _ hLnext GLnext (hr.mono (by decide)) ((¬0)∘ac) (by rfl) (by decide) (by rfl) (by rfl)) (@cU _ _ _ _ _ _ _ rfl (¬1) ab)) (by rfl) (by trivial))
      (@af _ _ _ _ _ _ _ _ (@ar _ _ _ _ _ 4 _ _ nd rfl (Or.inl rfl) (@cI _ _ _ _ _ _ _ rfl (@aQ _ _ _ _ _ _ _ (@aV _ _ _ _ _ _ _ _ _ _ _ _ _ _ _ hLnext GLnext (hr.mono (by decide)) ((¬0)∘ac) (by rfl) (by decide) (by rfl) (by rfl)) (@cU _ _ _ _ _ _ _ rfl (¬2) ab)) (@bi _ _ _ _ _ _ _ _ _ (@b_int _ _) (by rfl) T.b_int ((@lN _ _ _ _ _ _ _ _ _ (@vB _ _) (¬3) ab (a9 _))∘ac) (by decide) (by decide) (by rfl) (by rfl))) (by rfl) (by trivial))
      (@af _ _ _ _ _ _ _ _ (@ar _ _ _ _ _ 5 _ _ nd rfl (Or.inl rfl) (@aV _ _ _ _ _ _ _ _ _ _ _ _ _ _ _ hLties GLties (hr.mono (by decide)) ((¬0)∘((@bi _ _ _ _ _ _ _ _ _ (@b_max _ _ rfl) (by rfl) T.b_max (ab∘((¬3)∘ac)) (by decide) (by decide) (by rfl) (by rfl))∘((¬4)∘ac))) (by rfl) (by decide) (by rfl) (by rfl)) (by rfl) (by trivial))
      (@af _ _ _ _ _ _ _ _ (@ar _ _ _ _ _ 6 _ _ nd rfl (Or.inl rfl) (@aQ _ _ _ _ _ _ _ (@aV _ _ _ _ _ _ _ _ _ _ _ _ _ _ _ hLnext GLnext (hr.mono (by decide)) ((¬0)∘ac) (by rfl) (by decide) (by rfl) (by rfl)) ab) (by rfl) (by trivial))
      (@af _ _ _ _ _ _ _ _ (@ar _ _ _ _ _ 7 _ _ nd rfl (Or.inl rfl) (@bJ _ _ _ _ _ ac) (by rfl) (by trivial))
      (@af _ _ _ _ _ _ _ _ (@dg _ _ _ _ _ _ _ _ _ _ _ PassesOwn.never rfl (@bN _ _ _ _ _ _ _ rfl T.b_range ((¬3)∘ac) (by rfl)) (@aw _ _ _ 8 _ nd rfl (Or.inl rfl) (by trivial))
      (@am _ _ _ _ _ (@cJ _ _ _ _ _ (@bW _ _ _ _ _ _ _ _ _ rfl (¬7) ((@aF _ _ _ _ _ _ _ rfl (@bJ _ _ _ _ _ (ab∘((@cU _ _ _ _ _ _ _ rfl ab (@aQ _ _ _ _ _ _ _ (@aV _ _ _ _ _ _ _ _ _ _ _ _ _ _ _ hLnext GLnext (hr.mono (by decide)) ((¬0)∘ac) (by rfl) (by decide) (by rfl) (by rfl)) ab))∘((@aQ _ _ _ _ _ _ _ (@aV _ _ _ _ _ _ _ _ _ _ _ _ _ _ _ hLnext GLnext (hr.mono (by decide)) ((¬0)∘ac) (by rfl) (by decide) (by rfl) (by rfl)) ab)∘ac)))) (¬6) (fun _ _=>rfl))∘ac) (by rfl) (by rfl) (by rfl) (by rfl) (by rfl)) (by rfl))) (by intro _;rfl))
      (@af _ _ _ _ _ _ _ _ (@ar _ _ _ _ _ 9 _ _ nd rfl (Or.inl rfl) (@aF _ _ _ _ _ _ _ rfl (@bJ _ _ _ _ _ (ab∘((@cU _ _ _ _ _ _ _ rfl ab (@aQ _ _ _ _ _ _ _ (@aV _ _ _ _ _ _ _ _ _ _ _ _ _ _ _ hLnext GLnext (hr.mono (by decide)) ((¬0)∘ac) (by rfl) (by decide) (by rfl) (by rfl)) (@bi _ _ _ _ _ _ _ _ _ (@b_max _ _ rfl) (by rfl) T.b_max (ab∘((¬4)∘ac)) (by decide) (by decide) (by rfl) (by rfl))))∘((@aQ _ _ _ _ _ _ _ (@aV _ _ _ _ _ _ _ _ _ _ _ _ _ _ _ hLnext GLnext (hr.mono (by decide)) ((¬0)∘ac) (by rfl) (by decide) (by rfl) (by rfl)) ab)∘ac)))) (@aQ _ _ _ _ _ _ _ (@aV _ _ _ _ _ _ _ _ _ _ _ _ _ _ _ hLnext GLnext (hr.mono (by decide)) ((¬0)∘ac) (by rfl) (by decide) (by rfl) (by rfl)) ab) (fun _ _=>rfl)) (by rfl) (by trivial))
      (@am _ _ _ _ _ (@aL _ _ _ _ _ (@be _ _ _ _ _ _ ((¬3)∘((¬5)∘((@bi _ _ _ _ _ _ _ _ _ (@b_tuple _ _ rfl) (by rfl) T.b_tuple ((¬7)∘ac) (by decide) (by decide) (by rfl) (by rfl))∘((¬9)∘ac)))))))))))))))
noncomputable def iA:FI:=(eH (ae 0))
noncomputable def e_:FS:=(aR 1 (cW 2 km (aa (ae 1) (aa (ae 2) aj))))
noncomputable def pY:FS:=(aC (aR 1 (dH (aa (vC (.int 0)) (aa (vC (.int 1)) aj))))
    (aC (cQ ([2]++[1]) iA (ag 2) e_)
    (bY (ae 1))))
noncomputable def iE:FM:=jv 1 2 ([1]++(([2]++[1])++[])) pY
theorem uM:aH ["_law_rows","_law_found","_law_one"] ["_law_rows"] (ah nX):=⟨rfl,rfl,rfl,by decide+kernel,rfl,by decide+kernel,by decide+kernel⟩
theorem y4(h:bj K mg "_law_sum" nX f fd ["_law_rows"])(T:jW mg){fLplus:Addr}{eLplus:FuncData}(hLplus:bj K mg "_law_plus" kR fLplus eLplus ["_law_one","_law_other"])(GLplus:aJ P w K mg base cw 3 fLplus eLplus ["_law_one","_law_other"] (cC K 2 km)):aJ P w K mg base cw 4 f fd ["_law_rows"] (cC K 1 iE):=by
  have nd:=uM.nd
  exact h.fn uM rfl rfl (fun cdv A outer s H E hr=>(@af _ _ _ _ _ _ _ _ (@ar _ _ _ _ _ 1 _ _ nd rfl (Or.inl rfl) (@be _ _ _ _ _ _ (ab∘(ab∘ac))) (by rfl) (by trivial))
      (@af _ _ _ _ _ _ _ _ (@dg _ _ _ _ _ _ _ _ _ _ _ PassesOwn.never rfl (@df _ _ _ _ _ rfl (¬0)) (@aw _ _ _ 2 _ nd rfl (Or.inl rfl) (by trivial))
      (@am _ _ _ _ _ (@ar _ _ _ _ _ 1 _ _ nd rfl (Or.inl rfl) (@aV _ _ _ _ _ _ _ _ _ _ _ _ _ _ _ hLplus GLplus (hr.mono (by decide)) ((¬1)∘((¬2)∘ac)) (by rfl) (by decide) (by rfl) (by rfl)) (by rfl) (by trivial))) (by intro _;rfl))
      (@am _ _ _ _ _ (@aL _ _ _ _ _ (¬1))))))
noncomputable def i3:FI:=(eH (ae 4))
noncomputable def cY:FE:=(ap bf (ae 0) (ae 1))
noncomputable def i4:FI:=(eH (ae 4))
noncomputable def cZ:FE:=(cW 2 iF (aa (ap bf (ae 0) (ae 2)) (aa (ap bf (ap bf (ap bf (ae 1) (vC (.int 1))) (ae 2)) (vC (.int 2))) aj)))
noncomputable def gD:FI:=(bM (aa (aO (g1 iy) (aa (ap bf (ae 0) (vC (.int 1))) aj)) aj))
noncomputable def dQ:FT:=(a_ (ap (x8 false) (ae 0) (Aw (ap bf (ap bf (ae 1) (vC (.int 1))) (ae 2)) qh (nL (vC (.int 2))))))
noncomputable def gv:FE:=(ae 2)
noncomputable def lI:FI:=(bM (aa (ap bf (ae 0) (vC (.int 0))) aj))
noncomputable def eM:FS:=(aC (aR 4 (bA [(3,"_law_end"),(0,"_law_web_here")] 1 gD (ag 2) dQ gv))
    (aC (eD (cz bu (ae 2) (aa (dH (aa (cW 1 iE (aa (bA [(1,"_law_shares_here"),(0,"_law_web_here")] 1 i4 (ag 2) b_ cZ) aj)) (aa (vC (.int 1)) aj))) aj)))
    (eD (cz bu (ae 2) (aa (dH (aa (cW 1 iE (aa (bA [(1,"_law_shares_here")] 1 i3 (ag 1) b_ cY) aj)) (aa (ap bf (ap bf (ae 0) (vC (.int 2))) (ae 3)) aj))) aj)))))
noncomputable def l_:FS:=(aC (aR 2 (eJ (aa (dH (aa (cW 1 iE (aa (ae 1) aj)) (aa (ap bf (ae 0) (vC (.int 3))) aj))) aj)))
    (aC (cQ ([3]++([4]++([]++[]))) lI (ag 3) eM)
    (bY (ae 2))))
noncomputable def gG:FM:=jv 2 3 ([2]++(([3]++([4]++([]++[])))++[])) l_
theorem n_:aH ["_law_web_here","_law_shares_here","_law_found","_law_end","_law_some"] ["_law_web_here","_law_shares_here"] (ah eE):=⟨rfl,rfl,rfl,by decide+kernel,rfl,by decide+kernel,by decide+kernel⟩
theorem tR(h:bj K mg "_law_loads" eE f fd ["_law_web_here","_law_shares_here"])(T:jW mg){fLsum:Addr}{eLsum:FuncData}(hLsum:bj K mg "_law_sum" nX fLsum eLsum ["_law_rows"])(GLsum:aJ P w K mg base cw 4 fLsum eLsum ["_law_rows"] (cC K 1 iE)){fLtimes:Addr}{eLtimes:FuncData}(hLtimes:bj K mg "_law_times" iQ fLtimes eLtimes ["_law_one","_law_other"])(GLtimes:aJ P w K mg base cw 3 fLtimes eLtimes ["_law_one","_law_other"] (cC K 2 iF)):aJ P w K mg base cw 5 f fd ["_law_web_here","_law_shares_here"] (cC K 2 gG):=by
  have nd:=n_.nd
  exact h.fn n_ rfl rfl (fun cdv A outer s H E hr=>(@af _ _ _ _ _ _ _ _ (@ar _ _ _ _ _ 2 _ _ nd rfl (Or.inl rfl) (@bJ _ _ _ _ _ ((@be _ _ _ _ _ _ ((@aV _ _ _ _ _ _ _ _ _ _ _ _ _ _ _ hLsum GLsum (hr.mono (by decide)) ((¬1)∘ac) (by rfl) (by decide) (by rfl) (by rfl))∘((@aF _ _ _ _ _ _ _ rfl (¬0) ab (fun _ _=>rfl))∘ac)))∘ac)) (by rfl) (by trivial))
      (@af _ _ _ _ _ _ _ _ (@dg _ _ _ _ _ _ _ _ _ _ _ PassesOwn.never rfl (@bN _ _ _ _ _ _ _ rfl T.b_range ((@aF _ _ _ _ _ _ _ rfl (¬0) ab (fun _ _=>rfl))∘ac) (by rfl)) (@aw _ _ _ 3 _ nd rfl (Or.inr rfl) (by trivial))
      (@af _ _ _ _ _ _ _ _ (@je _ _ _ (4) _ _ _ _ _ _ _ _ _ _ _ _ _ (ah eE) ["_law_web_here","_law_shares_here","_law_found","_law_end","_law_some"] [(3,"_law_end"),(0,"_law_web_here")] ["_law_tie"] rfl rfl rfl (@bN _ _ _ _ _ _ _ rfl T.b_range ((@bi _ _ _ _ _ _ _ _ _ (@b_len _ _ rfl) (by rfl) T.b_len ((@aF _ _ _ _ _ _ _ rfl (¬0) ab (fun _ _=>rfl))∘ac) (by decide) (by decide) (by rfl) (by rfl))∘ac) (by rfl))
        (fun C s0 H0 fp=>(@aw _ _ _ 2 _ (show List.Nodup (["_law_end","_law_web_here","_law_tie"]:List Str) by decide+kernel) rfl (Or.inl rfl) (by trivial))) (fun C s0 H0 fp=>(@iL _ _ _ _ (@bD _ _ _ _ _ _ _ _ _ (@Cp _ _ _ rfl hr) (¬0) (@wU _ _ _ _ _ _ _ _ _ _ rfl (@aF _ _ _ _ _ _ _ rfl (@aF _ _ _ _ _ _ _ rfl (¬1) ab (fun _ _=>rfl)) (¬2) (fun _ _=>rfl)) (@wX _ _) (@wY _ _ _ _ ab)) (by with_unfolding_all rfl))))
        (fun C s0 H0 fp=>(¬2)) rfl (by decide+kernel) (by decide+kernel) (by decide+kernel) (by decide+kernel) (by decide+kernel) (by decide+kernel) (by decide+kernel) nd rfl rfl (by rfl) (by intro _;rfl))
      (@af _ _ _ _ _ _ _ _ (@cJ _ _ _ _ _ (@bW _ _ _ _ _ _ _ _ _ rfl (¬2) ((@be _ _ _ _ _ _ ((@aV _ _ _ _ _ _ _ _ _ _ _ _ _ _ _ hLsum GLsum (hr.mono (by decide)) ((@gb _ _ _ _ _ _ _ _ _ _ _ _ _ (ah eE) ["_law_web_here","_law_shares_here","_law_found","_law_end","_law_some"] [(1,"_law_shares_here"),(0,"_law_web_here")] ["_law_tie"] rfl rfl rfl (@df _ _ _ _ _ rfl (¬4))
        (fun C s0 H0 fp=>(@aw _ _ _ 2 _ (show List.Nodup (["_law_shares_here","_law_web_here","_law_tie"]:List Str) by decide+kernel) rfl (Or.inl rfl) (by trivial))) (fun C s0 H0 fp=>(@gK _ _))
        (fun C s0 H0 fp=>(@aV _ _ _ _ _ _ _ _ _ _ _ _ _ _ _ hLtimes GLtimes (hr.mono (by decide)) ((@aF _ _ _ _ _ _ _ rfl (¬0) (¬2) (fun _ _=>rfl))∘((@aF _ _ _ _ _ _ _ rfl (@aF _ _ _ _ _ _ _ rfl (@aF _ _ _ _ _ _ _ rfl (¬1) ab (fun _ _=>rfl)) (¬2) (fun _ _=>rfl)) ab (fun _ _=>rfl))∘ac)) (by rfl) (by decide) (by rfl) (by rfl))) rfl (by decide+kernel) (by decide+kernel) (by decide+kernel) (by decide+kernel) (by decide+kernel) (by decide+kernel) (by decide+kernel) (by intro _;rfl))∘ac) (by rfl) (by decide) (by rfl) (by rfl))∘(ab∘ac)))∘ac) (by rfl) (by rfl) (by rfl) (by rfl) (by rfl)) (by rfl))
      (@am _ _ _ _ _ (@cJ _ _ _ _ _ (@bW _ _ _ _ _ _ _ _ _ rfl (¬2) ((@be _ _ _ _ _ _ ((@aV _ _ _ _ _ _ _ _ _ _ _ _ _ _ _ hLsum GLsum (hr.mono (by decide)) ((@gb _ _ _ _ _ _ _ _ _ _ _ _ _ (ah eE) ["_law_web_here","_law_shares_here","_law_found","_law_end","_law_some"] [(1,"_law_shares_here")] ["_law_tie"] rfl rfl rfl (@df _ _ _ _ _ rfl (¬4))
        (fun C s0 H0 fp=>(@aw _ _ _ 1 _ (show List.Nodup (["_law_shares_here","_law_tie"]:List Str) by decide+kernel) rfl (Or.inl rfl) (by trivial))) (fun C s0 H0 fp=>(@gK _ _))
        (fun C s0 H0 fp=>(@aF _ _ _ _ _ _ _ rfl (¬0) (¬1) (fun _ _=>rfl))) rfl (by decide+kernel) (by decide+kernel) (by decide+kernel) (by decide+kernel) (by decide+kernel) (by decide+kernel) (by decide+kernel) (by intro _;rfl))∘ac) (by rfl) (by decide) (by rfl) (by rfl))∘((@aF _ _ _ _ _ _ _ rfl (@aF _ _ _ _ _ _ _ rfl (¬0) ab (fun _ _=>rfl)) (¬3) (fun _ _=>rfl))∘ac)))∘ac) (by rfl) (by rfl) (by rfl) (by rfl) (by rfl)) (by rfl))))) (by intro _;rfl))
      (@am _ _ _ _ _ (@aL _ _ _ _ _ (¬2))))))
noncomputable def g9:FI:=(eH (ae 2))
noncomputable def dX:FE:=(cW 2 eC (aa (ap bG (ap bf (ae 1) (vC (.int 0))) (ap bf (ae 0) (vC (.int 1)))) (aa (ap bG (ap bf (ae 1) (vC (.int 1))) (ap bf (ae 0) (vC (.int 0)))) aj)))
noncomputable def g_:FI:=(eH (cW 2 gG (aa (ae 0) (aa (ae 2) aj))))
noncomputable def cf:FS:=(lh (pR (a_ (ap vM (ae 8) (vC (.int 0)))) (a_ (cW 2 fZ (aa (ae 6) (aa (cW 2 eC (aa (ap bf (ae 7) (vC (.int 0))) (aa (ap bG (ap bf (ae 7) (vC (.int 1))) (ae 8)) aj))) aj)))))
    (aR 6 (cW 2 eC (aa (ap bf (ae 7) (vC (.int 0))) (aa (ap bG (ap bf (ae 7) (vC (.int 1))) (ae 8)) aj))))
    gP)
noncomputable def hG:FI:=(qf (aa (ae 1) (aa (ap bf (ae 0) (vC (.int 1))) aj)))
noncomputable def bI:FS:=(aC (aR 5 (rH (ap (c9 false) (ap bf (ae 0) (vC (.int 3))) (vC (.int 0))) (rH (ap (c9 false) (ap bf (ap bf (ae 0) (vC (.int 2))) (ap bf (ae 4) (vC (.int 0)))) (vC (.int 0))) (ap (c9 false) (ap bf (ap bf (ae 0) (vC (.int 2))) (ap bf (ae 4) (vC (.int 1)))) (vC (.int 0))))))
    (eD (cz bu (ae 2) (aa (ap bf (eJ (aa (ae 3) (aa (dH (aa (vC (.int 0)) (aa (vC (.int 1)) aj))) aj))) (aO (g1 nh) (aa (ae 5) aj))) aj))))
noncomputable def mW:FS:=(aC (aR 2 (eJ aj))
    (aC (cQ (([3]++([4]++[]))++([5]++[])) hG (cH (aE (ag 3) (aE (ag 4) bU))) bI)
    (aC (aR 6 (dH (aa (vC (.int 1)) (aa (vC (.int 1)) aj))))
    (aC (cQ (([7]++([8]++[]))++([6]++[])) g_ (cH (aE (ag 7) (aE (ag 8) bU))) cf)
    (bY (aO (g1 bQ) (aa (bA [(6,"_law_by")] 1 g9 (ag 1) b_ dX) aj)))))))
noncomputable def f9:FM:=jv 2 7 ([2]++((([3]++([4]++[]))++([5]++[]))++([6]++((([7]++([8]++[]))++([6]++[]))++[])))) mW
theorem lT:aH ["_law_web_here","_law_shares_here","_law_own","_law_share","_law_tie","_law_shut","_law_by","_law_load","_law_most"] ["_law_web_here","_law_shares_here"] (ah eV):=⟨rfl,rfl,rfl,by decide+kernel,rfl,by decide+kernel,by decide+kernel⟩
theorem rg(h:bj K mg "_law_scaled" eV f fd ["_law_web_here","_law_shares_here"])(T:jW mg){fLloads:Addr}{eLloads:FuncData}(hLloads:bj K mg "_law_loads" eE fLloads eLloads ["_law_web_here","_law_shares_here"])(GLloads:aJ P w K mg base cw 5 fLloads eLloads ["_law_web_here","_law_shares_here"] (cC K 2 gG)){fLless:Addr}{eLless:FuncData}(hLless:bj K mg "_law_less" jg fLless eLless ["_law_one","_law_other"])(GLless:aJ P w K mg base cw 1 fLless eLless ["_law_one","_law_other"] (cC K 2 fZ)){fLlow:Addr}{eLlow:FuncData}(hLlow:bj K mg "_law_low" jw fLlow eLlow ["_law_top","_law_bottom"])(GLlow:aJ P w K mg base cw 2 fLlow eLlow ["_law_top","_law_bottom"] (cC K 2 eC)):aJ P w K mg base cw 6 f fd ["_law_web_here","_law_shares_here"] (cC K 2 f9):=by
  have nd:=lT.nd
  exact h.fn lT rfl rfl (fun cdv A outer s H E hr=>(@af _ _ _ _ _ _ _ _ (@ar _ _ _ _ _ 2 _ _ nd rfl (Or.inl rfl) (@bJ _ _ _ _ _ ac) (by rfl) (by trivial))
      (@af _ _ _ _ _ _ _ _ (@dg _ _ _ _ _ _ _ _ _ _ _ PassesOwn.never rfl (@wW _ _ _ _ _ _ _ _ _ _ rfl rfl T.b_zip ((¬1)∘((@aF _ _ _ _ _ _ _ rfl (¬0) ab (fun _ _=>rfl))∘ac)) (by rfl) (by rfl)) (@kM _ _ _ _ _ _ _ _ rfl rfl (@bX _ _ _ _ _ _ _ _ (@aw _ _ _ 3 _ nd rfl (Or.inl rfl) (by trivial)) (@bX _ _ _ _ _ _ _ _ (@aw _ _ _ 4 _ nd rfl (Or.inl rfl) (by trivial)) (@iK _ _) (by rfl)) (by rfl)) (dq (dq kd)) (by rfl) (by rfl))
      (@af _ _ _ _ _ _ _ _ (@ar _ _ _ _ _ 5 _ _ nd rfl (Or.inl rfl) (@yj _ _ _ _ _ _ _ _ (@lN _ _ _ _ _ _ _ _ _ (@ma _ _ _ rfl hr) (@aF _ _ _ _ _ _ _ rfl (¬0) ab (fun _ _=>rfl)) ab (a9 _)) (@yj _ _ _ _ _ _ _ _ (@lN _ _ _ _ _ _ _ _ _ (@ma _ _ _ rfl hr) (@aF _ _ _ _ _ _ _ rfl (@aF _ _ _ _ _ _ _ rfl (¬0) ab (fun _ _=>rfl)) (@aF _ _ _ _ _ _ _ rfl (¬4) ab (fun _ _=>rfl)) (fun _ _=>rfl)) ab (a9 _)) (@zJ _ _ _ _ _ _ (@lN _ _ _ _ _ _ _ _ _ (@ma _ _ _ rfl hr) (@aF _ _ _ _ _ _ _ rfl (@aF _ _ _ _ _ _ _ rfl (¬0) ab (fun _ _=>rfl)) (@aF _ _ _ _ _ _ _ rfl (¬4) ab (fun _ _=>rfl)) (fun _ _=>rfl)) ab (a9 _))))) (by rfl) (by trivial))
      (@am _ _ _ _ _ (@cJ _ _ _ _ _ (@bW _ _ _ _ _ _ _ _ _ rfl (¬2) ((@aF _ _ _ _ _ _ _ rfl (@bJ _ _ _ _ _ ((¬3)∘((@be _ _ _ _ _ _ (ab∘(ab∘ac)))∘ac))) (@bi _ _ _ _ _ _ _ _ _ (@b_int _ _) (by rfl) T.b_int ((¬5)∘ac) (by decide) (by decide) (by rfl) (by rfl)) (fun _ _=>rfl))∘ac) (by rfl) (by rfl) (by rfl) (by rfl) (by rfl)) (by rfl)))) (by intro _;rfl))
      (@af _ _ _ _ _ _ _ _ (@ar _ _ _ _ _ 6 _ _ nd rfl (Or.inr rfl) (@be _ _ _ _ _ _ (ab∘(ab∘ac))) (by rfl) (by trivial))
      (@af _ _ _ _ _ _ _ _ (@dg _ _ _ _ _ _ _ _ _ _ _ PassesOwn.never rfl (@df _ _ _ _ _ rfl (@aV _ _ _ _ _ _ _ _ _ _ _ _ _ _ _ hLloads GLloads (hr.mono (by decide)) ((¬0)∘((¬2)∘ac)) (by rfl) (by decide) (by rfl) (by rfl))) (@kM _ _ _ _ _ _ _ _ rfl rfl (@bX _ _ _ _ _ _ _ _ (@aw _ _ _ 7 _ nd rfl (Or.inl rfl) (by trivial)) (@bX _ _ _ _ _ _ _ _ (@aw _ _ _ 8 _ nd rfl (Or.inl rfl) (by trivial)) (@iK _ _) (by rfl)) (by rfl)) (dq (dq kd)) (by rfl) (by rfl))
      (@am _ _ _ _ _ (@fJ _ _ _ _ _ _ _ _ _ _ _ (@Bs _ _ _ _ (@uq _ _ _ _ _ _ _ _ (@bD _ _ _ _ _ _ _ _ _ (@vB _ _) (¬8) ab (a9 _)) (@qk _ _ _ _ _ (@mH _ _ _ _ (@aV _ _ _ _ _ _ _ _ _ _ _ _ _ _ _ hLless GLless (hr.mono (by decide)) ((¬6)∘((@aV _ _ _ _ _ _ _ _ _ _ _ _ _ _ _ hLlow GLlow (hr.mono (by decide)) ((@aF _ _ _ _ _ _ _ rfl (¬7) ab (fun _ _=>rfl))∘((@cI _ _ _ _ _ _ _ rfl (@aF _ _ _ _ _ _ _ rfl (¬7) ab (fun _ _=>rfl)) (¬8))∘ac)) (by rfl) (by decide) (by rfl) (by rfl))∘ac)) (by rfl) (by decide) (by rfl) (by rfl)) (by intro _;rfl)))))
      (@am _ _ _ _ _ (@ar _ _ _ _ _ 6 _ _ nd rfl (Or.inr rfl) (@aV _ _ _ _ _ _ _ _ _ _ _ _ _ _ _ hLlow GLlow (hr.mono (by decide)) ((@aF _ _ _ _ _ _ _ rfl (¬7) ab (fun _ _=>rfl))∘((@cI _ _ _ _ _ _ _ rfl (@aF _ _ _ _ _ _ _ rfl (¬7) ab (fun _ _=>rfl)) (¬8))∘ac)) (by rfl) (by decide) (by rfl) (by rfl)) (by rfl) (by trivial)))
      (@ce _ _))) (by intro _;rfl))
      (@am _ _ _ _ _ (@aL _ _ _ _ _ (@bi _ _ _ _ _ _ _ _ _ (@b_tuple _ _ rfl) (by rfl) T.b_tuple ((@gb _ _ _ _ _ _ _ _ _ _ _ _ _ (ah eV) ["_law_web_here","_law_shares_here","_law_own","_law_share","_law_tie","_law_shut","_law_by","_law_load","_law_most"] [(6,"_law_by")] ["_law_share"] rfl rfl rfl (@df _ _ _ _ _ rfl (¬2))
        (fun C s0 H0 fp=>(@aw _ _ _ 1 _ (show List.Nodup (["_law_by","_law_share"]:List Str) by decide+kernel) rfl (Or.inl rfl) (by trivial))) (fun C s0 H0 fp=>(@gK _ _))
        (fun C s0 H0 fp=>(@aV _ _ _ _ _ _ _ _ _ _ _ _ _ _ _ hLlow GLlow (hr.mono (by decide)) ((@cI _ _ _ _ _ _ _ rfl (@aF _ _ _ _ _ _ _ rfl (¬1) ab (fun _ _=>rfl)) (@aF _ _ _ _ _ _ _ rfl (¬0) ab (fun _ _=>rfl)))∘((@cI _ _ _ _ _ _ _ rfl (@aF _ _ _ _ _ _ _ rfl (¬1) ab (fun _ _=>rfl)) (@aF _ _ _ _ _ _ _ rfl (¬0) ab (fun _ _=>rfl)))∘ac)) (by rfl) (by decide) (by rfl) (by rfl))) rfl (by decide+kernel) (by decide+kernel) (by decide+kernel) (by decide+kernel) (by decide+kernel) (by decide+kernel) (by decide+kernel) (by intro _;rfl))∘ac) (by decide) (by decide) (by rfl) (by rfl)))))))))
noncomputable def hJ:FI:=(eH (ap bf (ae 1) (vC (.int 1))))
noncomputable def e6:FS:=(aC (aR 5 (cW 1 aU (aa (ae 0) aj)))
    (eD (cz bu (ae 2) (aa (ap bf (eJ (aa (cW 2 bv (aa (ae 5) (aa (vC (.int 1)) aj))) (aa (cW 2 bv (aa (ae 5) (aa (vC (.int 0)) aj))) (aa (cW 2 bv (aa (ae 5) (aa (vC (.int 2)) aj))) aj)))) (ae 3)) aj))))
noncomputable def mX:FS:=(aC (aR 2 (eJ aj))
    (aC (aR 3 (ap aT (cW 1 aU (aa (ae 0) aj)) (vC (.int 3))))
    (aC (cQ ([4]++([5]++[])) hJ (ag 4) e6)
    (bY (aO (g1 bQ) (aa (ae 2) aj))))))
noncomputable def f_:FM:=jv 2 4 ([2]++([3]++(([4]++([5]++[]))++[]))) mX
theorem lU:aH ["_law_drawn","_law_web_here","_law_found","_law_kind","_law_tie","_law_number"] ["_law_drawn","_law_web_here"] (ah gh):=⟨rfl,rfl,rfl,by decide+kernel,rfl,by decide+kernel,by decide+kernel⟩
theorem rh(h:bj K mg "_law_shares" gh f fd ["_law_drawn","_law_web_here"])(T:jW mg){fLnext:Addr}{eLnext:FuncData}(hLnext:bj K mg "_law_next" gf fLnext eLnext ["_law_drawn"])(GLnext:aJ P w K mg base cw 1 fLnext eLnext ["_law_drawn"] (cC K 1 aU)){fLchance:Addr}{eLchance:FuncData}(hLchance:bj K mg "_law_chance" eU fLchance eLchance ["_law_number","_law_kind"])(GLchance:aJ P w K mg base cw 3 fLchance eLchance ["_law_number","_law_kind"] (cC K 2 bv)):aJ P w K mg base cw 4 f fd ["_law_drawn","_law_web_here"] (cC K 2 f_):=by
  have nd:=lU.nd
  exact h.fn lU rfl rfl (fun cdv A outer s H E hr=>(@af _ _ _ _ _ _ _ _ (@ar _ _ _ _ _ 2 _ _ nd rfl (Or.inl rfl) (@bJ _ _ _ _ _ ac) (by rfl) (by trivial))
      (@af _ _ _ _ _ _ _ _ (@ar _ _ _ _ _ 3 _ _ nd rfl (Or.inl rfl) (@aQ _ _ _ _ _ _ _ (@aV _ _ _ _ _ _ _ _ _ _ _ _ _ _ _ hLnext GLnext (hr.mono (by decide)) ((¬0)∘ac) (by rfl) (by decide) (by rfl) (by rfl)) ab) (by rfl) (by trivial))
      (@af _ _ _ _ _ _ _ _ (@dg _ _ _ _ _ _ _ _ _ _ _ PassesOwn.never rfl (@df _ _ _ _ _ rfl (@aF _ _ _ _ _ _ _ rfl (¬1) ab (fun _ _=>rfl))) (@aw _ _ _ 4 _ nd rfl (Or.inl rfl) (by trivial))
      (@af _ _ _ _ _ _ _ _ (@ar _ _ _ _ _ 5 _ _ nd rfl (Or.inl rfl) (@aV _ _ _ _ _ _ _ _ _ _ _ _ _ _ _ hLnext GLnext (hr.mono (by decide)) ((¬0)∘ac) (by rfl) (by decide) (by rfl) (by rfl)) (by rfl) (by trivial))
      (@am _ _ _ _ _ (@cJ _ _ _ _ _ (@bW _ _ _ _ _ _ _ _ _ rfl (¬2) ((@aF _ _ _ _ _ _ _ rfl (@bJ _ _ _ _ _ ((@aV _ _ _ _ _ _ _ _ _ _ _ _ _ _ _ hLchance GLchance (hr.mono (by decide)) ((¬5)∘(ab∘ac)) (by rfl) (by decide) (by rfl) (by rfl))∘((@aV _ _ _ _ _ _ _ _ _ _ _ _ _ _ _ hLchance GLchance (hr.mono (by decide)) ((¬5)∘(ab∘ac)) (by rfl) (by decide) (by rfl) (by rfl))∘((@aV _ _ _ _ _ _ _ _ _ _ _ _ _ _ _ hLchance GLchance (hr.mono (by decide)) ((¬5)∘(ab∘ac)) (by rfl) (by decide) (by rfl) (by rfl))∘ac)))) (¬3) (fun _ _=>rfl))∘ac) (by rfl) (by rfl) (by rfl) (by rfl) (by rfl)) (by rfl)))) (by intro _;rfl))
      (@am _ _ _ _ _ (@aL _ _ _ _ _ (@bi _ _ _ _ _ _ _ _ _ (@b_tuple _ _ rfl) (by rfl) T.b_tuple ((¬2)∘ac) (by decide) (by decide) (by rfl) (by rfl))))))))
noncomputable def mv:FI:=(eH (ae 2))
noncomputable def gu:FS:=(lh (a_ (cW 2 fZ (aa (ap bf (ae 1) (ae 4)) (aa (ap bf (ae 1) (ae 5)) aj))))
    (aR 4 (ae 5))
    gP)
noncomputable def jK:FT:=(a_ (ap (c9 true) (ae 2) (eJ aj)))
noncomputable def jG:FS:=(aC (aR 4 (ap bf (ae 2) (vC (.int 0))))
    (aC (cQ ([5]++([4]++[])) mv (ag 5) gu)
    (aC (eD (cz iH (ae 2) (aa (ae 4) aj)))
    (eD (cz bu (ae 3) (aa (ae 4) aj))))))
noncomputable def mw:FI:=(bM (aa (aO (g1 iy) (aa (ap bf (ae 0) (vC (.int 1))) aj)) aj))
noncomputable def ik:FT:=(a_ (ap vM (ap bf (ap bf (ae 0) (ae 1)) (vC (.int 0))) (vC (.int 0))))
noncomputable def jL:FE:=(ae 1)
noncomputable def xJ:FS:=(aC (aR 2 (bA [(1,"_law_shares_here")] 1 mw (ag 1) ik jL))
    (aC (aR 3 (eJ aj))
    (aC (h_ (2 ^ 4200) jK jG)
    (bY (aO (g1 bQ) (aa (ae 3) aj))))))
noncomputable def nF:FM:=jv 2 4 ([2]++([3]++(([4]++(([5]++([4]++[]))++([]++[])))++[]))) xJ
theorem uJ:aH ["_law_web_here","_law_shares_here","_law_left","_law_found","_law_best","_law_tie"] ["_law_web_here","_law_shares_here"] (ah lR):=⟨rfl,rfl,rfl,by decide+kernel,rfl,by decide+kernel,by decide+kernel⟩
theorem yZ(h:bj K mg "_law_due" lR f fd ["_law_web_here","_law_shares_here"])(T:jW mg){fLless:Addr}{eLless:FuncData}(hLless:bj K mg "_law_less" jg fLless eLless ["_law_one","_law_other"])(GLless:aJ P w K mg base cw 1 fLless eLless ["_law_one","_law_other"] (cC K 2 fZ)):aJ P w K mg base cw 2 f fd ["_law_web_here","_law_shares_here"] (cC K 2 nF):=by
  have nd:=uJ.nd
  exact h.fn uJ rfl rfl (fun cdv A outer s H E hr=>(@af _ _ _ _ _ _ _ _ (@je _ _ _ (2) _ _ _ _ _ _ _ _ _ _ _ _ _ (ah lR) ["_law_web_here","_law_shares_here","_law_left","_law_found","_law_best","_law_tie"] [(1,"_law_shares_here")] ["_law_tie"] rfl rfl rfl (@bN _ _ _ _ _ _ _ rfl T.b_range ((@bi _ _ _ _ _ _ _ _ _ (@b_len _ _ rfl) (by rfl) T.b_len ((@aF _ _ _ _ _ _ _ rfl (¬0) ab (fun _ _=>rfl))∘ac) (by decide) (by decide) (by rfl) (by rfl))∘ac) (by rfl))
        (fun C s0 H0 fp=>(@aw _ _ _ 1 _ (show List.Nodup (["_law_shares_here","_law_tie"]:List Str) by decide+kernel) rfl (Or.inl rfl) (by trivial))) (fun C s0 H0 fp=>(@iL _ _ _ _ (@bD _ _ _ _ _ _ _ _ _ (@vB _ _) (@aF _ _ _ _ _ _ _ rfl (@aF _ _ _ _ _ _ _ rfl (¬0) (¬1) (fun _ _=>rfl)) ab (fun _ _=>rfl)) ab (a9 _))))
        (fun C s0 H0 fp=>(¬1)) rfl (by decide+kernel) (by decide+kernel) (by decide+kernel) (by decide+kernel) (by decide+kernel) (by decide+kernel) (by decide+kernel) nd rfl rfl (by rfl) (by intro _;rfl))
      (@af _ _ _ _ _ _ _ _ (@ar _ _ _ _ _ 3 _ _ nd rfl (Or.inl rfl) (@bJ _ _ _ _ _ ac) (by rfl) (by trivial))
      (@af _ _ _ _ _ _ _ _ (@kN _ _ _ _ _ _ _ _ _ PassesOwn.never (@bD _ _ _ _ _ _ _ _ _ (@yC _ _ _ rfl hr) (¬2) (@bJ _ _ _ _ _ ac) (a9 _))
      (@af _ _ _ _ _ _ _ _ (@ar _ _ _ _ _ 4 _ _ nd rfl (Or.inl rfl) (@aF _ _ _ _ _ _ _ rfl (¬2) ab (fun _ _=>rfl)) (by rfl) (by trivial))
      (@af _ _ _ _ _ _ _ _ (@dg _ _ _ _ _ _ _ _ _ _ _ PassesOwn.never rfl (@df _ _ _ _ _ rfl (¬2)) (@aw _ _ _ 5 _ nd rfl (Or.inl rfl) (by trivial))
      (@am _ _ _ _ _ (@fJ _ _ _ _ _ _ _ _ _ _ _ (@mH _ _ _ _ (@aV _ _ _ _ _ _ _ _ _ _ _ _ _ _ _ hLless GLless (hr.mono (by decide)) ((@aF _ _ _ _ _ _ _ rfl (¬1) (¬4) (fun _ _=>rfl))∘((@aF _ _ _ _ _ _ _ rfl (¬1) (¬5) (fun _ _=>rfl))∘ac)) (by rfl) (by decide) (by rfl) (by rfl)) (by intro _;rfl))
      (@am _ _ _ _ _ (@ar _ _ _ _ _ 4 _ _ nd rfl (Or.inl rfl) (¬5) (by rfl) (by trivial)))
      (@ce _ _))) (by intro _;rfl))
      (@af _ _ _ _ _ _ _ _ (@cJ _ _ _ _ _ (@ui _ _ _ _ _ _ _ _ _ rfl (¬2) ((¬4)∘ac) (by rfl) (by rfl) (by rfl) (by rfl) (by rfl)) (by rfl))
      (@am _ _ _ _ _ (@cJ _ _ _ _ _ (@bW _ _ _ _ _ _ _ _ _ rfl (¬3) ((¬4)∘ac) (by rfl) (by rfl) (by rfl) (by rfl) (by rfl)) (by rfl)))))))
      (@am _ _ _ _ _ (@aL _ _ _ _ _ (@bi _ _ _ _ _ _ _ _ _ (@b_tuple _ _ rfl) (by rfl) T.b_tuple ((¬3)∘ac) (by decide) (by decide) (by rfl) (by rfl))))))))
noncomputable def Da:FI:=(eH (ae 5))
noncomputable def AJ:FT:=(a_ (ap vk (ap bf (ae 0) (ae 2)) (ap bf (ap bf (ae 1) (ae 2)) (vC (.int 0)))))
noncomputable def B6:FE:=(ae 2)
noncomputable def Cw:FI:=(eH (ae 4))
noncomputable def B7:FE:=(ap bf (eJ (aa (ap aT (cW 1 aU (aa (ae 1) aj)) (ap bf (ae 2) (vC (.int 1)))) (aa (vC (.int 0)) (aa (ap gZ (ap bf (ae 2) (vC (.int 1))) (vC (.int 1))) aj)))) (ae 0))
noncomputable def Cy:FI:=(bM (aa (vC (.int 3)) aj))
noncomputable def AF:FS:=(aC (aR 8 (bA [(7,"_law_way"),(1,"_law_drawn")] 1 Cw (ag 2) b_ B7))
    (aC (aR 9 (aO (g1 bQ) (aa (bA [(8,"_law_rolls"),(4,"_law_shares_here")] 1 Da (ag 2) AJ B6) aj)))
    (lh (pS (a_ (cW 2 i7 (aa (cW 3 d9 (aa (ae 3) (aa (ae 4) (aa (aO (g1 bQ) (aa (ae 8) aj)) aj)))) (aa (ae 9) aj)))))
    (bY (vC (.bool false)))
    gP)))
noncomputable def Dc:FI:=(bM (aa (vC (.int 4)) aj))
noncomputable def AG:FS:=(aC (aR 3 (cW 3 nH (aa (ae 1) (aa (vC (.int 8)) (aa (vC (.int 12)) aj)))))
    (aC (aR 4 (cW 2 f9 (aa (ae 3) (aa (cW 2 f_ (aa (ae 1) (aa (ae 3) aj))) aj))))
    (aC (aR 5 (cW 2 nF (aa (ae 3) (aa (ae 4) aj))))
    (aC (aR 6 (aO (g1 fW) (aa (dH (aa (ae 3) (aa (ae 4) aj))) aj)))
    (aC (lh (pS (a_ (cW 2 i7 (aa (cW 2 dw (aa (ae 3) (aa (ae 4) aj))) (aa (ae 5) aj)))))
    (bY (vC (.bool false)))
    gP)
    (aC (cQ ([7]++([8]++([9]++([]++[])))) Cy (ag 7) AF)
    (lh (a_ (ap (c9 true) (aO (g1 fW) (aa (dH (aa (ae 3) (aa (ae 4) aj))) aj)) (ae 6)))
    (bY (vC (.bool false)))
    gP)))))))
noncomputable def xO:FS:=(aC (aR 1 (cW 1 iD (aa (ae 0) aj)))
    (aC (cQ ([2]++([3]++([4]++([5]++([6]++(([]++[])++(([7]++([8]++([9]++([]++[]))))++([]++[])))))))) Dc (ag 2) AG)
    (bY (vC (.bool true)))))
noncomputable def ko:FM:=jv 1 9 ([1]++(([2]++([3]++([4]++([5]++([6]++(([]++[])++(([7]++([8]++([9]++([]++[]))))++([]++[]))))))))++[])) xO
theorem uP:aH ["_law_script","_law_drawn","_law_k","_law_web_here","_law_shares_here","_law_order","_law_mark","_law_way","_law_rolls","_law_due_here"] ["_law_script"] (ah iS):=⟨rfl,rfl,rfl,by decide+kernel,rfl,by decide+kernel,by decide+kernel⟩
theorem y8(h:bj K mg "law" iS f fd ["_law_script"])(T:jW mg){fLdraws:Addr}{eLdraws:FuncData}(hLdraws:bj K mg "_law_draws" iO fLdraws eLdraws ["_law_script"])(GLdraws:aJ P w K mg base cw 2 fLdraws eLdraws ["_law_script"] (cC K 1 iD)){fLweb:Addr}{eLweb:FuncData}(hLweb:bj K mg "_law_web" nY fLweb eLweb ["_law_drawn","_law_most","_law_ties_here"])(GLweb:aJ P w K mg base cw 5 fLweb eLweb ["_law_drawn","_law_most","_law_ties_here"] (cC K 3 nH)){fLscaled:Addr}{eLscaled:FuncData}(hLscaled:bj K mg "_law_scaled" eV fLscaled eLscaled ["_law_web_here","_law_shares_here"])(GLscaled:aJ P w K mg base cw 6 fLscaled eLscaled ["_law_web_here","_law_shares_here"] (cC K 2 f9)){fLdue:Addr}{eLdue:FuncData}(hLdue:bj K mg "_law_due" lR fLdue eLdue ["_law_web_here","_law_shares_here"])(GLdue:aJ P w K mg base cw 2 fLdue eLdue ["_law_web_here","_law_shares_here"] (cC K 2 nF)){fLshares:Addr}{eLshares:FuncData}(hLshares:bj K mg "_law_shares" gh fLshares eLshares ["_law_drawn","_law_web_here"])(GLshares:aJ P w K mg base cw 4 fLshares eLshares ["_law_drawn","_law_web_here"] (cC K 2 f_)){fLsame:Addr}{eLsame:FuncData}(hLsame:bj K mg "_law_same" kS fLsame eLsame ["_law_found","_law_due_here"])(GLsame:aJ P w K mg base cw 1 fLsame eLsame ["_law_found","_law_due_here"] (cC K 2 i7)){f_by_shares:Addr}{e_by_shares:FuncData}(h_by_shares:bj K mg "by_shares" cx f_by_shares e_by_shares ["web","shares"])(G_by_shares:aJ P w K mg base cw 2 f_by_shares e_by_shares ["web","shares"] (cC K 2 dw)){f_by_rolls:Addr}{e_by_rolls:FuncData}(h_by_rolls:bj K mg "by_rolls" di f_by_rolls e_by_rolls ["web","shares","rolls"])(G_by_rolls:aJ P w K mg base cw 2 f_by_rolls e_by_rolls ["web","shares","rolls"] (cC K 3 d9)){fLnext:Addr}{eLnext:FuncData}(hLnext:bj K mg "_law_next" gf fLnext eLnext ["_law_drawn"])(GLnext:aJ P w K mg base cw 1 fLnext eLnext ["_law_drawn"] (cC K 1 aU)):aJ P w K mg base cw 7 f fd ["_law_script"] (cC K 1 ko):=by
  have nd:=uP.nd
  exact h.fn uP rfl rfl (fun cdv A outer s H E hr=>(@af _ _ _ _ _ _ _ _ (@ar _ _ _ _ _ 1 _ _ nd rfl (Or.inr rfl) (@aV _ _ _ _ _ _ _ _ _ _ _ _ _ _ _ hLdraws GLdraws (hr.mono (by decide)) ((¬0)∘ac) (by rfl) (by decide) (by rfl) (by rfl)) (by rfl) (by trivial))
      (@af _ _ _ _ _ _ _ _ (@dg _ _ _ _ _ _ _ _ _ _ _ PassesOwn.never rfl (@bN _ _ _ _ _ _ _ rfl T.b_range (ab∘ac) (by rfl)) (@aw _ _ _ 2 _ nd rfl (Or.inl rfl) (by trivial))
      (@af _ _ _ _ _ _ _ _ (@ar _ _ _ _ _ 3 _ _ nd rfl (Or.inl rfl) (@aV _ _ _ _ _ _ _ _ _ _ _ _ _ _ _ hLweb GLweb (hr.mono (by decide)) ((¬1)∘(ab∘(ab∘ac))) (by rfl) (by decide) (by rfl) (by rfl)) (by rfl) (by trivial))
      (@af _ _ _ _ _ _ _ _ (@ar _ _ _ _ _ 4 _ _ nd rfl (Or.inr rfl) (@aV _ _ _ _ _ _ _ _ _ _ _ _ _ _ _ hLscaled GLscaled (hr.mono (by decide)) ((¬3)∘((@aV _ _ _ _ _ _ _ _ _ _ _ _ _ _ _ hLshares GLshares (hr.mono (by decide)) ((¬1)∘((¬3)∘ac)) (by rfl) (by decide) (by rfl) (by rfl))∘ac)) (by rfl) (by decide) (by rfl) (by rfl)) (by rfl) (by trivial))
      (@af _ _ _ _ _ _ _ _ (@ar _ _ _ _ _ 5 _ _ nd rfl (Or.inl rfl) (@aV _ _ _ _ _ _ _ _ _ _ _ _ _ _ _ hLdue GLdue (hr.mono (by decide)) ((¬3)∘((¬4)∘ac)) (by rfl) (by decide) (by rfl) (by rfl)) (by rfl) (by trivial))
      (@af _ _ _ _ _ _ _ _ (@ar _ _ _ _ _ 6 _ _ nd rfl (Or.inl rfl) (@bi _ _ _ _ _ _ _ _ _ (@b_repr _ _ _ rfl hr) (by rfl) T.b_repr ((@be _ _ _ _ _ _ ((¬3)∘((¬4)∘ac)))∘ac) (by decide) (by decide) (by rfl) (by rfl)) (by rfl) (by trivial))
      (@af _ _ _ _ _ _ _ _ (@fJ _ _ _ _ _ _ _ _ _ _ _ (@uo _ _ _ _ _ (@mH _ _ _ _ (@aV _ _ _ _ _ _ _ _ _ _ _ _ _ _ _ hLsame GLsame (hr.mono (by decide)) ((@aV _ _ _ _ _ _ _ _ _ _ _ _ _ _ _ h_by_shares G_by_shares (hr.mono (by decide)) ((¬3)∘((¬4)∘ac)) (by rfl) (by decide) (by rfl) (by rfl))∘((¬5)∘ac)) (by rfl) (by decide) (by rfl) (by rfl)) (by intro _;rfl)))
      (@am _ _ _ _ _ (@aL _ _ _ _ _ (@qj _ _ _ _ _)))
      (@ce _ _))
      (@af _ _ _ _ _ _ _ _ (@dg _ _ _ _ _ _ _ _ _ _ _ PassesOwn.never rfl (@bN _ _ _ _ _ _ _ rfl T.b_range (ab∘ac) (by rfl)) (@aw _ _ _ 7 _ nd rfl (Or.inr rfl) (by trivial))
      (@af _ _ _ _ _ _ _ _ (@ar _ _ _ _ _ 8 _ _ nd rfl (Or.inr rfl) (@gb _ _ _ _ _ _ _ _ _ _ _ _ _ (ah iS) ["_law_script","_law_drawn","_law_k","_law_web_here","_law_shares_here","_law_order","_law_mark","_law_way","_law_rolls","_law_due_here"] [(7,"_law_way"),(1,"_law_drawn")] ["_law_share"] rfl rfl rfl (@df _ _ _ _ _ rfl (¬4))
        (fun C s0 H0 fp=>(@aw _ _ _ 2 _ (show List.Nodup (["_law_way","_law_drawn","_law_share"]:List Str) by decide+kernel) rfl (Or.inl rfl) (by trivial))) (fun C s0 H0 fp=>(@gK _ _))
        (fun C s0 H0 fp=>(@aF _ _ _ _ _ _ _ rfl (@bJ _ _ _ _ _ ((@aQ _ _ _ _ _ _ _ (@aV _ _ _ _ _ _ _ _ _ _ _ _ _ _ _ hLnext GLnext (hr.mono (by decide)) ((¬1)∘ac) (by rfl) (by decide) (by rfl) (by rfl)) (@aF _ _ _ _ _ _ _ rfl (¬2) ab (fun _ _=>rfl)))∘(ab∘((@qi _ _ _ _ _ _ _ (@aF _ _ _ _ _ _ _ rfl (¬2) ab (fun _ _=>rfl)) ab)∘ac)))) (¬0) (fun _ _=>rfl))) rfl (by decide+kernel) (by decide+kernel) (by decide+kernel) (by decide+kernel) (by decide+kernel) (by decide+kernel) (by decide+kernel) (by intro _;rfl)) (by rfl) (by trivial))
      (@af _ _ _ _ _ _ _ _ (@ar _ _ _ _ _ 9 _ _ nd rfl (Or.inl rfl) (@bi _ _ _ _ _ _ _ _ _ (@b_tuple _ _ rfl) (by rfl) T.b_tuple ((@gb _ _ _ _ _ _ _ _ _ _ _ _ _ (ah iS) ["_law_script","_law_drawn","_law_k","_law_web_here","_law_shares_here","_law_order","_law_mark","_law_way","_law_rolls","_law_due_here"] [(8,"_law_rolls"),(4,"_law_shares_here")] ["_law_tie"] rfl rfl rfl (@df _ _ _ _ _ rfl (¬5))
        (fun C s0 H0 fp=>(@aw _ _ _ 2 _ (show List.Nodup (["_law_rolls","_law_shares_here","_law_tie"]:List Str) by decide+kernel) rfl (Or.inl rfl) (by trivial))) (fun C s0 H0 fp=>(@iL _ _ _ _ (@bD _ _ _ _ _ _ _ _ _ (@r8 _ _) (@aF _ _ _ _ _ _ _ rfl (¬0) (¬2) (fun _ _=>rfl)) (@aF _ _ _ _ _ _ _ rfl (@aF _ _ _ _ _ _ _ rfl (¬1) (¬2) (fun _ _=>rfl)) ab (fun _ _=>rfl)) (a9 _))))
        (fun C s0 H0 fp=>(¬2)) rfl (by decide+kernel) (by decide+kernel) (by decide+kernel) (by decide+kernel) (by decide+kernel) (by decide+kernel) (by decide+kernel) (by intro _;rfl))∘ac) (by decide) (by decide) (by rfl) (by rfl)) (by rfl) (by trivial))
      (@am _ _ _ _ _ (@fJ _ _ _ _ _ _ _ _ _ _ _ (@uo _ _ _ _ _ (@mH _ _ _ _ (@aV _ _ _ _ _ _ _ _ _ _ _ _ _ _ _ hLsame GLsame (hr.mono (by decide)) ((@aV _ _ _ _ _ _ _ _ _ _ _ _ _ _ _ h_by_rolls G_by_rolls (hr.mono (by decide)) ((¬3)∘((¬4)∘((@bi _ _ _ _ _ _ _ _ _ (@b_tuple _ _ rfl) (by rfl) T.b_tuple ((¬8)∘ac) (by decide) (by decide) (by rfl) (by rfl))∘ac))) (by rfl) (by decide) (by rfl) (by rfl))∘((¬9)∘ac)) (by rfl) (by decide) (by rfl) (by rfl)) (by intro _;rfl)))
      (@am _ _ _ _ _ (@aL _ _ _ _ _ (@qj _ _ _ _ _)))
      (@ce _ _))))) (by intro _;rfl))
      (@am _ _ _ _ _ (@fJ _ _ _ _ _ _ _ _ _ _ _ (@bD _ _ _ _ _ _ _ _ _ (@yC _ _ _ rfl hr) (@bi _ _ _ _ _ _ _ _ _ (@b_repr _ _ _ rfl hr) (by rfl) T.b_repr ((@be _ _ _ _ _ _ ((¬3)∘((¬4)∘ac)))∘ac) (by decide) (by decide) (by rfl) (by rfl)) (¬6) (a9 _))
      (@am _ _ _ _ _ (@aL _ _ _ _ _ (@qj _ _ _ _ _)))
      (@ce _ _))))))))) (by intro _;rfl))
      (@am _ _ _ _ _ (@aL _ _ _ _ _ (@qj _ _ _ _ _))))))
local macro_rules | `(tactic| simp? [$ts,*]) => `(tactic| simp [$ts,*, jv, nI, aC, lh, bY, gP, aR, eD, uH, uI, wO, a_, ap, Ah, ae, vC, eJ, aj, aa, dH, aO, cW, pR, Dj, pS, Di, yn, rH, yp, Aw, qh, nL, cz, bu, A6, i8, iv, o_, fU, cT, vF, rE, cH, aE, ag, bU, cE, ax, aX, yY, em, m_, ka, mq, qc, qa, p_, p9, nj, ni, kb, lF, m9, x9, lG, sD, x_, sI, qb, sE, sG, nv, nu, lH, ny, yc, l9, oR, oS, oT, xR, lC, lB, j', mr, List.replicate, -List.map_nil, -List.map_cons, -List.nil_append, -List.cons_append, -Option.bind_some, -Option.map_some, -getElem?_pos, -List.append_nil, x4, xZ, xV, xU, xX, xY, xW, x5])
theorem rL{n k:Int}(h:0 < k):0≤n % k:=Int.emod_nonneg _ (Int.ne_of_gt h)
theorem se{n k:Int}(h:0 < k):n % k < k:=Int.emod_lt_of_pos _ h
def nx:List Int→Int
  | []=>0
  | d::_=>d
def fL(ds:List Int):Prop:=∀d∈ds,0≤d∧d < 2147483648
theorem yh{ds:List Int}(h:fL ds):0≤nx ds∧nx ds < 2147483648:=by
  cases ds with
  | nil=>exact⟨Int.le_refl 0,by show(0:Int) < 2147483648;decide⟩
  | cons d r=>exact h d (by simp)
theorem BW{ds:List Int}(h:fL ds):fL ds.tail:=fun d hd=>h d (List.mem_of_mem_tail hd)
theorem Ab(ds:List Int):aU [.l (ds.map .int)]=some (.d (.int (nx ds)),[.l (ds.tail.map .int)]):=by
  have hq:∀e:En,e[0]?=some (some (.l (ds.map .int)))→c9 false e (.s 0) (.l [])=some (.d (.bool (ds.map PyData.int).isEmpty)):=fun e he=>ng he (jy ds).1
  cases ds with
  | nil=>simp? [aU,oU,hq,nx]
  | cons d r=>simp? [aU,oU,hq,nx]
theorem gQ{ds:List Int}(hd:fL ds):∃(n:Int) (ds':List Int),aU [.l (ds.map .int)]=some (.d (.int n),[.l (ds'.map .int)])∧0≤n∧n < 2147483648∧fL ds':=⟨nx ds,ds.tail,Ab ds,(yh hd).1,(yh hd).2,BW hd⟩
theorem qD(cell k:Int)(h0:0≤k)(h1:k≤1000):∃r,gH [.d (.int cell),.d (.int k)]=some (.d (.int r),[.d (.int cell),.d (.int k)])∧0≤r∧r < 2147483648:=by
  have a1:hR (cell % 2147483647) 48271=true:=ku (by decide) (by decide)
  have a2:hR 7919 k=true:=tK (by decide) (by decide)
  have a3:hR (7919*k) k=true:=ku (by lia) (by lia)
  have a4:hR ((cell % 2147483647*48271+7919*k*k+104729) % 2147483647) ((cell % 2147483647*48271+7919*k*k+104729) % 2147483647)=true:=ku (by lia) (by lia)
  refine⟨_,by simp? [gH,pX,aI,a8,a1,a2,a3,a4];rfl,?_,?_⟩
  · lia
  · lia
theorem mh{ds:List Int}(h:fL ds){r:Int}(h0:0≤r)(h1:r < 2147483648):fL (ds++[r]):=fun d hd=>by
  rcases List.mem_append.mp hd with hd | hd
  · exact h d hd
  · simp at hd;subst hd;exact⟨h0,h1⟩
abbrev dE(ns ds:List Int)(v2 v3 v4:Option Sv):En:=[some (.d (.list (ns.map .int))),some (.l (ds.map .int)),v2,v3,v4]
inductive DI (ns:List Int) (i:Nat):En→Prop
  | mk {ds v2 v3 v4} (hd:fL ds) (hl:ds.length≤1000*i):DI ns i (dE ns ds v2 v3 v4)
inductive DJ (ns:List Int) (k cell:Int) (n i:Nat):En→Prop
  | mk {ds v4} (hd:fL ds) (hl:ds.length=n+i):DJ ns k cell n i (dE ns ds (some (.d (.int k))) (some (.d (.int cell))) v4)
inductive DW (ns:List Int) (k:Int) (v4:Option Sv) (n:Nat):En→Prop
  | mk {cell ds} (hc:0≤cell) (hd:fL ds) (hl:ds.length≤max n 900):DW ns k v4 n (dE ns ds (some (.d (.int k))) (some (.d (.int cell))) v4)
theorem xq(ns:List Int)(hn:ns.length≤63):∃ds,iD [.d (.list (ns.map .int))]=some (.l (ds.map .int),[.d (.list (ns.map .int))])∧fL ds:=by
  have inner:∀(cell k:Int) (ds:List Int) (v4:Option Sv),0≤k→k≤63→fL ds→ds.length≤63000→∃ds' v4',(∀W,cQ W gC (ag 4) eL (dE ns ds (some (.d (.int k))) (some (.d (.int cell))) v4)=some (.nx (dE ns ds' (some (.d (.int k))) (some (.d (.int cell))) v4')))∧fL ds'∧ds'.length=ds.length+12:=by
    intro cell k ds v4 k0 k1 hd hl
    obtain⟨e',h1,h2⟩:=a' (own:=[]) (g:=ag 4) (f:=eL) (DJ ns k cell ds.length) (aM 0 12) 0 (dE ns ds (some (.d (.int k))) (some (.d (.int cell))) v4) (fun i x e hx hI=>by
      obtain⟨rfl,hi⟩:=cv hx
      obtain⟨hd',hl'⟩:=hI
      rename_i ds' v4'
      obtain⟨r1,c1,_,_⟩:=qD cell (3*(0+(i:Int))+1) (by lia) (by lia)
      obtain⟨r2,c2,c3,c4⟩:=qD r1 (0+(i:Int)+k+2) (by lia) (by lia)
      have a1:hR 3 (0+(i:Int))=true:=tK (by decide) (by decide)
      refine⟨_,dE ns (ds'++[r2]) (some (.d (.int k))) (some (.d (.int cell))) (some (.d (.int (0+(i:Int))))),rfl,?_,bh,.mk (mh hd' c3 c4) (by simp;lia)⟩
      have hlen:ds'.length < 1000000:=by lia
      simp only [Int.zero_add] at a1 c1 c2
      simp? [dE,eL,c1,c2,a8,a1,hlen]) (.mk hd rfl)
    obtain⟨hd',hl'⟩:=h2
    rename_i ds' v4'
    rw [dh] at hl'
    refine⟨ds',v4',fun W=>?_,hd',by lia⟩
    rw [bO (show gC _=some (aM 0 12,[],_) from ck (n:=12) rfl (by decide) (by decide))]
    exact h1
  have wh:∀(cell k:Int) (ds:List Int) (v4:Option Sv),0≤cell→fL ds→ds.length≤63100→∃cell' ds',h_ (2 ^ 4200) dP gq (dE ns ds (some (.d (.int k))) (some (.d (.int cell))) v4)=some (.nx (dE ns ds' (some (.d (.int k))) (some (.d (.int cell'))) v4))∧0≤cell'∧fL ds'∧ds'.length≤max ds.length 900:=by
    intro cell k ds v4 hc hd hl
    have tst:∀(cell:Int) (ds:List Int),dP (dE ns ds (some (.d (.int k))) (some (.d (.int cell))) v4)=some (decide (1000000000000000000≤cell)&&decide ((ds.length:Int) < 900),dE ns ds (some (.d (.int k))) (some (.d (.int cell))) v4):=by
      intro cell ds
      by_cases h:(1000000000000000000:Int)≤cell
      · simp? [dE,dP,iz,iJ,h]
      · simp? [dE,dP,iz,iJ,h]
    obtain⟨e0,e',h1,hI,h3⟩:=ic (ft:=dP) (f:=gq) (DW ns k v4 ds.length)
      (fun e=>1000000 - lK 1 e) (fun e hI=>by
        obtain⟨hc',hd',hl'⟩:=hI
        rename_i cell' ds'
        rw [tst]
        by_cases c1:(1000000000000000000:Int)≤cell'
        · by_cases c2:(ds'.length:Int) < 900
          · refine .inr ⟨_,dE ns (ds'++[cell' % 2147483629]) (some (.d (.int k))) (some (.d (.int (cell' / 2147483629)))) v4,by rw [decide_eq_true c1,decide_eq_true c2];rfl,?_,.mk (by lia) (mh hd' (by lia) (by lia)) (by simp;lia),?_⟩
            · have hlen:ds'.length < 1000000:=by lia
              have b8:Bt 8000 2147483629:=j3 (by decide) (by decide)
              simp? [dE,gq,aI,dR,b8,hlen]
            · simp [lK,dE];lia
          · exact .inl ⟨_,by rw [decide_eq_true c1,decide_eq_false c2];rfl,trivial⟩
        · exact .inl ⟨_,by rw [decide_eq_false c1];rfl,trivial⟩) (2 ^ 4200) _ (.mk hc hd (by lia)) (mD (m:=20) (Nat.lt_of_le_of_lt (Nat.sub_le _ _) (by decide)) (by decide))
    obtain⟨hc',hd',hl'⟩:=hI
    rename_i cell' ds'
    rw [tst] at h3
    have h4:=(Prod.mk.inj (Option.some.inj h3)).2
    subst h4
    exact⟨cell',ds',h1,hc',hd',hl'⟩
  have turn:∀(i:Nat) (ds:List Int) (v3 v4:Option Sv) (hi:i < ns.length),fL ds→ds.length≤1000*i→∃ds2 v3' v4',dO (dE ns ds (some (.d (.int (i:Int)))) v3 v4)=some (.nx (dE ns ds2 (some (.d (.int (i:Int)))) v3' v4'))∧fL ds2∧ds2.length≤1000*(i+1):=by
    intro i ds v3 v4 hi hd hl
    have hcell:atI (ns.map PyData.int) (i:Int)=some (.int ns[i]):=by
      rw [eZ (by lia) (by rw [List.length_map];lia)]
      simp [hi]
    have c0:(0:Int)≤(ns[i].natAbs:Int):=by lia
    have st:aR 3 (aO (g1 qT) (aa (ap bf (ae 0) (ae 2)) aj)) (dE ns ds (some (.d (.int (i:Int)))) v3 v4)=some (.nx (dE ns ds (some (.d (.int (i:Int)))) (some (.d (.int (ns[i].natAbs:Int)))) v4)):=by
      simp? [dE,hcell]
    generalize (ns[i].natAbs:Int)=cell at c0 st
    have mid:∃ds1 v4',lh (a_ (ap vk (ae 3) (ap pq (vC (.int 10)) (vC (.int 18))))) (cQ ([4]++[]) gC (ag 4) eL) gP (dE ns ds (some (.d (.int (i:Int)))) (some (.d (.int cell))) v4)=some (.nx (dE ns ds1 (some (.d (.int (i:Int)))) (some (.d (.int cell))) v4'))∧fL ds1∧ds1.length≤ds.length+12:=by
      by_cases cb:cell < 1000000000000000000
      · obtain⟨ds1,v4',f1,f2,f3⟩:=inner cell (i:Int) ds v4 (by lia) (by lia) hd (by lia)
        refine⟨ds1,v4',?_,f2,by lia⟩
        rw [BD (e1:=dE ns ds (some (.d (.int (i:Int)))) (some (.d (.int cell))) v4) (by simp? [dE,iz,iJ,cb])]
        exact f1 _
      · refine⟨ds,v4,?_,hd,by lia⟩
        rw [BC (e1:=dE ns ds (some (.d (.int (i:Int)))) (some (.d (.int cell))) v4) (by simp? [dE,iz,iJ,cb])]
        rfl
    obtain⟨ds1,v4',m1,m2,m3⟩:=mid
    obtain⟨cell2,ds2,w1,w2,w3,w4⟩:=wh cell (i:Int) ds1 v4' c0 m2 (by lia)
    by_cases c2:(2147483629:Int)≤cell2
    · refine⟨ds2++[cell2 % 2147483629],some (.d (.int cell2)),v4',?_,mh w3 (by lia) (by lia),by simp;lia⟩
      have hlen:ds2.length < 1000000:=by lia
      unfold dO
      rw [bF st,bF m1,bF w1]
      simp? [dE,c2,aI,hlen]
    · refine⟨ds2,some (.d (.int cell2)),v4',?_,w3,by lia⟩
      unfold dO
      rw [bF st,bF m1,bF w1]
      simp? [dE,c2]
  obtain⟨e',h1,hI⟩:=a' (own:=[]) (g:=ag 2) (f:=dO) (DI ns) (aM 0 (min (ns.length:Int) 63).toNat) 0 (dE ns [] none none none) (fun i x e hx hI=>by
    obtain⟨rfl,hi⟩:=cv hx
    obtain⟨hd,hl⟩:=hI
    rename_i ds v2 v3 v4
    rw [Nat.zero_add] at hl ⊢
    obtain⟨ds2,v3',v4',t1,t2,t3⟩:=turn i ds v3 v4 (by lia) hd hl
    exact⟨dE ns ds (some (.d (.int (i:Int)))) v3 v4,_,by simp [ag,dE],t1,bh,.mk t2 t3⟩) (.mk (fun d hd=>by cases hd) (by simp))
  obtain⟨hd,hl⟩:=hI
  rename_i ds v2 v3 v4
  refine⟨ds,?_,hd⟩
  have hf:∀W,cQ W i0 (ag 2) dO (dE ns [] none none none)=some (.nx (dE ns ds v2 v3 v4)):=fun W=>by
    rw [bO (show i0 _=some (aM 0 (min (ns.length:Int) 63).toNat,[],dE ns [] none none none) from ck (n:=min (ns.length:Int) 63) (by simp? [dE]) (by lia) (by lia))]
    exact h1
  unfold dE at hf
  simp only [List.map_nil] at hf
  simp? [iD,pW,hf]
theorem BR(a b:Int)(hb:Bt 4000 b):nG [.d (.int a),.d (.int b)]=some (.d (.int (Int.gcd a b)),[.d (.int a),.d (.int b)]):=by
  have tst:∀x y:Int,io [some (.d (.int x)),some (.d (.int y))]=some (!(y==0),[some (.d (.int x)),some (.d (.int y))]):=fun x y=>by simp? [io]
  obtain⟨e0,e',h1,⟨x,y,he,hg,hy⟩,h3⟩:=ic (ft:=io) (f:=jH) (fun e=>∃x y,e=[some (.d (.int x)),some (.d (.int y))]∧Int.gcd x y=Int.gcd a b∧Bt 4000 y) (tL 1) (fun e ⟨x,y,he,hg,hy⟩=>by
    subst he
    rw [tst]
    by_cases c:y=0
    · subst c;exact .inl ⟨_,rfl,trivial⟩
    · refine .inr ⟨_,[some (.d (.int y)),some (.d (.int (x.fmod y)))],by rw [beq_false_of_ne c];rfl,by simp? [jH,yK c],⟨y,x.fmod y,rfl,by rw [sU,hg],?_⟩,?_⟩
      · have:=jt x c
        exact Bt.of_le hy (by lia)
      · have:=jt x c
        simpa [tL] using this) (2 ^ 4200) _ ⟨a,b,rfl,rfl,hb⟩ (mD (m:=4000) (by simpa [tL,Bt] using hb) (by decide))
  subst he
  rw [tst] at h3
  have h4:=Prod.mk.inj (Option.some.inj h3)
  have hy0:y=0:=by simpa using h4.1
  subst hy0
  have h5:=h4.2
  subst h5
  have hs:h_ (2 ^ 4200) io jH [some (.d (.int a)),some (.d (.int b))]=some (.nx [some (.d (.int x)),some (.d (.int 0))]):=h1
  have hg':(x.natAbs:Int)=(Int.gcd a b:Int):=by rw [←hg];simp
  simp only [nG,xK,jv,nI,aC,lh,bY,gP,aR,eD,uH,uI,wO,a_,ap,Ah,ae,vC,eJ,aj,aa,dH,aO,cW,pR,Dj,pS,Di,yn,rH,yp,Aw,qh,nL,cz,bu,A6,i8,iv,o_,fU,cT,vF,rE,cH,aE,ag,bU,cE,ax,aX,yY,em,m_,ka,mq,qc,qa,p_,p9,nj,ni,kb,lF,m9,x9,lG,sD,x_,sI,qb,sE,sG,nv,nu,lH,ny,yc,l9,oR,oS,oT,xR,lC,lB,j',mr,List.replicate, -List.map_nil, -List.map_cons, -List.nil_append, -List.cons_append, -Option.bind_some, -Option.map_some, -getElem?_pos, -List.append_nil,x4,xZ,xV,xU,xX,xY,xW,x5]
  simp? [hs,hg']
theorem lZ(t b:Int)(hb:0 < b)(h:Bt 4000 b):eC [.d (.int t),.d (.int b)]=some (.d (.tuple [.int (lowM t b).1,.int (lowM t b).2]),[.d (.int t),.d (.int b)]):=by
  have g0:=qe (t:=t) (b:=b) (by lia)
  have g1:(Int.gcd t b:Int)≠0:=by lia
  have g8:Bt 8000 (Int.gcd t b:Int):=(yL (t:=t) (by lia) h).mono (by decide)
  have e:lowM t b=(t.fdiv (Int.gcd t b:Int),b.fdiv (Int.gcd t b:Int)):=by unfold lowM;rw [if_neg (by lia)]
  rw [e]
  simp? [eC,xM,BR t b h,vL g1 g8]
theorem xP{i:Int}{n:Nat}(h1: -2147483648 < i)(h2:i < 2147483648)(hn:31≤n):Bt n i:=Bt.mono (m:=31) (by unfold Bt;lia) hn
def qQ(t b:Int):Prop:=0≤t∧t≤b∧1≤b∧b≤100∧Int.gcd t b=1
theorem iW(n k:Int)(hn:0≤n):∃t b,bv [.d (.int n),.d (.int k)]=some (.d (.tuple [.int t,.int b]),[.d (.int n),.d (.int k)])∧qQ t b:=by
  have b9:Bt 8000 9:=j3 (by decide) (by decide)
  have b100:Bt 8000 100:=j3 (by decide) (by decide)
  have low:∀t b:Int,0 < b→0≤t→t≤b→b≤100→qQ (lowM t b).1 (lowM t b).2:=fun t b hb h0 h1 h2=>by
    obtain⟨r1,r2,r3,r4⟩:=pF hb h0 h1 h2
    exact⟨r1,r2,r3,r4,kj (by lia)⟩
  by_cases c0:k=0
  · subst c0
    obtain⟨x,hx,ha⟩:=gU (xs:=[PyData.tuple [.int 1,.int 2],.tuple [.int 1,.int 3],.tuple [.int 2,.int 3],.tuple [.int 1,.int 1],.tuple [.int 0,.int 1],.tuple [.int 3,.int 4]]) (i:=n % 6) (by lia) (by simp;lia)
    obtain⟨t,b,rfl,hc⟩:∃t b,x=.tuple [.int t,.int b]∧qQ t b:=by
      simp only [List.mem_cons,List.not_mem_nil,or_false] at hx
      rcases hx with rfl | rfl | rfl | rfl | rfl | rfl<;>exact⟨_,_,rfl,by unfold qQ;decide⟩
    exact⟨t,b,by simp? [bv,fR,aI,ha],hc⟩
  · by_cases c1:k=1
    · subst c1
      have hm:(n / 9) % (2+n % 9 - 1) < 2+n % 9 - 1:=Int.emod_lt_of_pos _ (by lia)
      have hm0:0≤(n / 9) % (2+n % 9 - 1):=Int.emod_nonneg _ (by lia)
      refine⟨_,_,?_,low (1+(n / 9) % (2+n % 9 - 1)) (2+n % 9) (by lia) (by lia) (by lia) (by lia)⟩
      have hpos:∀e:En,aT e (.d (.int (n / 9))) (.d (.int (2+n % 9 - 1)))=_:=fun e=>aI (by lia)
      have hl:=lZ (1+(n / 9) % (2+n % 9 - 1)) (2+n % 9) (by lia) (xP (by lia) (by lia) (by decide))
      simp? [bv,fR,aI,dR,b9,hpos,hl]
    · by_cases c2:k=2
      · subst c2
        have hm:(n / 100) % (1+n % 100+1) < 1+n % 100+1:=Int.emod_lt_of_pos _ (by lia)
        have hm0:0≤(n / 100) % (1+n % 100+1):=Int.emod_nonneg _ (by lia)
        refine⟨_,_,?_,low ((n / 100) % (1+n % 100+1)) (1+n % 100) (by lia) (by lia) (by lia) (by lia)⟩
        have hpos:∀e:En,aT e (.d (.int (n / 100))) (.d (.int (1+n % 100+1)))=_:=fun e=>aI (by lia)
        have hl:=lZ ((n / 100) % (1+n % 100+1)) (1+n % 100) (by lia) (xP (by lia) (by lia) (by decide))
        simp? [bv,fR,aI,dR,b100,hpos,hl]
      · refine⟨1,1,?_,by unfold qQ;decide⟩
        simp? [bv,fR,c0,c1,c2]
theorem xt(n k:Int):∃r,iG [.d (.int n),.d (.int k)]=some (.d (.int r),[.d (.int n),.d (.int k)])∧0≤r∧r≤1000:=by
  obtain⟨x,hx,ha⟩:=gU (xs:=[PyData.int (n % 7),.int (5+n % 2),.int (n % 1001),.int (1000 - n % 3)]) (i:=k % 4) (by lia) (by simp;lia)
  obtain⟨r,rfl,hr⟩:∃r,x=.int r∧0≤r∧r≤1000:=by
    simp only [List.mem_cons,List.not_mem_nil,or_false] at hx
    rcases hx with rfl | rfl | rfl | rfl<;>exact⟨_,rfl,by lia,by lia⟩
  exact⟨r,by simp? [iG,p4,aI,ha],hr⟩
abbrev tE(ds:List Int)(things many shape odds ws:Int)(ts:List jm)(v7 v8 v9 v10 v11 v12:Option Sv):En:=[some (.l (ds.map .int)),some (.d (.int things)),some (.d (.int many)),some (.d (.int shape)),some (.d (.int odds)),some (.d (.int ws)),some (.l (ts.map bS)),v7,v8,v9,v10,v11,v12]
inductive TR (things many shape odds ws:Int) (ts:List jm) (k:Option Sv):En→Prop
  | mk {t ds w8 w9 w10 w11 w12} (hd:fL ds) (ht:t.Ok things):TR things many shape odds ws ts k (tE ds things many shape odds ws (ts++[t]) k w8 w9 w10 w11 w12)
inductive TI (things many a b c:Int) (i:Nat):En→Prop
  | mk {ts ds w7 w8 w9 w10 w11 w12} (hd:fL ds) (hl:ts.length=i) (ht:∀t∈ts,t.Ok things):TI things many a b c i (tE ds things many a b c ts w7 w8 w9 w10 w11 w12)
theorem BU(ds:List Int)(things many shape odds ws:Int)(ts:List jm)(k:Int)(v8 v9 v10 v11 v12:Option Sv)(hd:fL ds)(h2:2≤things)(h12:things≤100)(s0:0≤shape)(s1:shape < 6)(k0:0≤k)(hl:ts.length≤1000):
    ∃e',eN (tE ds things many shape odds ws ts (some (.d (.int k))) v8 v9 v10 v11 v12)=some (.nx e')∧TR things many shape odds ws ts (some (.d (.int k))) e':=by
  obtain⟨n,d1,tn, -, -,hd1⟩:=gQ hd
  obtain⟨m,d2,tm,m0, -,hd2⟩:=gQ hd1
  obtain⟨x,hx,ha⟩:=gU (xs:=[PyData.int (n % things),.int 0,.int (k % things),.int (n % things),.int (n % 2),.int (n % things)]) (i:=shape) s0 (by simp;lia)
  have tp:0 < things:=Int.lt_of_lt_of_le (by decide) h2
  have tq:0 < things - 1:=Int.sub_pos_of_lt (Int.lt_of_lt_of_le (by decide) h2)
  have nt:0≤n % things∧n % things < things:=⟨rL tp,se tp⟩
  have kt:0≤k % things∧k % things < things:=⟨rL tp,se tp⟩
  obtain⟨one,rfl,o0,o1⟩:∃r,x=.int r∧0≤r∧r < things:=by
    simp only [List.mem_cons,List.not_mem_nil,or_false] at hx
    rcases hx with rfl | rfl | rfl | rfl | rfl | rfl<;>exact⟨_,rfl,by lia,by lia⟩
  have r0:0≤(n / 12) % (things - 1):=rL tq
  have r1:(n / 12) % (things - 1) < things - 1:=se tq
  have q0:0≤(one+1+(n / 12) % (things - 1)) % things:=rL tp
  have q1:(one+1+(n / 12) % (things - 1)) % things < things:=se tp
  have qn:(one+1+(n / 12) % (things - 1)) % things≠one:=fun z=>by
    by_cases c:one+1+(n / 12) % (things - 1) < things
    · rw [Int.emod_eq_of_lt (by lia) c] at z;lia
    · have e:(one+1+(n / 12) % (things - 1)) % things=(one+1+(n / 12) % (things - 1) - things) % things:=by rw [Int.sub_emod_right]
      rw [e,Int.emod_eq_of_lt (by lia) (by lia)] at z;lia
  obtain⟨t,b,c1,c2,c3,c4,c5,c6⟩:=iW m odds m0
  obtain⟨w,w1,w2,w3⟩:=xt (m / 10007) ws
  have b12:Bt 8000 12:=j3 (by decide) (by decide)
  have b107:Bt 8000 10007:=j3 (by decide) (by decide)
  have g1:∀(e:En) (i:Int),aT e (.d (.int i)) (.d (.int things))=some (.d (.int (i % things))):=fun e i=>aI tp
  have g2:∀(e:En) (i:Int),aT e (.d (.int i)) (.d (.int (things - 1)))=some (.d (.int (i % (things - 1)))):=fun e i=>aI tq
  have hlen:ts.length < 1000000:=by lia
  by_cases c:shape=4
  · subst c
    refine⟨tE d2 things many 4 odds ws (ts++[⟨0,1,t,b,w⟩]) (some (.d (.int k))) (some (.d (.int n))) (some (.d (.int 0))) (some (.d (.int 1))) (some (.d (.int m))) (some (.d (.tuple [.int 0,.int 1]))),?_,.mk hd2 ⟨by show(0:Int)≤0;decide,by show(0:Int) < 1;decide,by show(1:Int) < things;lia,c2,c3,c4,c5,w2,w3,c6⟩⟩
    simp? [tE,eN,tn,tm,aI,g1,g2,dR,b12,b107,ha,c1,w1,sy,bS,hlen]
    decide
  · refine⟨tE d2 things many shape odds ws (ts++[⟨min one ((one+1+(n / 12) % (things - 1)) % things),max one ((one+1+(n / 12) % (things - 1)) % things),t,b,w⟩]) (some (.d (.int k))) (some (.d (.int n))) (some (.d (.int one))) (some (.d (.int ((one+1+(n / 12) % (things - 1)) % things)))) (some (.d (.int m))) (some (.d (.tuple [.int (min one ((one+1+(n / 12) % (things - 1)) % things)),.int (max one ((one+1+(n / 12) % (things - 1)) % things))]))),?_,.mk hd2 ⟨by show 0≤min _ _;lia,by show min _ _ < max _ _;lia,by show max _ _ < _;lia,c2,c3,c4,c5,w2,w3,c6⟩⟩
    simp? [tE,eN,tn,tm,aI,g1,g2,dR,b12,b107,ha,c1,w1,sy,bS,hlen,c]
theorem Ac(ds:List Int)(things many:Int)(hd:fL ds)(h2:2≤things)(h12:things≤100)(m0:0≤many)(m1:many≤1000):∃(ts:List jm) (ds':List Int),kn [.l (ds.map .int),.d (.int things),.d (.int many)]=some (.d (.tuple (ts.map bS)),[.l (ds'.map .int),.d (.int things),.d (.int many)])∧fL ds'∧(ts.length:Int)=many∧∀t∈ts,t.Ok things:=by
  obtain⟨n0,d1,t0, -, -,hd1⟩:=gQ hd
  obtain⟨n1,d2,t1, -, -,hd2⟩:=gQ hd1
  obtain⟨n2,d3,t2, -, -,hd3⟩:=gQ hd2
  obtain⟨e',h1,hI⟩:=a' (own:=[]) (g:=ag 7) (f:=eN) (TI things many (n0 % 6) (n1 % 4) (n2 % 4)) (aM 0 many.toNat) 0 (tE d3 things many (n0 % 6) (n1 % 4) (n2 % 4) [] none none none none none none) (fun i x e hx hI=>by
    obtain⟨rfl,hi⟩:=cv hx
    obtain⟨hd',hl,ht⟩:=hI
    rename_i ts ds' w7 w8 w9 w10 w11 w12
    obtain⟨e9,s1,⟨s2,s3⟩⟩:=BU ds' things many (n0 % 6) (n1 % 4) (n2 % 4) ts (0+(i:Int)) w8 w9 w10 w11 w12 hd' h2 h12 (rL (by decide)) (se (by decide)) (by lia) (by lia)
    exact⟨_,_,rfl,s1,bh,.mk s2 (by simp;lia) fun z hz=>by
      rcases List.mem_append.mp hz with hz | hz
      · exact ht z hz
      · simp at hz;subst hz;exact s3⟩) (.mk hd3 rfl fun t ht=>by cases ht)
  obtain⟨hd',hl,ht⟩:=hI
  rename_i ts ds' w7 w8 w9 w10 w11 w12
  refine⟨ts,ds',?_,hd',by rw [hl,dh];lia,ht⟩
  have hf:∀W,cQ W ke (ag 7) eN (tE d3 things many (n0 % 6) (n1 % 4) (n2 % 4) [] none none none none none none)=some (.nx (tE ds' things many (n0 % 6) (n1 % 4) (n2 % 4) ts w7 w8 w9 w10 w11 w12)):=fun W=>by
    rw [bO (show ke _=some (aM 0 many.toNat,[],tE d3 things many (n0 % 6) (n1 % 4) (n2 % 4) [] none none none none none none) from ck (n:=many) (by simp? [tE]) (by lia) (by lia))]
    exact h1
  unfold tE at hf
  simp only [List.map_nil] at hf
  simp? [kn,rX,t0,t1,t2,aI,hf]
abbrev wE(ds:List Int)(most tn things many:Int)(ts:List jm)(way:Int)(ps:List Int)(v8 v9:Option Sv):En:=[some (.l (ds.map .int)),some (.d (.int most)),some (.d (.int tn)),some (.d (.int things)),some (.d (.int many)),some (.d (.tuple (ts.map bS))),some (.d (.int way)),some (.l (ps.map .int)),v8,v9]
inductive WI (most tn things many:Int) (ts:List jm) (way:Int) (i:Nat):En→Prop
  | mk {ps ds w8} (hd:fL ds) (hpl:ps.length=i) (hps:∀p∈ps,0≤p∧p≤20):WI most tn things many ts way i (wE ds most tn things many ts way ps w8 none)
theorem BV(ds:List Int)(most tn:Int)(hd:fL ds)(m0:0≤most)(m1:most≤12)(k0:0≤tn)(k1:tn≤16):∃(W:aW) (ds':List Int),nH [.l (ds.map .int),.d (.int most),.d (.int tn)]=some (.d (au W),[.l (ds'.map .int),.d (.int most),.d (.int tn)])∧fL ds'∧W.Ok∧W.things≤most∧(W.ties.length:Int)≤tn:=by
  obtain⟨n0,d1,t0, -, -,hd1⟩:=gQ hd
  obtain⟨n1,d2,t1, -, -,hd2⟩:=gQ hd1
  have mp:0 < most+1:=Int.lt_add_one_of_le m0
  have kp:0 < tn+1:=Int.lt_add_one_of_le k0
  have g0:∀(e:En),aT e (.d (.int n0)) (.d (.int (most+1)))=some (.d (.int (n0 % (most+1)))):=fun e=>aI mp
  have g1':∀(e:En),aT e (.d (.int n1)) (.d (.int (tn+1)))=some (.d (.int (n1 % (tn+1)))):=fun e=>aI kp
  have th0:0≤n0 % (most+1):=rL mp
  have th1:n0 % (most+1) < most+1:=se mp
  have ti0:0≤n1 % (tn+1):=rL kp
  have ti1:n1 % (tn+1) < tn+1:=se kp
  clear mp kp
  generalize n0 % (most+1)=things at th0 th1 g0
  generalize n1 % (tn+1)=tm at ti0 ti1 g1'
  obtain⟨many,hmany,mm,m00,m01⟩:∃many:Int,many=tm*(if decide (1 < things)=true then 1 else 0)∧(1 < things∨many=0)∧0≤many∧many≤tn:=by
    by_cases c:1 < things
    · exact⟨tm,by simp [c],.inl c,ti0,by lia⟩
    · exact⟨0,by simp [c],.inr rfl,by lia,by lia⟩
  have gm:∀e:En,bG e (.d (.int tm)) (.d (.int (if decide (1 < things)=true then 1 else 0)))=some (.d (.int many)):=fun e=>by
    rw [a8 (ku (by split<;>decide) (by split<;>decide)),hmany]
  have gi:∀e:En,g1 nh e [.d (.bool (decide (1 < things)))]=some (.d (.int (if decide (1 < things)=true then 1 else 0))):=fun e=>rfl
  generalize (if decide (1 < things)=true then 1 else 0:Int)=one at gm gi
  obtain⟨ts,d3,t3,hd3,hlen,hts⟩:=Ac d2 (max 2 things) many hd2 (by lia) (by lia) m00 (by lia)
  obtain⟨n4,d4,t4, -, -,hd4⟩:=gQ hd3
  obtain⟨e',h1,hI⟩:=a' (own:=[]) (g:=ag 8) (f:=jI) (WI most tn things many ts (n4 % 3)) (aM 0 things.toNat) 0 (wE d4 most tn things many ts (n4 % 3) [] none none) (fun i x e hx hI=>by
    obtain⟨rfl,hi⟩:=cv hx
    obtain⟨hd5,hpl,hps⟩:=hI
    rename_i ps d5 w8
    obtain⟨p1,d6,t6, -, -,hd6⟩:=gQ hd5
    obtain⟨p2,d7,t7, -, -,hd7⟩:=gQ hd6
    obtain⟨z,hz,ha⟩:=gU (xs:=[PyData.int 20,.int (1+p1 % 3),.int (p2 % 21)]) (i:=n4 % 3) (rL (by decide)) (se (k:=3) (by decide))
    obtain⟨p,rfl,hp⟩:∃r,z=.int r∧0≤r∧r≤20:=by
      simp only [List.mem_cons,List.not_mem_nil,or_false] at hz
      rcases hz with rfl | rfl | rfl<;>exact⟨_,rfl,by lia,by lia⟩
    refine⟨wE d5 most tn things many ts (n4 % 3) ps (some (.d (.int (0+(i:Int))))) none,wE d7 most tn things many ts (n4 % 3) (ps++[p]) (some (.d (.int (0+(i:Int))))) none,rfl,?_,bh,.mk hd7 (by simp;lia) fun q hq=>by
      rcases List.mem_append.mp hq with hq | hq
      · exact hps q hq
      · simp at hq;subst hq;exact hp⟩
    have hlen:ps.length < 1000000:=by lia
    simp? [wE,jI,t6,t7,aI,ha,hlen]) (.mk hd4 rfl fun p hp=>by cases hp)
  obtain⟨hd5,hpl,hps⟩:=hI
  rename_i ps d5 w8
  have hf:∀W,cQ W mx (ag 8) jI (wE d4 most tn things many ts (n4 % 3) [] none none)=some (.nx (wE d5 most tn things many ts (n4 % 3) ps w8 none)):=fun W=>by
    rw [bO (show mx _=some (aM 0 things.toNat,[],wE d4 most tn things many ts (n4 % 3) [] none none) from ck (n:=things) (by simp? [wE]) (by lia) (by lia))]
    exact h1
  obtain⟨p1,d6,t6, -, -,hd6⟩:=gQ hd5
  obtain⟨p2,d7,t7, -, -,hd7⟩:=gQ hd6
  obtain⟨p3,d8,t8, -, -,hd8⟩:=gQ hd7
  have xp:0 < max 1 many:=Int.lt_of_lt_of_le Int.zero_lt_one (Int.le_max_left _ _)
  have gx:∀(e:En),aT e (.d (.int p1)) (.d (.int (max 1 many)))=some (.d (.int (p1 % max 1 many))):=fun e=>aI xp
  have x0:0≤p1 % max 1 many:=rL xp
  have x1:p1 % max 1 many < max 1 many:=se xp
  obtain⟨z,hz,ha⟩:=gU (xs:=[PyData.int 40,.int (1+p1 % max 1 many),.int (p2 % 41)]) (i:=p3 % 3) (rL (by decide)) (se (k:=3) (by decide))
  obtain⟨asks,rfl,hasks⟩:∃r,z=.int r∧0≤r∧r≤40:=by
    simp only [List.mem_cons,List.not_mem_nil,or_false] at hz
    rcases hz with rfl | rfl | rfl<;>exact⟨_,rfl,by lia,by lia⟩
  rw [dh] at hpl
  refine⟨⟨things,ts,ps,asks⟩,d8,?_,hd8,⟨th0,by show things≤12;lia,fun t ht=>?_,by show ts.length≤16;lia,by show(ps.length:Int)=things;lia,hps,hasks.1,hasks.2⟩,by show things≤most;lia,by show(ts.length:Int)≤tn;lia⟩
  · unfold wE at hf
    simp only [List.map_nil] at hf
    simp? [nH,xN,t0,t1,g0,g1',gm,gi,t3,t4,aI,hf,t6,t7,t8,gx,ha,au]
  · rcases mm with c | c
    · have:=hts t ht
      rw [show max 2 things=things by lia] at this
      exact this
    · have:ts=[]:=List.length_eq_zero_iff.mp (by lia)
      subst this;cases ht
theorem xn{a b:Fr}{n:Nat}(a2:0 < a.2)(b2:0 < b.2)(ha1:Bt n a.1)(ha:Bt n a.2)(hb1:Bt n b.1)(hb:Bt n b.2)(hn:n≤1900):iF [.d (dF a),.d (dF b)]=some (.d (dF (tm a b)),[.d (dF a),.d (dF b)]):=by
  have g1:∀e:En,bG e (.d (.int a.1)) (.d (.int b.1))=some (.d (.int (a.1*b.1))):=fun e=>a8 (d_ (ha1.mono (by lia)) (hb1.mono (by lia)))
  have g2:∀e:En,bG e (.d (.int a.2)) (.d (.int b.2))=some (.d (.int (a.2*b.2))):=fun e=>a8 (d_ (ha.mono (by lia)) (hb.mono (by lia)))
  have tl:=lZ (a.1*b.1) (a.2*b.2) (Int.mul_pos a2 b2) ((ha.mul hb).mono (by lia))
  unfold tm
  unfold dF at*
  simp? [iF,pZ,g1,g2,tl]
theorem Dw{W:aW}(e:En):bf e (.d (au W)) (.d (.int 0))=some (.d (.int W.things)):=by rw [iu,lG,l9];rfl
theorem AR{W:aW}(e:En):bf e (.d (au W)) (.d (.int 1))=some (.d (.tuple (W.ties.map bS))):=by rw [iu,lG,oR];rfl
theorem C_{W:aW}(e:En):bf e (.d (au W)) (.d (.int 2))=some (.d (.tuple (W.pat.map .int))):=by rw [iu,lG,oS];rfl
theorem C'{W:aW}(e:En):bf e (.d (au W)) (.d (.int 3))=some (.d (.int W.asks)):=by rw [iu,lG,oT];rfl
theorem iY{α:Type}(l:List α):l.filter (fun _=>true)=l:=List.filter_eq_self.mpr fun _ _=>rfl
def wi(p:Fr × Int):Bool:=decide (p.1.1≤p.2*p.1.2)
def tX(p:Fr × jm):PyData:=.tuple [dF p.1,bS p.2]
theorem oF:∀(ws:List Fr) (ts:List jm),iX (ws.map dF) (ts.map bS)=(ws.zip ts).map tX
  | [],_=>by cases ‹List jm›<;>rfl
  | _::_,[]=>rfl
  | w::ws,t::ts=>by
    show PyData.tuple [dF w,bS t]::iX (ws.map dF) (ts.map bS)=_
    rw [oF ws ts]
    rfl
def Dh:PyData→Fr
  | .tuple [.int a,.int b]=>(a,b)
  | _=>(0,1)
def xw:PyData→En
  | .tuple [a,b]=>[some (.d a),some (.d b)]
  | _=>[]
theorem ym{cs:En}{i j:Nat}(hi:i=cs.length)(hj:j=cs.length+1){x a b:PyData}(hx:x=.tuple [a,b])(t:En)(ht:t.length=2):cH (aE (ag i) (aE (ag j) bU)) x (cs++t)=some (cs++xw x):=by
  subst hx hi hj
  rcases t with _ | ⟨a1,_ | ⟨a2,_ | ⟨a3,r⟩⟩⟩
  · simp at ht
  · simp at ht
  · simp [cH,aE,ag,bU,xw]
  · simp at ht
theorem uZ{a b:Fr}(a2:0 < a.2)(b2:0 < b.2)(ha1:Bt 3600 a.1)(ha:Bt 3600 a.2)(hb1:Bt 300 b.1)(hb:Bt 300 b.2):km [.d (dF a),.d (dF b)]=some (.d (dF (pl a b)),[.d (dF a),.d (dF b)]):=by
  have g1:∀e:En,bG e (.d (.int a.1)) (.d (.int b.2))=some (.d (.int (a.1*b.2))):=fun e=>a8 (d_ (ha1.mono (by lia)) (hb.mono (by lia)))
  have g3:∀e:En,bG e (.d (.int b.1)) (.d (.int a.2))=some (.d (.int (b.1*a.2))):=fun e=>a8 (d_ (hb1.mono (by lia)) (ha.mono (by lia)))
  have g2:∀e:En,bG e (.d (.int a.2)) (.d (.int b.2))=some (.d (.int (a.2*b.2))):=fun e=>a8 (d_ (ha.mono (by lia)) (hb.mono (by lia)))
  have tl:=lZ (a.1*b.2+b.1*a.2) (a.2*b.2) (Int.mul_pos a2 b2) ((ha.mul hb).mono (by lia))
  unfold pl
  unfold dF at*
  simp? [km,rV,g1,g2,g3,tl]
structure ie (M:Int) (L:List Fr):Prop where
  m0:0 < M
  bt:Bt 3500 M
  rok:∀f∈L,qK M f
  small:∀f∈L,Bt 300 f.2
  len:L.length≤1000
theorem ie.part{M:Int}{L:List Fr}(h:ie M L)(i:Nat):0 < (bZ (0,1) (L.take i)).2∧Bt 3600 (bZ (0,1) (L.take i)).1∧Bt 3600 (bZ (0,1) (L.take i)).2:=by
  have s:=(uU (M:=M) (L:=L.take i) fun f hf=>h.rok f (List.mem_of_mem_take hf)).1
  have l:(L.take i).length≤1000:=by rw [List.length_take];have:=h.len;lia
  have b:=s.bt (n:=3500) (m:=10) h.bt h.m0 (by unfold Bt;lia)
  exact⟨s.pos,b.1.mono (by decide),b.2.mono (by decide)⟩
theorem ie.one{M:Int}{L:List Fr}(h:ie M L){f:Fr}(hf:f∈L):0 < f.2∧Bt 300 f.1∧Bt 300 f.2:=by
  have r:=h.rok f hf
  exact⟨r.pos,(h.small f hf).of_le (by have:=r.lo;have:=r.hi;lia),h.small f hf⟩
theorem uV{L:List Fr}{i:Nat}{f:Fr}(h:L[i]?=some f):bZ (0,1) (L.take (i+1))=pl (bZ (0,1) (L.take i)) f:=by
  rw [List.take_succ,h]
  unfold bZ
  rw [List.foldl_append]
  rfl
theorem i6{M:Int}{L:List Fr}(h:ie M L){N:Option Sv}{own:eK}(ho:∀p∈own,p.1=0∧N=some (.l p.2)):∃v2,lc own (ag 2) e_ (L.map dF) [N,some (.d (.tuple [.int 0,.int 1])),none]=some (.nx [N,some (.d (dF (bZ (0,1) L))),v2]):=by
  obtain⟨e',h1,⟨v2,he⟩⟩:=a' (own:=own) (g:=ag 2) (f:=e_) (fun i e=>∃v2,e=[N,some (.d (dF (bZ (0,1) (L.take i)))),v2]) (L.map dF) 0 [N,some (.d (.tuple [.int 0,.int 1])),none] (fun i x e hx ⟨v2,he⟩=>by
    subst he
    rw [Nat.zero_add] at*
    rw [List.getElem?_map] at hx
    obtain⟨f,hf,rfl⟩:=Option.map_eq_some_iff.mp hx
    obtain⟨p1,p2,p3⟩:=h.part i
    obtain⟨q1,q2,q3⟩:=h.one (List.mem_of_getElem? hf)
    have tp:=uZ p1 q1 p2 p3 q2 q3
    rw [←uV hf] at tp
    refine⟨[N,some (.d (dF (bZ (0,1) (L.take i)))),some (.d (dF f))],[N,some (.d (dF (bZ (0,1) (L.take (i+1))))),some (.d (dF f))],rfl,?_,fun p hp=>by obtain⟨e1,e2⟩:=ho p hp;rw [e1,e2];rfl,_,rfl⟩
    generalize dF (bZ (0,1) (L.take i))=A at*
    generalize dF (bZ (0,1) (L.take (i+1)))=B at*
    generalize dF f=C at*
    simp? [e_,tp]) ⟨none,rfl⟩
  rw [Nat.zero_add,List.length_map,List.take_length] at he
  subst he
  exact⟨v2,h1⟩
theorem uY{M:Int}{L:List Fr}(h:ie M L){N:Sv}(hN:N=.d (.tuple (L.map dF))∨N=.d (.list (L.map dF))∨N=.l (L.map dF)):iE [N]=some (.d (dF (bZ (0,1) L)),[N]):=by
  rcases hN with rfl | rfl | rfl
  · obtain⟨v2,hl⟩:=i6 h (N:=some (.d (.tuple (L.map dF)))) (own:=[]) fun p hp=>by cases hp
    have hs:=fun Wl=>bO (W:=Wl) (g:=ag 2) (f:=e_) (e:=[some (.d (.tuple (L.map dF))),some (.d (.tuple [.int 0,.int 1])),none]) (show iA _=_ from kf rfl)
    rw [hl] at hs
    generalize dF (bZ (0,1) L)=q at hs ⊢
    generalize L.map dF=M at hs ⊢
    simp? [iE,pY,hs]
  · obtain⟨v2,hl⟩:=i6 h (N:=some (.d (.list (L.map dF)))) (own:=[]) fun p hp=>by cases hp
    have hs:=fun Wl=>bO (W:=Wl) (g:=ag 2) (f:=e_) (e:=[some (.d (.list (L.map dF))),some (.d (.tuple [.int 0,.int 1])),none]) (show iA _=_ from vN rfl)
    rw [hl] at hs
    generalize dF (bZ (0,1) L)=q at hs ⊢
    generalize L.map dF=M at hs ⊢
    simp? [iE,pY,hs]
  · obtain⟨v2,hl⟩:=i6 h (N:=some (.l (L.map dF))) (own:=[(0,L.map dF)]) fun p hp=>by simp at hp;subst hp;exact⟨rfl,rfl⟩
    have hs:∀Wl,0∉Wl→cQ Wl iA (ag 2) e_ [some (.l (L.map dF)),some (.d (.tuple [.int 0,.int 1])),none]=some (.nx [some (.l (L.map dF)),some (.d (dF (bZ (0,1) L))),v2]):=fun Wl hW=>by
      unfold cQ
      rw [show iA [some (.l (L.map dF)),some (.d (.tuple [.int 0,.int 1])),none]=some (L.map dF,[(0,L.map dF)],[some (.l (L.map dF)),some (.d (.tuple [.int 0,.int 1])),none]) from rfl]
      simpa [hW] using hl
    generalize dF (bZ (0,1) L)=q at hs ⊢
    generalize L.map dF=M at hs ⊢
    simp? [iE,pY,hs]
theorem uX{a b:Fr}(h1:Bt 4000 a.1)(h2:Bt 4000 a.2)(h3:Bt 4000 b.1)(h4:Bt 4000 b.2):fZ [.d (dF a),.d (dF b)]=some (.d (.bool (decide (a.1*b.2 < b.1*a.2))),[.d (dF a),.d (dF b)]):=by
  have g1:∀e:En,bG e (.d (.int a.1)) (.d (.int b.2))=some (.d (.int (a.1*b.2))):=fun e=>a8 (d_ h1 h4)
  have g2:∀e:En,bG e (.d (.int b.1)) (.d (.int a.2))=some (.d (.int (b.1*a.2))):=fun e=>a8 (d_ h3 h2)
  have gl:∀e:En,vk e (.d (.int (a.1*b.2))) (.d (.int (b.1*a.2)))=some (.d (.bool (decide (a.1*b.2 < b.1*a.2)))):=fun e=>rfl
  generalize decide (a.1*b.2 < b.1*a.2)=bb at*
  unfold dF
  simp? [fZ,rT,g1,g2,gl]
theorem w6{W:aW}(ok:W.Ok){ws:List Fr}(h:∀f∈ws,S1 210 f)(hl:ws.length≤16):ie (cM W ws) ws:=by
  obtain⟨m0,mb⟩:=r6 ok h
  exact⟨m0,mb.mono (by lia),fun f hf=>jQ h hf,fun f hf=>(h f hf).bt.mono (by decide),by lia⟩
theorem xa{W:aW}(ok:W.Ok){ws:List Fr}(h:∀f∈ws,S1 210 f)(hl:ws.length≤16)(e:Int):ie (cM W ws) ((oH W ws e).map (·.1))∧ie (cM W ws) ((oH W ws e).map fun p=>tm p.1 (o6 p.2)):=by
  obtain⟨m0,mb⟩:=r6 ok h
  have sl:=qz (W:=W) (ws:=ws) (e:=e)
  refine⟨⟨m0,mb.mono (by lia),fun f hf=>?_,fun f hf=>?_,by rw [List.length_map];lia⟩,⟨m0,mb.mono (by lia),fun f hf=>?_,fun f hf=>?_,by rw [List.length_map];lia⟩⟩
  · obtain⟨p,hp,rfl⟩:=List.mem_map.mp hf
    exact jQ h (dN hp).1
  · obtain⟨p,hp,rfl⟩:=List.mem_map.mp hf
    exact(h _ (dN hp).1).bt.mono (by decide)
  · obtain⟨p,hp,rfl⟩:=List.mem_map.mp hf
    exact uE ok h (dN hp).1 (dN hp).2.1
  · obtain⟨p,hp,rfl⟩:=List.mem_map.mp hf
    have a:=h _ (dN hp).1
    have c:=j4 ok (dN hp).2.1
    have r:=(a.rok (Int.dvd_refl _)).tm (c.rok (Int.dvd_refl _))
    exact((r.bt (n:=217) ((a.bt.mul c.bt).mono (by decide)) (Int.mul_pos a.low.pos c.low.pos)).2).mono (by decide)
structure FQ (n:Nat) (f:Fr):Prop where
  pos:0 < f.2
  top:Bt n f.1
  bot:Bt n f.2
theorem FQ.mono{n m:Nat}{f:Fr}(h:FQ n f)(hm:n≤m):FQ m f:=⟨h.pos,h.top.mono hm,h.bot.mono hm⟩
def dD(W:aW)(e:Int):List Nat:=(List.range W.ties.length).filter fun k=>ye e (W.tie (k:Int))
theorem qE{W:aW}{k:Nat}(h:k < W.ties.length):W.ties[k]?=some (W.tie (k:Int)):=by
  have:=oJ.get (W:=W) (k:=(k:Int)) ⟨by lia,by lia⟩
  rwa [Int.toNat_natCast] at this
theorem om{W:aW}{ws:List Fr}(hl:ws.length=W.ties.length)(e:Int):(dD W e).map (fun k=>(ws.getD k (0,1),W.tie (k:Int)))=oH W ws e:=by
  have hz:(List.range W.ties.length).map (fun k=>(ws.getD k (0,1),W.tie (k:Int)))=ws.zip W.ties:=by
    apply List.ext_getElem?
    intro i
    rw [List.getElem?_map]
    by_cases h:i < W.ties.length
    · have hz:(ws.zip W.ties)[i]?=some (ws.getD i (0,1),W.tie (i:Int)):=List.getElem?_zip_eq_some.mpr ⟨by
        rw [List.getD_eq_getElem?_getD,List.getElem?_eq_getElem (by lia)];rfl,qE h⟩
      rw [List.getElem?_range h,hz]
      rfl
    · rw [List.getElem?_eq_none (by simp;lia),List.getElem?_eq_none (by simp;lia)]
      rfl
  unfold oH dD
  rw [←hz,List.filter_map]
  rfl
def nD(p:Fr × Int):PyData:=.tuple [dF p.1,.int p.2]
def kD(k:Nat):PyData:=.int (k:Int)
theorem oo{W:aW}{e:Int}{k:Nat}(h:k∈dD W e):k < W.ties.length:=by
  have:=(List.mem_filter.mp h).1
  simpa using this
theorem yP{W:aW}(ok:W.Ok){e:Int}{b c f:Option Sv}:bA [(3,"_law_end"),(0,"_law_web_here")] 1 gD (ag 2) dQ gv [some (.d (au W)),b,c,some (.d (.int e)),f]=some (.l ((dD W e).map kD),[some (.d (au W)),b,c,some (.d (.int e)),f]):=by
  have wl:=ok.len
  have g1':=AR (W:=W)
  obtain⟨t1,hf1⟩:=bB (cs:=[some (.d (.int e)),some (.d (au W))]) (ft:=dQ) (fe:=gv) (b:=fun x=>match x with | .int k=>ye e (W.tie k) | _=>false) (y:=fun x=>x) (aM 0 W.ties.length) none [] (fun x hx=>by
    obtain⟨i,hi⟩:=List.getElem?_of_mem hx
    obtain⟨rfl,hlt⟩:=cv hi
    rw [Int.zero_add]
    have ai:=mU (W:=W) (k:=(i:Int)) ⟨by lia,by lia⟩
    show dQ [some (.d (.int e)),some (.d (au W)),some (.d (.int (i:Int)))]=some (ye e (W.tie (i:Int)),[some (.d (.int e)),some (.d (au W)),some (.d (.int (i:Int)))])
    have gi:∀(e':En),x8 false e' (.d (.int e)) (.d (.tuple [.int (W.tie (i:Int)).one,.int (W.tie (i:Int)).other]))=some (.d (.bool (ye e (W.tie (i:Int))))):=fun e'=>mr
    generalize ye e (W.tie (i:Int))=bb at*
    unfold bS at ai g1'
    have cu:L2.cutD [PyData.int (W.tie (i:Int)).one,.int (W.tie (i:Int)).other,.tuple [.int (W.tie (i:Int)).top,.int (W.tie (i:Int)).bot],.int (W.tie (i:Int)).worth] none (some 2)=[.int (W.tie (i:Int)).one,.int (W.tie (i:Int)).other]:=rfl
    generalize (W.ties.map fun t=>PyData.tuple [.int t.one,.int t.other,.tuple [.int t.top,.int t.bot],.int t.worth])=TT at*
    generalize W.tie (i:Int)=T at*
    generalize au W=WW at*
    simp? [dQ,g1',ai,cu,gi]) (fun x hx _=>rfl) (by simp [dh];lia)
  have hi:gD [some (.d (au W)),b,c,some (.d (.int e)),f]=some (aM 0 W.ties.length,[],[some (.d (au W)),b,c,some (.d (.int e)),f]):=by
    have:=ck (fs:=aa (aO (g1 iy) (aa (ap bf (ae 0) (vC (.int 1))) aj)) aj) (e:=[some (.d (au W)),b,c,some (.d (.int e)),f]) (e1:=[some (.d (au W)),b,c,some (.d (.int e)),f]) (n:=(W.ties.length:Int)) (by simp? [g1']) (by lia) (by lia)
    rw [Int.toNat_natCast] at this
    exact this
  have hv:=dz (cp:=[(3,"_law_end"),(0,"_law_web_here")]) (nT:=1) (fi:=gD) (g:=ag 2) (ft:=dQ) (fe:=gv) (cs:=[some (.d (.int e)),some (.d (au W))]) (t:=[none]) (t':=[t1]) hi rfl rfl hf1
  rw [hv,List.nil_append,List.map_id']
  congr 3
  unfold aM dD
  rw [List.filter_map]
  have:∀l:List Nat,(List.map (fun(i:Nat)=>PyData.int (0+(i:Int))) l)=l.map kD:=fun l=>List.map_congr_left fun i _=>by rw [Int.zero_add];rfl
  rw [this]
  congr 1
  refine List.filter_congr fun i _=>?_
  simp only [Function.comp_apply,Int.zero_add]
theorem mV{ws:List Fr}{k:Nat}(h:k < ws.length):atI (ws.map dF) (k:Int)=some (dF (ws.getD k (0,1))):=yz h
theorem vz{W:aW}{ws:List Fr}(hl:ws.length=W.ties.length)(wl:W.ties.length≤16){N:Sv}(hN:N=.d (.tuple (ws.map dF))∨N=.l (ws.map dF)){e:Int}{a c d:Option Sv}:bA [(1,"_law_shares_here")] 1 i3 (ag 1) b_ cY [a,some N,c,d,some (.l ((dD W e).map kD))]=some (.l (((oH W ws e).map (·.1)).map dF),[a,some N,c,d,some (.l ((dD W e).map kD))]):=by
  obtain⟨t1,hf1⟩:=bB (cs:=[some N]) (ft:=b_) (fe:=cY) (b:=fun _=>true) (y:=fun x=>match x with | .int k=>dF (ws.getD k.toNat (0,1)) | _=>.none) ((dD W e).map kD) none [] (fun x hx=>rfl) (fun x hx _=>by
    obtain⟨k,hk,rfl⟩:=List.mem_map.mp hx
    have as:=mV (ws:=ws) (k:=k) (by have:=oo hk;lia)
    show cY [some N,some (.d (.int (k:Int)))]=some (.d (dF (ws.getD (k:Int).toNat (0,1))),[some N,some (.d (.int (k:Int)))])
    rw [Int.toNat_natCast]
    rcases hN with rfl | rfl
    · generalize dF (ws.getD k (0,1))=D at*
      generalize ws.map dF=FF at*
      simp? [cY,as]
    · generalize dF (ws.getD k (0,1))=D at*
      generalize ws.map dF=FF at*
      simp? [cY,as]) (by
    have:(dD W e).length≤W.ties.length:=Nat.le_trans (List.length_filter_le _ _) (by simp)
    simp;lia)
  have hin:lJ [(1,"_law_shares_here")] 1 [a,some N,c,d,some (.l ((dD W e).map kD))]=[some N]++[none]:=by rcases hN with rfl | rfl<;>rfl
  have hv:=jk (cp:=[(1,"_law_shares_here")]) (nT:=1) (g:=ag 1) (ft:=b_) (fe:=cY) (cs:=[some N]) (t:=[none]) (t':=[t1]) (show i3 [a,some N,c,d,some (.l ((dD W e).map kD))]=some ((dD W e).map kD,[(4,(dD W e).map kD)],[a,some N,c,d,some (.l ((dD W e).map kD))]) from rfl) rfl hin rfl (by rw [hin];exact hf1)
  rw [hv,List.nil_append,iY,←om hl,List.map_map,List.map_map,List.map_map]
  rfl
theorem vA{W:aW}(ok:W.Ok){ws:List Fr}(h:∀f∈ws,S1 210 f)(hl:ws.length=W.ties.length){N:Sv}(hN:N=.d (.tuple (ws.map dF))∨N=.l (ws.map dF)){e:Int}{c d:Option Sv}:bA [(1,"_law_shares_here"),(0,"_law_web_here")] 1 i4 (ag 2) b_ cZ [some (.d (au W)),some N,c,d,some (.l ((dD W e).map kD))]=some (.l (((oH W ws e).map fun p=>tm p.1 (o6 p.2)).map dF),[some (.d (au W)),some N,c,d,some (.l ((dD W e).map kD))]):=by
  have wl:=ok.len
  have g1':=AR (W:=W)
  obtain⟨t1,hf1⟩:=bB (cs:=[some N,some (.d (au W))]) (ft:=b_) (fe:=cZ) (b:=fun _=>true) (y:=fun x=>match x with | .int k=>dF (tm (ws.getD k.toNat (0,1)) (o6 (W.tie k))) | _=>.none) ((dD W e).map kD) none [] (fun x hx=>rfl) (fun x hx _=>by
    obtain⟨k,hk,rfl⟩:=List.mem_map.mp hx
    have kl:=oo hk
    have as:=mV (ws:=ws) (k:=k) (by lia)
    have ai:=mU (W:=W) (k:=(k:Int)) ⟨by lia,by lia⟩
    have a:=h (ws.getD k (0,1)) (by rw [List.getD_eq_getElem?_getD,List.getElem?_eq_getElem (by lia)];exact List.getElem_mem _)
    have cc:=j4 ok (List.mem_of_getElem? (qE kl))
    have tt:=xn (n:=210) a.low.pos cc.low.pos a.top a.bt (cc.top.mono (by decide)) (cc.bt.mono (by decide)) (by decide)
    show cZ [some N,some (.d (au W)),some (.d (.int (k:Int)))]=some (.d (dF (tm (ws.getD (k:Int).toNat (0,1)) (o6 (W.tie (k:Int))))),[some N,some (.d (au W)),some (.d (.int (k:Int)))])
    rw [Int.toNat_natCast]
    rw [show dF (o6 (W.tie (k:Int)))=.tuple [.int (W.tie (k:Int)).top,.int (W.tie (k:Int)).bot] from rfl] at tt
    generalize dF (tm (ws.getD k (0,1)) (o6 (W.tie (k:Int))))=R at*
    unfold bS at ai g1'
    generalize (W.ties.map fun t=>PyData.tuple [.int t.one,.int t.other,.tuple [.int t.top,.int t.bot],.int t.worth])=TT at*
    generalize W.tie (k:Int)=T at*
    generalize au W=WW at*
    rcases hN with rfl | rfl
    · generalize dF (ws.getD k (0,1))=D at*
      generalize ws.map dF=FF at*
      simp? [cZ,as,g1',ai,tt]
    · generalize dF (ws.getD k (0,1))=D at*
      generalize ws.map dF=FF at*
      simp? [cZ,as,g1',ai,tt]) (by
    have:(dD W e).length≤W.ties.length:=Nat.le_trans (List.length_filter_le _ _) (by simp)
    simp;lia)
  have hin:lJ [(1,"_law_shares_here"),(0,"_law_web_here")] 1 [some (.d (au W)),some N,c,d,some (.l ((dD W e).map kD))]=[some N,some (.d (au W))]++[none]:=by rcases hN with rfl | rfl<;>rfl
  have hv:=jk (cp:=[(1,"_law_shares_here"),(0,"_law_web_here")]) (nT:=1) (g:=ag 2) (ft:=b_) (fe:=cZ) (cs:=[some N,some (.d (au W))]) (t:=[none]) (t':=[t1]) (show i4 [some (.d (au W)),some N,c,d,some (.l ((dD W e).map kD))]=some ((dD W e).map kD,[(4,(dD W e).map kD)],[some (.d (au W)),some N,c,d,some (.l ((dD W e).map kD))]) from rfl) rfl hin rfl (by rw [hin];exact hf1)
  rw [hv,List.nil_append,iY,←om hl,List.map_map,List.map_map,List.map_map]
  rfl
theorem mB{W:aW}{ws:List Fr}:∀k,(gN W ws k).length=1+2*k
  | 0=>rfl
  | k+1=>by rw [gN,List.length_append,mB k];simp [AY];lia
theorem nE{W:aW}(ok:W.Ok){ws:List Fr}:∀k,∀p∈gN W ws k,0≤p.2∧p.2≤40
  | 0,p,h=>by
    simp only [gN,List.mem_cons,List.not_mem_nil,or_false] at h
    subst h
    exact⟨ok.a0,ok.a1⟩
  | k+1,p,h=>by
    rw [gN,List.mem_append] at h
    rcases h with h | h
    · exact nE ok k p h
    · simp only [AY,List.mem_cons,List.not_mem_nil,or_false] at h
      rcases h with rfl | rfl
      · exact⟨by show(0:Int)≤1;decide,by show(1:Int)≤40;decide⟩
      · show 0≤W.pat.getD k 0∧W.pat.getD k 0≤40
        rw [List.getD_eq_getElem?_getD]
        cases q:W.pat[k]? with
        | none=>exact⟨by decide,by decide⟩
        | some z=>have:=ok.pat z (List.mem_of_getElem? q);show 0≤z∧z≤40;lia
theorem qY{W:aW}(ok:W.Ok){ws:List Fr}(h:∀f∈ws,S1 210 f)(hl:ws.length=W.ties.length){N:Sv}(hN:N=.d (.tuple (ws.map dF))∨N=.l (ws.map dF)){i:Nat}(hi:(i:Int) < W.things){v4:Option Sv}:
    eM [some (.d (au W)),some N,some (.l ((gN W ws i).map nD)),some (.d (.int (i:Int))),v4]=some (.nx [some (.d (au W)),some N,some (.l ((gN W ws (i+1)).map nD)),some (.d (.int (i:Int))),some (.l ((dD W (i:Int)).map kD))]):=by
  have wl:=ok.len;have t1:=ok.t1;have pl:=ok.pl
  have g2':=C_ (W:=W)
  have k1:=fun b c f=>yP ok (e:=(i:Int)) (b:=b) (c:=c) (f:=f)
  have k2:=fun a c d=>vz hl wl hN (e:=(i:Int)) (a:=a) (c:=c) (d:=d)
  have k3:=fun c d=>vA ok h hl hN (e:=(i:Int)) (c:=c) (d:=d)
  obtain⟨A1,A2⟩:=xa ok h (by lia) (i:Int)
  have s1:=uY A1 (.inr (.inl rfl))
  have s2:=uY A2 (.inr (.inl rfl))
  have ai:=fQ (ns:=W.pat) (k:=(i:Int)) (by lia) (by lia)
  rw [Int.toNat_natCast] at ai
  have ll:((gN W ws i).map nD).length < 1000000:=by rw [List.length_map,mB];lia
  have ll2:((gN W ws i).map nD).length+1 < 1000000:=by rw [List.length_map,mB];lia
  rw [gN,List.map_append,show(AY W ws i).map nD=[.tuple [dF (B_ W ws (i:Int)),.int 1],.tuple [dF (B' W ws (i:Int)),.int (W.pat.getD i 0)]] from rfl]
  rw [show bZ (0,1) ((oH W ws (i:Int)).map fun p=>tm p.1 (o6 p.2))=B_ W ws (i:Int) from rfl] at s2
  rw [show bZ (0,1) ((oH W ws (i:Int)).map (·.1))=B' W ws (i:Int) from rfl] at s1
  generalize W.pat.getD i 0=pe at*
  generalize dF (B_ W ws (i:Int))=D1 at*
  generalize dF (B' W ws (i:Int))=D2 at*
  generalize ((oH W ws (i:Int)).map fun p=>tm p.1 (o6 p.2)).map dF=Q1 at*
  generalize ((oH W ws (i:Int)).map (·.1)).map dF=Q2 at*
  generalize (dD W (i:Int)).map kD=Q3 at*
  generalize (gN W ws i).map nD=LL at*
  generalize W.pat.map PyData.int=PP at*
  generalize au W=WW at*
  unfold eM
  rcases hN with rfl | rfl
  · generalize ws.map dF=FF at*
    refine(bF (e1:=[some (.d WW),some (.d (.tuple FF)),some (.l LL),some (.d (.int (i:Int))),some (.l Q3)]) ?_).trans ?_
    · simp? [k1]
    refine(bF (e1:=[some (.d WW),some (.d (.tuple FF)),some (.l (LL++[.tuple [D1,.int 1]])),some (.d (.int (i:Int))),some (.l Q3)]) ?_).trans ?_
    · simp? [k3,s2,ll]
    · simp? [k2,s1,g2',ai,ll2]
  · generalize ws.map dF=FF at*
    refine(bF (e1:=[some (.d WW),some (.l FF),some (.l LL),some (.d (.int (i:Int))),some (.l Q3)]) ?_).trans ?_
    · simp? [k1]
    refine(bF (e1:=[some (.d WW),some (.l FF),some (.l (LL++[.tuple [D1,.int 1]])),some (.d (.int (i:Int))),some (.l Q3)]) ?_).trans ?_
    · simp? [k3,s2,ll]
    · simp? [k2,s1,g2',ai,ll2]
theorem xr{W:aW}(ok:W.Ok){ws:List Fr}(h:∀f∈ws,S1 210 f)(hl:ws.length=W.ties.length){N:Sv}(hN:N=.d (.tuple (ws.map dF))∨N=.l (ws.map dF)):gG [.d (au W),N]=some (.l ((gN W ws W.things.toNat).map nD),[.d (au W),N]):=by
  have wl:=ok.len;have t0:=ok.t0;have t1:=ok.t1
  have g0':=Dw (W:=W)
  have g3':=C' (W:=W)
  have s0:=uY (w6 ok h (by lia)) (N:=N) (by rcases hN with rfl | rfl<;>simp)
  obtain⟨e',h1,⟨v3,v4,he⟩⟩:=a' (own:=[]) (g:=ag 3) (f:=eM) (fun i e=>∃v3 v4,e=[some (.d (au W)),some N,some (.l ((gN W ws i).map nD)),v3,v4]) (aM 0 W.things.toNat) 0 [some (.d (au W)),some N,some (.l ((gN W ws 0).map nD)),none,none] (fun i x e hx ⟨v3,v4,he⟩=>by
    subst he
    obtain⟨rfl,hlt⟩:=cv hx
    rw [Nat.zero_add,Int.zero_add]
    exact⟨[some (.d (au W)),some N,some (.l ((gN W ws i).map nD)),some (.d (.int (i:Int))),v4],_,rfl,qY ok h hl hN (by lia),bh,_,_,rfl⟩) ⟨none,none,rfl⟩
  rw [Nat.zero_add,dh] at he
  subst he
  have hi:lI [some (.d (au W)),some N,some (.l ((gN W ws 0).map nD)),none,none]=some (aM 0 W.things.toNat,[],[some (.d (au W)),some N,some (.l ((gN W ws 0).map nD)),none,none]):=ck (n:=W.things) (by simp? [g0']) (by lia) (by lia)
  have hg:=fun Wl=>bO (W:=Wl) (g:=ag 3) (f:=eM) hi
  rw [h1] at hg
  rw [show(gN W ws 0).map nD=[.tuple [dF (bZ (0,1) ws),.int W.asks]] from rfl] at hg
  generalize dF (bZ (0,1) ws)=SS at*
  generalize (gN W ws W.things.toNat).map nD=LL at*
  generalize au W=WW at*
  rcases hN with rfl | rfl
  · generalize ws.map dF=FF at*
    simp? [gG,l_,s0,g3',hg]
  · generalize ws.map dF=FF at*
    simp? [gG,l_,s0,g3',hg]
def xc(W:aW)(t:jm):Bool:=W.asks==0 || (W.pat.getD t.one.toNat 0==0 || W.pat.getD t.other.toNat 0==0)
def kJ(W:aW)(p:Fr × jm):Fr:=if xc W p.2=true then(0,1) else p.1
def cA(W:aW)(ws:List Fr):List Fr:=(ws.zip W.ties).map (kJ W)
theorem Am{n:Nat}:S1 (n+1) ((0,1):Fr):=⟨qG,by decide,by decide,Bt.mono (m:=1) (by unfold Bt;decide) (by lia)⟩
theorem zo{W:aW}{ws:List Fr}{n:Nat}(h:∀f∈ws,S1 (n+1) f):∀f∈cA W ws,S1 (n+1) f:=fun f hf=>by
  obtain⟨p,hp,rfl⟩:=List.mem_map.mp hf
  unfold kJ
  split
  · exact Am
  · exact h _ (List.of_mem_zip (show(p.1,p.2)∈ws.zip W.ties from hp)).1
theorem wn{W:aW}{ws:List Fr}(hl:ws.length=W.ties.length):(cA W ws).length=W.ties.length:=by
  unfold cA;rw [List.length_map,List.length_zip];lia
def qF(p:Fr × Int):Fr:=lowM p.1.1 (p.1.2*p.2)
def rZ(b:Fr)(p:Fr × Int):Fr:=if 0 < p.2∧b.1*(qF p).2 < (qF p).1*b.2 then qF p else b
structure rM (b:Fr):Prop where
  pos:0 < b.2
  one:b.2≤b.1
  top:Bt 188 b.1
structure qI (p:Fr × Int):Prop where
  pos:0 < p.1.2
  lo:0≤p.1.1
  hi:p.1.1≤16*p.1.2
  bt:Bt 178 p.1.2
  m0:0≤p.2
  m1:p.2≤40
theorem zH{p:Fr × Int}(h:qI p)(hp:0 < p.2):0 < (qF p).2∧0≤(qF p).1∧Bt 188 (qF p).1∧Bt 188 (qF p).2∧(qF p).1*(p.1.2*p.2)=(qF p).2*p.1.1:=by
  have pos:=Int.mul_pos h.pos hp
  have c:=ki (t:=p.1.1) (b:=p.1.2*p.2) (Int.ne_of_gt pos)
  obtain⟨d,d0,h3,h4,h5,h6⟩:=fx pos h.lo
  have m6:Bt 6 p.2:=by have:=h.m0;have:=h.m1;unfold Bt;lia
  have bb:Bt 184 (p.1.2*p.2):=(h.bt.mul m6).mono (by decide)
  have lb:=Int.le_of_dvd pos (iC pos h.lo)
  have b2:Bt 184 (lowM p.1.1 (p.1.2*p.2)).2:=bb.of_le (by lia)
  have ht:p.1.1≤16*(p.1.2*p.2):=by
    have e1:p.1.2*1≤p.1.2*p.2:=Int.mul_le_mul_of_nonneg_left (by lia) (Int.le_of_lt h.pos)
    have:=h.hi
    lia
  have l16:=jO (i:=16) pos h.lo ht
  have b1:Bt 188 (lowM p.1.1 (p.1.2*p.2)).1:=by
    have:Bt (4+184) (15*(lowM p.1.1 (p.1.2*p.2)).2):=Bt.mul (by unfold Bt;decide) b2
    unfold Bt at b2 ⊢
    have e:(2:Nat) ^ 188=16*2 ^ 184:=by decide
    rw [e]
    lia
  exact⟨h5,h6,b1,b2.mono (by decide),c⟩
theorem yB{b:Fr}{p:Fr × Int}(h:rM b)(k:qI p):rM (rZ b p)∧b.1*(rZ b p).2≤(rZ b p).1*b.2∧(0 < p.2→p.1.1*(rZ b p).2≤(rZ b p).1*p.1.2*p.2):=by
  unfold rZ
  split
  · rename_i c
    obtain⟨q1,q2,q3,q4,q5⟩:=zH k c.1
    refine⟨⟨q1,?_,q3⟩,by lia,fun _=>?_⟩
    · have e1:b.2*(qF p).2≤b.1*(qF p).2:=Int.mul_le_mul_of_nonneg_right h.one (Int.le_of_lt q1)
      refine Int.le_of_mul_le_mul_right (a:=b.2) ?_ h.pos
      have:(qF p).2*b.2=b.2*(qF p).2:=Int.mul_comm _ _
      lia
    · rw [Int.mul_assoc,q5,Int.mul_comm]
      exact Int.le_refl _
  · rename_i c
    refine⟨h,Int.le_refl _,fun hp=>?_⟩
    obtain⟨q1,q2,q3,q4,q5⟩:=zH k hp
    have c':(qF p).1*b.2≤b.1*(qF p).2:=by
      by_cases z:b.1*(qF p).2 < (qF p).1*b.2
      · exact absurd ⟨hp,z⟩ c
      · lia
    refine Int.le_of_mul_le_mul_right (a:=(qF p).2) ?_ q1
    have X:=Int.mul_pos k.pos hp
    have:=Int.mul_le_mul_of_nonneg_right c' (Int.le_of_lt X)
    have e1:(qF p).1*b.2*(p.1.2*p.2)=p.1.1*b.2*(qF p).2:=by
      rw [show(qF p).1*b.2*(p.1.2*p.2)=(qF p).1*(p.1.2*p.2)*b.2 by ac_rfl,q5]
      ac_rfl
    rw [e1] at this
    rw [show b.1*p.1.2*p.2*(qF p).2=b.1*(qF p).2*(p.1.2*p.2) by ac_rfl]
    exact this
theorem xQ{b c:Fr}{x X:Int}(hb:0 < b.2)(hc:0 < c.2)(h:b.1*c.2≤c.1*b.2)(hx:0≤X)(k:x*b.2≤b.1*X):x*c.2≤c.1*X:=by
  refine Int.le_of_mul_le_mul_right (a:=b.2) ?_ hb
  have e1:=Int.mul_le_mul_of_nonneg_right k (Int.le_of_lt hc)
  have e2:=Int.mul_le_mul_of_nonneg_right h hx
  rw [show x*c.2*b.2=x*b.2*c.2 by ac_rfl,show c.1*X*b.2=c.1*b.2*X by ac_rfl]
  rw [show b.1*X*c.2=b.1*c.2*X by ac_rfl] at e1
  lia
def qM(b:Fr)(L:List (Fr × Int)):Fr:=L.foldl rZ b
theorem oV:∀(L:List (Fr × Int)) {b:Fr},rM b→(∀p∈L,qI p)→rM (qM b L)∧b.1*(qM b L).2≤(qM b L).1*b.2∧∀p∈L,0 < p.2→p.1.1*(qM b L).2≤(qM b L).1*p.1.2*p.2
  | [],b,h,_=>⟨h,Int.le_refl _,fun p hp=>by cases hp⟩
  | x::r,b,h,hL=>by
    have kx:=hL x (by simp)
    obtain⟨s1,s2,s3⟩:=yB h kx
    obtain⟨t1,t2,t3⟩:=oV r s1 fun p hp=>hL p (by simp [hp])
    have e:qM b (x::r)=qM (rZ b x) r:=rfl
    rw [e]
    refine⟨t1,?_,fun p hp h0=>?_⟩
    · exact xQ (b:=rZ b x) (X:=b.2) (x:=b.1) s1.pos t1.pos t2 (Int.le_of_lt h.pos) s2
    · rcases List.mem_cons.mp hp with rfl | hp
      · rw [Int.mul_assoc]
        have s3':=s3 h0
        rw [Int.mul_assoc] at s3'
        exact xQ s1.pos t1.pos t2 (Int.le_of_lt (Int.mul_pos kx.pos h0)) s3'
      · exact t3 p hp h0
theorem yV{W:aW}(ok:W.Ok){ws:List Fr}{n:Nat}(h:∀f∈ws,S1 n f)(hl:ws.length=W.ties.length)(hn:n*W.ties.length+7*W.ties.length+2≤178):∀k,∀p∈gN W ws k,qI p:=fun k p hp=>by
  have wl:=ok.len
  obtain⟨m0, -⟩:=r6 ok h
  have mb:Bt 178 (cM W ws):=by
    have hc:∀f∈W.ties.map o6,S1 7 f:=fun f hf=>by
      obtain⟨t,ht,rfl⟩:=List.mem_map.mp hf
      exact j4 ok ht
    exact((hX fun f hf=>(h f hf).bt).mul (hX fun f hf=>(hc f hf).bt)).mono (by rw [List.length_map,hl];lia)
  obtain⟨q0,q1⟩:=nE ok k p hp
  have fin:∀L:List Fr,p.1=bZ (0,1) L→(∀f∈L,qK (cM W ws) f)→L.length≤16→qI p:=fun L e hL ll=>by
    have s:=(uU hL).1
    rw [←e] at s
    have b:=s.bt (n:=178) (m:=10) mb m0 (by unfold Bt;lia)
    refine⟨s.pos,s.lo,?_,b.2,q0,q1⟩
    have:=s.hi
    have e2:(L.length:Int)*p.1.2≤16*p.1.2:=Int.mul_le_mul_of_nonneg_right (by lia) (Int.le_of_lt s.pos)
    lia
  have sl:=fun e:Int=>qz (W:=W) (ws:=ws) (e:=e)
  clear q0 q1
  induction k with
  | zero=>
    simp only [gN,List.mem_cons,List.not_mem_nil,or_false] at hp
    exact fin ws (by rw [hp]) (fun f hf=>jQ h hf) (by lia)
  | succ k ih=>
    rw [gN,List.mem_append] at hp
    rcases hp with hp | hp
    · exact ih hp
    · simp only [AY,List.mem_cons,List.not_mem_nil,or_false] at hp
      rcases hp with hp | hp
      · exact fin ((oH W ws (k:Int)).map fun p=>tm p.1 (o6 p.2)) (by rw [hp];rfl) (fun f hf=>by
          obtain⟨q,hq,rfl⟩:=List.mem_map.mp hf
          exact uE ok h (dN hq).1 (dN hq).2.1) (by rw [List.length_map];have:=sl (k:Int);lia)
      · exact fin ((oH W ws (k:Int)).map (·.1)) (by rw [hp];rfl) (fun f hf=>by
          obtain⟨q,hq,rfl⟩:=List.mem_map.mp hf
          exact jQ h (dN hq).1) (by rw [List.length_map];have:=sl (k:Int);lia)
abbrev ef(W:aW)(ws:List Fr)(os:List Fr)(v3 v4 v5 v6 v7 v8:Option Sv):En:=[some (.d (au W)),some (.d (.tuple (ws.map dF))),some (.l (os.map dF)),v3,v4,v5,v6,v7,v8]
theorem tW{W:aW}(ok:W.Ok){ws os:List Fr}{p:Fr × jm}(ht:p.2∈W.ties)(hl:os.length≤100){v5 v6 v7 v8:Option Sv}:
    bI (ef W ws os (some (.d (dF p.1))) (some (.d (bS p.2))) v5 v6 v7 v8)=some (.nx (ef W ws (os++[kJ W p]) (some (.d (dF p.1))) (some (.d (bS p.2))) (some (.d (.bool (xc W p.2)))) v6 v7 v8)):=by
  have o:=ok.ties p.2 ht
  have o0:=o.o0;have o1:=o.o1;have o2:=o.o2;have pl:=ok.pl
  have g2':=C_ (W:=W)
  have g3':=C' (W:=W)
  have a1:=fQ (ns:=W.pat) (k:=p.2.one) o0 (by lia)
  have a2:=fQ (ns:=W.pat) (k:=p.2.other) (by lia) (by lia)
  have gi:∀(e:En) (b:Bool),g1 nh e [.d (.bool b)]=some (.d (.int (if b=true then 1 else 0))):=fun e b=>by cases b<;>rfl
  have ge:∀(e:En) (i:Int),c9 false e (.d (.int i)) (.d (.int 0))=some (.d (.bool (i==0))):=fun e i=>by rw [mq];rfl
  have ll:os.length < 1000000:=by lia
  unfold kJ xc
  generalize W.pat.getD p.2.one.toNat 0=x at*
  generalize W.pat.getD p.2.other.toNat 0=y at*
  generalize W.asks=z at*
  have e1:=fun e=>ge e x
  have e2:=fun e=>ge e y
  have e3:=fun e=>ge e z
  generalize (x==0)=b1 at*
  generalize (y==0)=b2 at*
  generalize (z==0)=b3 at*
  simp only [ef,List.map_append,List.map_cons,List.map_nil]
  generalize ws.map dF=FF at*
  generalize W.pat.map PyData.int=PP at*
  generalize au W=WW at*
  unfold bS
  cases b3
  · cases b1
    · cases b2
      · simp? [bI,g2',g3',a1,a2,gi,e1,e2,e3,ll]
      · simp? [bI,g2',g3',a1,a2,gi,e1,e2,e3,ll,dF]
    · simp? [bI,g2',g3',a1,a2,gi,e1,e2,e3,ll,dF]
  · simp? [bI,g2',g3',a1,a2,gi,e1,e2,e3,ll,dF]
theorem vy{W:aW}{ws os:List Fr}{b:Fr}{p:Fr × Int}(hb:rM b)(hp:qI p){v3 v4 v5:Option Sv}:
    cf (ef W ws os v3 v4 v5 (some (.d (dF b))) (some (.d (dF p.1))) (some (.d (.int p.2))))=some (.nx (ef W ws os v3 v4 v5 (some (.d (dF (rZ b p)))) (some (.d (dF p.1))) (some (.d (.int p.2))))):=by
  have m0:=hp.m0;have m1:=hp.m1
  unfold rZ
  by_cases c:0 < p.2
  · have pos:=Int.mul_pos hp.pos c
    obtain⟨q1,q2,q3,q4,q5⟩:=zH hp c
    have m6:Bt 6 p.2:=by unfold Bt;lia
    have gm:∀e:En,bG e (.d (.int p.1.2)) (.d (.int p.2))=some (.d (.int (p.1.2*p.2))):=fun e=>a8 (ku (by lia) (by lia))
    have tl:=lZ p.1.1 (p.1.2*p.2) pos ((hp.bt.mul m6).mono (by decide))
    rw [show PyData.tuple [.int (lowM p.1.1 (p.1.2*p.2)).1,.int (lowM p.1.1 (p.1.2*p.2)).2]=dF (qF p) from rfl] at tl
    have tq:=uX (a:=b) (b:=qF p) (hb.top.mono (by decide)) (hb.top.of_le (by have:=hb.pos;have:=hb.one;lia) |>.mono (by decide)) (q3.mono (by decide)) (q4.mono (by decide))
    have gg:∀e:En,vM e (.d (.int p.2)) (.d (.int 0))=some (.d (.bool true)):=fun e=>by
      have:decide (0 < p.2)=true:=decide_eq_true c
      rw [←this];rfl
    simp only [ef]
    generalize ws.map dF=FF at*
    generalize os.map dF=OO at*
    generalize au W=WW at*
    by_cases c2:b.1*(qF p).2 < (qF p).1*b.2
    · rw [decide_eq_true c2] at tq
      rw [if_pos ⟨c,c2⟩]
      generalize dF (qF p)=Q at*
      generalize dF b=B at*
      unfold dF
      simp? [cf,gg,gm,tl,tq]
    · rw [decide_eq_false c2] at tq
      rw [if_neg (fun z=>c2 z.2)]
      generalize dF (qF p)=Q at*
      generalize dF b=B at*
      unfold dF
      simp? [cf,gg,gm,tl,tq]
  · rw [if_neg (fun z=>c z.1)]
    have gg:∀e:En,vM e (.d (.int p.2)) (.d (.int 0))=some (.d (.bool false)):=fun e=>by
      have:decide (0 < p.2)=false:=decide_eq_false c
      rw [←this];rfl
    simp only [ef]
    generalize dF b=B at*
    generalize dF p.1=D at*
    simp? [cf,gg]
theorem u_{W:aW}(ok:W.Ok){ws:List Fr}{n:Nat}(h:∀f∈ws,S1 (n+1) f)(hl:ws.length=W.ties.length)(hn:(n+1)*W.ties.length+7*W.ties.length+2≤178)(h7:n+1≤7):
    ∃ss:List Fr,f9 [.d (au W),.d (.tuple (ws.map dF))]=some (.d (.tuple (ss.map dF)),[.d (au W),.d (.tuple (ws.map dF))])∧(∀f∈ss,S1 195 f)∧ss.length=W.ties.length∧∃D:Int,0 < D∧Bt 370 D∧∀f∈ss,f.2 ∣ D:=by
  have wl:=ok.len
  have g1':=AR (W:=W)
  have hz:=oF ws W.ties
  have zl:(ws.zip W.ties).length=W.ties.length:=by rw [List.length_zip];lia
  have hos:=zo (W:=W) h
  have ol:=wn (W:=W) hl
  obtain⟨e1,h1,⟨a3,a4,a5,he1⟩⟩:=a' (own:=[]) (g:=cH (aE (ag 3) (aE (ag 4) bU))) (f:=bI) (fun i e=>∃v3 v4 v5,e=ef W ws (((ws.zip W.ties).take i).map (kJ W)) v3 v4 v5 none none none) ((ws.zip W.ties).map tX) 0 (ef W ws [] none none none none none none) (fun i x e hx ⟨v3,v4,v5,he⟩=>by
    subst he
    rw [Nat.zero_add] at*
    rw [List.getElem?_map] at hx
    obtain⟨p,hp,rfl⟩:=Option.map_eq_some_iff.mp hx
    have il:=(List.getElem?_eq_some_iff.mp hp).1
    have ht:p.2∈W.ties:=(List.of_mem_zip (show(p.1,p.2)∈ws.zip W.ties from List.mem_of_getElem? hp)).2
    have tt:=tW ok (ws:=ws) (os:=((ws.zip W.ties).take i).map (kJ W)) (p:=p) ht (by rw [List.length_map,List.length_take];lia) (v5:=v5) (v6:=none) (v7:=none) (v8:=none)
    refine⟨ef W ws (((ws.zip W.ties).take i).map (kJ W)) (some (.d (dF p.1))) (some (.d (bS p.2))) v5 none none none,_,rfl,tt,bh,some (.d (dF p.1)),some (.d (bS p.2)),some (.d (.bool (xc W p.2))),?_⟩
    rw [List.take_succ,hp]
    simp only [Option.toList_some,List.map_append,List.map_cons,List.map_nil]) ⟨none,none,none,rfl⟩
  rw [Nat.zero_add,List.length_map,List.take_length] at he1
  change e1=ef W ws (cA W ws) a3 a4 a5 none none none at he1
  subst he1
  have hi1:hG (ef W ws [] none none none none none none)=some ((ws.zip W.ties).map tX,[],ef W ws [] none none none none none none):=by
    rw [←hz]
    simp only [ef,List.map_nil]
    generalize W.ties.map bS=TT at*
    generalize ws.map dF=FF at*
    generalize au W=WW at*
    simp? [hG,qf,g1']
  have hg1:=fun Wl=>bO (W:=Wl) (g:=cH (aE (ag 3) (aE (ag 4) bU))) (f:=bI) hi1
  rw [h1] at hg1
  have hL:=yV ok hos ol hn W.things.toNat
  have lo:=xr ok (fun f hf=>(hos f hf).mono (by lia)) ol (.inr rfl)
  obtain⟨e2,h2,⟨c7,c8,he2⟩⟩:=a' (own:=[]) (g:=cH (aE (ag 7) (aE (ag 8) bU))) (f:=cf) (fun i e=>∃v7 v8,e=ef W ws (cA W ws) a3 a4 a5 (some (.d (dF (qM (1,1) ((gN W (cA W ws) W.things.toNat).take i))))) v7 v8) ((gN W (cA W ws) W.things.toNat).map nD) 0 (ef W ws (cA W ws) a3 a4 a5 (some (.d (dF (1,1)))) none none) (fun i x e hx ⟨v7,v8,he⟩=>by
    subst he
    rw [Nat.zero_add] at*
    rw [List.getElem?_map] at hx
    obtain⟨p,hp,rfl⟩:=Option.map_eq_some_iff.mp hx
    have b:=(oV ((gN W (cA W ws) W.things.toNat).take i) (b:=(1,1)) ⟨by decide,by decide,by unfold Bt;decide⟩ fun p hp=>hL p (List.mem_of_mem_take hp)).1
    have tt:=vy (W:=W) (ws:=ws) (os:=cA W ws) b (hL p (List.mem_of_getElem? hp)) (v3:=a3) (v4:=a4) (v5:=a5)
    refine⟨ef W ws (cA W ws) a3 a4 a5 (some (.d (dF (qM (1,1) ((gN W (cA W ws) W.things.toNat).take i))))) (some (.d (dF p.1))) (some (.d (.int p.2))),_,rfl,tt,bh,some (.d (dF p.1)),some (.d (.int p.2)),?_⟩
    rw [List.take_succ,hp]
    unfold qM
    rw [List.foldl_append]
    rfl) ⟨none,none,rfl⟩
  rw [Nat.zero_add,List.length_map,List.take_length] at he2
  subst he2
  obtain⟨B1, -,B3⟩:=oV (gN W (cA W ws) W.things.toNat) (b:=(1,1)) ⟨by decide,by decide,by unfold Bt;decide⟩ hL
  have hi2:g_ (ef W ws (cA W ws) a3 a4 a5 (some (.d (dF (1,1)))) none none)=some ((gN W (cA W ws) W.things.toNat).map nD,[],ef W ws (cA W ws) a3 a4 a5 (some (.d (dF (1,1)))) none none):=by
    unfold g_
    refine my ?_
    simp only [ef]
    generalize (gN W (cA W ws) W.things.toNat).map nD=LL at*
    generalize (cA W ws).map dF=OO at*
    generalize ws.map dF=FF at*
    generalize au W=WW at*
    simp? [lo]
  have hg2:=fun Wl=>bO (W:=Wl) (g:=cH (aE (ag 7) (aE (ag 8) bU))) (f:=cf) hi2
  rw [h2] at hg2
  have bp:0 < (qM (1,1) (gN W (cA W ws) W.things.toNat)).1:=by have:=B1.pos;have:=B1.one;lia
  have b2t:Bt 188 (qM (1,1) (gN W (cA W ws) W.things.toNat)).2:=B1.top.of_le (by have:=B1.pos;have:=B1.one;lia)
  generalize qM (1,1) (gN W (cA W ws) W.things.toNat)=by_ at*
  obtain⟨t1,hf1⟩:=bB (cs:=[some (.d (dF by_))]) (ft:=b_) (fe:=dX) (b:=fun _=>true) (y:=fun x=>dF (w_ by_ (Dh x))) ((cA W ws).map dF) none [] (fun x hx=>rfl) (fun x hx _=>by
    obtain⟨f,hf,rfl⟩:=List.mem_map.mp hx
    have s:=hos f hf
    have g1:∀e:En,bG e (.d (.int f.1)) (.d (.int by_.2))=some (.d (.int (f.1*by_.2))):=fun e=>a8 (d_ (s.top.mono (by lia)) (b2t.mono (by decide)))
    have g2:∀e:En,bG e (.d (.int f.2)) (.d (.int by_.1))=some (.d (.int (f.2*by_.1))):=fun e=>a8 (d_ (s.bt.mono (by lia)) (B1.top.mono (by decide)))
    have tl:=lZ (f.1*by_.2) (f.2*by_.1) (Int.mul_pos s.low.pos bp) ((s.bt.mul B1.top).mono (by lia))
    rw [show PyData.tuple [.int (lowM (f.1*by_.2) (f.2*by_.1)).1,.int (lowM (f.1*by_.2) (f.2*by_.1)).2]=dF (w_ by_ f) from rfl] at tl
    show dX [some (.d (dF by_)),some (.d (dF f))]=some (.d (dF (w_ by_ f)),[some (.d (dF by_)),some (.d (dF f))])
    generalize dF (w_ by_ f)=R at*
    unfold dF
    simp? [dX,g1,g2,tl]) (by simp;lia)
  have hv:=jk (cp:=[(6,"_law_by")]) (nT:=1) (fi:=g9) (g:=ag 1) (ft:=b_) (fe:=dX) (cs:=[some (.d (dF by_))]) (t:=[none]) (t':=[t1]) (show g9 (ef W ws (cA W ws) a3 a4 a5 (some (.d (dF by_))) c7 c8)=some ((cA W ws).map dF,[(2,(cA W ws).map dF)],ef W ws (cA W ws) a3 a4 a5 (some (.d (dF by_))) c7 c8) from rfl) rfl rfl rfl hf1
  rw [List.nil_append,iY,List.map_map] at hv
  refine⟨(cA W ws).map (w_ by_),?_,fun f hf=>?_,by rw [List.length_map];exact ol,de (cA W ws)*by_.1,Int.mul_pos (gJ fun f hf=>(hos f hf).low.pos) bp,((hX fun f hf=>(hos f hf).bt).mul B1.top).mono (by rw [ol];lia),fun f hf=>?_⟩
  · rw [List.map_map]
    rw [show Function.comp (fun x=>dF (w_ by_ (Dh x))) dF=Function.comp dF (w_ by_) from rfl] at hv
    simp only [ef,List.map_nil] at hg1 hg2 hv
    generalize (cA W ws).map (Function.comp dF (w_ by_))=RR at*
    generalize (cA W ws).map dF=OO at*
    generalize dF by_=BY at*
    generalize ws.map dF=FF at*
    generalize au W=WW at*
    unfold dF at hg2
    simp? [f9,mW,hg1,hg2,hv]
  · obtain⟨g,hg,rfl⟩:=List.mem_map.mp hf
    exact(zX (hos g hg) B1.pos B1.one B1.top).mono (by lia)
  · obtain⟨g,hg,rfl⟩:=List.mem_map.mp hf
    have s:=hos g hg
    exact Int.dvd_trans (iC (Int.mul_pos s.low.pos bp) (Int.mul_nonneg s.lo (by have:=B1.pos;lia))) (Int.mul_dvd_mul (fy hg) (Int.dvd_refl _))
theorem uG{t b:Int}(h:qQ t b):S1 7 (t,b):=⟨⟨by have:=h.2.2.1;show(0:Int) < b;lia,h.2.2.2.2⟩,h.1,h.2.1,by have:=h.2.2.1;have:=h.2.2.2.1;show Bt 7 b;unfold Bt;lia⟩
inductive SK (W:aW) (q:Int) (i:Nat):En→Prop
  | mk {ds:List Int} {ws:List Fr} {v4 v5:Option Sv} (hd:fL ds) (hl:ws.length=i) (hs:∀f∈ws,S1 7 f):SK W q i [some (.l (ds.map .int)),some (.d (au W)),some (.l (ws.map dF)),some (.d (.int q)),v4,v5]
theorem va{W:aW}(ok:W.Ok){ds:List Int}(hd:fL ds):∃(ws:List Fr) (ds':List Int),f_ [.l (ds.map .int),.d (au W)]=some (.d (.tuple (ws.map dF)),[.l (ds'.map .int),.d (au W)])∧fL ds'∧ws.length=W.ties.length∧∀f∈ws,S1 7 f:=by
  have wl:=ok.len
  have g1':=AR (W:=W)
  obtain⟨n1,d1,t1, -, -,hd1⟩:=gQ hd
  have gm:∀e:En,aT e (.d (.int n1)) (.d (.int 3))=some (.d (.int (n1 % 3))):=fun e=>aI (by decide)
  have q0:=rL (n:=n1) (k:=3) (by decide);have q1:=se (n:=n1) (k:=3) (by decide)
  generalize n1 % 3=q at*
  obtain⟨e',h1,hI⟩:=a' (own:=[]) (g:=ag 4) (f:=e6) (SK W q) (W.ties.map bS) 0 [some (.l (d1.map .int)),some (.d (au W)),some (.l []),some (.d (.int q)),none,none] (fun i x e hx hI=>by
    obtain⟨hd,hl,hs⟩:=hI
    rename_i ds ws v4 v5
    rw [Nat.zero_add] at*
    have il:=(List.getElem?_eq_some_iff.mp hx).1
    rw [List.length_map] at il
    obtain⟨n,d2,t2,a2, -,hd2⟩:=gQ hd
    obtain⟨ta,ba,ca,oa⟩:=iW n 1 a2
    obtain⟨tb,bb,cb,ob⟩:=iW n 0 a2
    obtain⟨tc,bc,cc,oc⟩:=iW n 2 a2
    obtain⟨z,hz,az⟩:=gU (xs:=[PyData.tuple [.int ta,.int ba],.tuple [.int tb,.int bb],.tuple [.int tc,.int bc]]) (i:=q) q0 (by simpa using q1)
    obtain⟨f,rfl,hf⟩:∃f:Fr,z=dF f∧S1 7 f:=by
      simp only [List.mem_cons,List.not_mem_nil,or_false] at hz
      rcases hz with rfl | rfl | rfl
      · exact⟨(ta,ba),rfl,uG oa⟩
      · exact⟨(tb,bb),rfl,uG ob⟩
      · exact⟨(tc,bc),rfl,uG oc⟩
    refine⟨[some (.l (ds.map .int)),some (.d (au W)),some (.l (ws.map dF)),some (.d (.int q)),some (.d x),v5],[some (.l (d2.map .int)),some (.d (au W)),some (.l ((ws++[f]).map dF)),some (.d (.int q)),some (.d x),some (.d (.int n))],rfl,?_,bh,.mk hd2 (by simp;lia) (fun g hg=>by
      rcases List.mem_append.mp hg with h | h
      · exact hs g h
      · simp at h;subst h;exact hf)⟩
    have ll:(ws.map dF).length < 1000000:=by simp;lia
    rw [List.map_append,List.map_cons,List.map_nil]
    generalize dF f=F at*
    generalize ws.map dF=WF at*
    generalize au W=WW at*
    simp? [e6,t2,ca,cb,cc,az,ll]) (SK.mk (ws:=[]) hd1 rfl fun f h=>by cases h)
  obtain⟨hd2,hl2,hs2⟩:=hI
  rename_i d2 ws v4 v5
  rw [Nat.zero_add,List.length_map] at hl2
  refine⟨ws,d2,?_,hd2,hl2,hs2⟩
  have hi:hJ [some (.l (d1.map .int)),some (.d (au W)),some (.l []),some (.d (.int q)),none,none]=some (W.ties.map bS,[],[some (.l (d1.map .int)),some (.d (au W)),some (.l []),some (.d (.int q)),none,none]):=by
    unfold hJ
    exact kf (by simp? [g1'])
  have hg:=fun Wl=>bO (W:=Wl) (g:=ag 4) (f:=e6) hi
  rw [h1] at hg
  generalize ws.map dF=WF at*
  generalize au W=WW at*
  simp? [f_,mX,t1,gm,hg]
theorem Ak{W:aW}(ok:W.Ok)(b:Bool):Sw b 64025 5 (au W):=by
  have t0:=ok.t0;have t1:=ok.t1;have a0:=ok.a0;have a1:=ok.a1;have wl:=ok.len;have pl:=ok.pl
  have T2:∀d∈W.ties.map bS,Sw b 1000 3 d:=fun d hd=>by
    obtain⟨t,ht,rfl⟩:=List.mem_map.mp hd
    have o:=ok.ties t ht
    have o0:=o.o0;have o1:=o.o1;have o2:=o.o2;have c0:=o.c0;have c1:=o.c1;have b1:=o.b1;have w0:=o.w0;have w1:=o.w1
    have hd:vn 2 (bS t)=true:=by
      simp only [bS,vn,lM,Bool.and_eq_true,decide_eq_true_eq,Nat.reducePow]
      exact⟨by decide,by lia,by lia,⟨by decide,by lia,by lia,trivial⟩,by lia,trivial⟩
    exact((oQ hd).swF rfl b).mono (by simp [bS,wt,l4]) (by decide)
  have T3:Sw b 16005 4 (.tuple (W.ties.map bS)):=Sw.tup (n:=1000) (dep:=3) (m:=16) T2 (by simpa using wl)
  have P1:Sw b 16005 4 (.tuple (W.pat.map .int)):=(Sw.ints (m:=12) (fun r hr=>by have:=ok.pat r hr;lia) (by lia)).mono (by decide) (by decide)
  have i1:Sw b 16005 4 (.int W.things):=(Sw.int (by lia)).mono (by decide) (by decide)
  have i2:Sw b 16005 4 (.int W.asks):=(Sw.int (by lia)).mono (by decide) (by decide)
  exact Sw.tup (n:=16005) (dep:=4) (m:=4) (fun d hd=>by
    simp only [List.mem_cons,List.not_mem_nil,or_false] at hd
    rcases hd with rfl | rfl | rfl | rfl
    · exact i1
    · exact T3
    · exact P1
    · exact i2) (by simp)
def BE(r:List Int):Int:=r.getD 1 0
def nA(key:Nat→Int)(n:Nat):List Int:=(cN ((List.range n).map fun i=>[key i,(i:Int)])).map BE
theorem kg(key:Nat→Int)(n:Nat):(nA key n).Perm ((List.range n).map fun(i:Nat)=>(i:Int)):=by
  have:=(List.mergeSort_perm ((List.range n).map fun i=>[key i,(i:Int)]) fun a b=>decide (a≤b)).map BE
  rw [List.map_map] at this
  exact this
theorem uS(rs:List (List Int)):(cN rs).Pairwise (· ≤·):=by
  have h2:=List.pairwise_mergeSort (le:=fun a b:List Int=>decide (a≤b)) (fun a b c h1 h2=>by simp only [decide_eq_true_eq] at*;exact List.le_trans h1 h2) (fun a b=>by simp only [Bool.or_eq_true,decide_eq_true_eq];exact List.le_total a b) rs
  exact h2.imp fun h=>by simpa using h
theorem zU{a b c d:Int}(h:[a,b]≤[c,d]):a < c∨a=c∧b≤d:=by
  rw [←List.not_lt,List.cons_lt_cons_iff,List.cons_lt_cons_iff] at h
  have n0:¬([]:List Int) < []:=List.lt_irrefl _
  by_cases x:a < c
  · exact .inl x
  · by_cases y:a=c
    · refine .inr ⟨y,?_⟩
      by_cases z:b≤d
      · exact z
      · exact absurd (.inr ⟨y.symm,.inl (by lia)⟩) h
    · exact absurd (.inl (by lia)) h
theorem yN(key:Nat→Int)(n:Nat):(nA key n).Pairwise fun a b=>key a.toNat < key b.toNat∨key a.toNat=key b.toNat∧a≤b:=by
  unfold nA
  rw [List.pairwise_map]
  have p:=List.mergeSort_perm ((List.range n).map fun i=>[key i,(i:Int)]) fun a b=>decide (a≤b)
  refine(uS _).imp_of_mem fun{a b} ha hb h=>?_
  obtain⟨i, -,rfl⟩:=List.mem_map.mp (p.mem_iff.mp ha)
  obtain⟨j, -,rfl⟩:=List.mem_map.mp (p.mem_iff.mp hb)
  have:=zU h
  show key ((i:Int)).toNat < key ((j:Int)).toNat∨key ((i:Int)).toNat=key ((j:Int)).toNat∧(i:Int)≤(j:Int)
  rw [Int.toNat_natCast,Int.toNat_natCast]
  exact this
def bE(fs:List Fr)(i:Nat):Fr:=fs.getD i (0,1)
def tP(fs:List Fr)(i:Nat):Int:=(bE fs i).1*(de fs / (bE fs i).2)
theorem ii{fs:List Fr}{i:Nat}(h:i < fs.length):bE fs i∈fs:=by
  unfold bE
  rw [List.getD_eq_getElem?_getD,List.getElem?_eq_getElem h]
  exact List.getElem_mem h
theorem pU{fs:List Fr}{i:Nat}{f:Fr}(h:fs[i]?=some f):bE fs i=f:=by
  unfold bE
  rw [List.getD_eq_getElem?_getD,h];rfl
theorem xb{x y p q:Int}(hp:0 < p)(hq:0 < q)(h:x*p=y*q):0 < x↔ 0 < y:=by
  constructor
  · intro hx
    have h1:=Int.mul_pos hx hp
    rcases Int.lt_or_le 0 y with z | z
    · exact z
    · have:=Int.mul_le_mul_of_nonneg_right z (Int.le_of_lt hq)
      lia
  · intro hy
    have h1:=Int.mul_pos hy hq
    rcases Int.lt_or_le 0 x with z | z
    · exact z
    · have:=Int.mul_le_mul_of_nonneg_right z (Int.le_of_lt hp)
      lia
theorem vT{fs:List Fr}{n:Nat}(h:∀f∈fs,FQ n f){i k:Nat}(hi:i < fs.length)(hk:k < fs.length):(bE fs i).1*(bE fs k).2 < (bE fs k).1*(bE fs i).2↔ tP fs i < tP fs k:=by
  have mi:=ii hi
  have mk:=ii hk
  unfold tP
  obtain⟨a,ha⟩:=fy mi
  obtain⟨b,hb⟩:=fy mk
  have pi:=(h _ mi).pos
  have pk:=(h _ mk).pos
  have pC:0 < de fs:=gJ fun f hf=>(h f hf).pos
  have ea:de fs / (bE fs i).2=a:=by rw [ha];exact Int.mul_ediv_cancel_left a (by lia)
  have eb:de fs / (bE fs k).2=b:=by rw [hb];exact Int.mul_ediv_cancel_left b (by lia)
  rw [ea,eb]
  generalize de fs=C at*
  generalize (bE fs i).1=x at*
  generalize (bE fs k).1=y at*
  generalize (bE fs i).2=u at*
  generalize (bE fs k).2=v at*
  have key:(y*u - x*v)*C=(y*b - x*a)*(u*v):=by
    have e1:y*b*(u*v)=y*u*(v*b):=by simp only [Int.mul_assoc,Int.mul_comm,Int.mul_left_comm]
    have e2:x*a*(u*v)=x*v*(u*a):=by simp only [Int.mul_assoc,Int.mul_comm,Int.mul_left_comm]
    rw [Int.sub_mul,Int.sub_mul,e1,e2,←hb,←ha]
  have:=xb pC (Int.mul_pos pi pk) key
  lia
theorem jM(fs:List Fr):ey 0 (fs.map dF)=(List.range fs.length).map fun(i:Nat)=>.tuple [.int (i:Int),dF (bE fs i)]:=by
  refine List.ext_getElem? fun i=>?_
  rw [gw,List.getElem?_map,List.getElem?_map]
  by_cases h:i < fs.length
  · have e:=pU (List.getElem?_eq_getElem h)
    rw [List.getElem?_range h,List.getElem?_eq_getElem h];simp [e]
  · rw [List.getElem?_eq_none (by lia),List.getElem?_eq_none (by simp;lia)];rfl
theorem nP:∀(l:List Fr) (f:Fr),de (l++[f])=de l*f.2
  | [],f=>by show f.2*1=1*f.2;lia
  | g::l,f=>by
    show g.2*de (l++[f])=g.2*de l*f.2
    rw [nP l f,Int.mul_assoc]
def cV(fs:List Fr):List (List Int):=(List.range fs.length).map fun i=>[-(tP fs i),(i:Int)]
theorem iM{key:Nat→Int}{n:Nat}{r:List Int}(h:r∈cN ((List.range n).map fun i=>[key i,(i:Int)])):∃i:Nat,r=[key i,(i:Int)]:=by
  obtain⟨i, -,e⟩:=List.mem_map.mp ((List.mergeSort_perm ((List.range n).map fun i=>[key i,(i:Int)]) fun a b=>decide (a≤b)).mem_iff.mp h)
  exact⟨i,e.symm⟩
def zZ:PyData→PyData
  | .tuple [_,d]=>d
  | _=>.none
theorem uQ{key:Nat→Int}{n:Nat}:((cN ((List.range n).map fun i=>[key i,(i:Int)])).map cB).map zZ=(nA key n).map .int:=by
  unfold nA
  rw [List.map_map,List.map_map]
  refine List.map_congr_left fun r hr=>?_
  obtain⟨i,rfl⟩:=iM hr
  rfl
theorem BS{fs:List Fr}(h:∀f∈fs,FQ 195 f)(hl:fs.length≤12):aG [.d (.tuple (fs.map dF))]=some (.l ((nA (fun i=> -(tP fs i)) fs.length).map .int),[.d (.tuple (fs.map dF))]):=by
  have bt:∀i,Bt 2700 (de (fs.take i)):=fun i=>(hX (n:=195) fun f hf=>(h f (List.mem_of_mem_take hf)).bot).mono (by rw [List.length_take];lia)
  obtain⟨e',h1,⟨v2,he⟩⟩:=a' (own:=[]) (g:=ag 2) (f:=bo) (fun i e=>∃v2,e=[some (.d (.tuple (fs.map dF))),some (.d (.int (de (fs.take i)))),v2,none]) (fs.map dF) 0 [some (.d (.tuple (fs.map dF))),some (.d (.int 1)),none,none] (fun i x e hx ⟨v2,he⟩=>by
    subst he
    rw [Nat.zero_add] at*
    rw [List.getElem?_map] at hx
    obtain⟨f,hf,rfl⟩:=Option.map_eq_some_iff.mp hx
    have gm:∀e:En,bG e (.d (.int (de (fs.take i)))) (.d (.int f.2))=some (.d (.int (de (fs.take i)*f.2))):=fun e=>a8 (d_ ((bt i).mono (by decide)) ((h f (List.mem_of_getElem? hf)).bot.mono (by decide)))
    refine⟨[some (.d (.tuple (fs.map dF))),some (.d (.int (de (fs.take i)))),some (.d (dF f)),none],[some (.d (.tuple (fs.map dF))),some (.d (.int (de (fs.take i)*f.2))),some (.d (dF f)),none],rfl,?_,bh,some (.d (dF f)),?_⟩
    · generalize de (fs.take i)=c at*
      generalize fs.map dF=FF at*
      unfold dF
      simp? [bo,gm]
    · have ek:de (fs.take (i+1))=de (fs.take i)*f.2:=by rw [List.take_succ,hf];exact nP _ _
      rw [ek]) ⟨none,rfl⟩
  rw [Nat.zero_add,List.length_map,List.take_length] at he
  subst he
  have hs1:∀Wl,cQ Wl cq (ag 2) bo [some (.d (.tuple (fs.map dF))),some (.d (.int 1)),none,none]=some (.nx [some (.d (.tuple (fs.map dF))),some (.d (.int (de fs))),v2,none]):=fun Wl=>by
    rw [bO (show cq _=_ from kf rfl)]
    exact h1
  have bC:Bt 2700 (de fs):=by have:=bt fs.length;rwa [List.take_length] at this
  have pC:0 < de fs:=gJ fun f hf=>(h f hf).pos
  obtain⟨t',_,hf⟩:=fg (cs:=[some (.d (.int (de fs)))]) (g:=cH (aE (ag 1) (aE (ag 2) bU))) (ft:=b_) (fe:=a7) (b:=fun _=>true) (y:=fun x=>match x with | .tuple [.int i,.tuple [.int a,.int b]]=>cB [-(a*(de fs / b)),i] | _=>.none) (u:=xw) 2 (ey 0 (fs.map dF)) [none,none] [] rfl (fun x hx t ht=>by
      rw [jM] at hx
      obtain⟨i,hi,rfl⟩:=List.mem_map.mp hx
      exact ym (cs:=[some (.d (.int (de fs)))]) rfl rfl rfl t ht) (fun x hx=>by
      rw [jM] at hx
      obtain⟨i,hi,rfl⟩:=List.mem_map.mp hx
      rfl) (fun x hx=>rfl) (fun x hx _=>by
      rw [jM] at hx
      obtain⟨i,hi,rfl⟩:=List.mem_map.mp hx
      have hf:=h _ (ii (List.mem_range.mp hi))
      have fp:=hf.pos
      have ft:=hf.top
      have fb:=hf.bot
      show a7 [some (.d (.int (de fs))),some (.d (.int (i:Int))),some (.d (dF (bE fs i)))]=some (.d (.tuple [.int (-((bE fs i).1*(de fs / (bE fs i).2))),.int (i:Int)]),[some (.d (.int (de fs))),some (.d (.int (i:Int))),some (.d (dF (bE fs i)))])
      have bq:Bt 2700 (de fs / (bE fs i).2):=bC.of_le (by
        have a1:0≤de fs / (bE fs i).2:=Int.ediv_nonneg (by lia) (by lia)
        have a2:de fs / (bE fs i).2≤de fs:=Int.ediv_le_self _ (by lia)
        lia)
      rw [←Int.neg_mul]
      have gd:∀e:En,dZ e (.d (.int (de fs))) (.d (.int (bE fs i).2))=some (.d (.int (de fs / (bE fs i).2))):=fun e=>dR fp (fb.mono (by decide))
      have gm:∀e:En,bG e (.d (.int (-(bE fs i).1))) (.d (.int (de fs / (bE fs i).2)))=some (.d (.int (-(bE fs i).1*(de fs / (bE fs i).2)))):=fun e=>a8 (d_ (Bt.mono (m:=195) (by unfold Bt at*;lia) (by decide)) (bq.mono (by decide)))
      have gn:∀e:En,sN e (.d (.int (bE fs i).1))=some (.d (.int (-(bE fs i).1))):=fun e=>kb
      unfold dF
      generalize de fs / (bE fs i).2=qq at*
      generalize de fs=c at*
      generalize (bE fs i).1=a at*
      generalize (bE fs i).2=b at*
      simp? [a7,gd,gm,gn]) (by simp [gy];lia)
  have hv:=dz (cp:=[(1,"common")]) (nT:=2) (fi:=cn) (g:=cH (aE (ag 1) (aE (ag 2) bU))) (ft:=b_) (fe:=a7) (cs:=[some (.d (.int (de fs)))]) (t:=[none,none]) (t':=t') (show cn [some (.d (.tuple (fs.map dF))),some (.d (.int (de fs))),v2,none]=some (ey 0 (fs.map dF),[],[some (.d (.tuple (fs.map dF))),some (.d (.int (de fs))),v2,none]) from rfl) rfl rfl hf
  have eo:[]++((ey 0 (fs.map dF)).filter fun _=>true).map (fun x=>match x with | .tuple [.int i,.tuple [.int a,.int b]]=>cB [-(a*(de fs / b)),i] | _=>.none)=(cV fs).map cB:=by
    rw [List.nil_append,List.filter_eq_self.mpr (fun _ _=>rfl),jM]
    unfold cV
    rw [List.map_map,List.map_map]
    rfl
  rw [eo] at hv
  have rne:∀r∈cV fs,r≠[]:=fun r hr=>by obtain⟨i, -,rfl⟩:=List.mem_map.mp hr;simp
  have rl:(cV fs).length < 64:=by simp [cV];lia
  obtain⟨t2,_,hf2⟩:=fg (cs:=[]) (g:=cH (aE (ag 0) (aE (ag 1) bU))) (ft:=b_) (fe:=aZ) (b:=fun _=>true) (y:=zZ) (u:=xw) 2 ((cN (cV fs)).map cB) [none,none] [] rfl (fun x hx t ht=>by
      obtain⟨r,hr,rfl⟩:=List.mem_map.mp hx
      obtain⟨i,rfl⟩:=iM hr
      exact ym (cs:=[]) rfl rfl rfl t ht) (fun x hx=>by
      obtain⟨r,hr,rfl⟩:=List.mem_map.mp hx
      obtain⟨i,rfl⟩:=iM hr
      rfl) (fun x hx=>rfl) (fun x hx _=>by
      obtain⟨r,hr,rfl⟩:=List.mem_map.mp hx
      obtain⟨i,rfl⟩:=iM hr
      show aZ [some (.d (.int (-(tP fs i)))),some (.d (.int (i:Int)))]=some (.d (.int (i:Int)),[some (.d (.int (-(tP fs i)))),some (.d (.int (i:Int)))])
      simp? [aZ]) (by
      have:=(List.mergeSort_perm (cV fs) fun a b=>decide (a≤b)).length_eq
      simp [cN,this];lia)
  have hi2:cm [some (.d (.tuple (fs.map dF))),some (.d (.int (de fs))),v2,some (.l ((cV fs).map cB))]=some ((cN (cV fs)).map cB,[],[some (.d (.tuple (fs.map dF))),some (.d (.int (de fs))),v2,some (.l ((cV fs).map cB))]):=by
    have gs:=sS (e:=[some (.d (.tuple (fs.map dF))),some (.d (.int (de fs))),v2,some (.l ((cV fs).map cB))]) (i:=3) (rs:=cV fs) rfl rne rl
    refine my ?_
    generalize (cN (cV fs)).map cB=SS at*
    generalize (cV fs).map cB=RR at*
    simp? [gs]
  have hv2:=dz (cp:=[]) (nT:=2) (fi:=cm) (g:=cH (aE (ag 0) (aE (ag 1) bU))) (ft:=b_) (fe:=aZ) (cs:=[]) (t:=[none,none]) (t':=t2) hi2 rfl rfl hf2
  rw [List.nil_append,List.filter_eq_self.mpr (fun _ _=>rfl),show((cN (cV fs)).map cB).map zZ=_ from uQ] at hv2
  generalize (nA (fun i=> -(tP fs i)) fs.length).map PyData.int=OUT at*
  generalize (cV fs).map cB=RR at*
  generalize fs.map dF=FF at*
  generalize de fs=c at*
  simp? [aG,eO,hs1,hv,hv2]
theorem rS{fs:List Fr}{k:Nat}(h:k < fs.length):atI (fs.map dF) (k:Int)=some (dF (bE fs k)):=by
  unfold atI Aq
  rw [List.length_map,if_pos (by lia),if_pos (by lia)]
  simp [pU (List.getElem?_eq_getElem h),h]
theorem Aa{fs:List Fr}(h:∀f∈fs,FQ 195 f){i k:Nat}(hi:i < fs.length)(hk:k < fs.length):fZ [.d (dF (bE fs i)),.d (dF (bE fs k))]=some (.d (.bool (decide (tP fs i < tP fs k))),[.d (dF (bE fs i)),.d (dF (bE fs k))]):=by
  have fi:=h _ (ii hi)
  have fk:=h _ (ii hk)
  have t:=uX (a:=bE fs i) (b:=bE fs k) (fi.top.mono (by decide)) (fi.bot.mono (by decide)) (fk.top.mono (by decide)) (fk.bot.mono (by decide))
  have e:decide ((bE fs i).1*(bE fs k).2 < (bE fs k).1*(bE fs i).2)=decide (tP fs i < tP fs k):=by
    have:=vT h hi hk
    by_cases c:tP fs i < tP fs k
    · rw [decide_eq_true c,decide_eq_true (this.mpr c)]
    · rw [decide_eq_false c,decide_eq_false fun z=>c (this.mp z)]
  rw [e] at t
  exact t
def Rb(t:Nat→Int)(a b:Int):Prop:=t b.toNat < t a.toNat∨t a.toNat=t b.toNat∧a≤b
def jE(fs:List Fr):List Int:=((List.range fs.length).filter fun i=>decide (0 < (bE fs i).1)).map fun(i:Nat)=>(i:Int)
def dB(fs:List Fr):List Int:=nA (fun i=> -(tP fs i)) fs.length
def eh(fs:List Fr):List Int:=(dB fs).filter fun i=>decide (0 < (bE fs i.toNat).1)
theorem kG{fs:List Fr}{x:Int}(h:x∈dB fs):0≤x∧x < fs.length:=by
  obtain⟨i,hi,rfl⟩:=List.mem_map.mp ((kg (fun i=> -(tP fs i)) fs.length).mem_iff.mp h)
  have:=List.mem_range.mp hi
  lia
theorem yH{fs:List Fr}{D:List Int}(pm:D.Perm (jE fs))(pw:D.Pairwise (Rb (tP fs))):D=eh fs:=by
  have p2:(eh fs).Perm (jE fs):=by
    have:=(kg (fun i=> -(tP fs i)) fs.length).filter fun i=>decide (0 < (bE fs i.toNat).1)
    rw [List.filter_map] at this
    exact this
  refine List.Perm.eq_of_pairwise (le:=Rb (tP fs)) (fun a b _ _ h1 h2=>by unfold Rb at*;lia) pw ?_ (pm.trans p2.symm)
  exact((yN (fun i=> -(tP fs i)) fs.length).imp fun{a b} h=>by unfold Rb;lia).filter _
structure xI (ws:List Fr) (L Fd:List Int):Prop where
  asc:L.Pairwise (· < ·)
  inn:∀x∈L,0≤x∧x < ws.length
  pm:(Fd++L).Perm (jE ws)
  pw:Fd.Pairwise (Rb (tP ws))
  fl:∀a∈Fd,∀b∈L,Rb (tP ws) a b
theorem xI.start(ws:List Fr):xI ws (jE ws) []:=by
  refine⟨?_,fun x hx=>?_,List.Perm.refl _,.nil,fun a ha=>by cases ha⟩
  · unfold jE
    rw [List.pairwise_map]
    exact(List.pairwise_lt_range.filter _).imp fun h=>by lia
  · obtain⟨i,hi,rfl⟩:=List.mem_map.mp hx
    have:=List.mem_range.mp (List.mem_filter.mp hi).1
    lia
theorem xI.step{ws:List Fr}{L Fd:List Int}(h:xI ws L Fd){b:Int}(hb:b∈L)(hr:∀x∈L,Rb (tP ws) b x):xI ws (L.erase b) (Fd++[b]):=by
  refine⟨h.asc.sublist (List.erase_sublist),fun x hx=>h.inn x (List.mem_of_mem_erase hx),?_,?_,fun a ha x hx=>?_⟩
  · rw [List.append_assoc]
    exact((List.perm_cons_erase hb).symm.append_left Fd).trans h.pm
  · rw [List.pairwise_append]
    exact⟨h.pw,by simp,fun a ha c hc=>by simp at hc;subst hc;exact h.fl a ha c hb⟩
  · rcases List.mem_append.mp ha with q | q
    · exact h.fl a q x (List.mem_of_mem_erase hx)
    · simp at q;subst q;exact hr x (List.mem_of_mem_erase hx)
theorem ij{fs:List Fr}{x:Int}(h0:0≤x)(h1:x < fs.length):atI (fs.map dF) x=some (dF (bE fs x.toNat)):=by
  have:=rS (fs:=fs) (k:=x.toNat) (by lia)
  rwa [Int.toNat_of_nonneg h0] at this
abbrev dk(W:aW)(ws:List Fr)(L Fd:List Int)(v4 v5:Option Sv):En:=[some (.d (au W)),some (.d (.tuple (ws.map dF))),some (.l (L.map .int)),some (.l (Fd.map .int)),v4,v5]
theorem qL{W:aW}{ws:List Fr}(h:∀f∈ws,FQ 195 f){L Fd:List Int}{b x:Int}(hb:0≤b∧b < ws.length)(hx:0≤x∧x < ws.length):gu (dk W ws L Fd (some (.d (.int b))) (some (.d (.int x))))=some (.nx (dk W ws L Fd (some (.d (.int (if tP ws b.toNat < tP ws x.toNat then x else b)))) (some (.d (.int x))))):=by
  have tl:=Aa h (i:=b.toNat) (k:=x.toNat) (by lia) (by lia)
  have a1:=ij hb.1 hb.2
  have a2:=ij hx.1 hx.2
  simp only [dk]
  generalize ws.map dF=FF at*
  generalize dF (bE ws b.toNat)=y1 at*
  generalize dF (bE ws x.toNat)=y2 at*
  generalize au W=WW at*
  by_cases c:tP ws b.toNat < tP ws x.toNat
  · rw [if_pos c]
    rw [decide_eq_true c] at tl
    simp? [gu,tl,a1,a2]
  · rw [if_neg c]
    rw [decide_eq_false c] at tl
    simp? [gu,tl,a1,a2]
theorem sd{W:aW}{ws:List Fr}(h:∀f∈ws,FQ 195 f){L Fd:List Int}(hS:xI ws L Fd)(hne:L≠[])(hl:Fd.length≤100){v4 v5:Option Sv}:∃b v5',jG (dk W ws L Fd v4 v5)=some (.nx (dk W ws (L.erase b) (Fd++[b]) (some (.d (.int b))) v5'))∧b∈L∧∀x∈L,Rb (tP ws) b x:=by
  obtain⟨a,r,rfl⟩:∃a r,L=a::r:=by
    cases L with
    | nil=>exact absurd rfl hne
    | cons a r=>exact⟨a,r,rfl⟩
  obtain⟨e',h1,⟨b,v5',he,hb,hr, -⟩⟩:=a' (own:=[(2,(a::r).map PyData.int)]) (g:=ag 5) (f:=gu) (fun i e=>∃b v5,e=dk W ws (a::r) Fd (some (.d (.int b))) v5∧b∈a::r∧(∀x∈(a::r).take i,Rb (tP ws) b x)∧(b∈(a::r).take i∨(i=0∧b=a))) ((a::r).map PyData.int) 0 (dk W ws (a::r) Fd (some (.d (.int a))) v5) (fun i y e hy ⟨b,v5,he,hb,hr,hpos⟩=>by
    subst he
    rw [Nat.zero_add] at*
    rw [List.getElem?_map] at hy
    obtain⟨x,hx,rfl⟩:=Option.map_eq_some_iff.mp hy
    have xm:x∈a::r:=List.mem_of_getElem? hx
    have bt:=qL (W:=W) h (L:=a::r) (Fd:=Fd) (hS.inn b hb) (hS.inn x xm)
    have et:(a::r).take (i+1)=(a::r).take i++[x]:=by rw [List.take_succ,hx];rfl
    refine⟨dk W ws (a::r) Fd (some (.d (.int b))) (some (.d (.int x))),_,rfl,bt,fun p hp=>by simp at hp;subst hp;rfl,_,_,rfl,?_⟩
    rw [et]
    by_cases c:tP ws b.toNat < tP ws x.toNat
    · rw [if_pos c]
      refine⟨xm,fun y hy=>?_,.inl (by simp)⟩
      rcases List.mem_append.mp hy with q | q
      · have:=hr y q
        unfold Rb at*
        lia
      · simp at q;subst q;unfold Rb;lia
    · rw [if_neg c]
      have bx:b≤x:=by
        rcases hpos with q | ⟨rfl,rfl⟩
        · have dr:x∈(a::r).drop i:=List.mem_of_getElem? (i:=0) (by rw [List.getElem?_drop];simpa using hx)
          have pw:=hS.asc
          rw [←List.take_append_drop i (a::r),List.pairwise_append] at pw
          exact Int.le_of_lt (pw.2.2 b q x dr)
        · simp at hx;lia
      refine⟨hb,fun y hy=>?_,.inl ?_⟩
      · rcases List.mem_append.mp hy with q | q
        · exact hr y q
        · simp at q;subst q;unfold Rb;lia
      · rcases hpos with q | ⟨rfl,rfl⟩
        · exact List.mem_append_left _ q
        · simp at hx;subst hx;simp) ⟨a,v5,rfl,by simp,fun x hx=>by simp at hx,.inr ⟨rfl,rfl⟩⟩
  rw [Nat.zero_add,List.length_map,List.take_length] at hr
  subst he
  refine⟨b,v5',?_,hb,hr⟩
  have hs:∀Wl,Wl.contains 2=false→cQ Wl mv (ag 5) gu (dk W ws (a::r) Fd (some (.d (.int a))) v5)=some (.nx (dk W ws (a::r) Fd (some (.d (.int b))) v5')):=fun Wl hw=>by
    unfold cQ
    rw [show mv (dk W ws (a::r) Fd (some (.d (.int a))) v5)=some ((a::r).map PyData.int,[(2,(a::r).map PyData.int)],dk W ws (a::r) Fd (some (.d (.int a))) v5) from rfl]
    simp only [Option.bind_some,List.all_cons,List.all_nil,hw]
    exact h1
  unfold jG
  refine(bF (e1:=dk W ws (a::r) Fd (some (.d (.int a))) v5) ?_).trans ?_
  · have a0:atI ((a::r).map PyData.int) 0=some (.int a):=by rw [List.map_cons,l9]
    simp only [dk]
    generalize (a::r).map PyData.int=LL at*
    simp? [a0]
  refine(bF (hs _ rfl)).trans ?_
  refine(bF (e1:=dk W ws ((a::r).erase b) Fd (some (.d (.int b))) v5') ?_).trans ?_
  · have rm:iH ((a::r).map .int) [.int b]=some (.none,((a::r).erase b).map .int):=by
      show((gS ((a::r).map .int)).bind fun ns=>if b∈ns then some (PyData.none,(ns.erase b).map PyData.int) else none)=_
      rw [gF]
      simp only [Option.bind_some]
      rw [if_pos hb]
    simp only [dk]
    generalize ((a::r).erase b).map PyData.int=L2 at*
    generalize (a::r).map PyData.int=LL at*
    simp? [rm]
  · have ll:Fd.length < 1000000:=by lia
    simp only [dk,List.map_append,List.map_cons,List.map_nil]
    generalize ((a::r).erase b).map PyData.int=L2 at*
    have ll':(Fd.map PyData.int).length < 1000000:=by rw [List.length_map];exact ll
    generalize Fd.map PyData.int=FD at*
    simp? [ll']
theorem BQ{W:aW}{ws:List Fr}(h:∀f∈ws,FQ 195 f)(hl:ws.length=W.ties.length)(h12:ws.length≤12):nF [.d (au W),.d (.tuple (ws.map dF))]=some (.d (.tuple ((eh ws).map .int)),[.d (au W),.d (.tuple (ws.map dF))]):=by
  have g1':=AR (W:=W)
  obtain⟨t',hf⟩:=bB (cs:=[some (.d (.tuple (ws.map dF)))]) (ft:=ik) (fe:=jL) (b:=fun x=>match x with | .int i=>decide (0 < (bE ws i.toNat).1) | _=>false) (y:=id) (aM 0 ws.length) none [] (fun x hx=>by
    obtain⟨k,hk,rfl⟩:=List.mem_map.mp hx
    have hk:=List.mem_range.mp hk
    rw [Int.zero_add]
    have a:=rS hk
    show ik [some (.d (.tuple (ws.map dF))),some (.d (.int (k:Int)))]=some (decide (0 < (bE ws ((k:Int)).toNat).1),[some (.d (.tuple (ws.map dF))),some (.d (.int (k:Int)))])
    rw [Int.toNat_natCast]
    unfold dF at*
    generalize (bE ws k).1=p at*
    generalize (bE ws k).2=q at*
    generalize ws.map (fun f=>PyData.tuple [.int f.1,.int f.2])=FF at*
    simp? [ik,a]) (fun x hx _=>by simp? [jL]) (by simp [dh];lia)
  have gl:∀e:En,g1 iy e [.d (.tuple (W.ties.map bS))]=some (.d (.int (ws.length:Int))):=fun e=>by
    show some (Rv.d (.int ((W.ties.map bS).length:Int)))=_
    rw [List.length_map,hl]
  have hi5:mw [some (.d (au W)),some (.d (.tuple (ws.map dF))),none,none,none,none]=some (aM 0 ws.length,[],[some (.d (au W)),some (.d (.tuple (ws.map dF))),none,none,none,none]):=by
    have:=ck (fs:=aa (aO (g1 iy) (aa (ap bf (ae 0) (vC (.int 1))) aj)) aj) (e:=[some (.d (au W)),some (.d (.tuple (ws.map dF))),none,none,none,none]) (e1:=[some (.d (au W)),some (.d (.tuple (ws.map dF))),none,none,none,none]) (n:=(ws.length:Int)) (by
      generalize W.ties.map bS=TT at*
      generalize (ws.length:Int)=nn at*
      generalize ws.map dF=FF at*
      generalize au W=WW at*
      simp? [g1',gl]) (by lia) (by lia)
    rw [Int.toNat_natCast] at this
    exact this
  have hv:=dz (cp:=[(1,"_law_shares_here")]) (nT:=1) (fi:=mw) (g:=ag 1) (ft:=ik) (fe:=jL) (cs:=[some (.d (.tuple (ws.map dF)))]) (t:=[none]) (t':=[t']) hi5 rfl rfl hf
  have eo:[]++((aM 0 ws.length).filter fun x=>match x with | .int i=>decide (0 < (bE ws i.toNat).1) | _=>false).map id=(jE ws).map .int:=by
    rw [List.nil_append,List.map_id]
    unfold aM jE
    rw [List.filter_map,List.map_map]
    have e1:(fun i:Nat=>PyData.int ((0:Int)+(i:Int)))=Function.comp PyData.int (fun i:Nat=>(i:Int)):=funext fun i=>by show PyData.int ((0:Int)+(i:Int))=PyData.int (i:Int);rw [Int.zero_add]
    rw [e1]
    rfl
  rw [eo] at hv
  have tst:∀L Fd v4 v5,jK (dk W ws L Fd v4 v5)=some (!L.isEmpty,dk W ws L Fd v4 v5):=fun L Fd v4 v5=>by
    have ge:=ng (e:=dk W ws L Fd v4 v5) (i:=2) (xs:=L.map .int) (neg:=true) rfl (jy L).1
    simp only [if_true,List.isEmpty_map] at ge
    simp only [dk] at ge ⊢
    generalize L.map PyData.int=LL at*
    generalize L.isEmpty=bb at*
    simp? [jK,ge]
  have lp:(jE ws).length≤12:=by
    unfold jE
    rw [List.length_map]
    have:=List.length_filter_le (fun i=>decide (0 < (bE ws i).1)) (List.range ws.length)
    simp at this
    lia
  obtain⟨e0,e',hw,⟨L,Fd,v4,v5,rfl,hS,hln⟩,hfin⟩:=ic (ft:=jK) (f:=jG) (fun e=>∃L Fd v4 v5,e=dk W ws L Fd v4 v5∧xI ws L Fd∧Fd.length+L.length=(jE ws).length) (lK 2) (fun e ⟨L,Fd,v4,v5,he,hS,hln⟩=>by
    subst he
    by_cases c:L=[]
    · subst c
      exact .inl ⟨_,tst _ _ _ _,trivial⟩
    · obtain⟨b,v5',hb,bm,br⟩:=sd (W:=W) h hS c (by lia) (v4:=v4) (v5:=v5)
      have le:=List.length_erase_of_mem bm
      have lpos:0 < L.length:=List.length_pos_of_mem bm
      refine .inr ⟨_,_,(by rw [tst];simp [c]),hb,⟨_,_,_,_,rfl,hS.step bm br,by simp;lia⟩,?_⟩
      have l1:∀L Fd v4 v5,lK 2 (dk W ws L Fd v4 v5)=L.length:=fun L Fd v4 v5=>by simp [dk,lK]
      rw [l1,l1,le]
      lia) (2 ^ 4200) (dk W ws (jE ws) [] none none) ⟨_,_,_,_,rfl,xI.start ws,by simp⟩ (mD (m:=20) (by simp [dk,lK];lia) (by decide))
  rw [tst] at hfin
  have hL:L=[]:=by
    cases L with
    | nil=>rfl
    | cons a r=>simp at hfin
  subst hL
  simp at hfin
  subst hfin
  have pm:=hS.pm
  rw [List.append_nil] at pm
  have ed:=yH pm hS.pw
  rw [ed] at hw
  simp only [dk,List.map_nil] at hw
  generalize (eh ws).map PyData.int=OUT at*
  generalize (jE ws).map PyData.int=LL at*
  generalize ws.map dF=FF at*
  generalize au W=WW at*
  simp? [nF,xJ,hv,h_,hw]
theorem CN{n:Nat}{f:Fr}(h:S1 n f):FQ n f:=⟨h.low.pos,h.top,h.bt⟩
theorem AM{b:Bool}{f:Fr}(h:FQ 250 f):Sw b 600 3 (dF f):=(Sw.tup (n:=253) (dep:=2) (m:=2) (fun d hd=>by
  simp only [List.mem_cons,List.not_mem_nil,or_false] at hd
  rcases hd with rfl | rfl
  · exact(Sz.intB h.top (by decide) (by decide)).sw b
  · exact(Sz.intB h.bot (by decide) (by decide)).sw b) (by simp)).mono (by decide) (by decide)
theorem yJ{b:Bool}{L:List Fr}(h:∀f∈L,FQ 250 f)(hl:L.length≤16):Sw b 20000 4 (.tuple (L.map dF)):=(Sw.tup (n:=600) (dep:=3) (m:=16) (fun d hd=>by
  obtain⟨f,hf,rfl⟩:=List.mem_map.mp hd
  exact AM (h f hf)) (by simpa using hl)).mono (by decide) (by decide)
theorem nU{D:List Int}(hl:D.length≤16)(hd:∀r∈D,0≤r∧r < 16):i7 [.d (.tuple (D.map .int)),.d (.tuple (D.map .int))]=some (.d (.bool true),[.d (.tuple (D.map .int)),.d (.tuple (D.map .int))]):=by
  have hz:Sz (16*4+3) 4 (.tuple (D.map .int)):=Sz.ints hl hd
  have r:∀e,g1 fW e [.d (.tuple (D.map .int))]=some (.d (.str (PyData.tuple (D.map .int)).shown)):=fun e=>qd (hz.ok (by decide) (by decide))
  have q:∀e,c9 false e (.d (.str (PyData.tuple (D.map .int)).shown)) (.d (.str (PyData.tuple (D.map .int)).shown))=some (.d (.bool true)):=fun e=>vK hz.so
  generalize PyData.tuple (D.map .int)=D at*
  simp? [i7,rW,r,q]
theorem jP(fs:List Fr):(dB fs).length=fs.length:=by
  unfold dB
  have:=(kg (fun i=> -(tP fs i)) fs.length).length_eq
  simpa using this
theorem ox{W:aW}{ws:List Fr}(h:∀f∈ws,FQ 195 f)(h12:ws.length≤12):dw [.d (au W),.d (.tuple (ws.map dF))]=some (.d (.tuple ((eh ws).map .int)),[.d (au W),.d (.tuple (ws.map dF))]):=by
  have tg:=BS h h12
  have ol:=jP ws
  obtain⟨t',hf⟩:=bB (cs:=[some (.d (.tuple (ws.map dF)))]) (ft:=bR) (fe:=dm) (b:=fun x=>match x with | .int i=>decide (0 < (bE ws i.toNat).1) | _=>false) (y:=id) ((dB ws).map .int) none [] (fun x hx=>by
    obtain⟨k,hk,rfl⟩:=List.mem_map.mp hx
    obtain⟨k0,k1⟩:=kG hk
    have a:=ij k0 k1
    show bR [some (.d (.tuple (ws.map dF))),some (.d (.int k))]=some (decide (0 < (bE ws k.toNat).1),[some (.d (.tuple (ws.map dF))),some (.d (.int k))])
    unfold dF at*
    generalize (bE ws k.toNat).1=p at*
    generalize (bE ws k.toNat).2=q at*
    generalize ws.map (fun f=>PyData.tuple [.int f.1,.int f.2])=FF at*
    simp? [bR,a]) (fun x hx _=>by simp? [dm]) (by simp;lia)
  change aG [.d (.tuple (ws.map dF))]=some (.l ((dB ws).map .int),[.d (.tuple (ws.map dF))]) at tg
  have hi:eI [some (.d (au W)),some (.d (.tuple (ws.map dF)))]=some ((dB ws).map .int,[],[some (.d (au W)),some (.d (.tuple (ws.map dF)))]):=my (by
    generalize (dB ws).map PyData.int=OO at*
    generalize ws.map dF=FF at*
    simp? [tg])
  have hv:=dz (cp:=[(1,"shares")]) (nT:=1) (fi:=eI) (g:=ag 1) (ft:=bR) (fe:=dm) (cs:=[some (.d (.tuple (ws.map dF)))]) (t:=[none]) (t':=[t']) hi rfl rfl hf
  have eo:[]++(((dB ws).map .int).filter fun x=>match x with | .int i=>decide (0 < (bE ws i.toNat).1) | _=>false).map id=(eh ws).map PyData.int:=by
    rw [List.nil_append,List.map_id,List.filter_map]
    rfl
  rw [eo] at hv
  generalize (eh ws).map PyData.int=OUT at*
  generalize ws.map dF=FF at*
  simp? [dw,jn,hv]
def hZ(ws:List Fr)(rs:List Int)(i:Int):Bool:=decide (rs.getD i.toNat 0 < (bE ws i.toNat).1)
theorem pM{W:aW}{ws:List Fr}(h:∀f∈ws,FQ 195 f)(h12:ws.length≤12){rs:List Int}(hr:rs.length=ws.length):d9 [.d (au W),.d (.tuple (ws.map dF)),.d (.tuple (rs.map .int))]=some (.d (.tuple (((dB ws).filter (hZ ws rs)).map .int)),[.d (au W),.d (.tuple (ws.map dF)),.d (.tuple (rs.map .int))]):=by
  have tg:=BS h h12
  have ol:=jP ws
  obtain⟨t',hf⟩:=bB (cs:=[some (.d (.tuple (rs.map .int))),some (.d (.tuple (ws.map dF)))]) (ft:=cF) (fe:=dJ) (b:=fun x=>match x with | .int i=>hZ ws rs i | _=>false) (y:=id) ((dB ws).map .int) none [] (fun x hx=>by
    obtain⟨k,hk,rfl⟩:=List.mem_map.mp hx
    obtain⟨k0,k1⟩:=kG hk
    have a:=ij k0 k1
    have a2:=fQ (ns:=rs) k0 (by lia)
    show cF [some (.d (.tuple (rs.map .int))),some (.d (.tuple (ws.map dF))),some (.d (.int k))]=some (decide (rs.getD k.toNat 0 < (bE ws k.toNat).1),[some (.d (.tuple (rs.map .int))),some (.d (.tuple (ws.map dF))),some (.d (.int k))])
    unfold dF at*
    generalize rs.getD k.toNat 0=r at*
    generalize (bE ws k.toNat).1=p at*
    generalize (bE ws k.toNat).2=q at*
    generalize ws.map (fun f=>PyData.tuple [.int f.1,.int f.2])=FF at*
    generalize rs.map PyData.int=RR at*
    simp? [cF,a,a2]) (fun x hx _=>by simp? [dJ]) (by simp;lia)
  change aG [.d (.tuple (ws.map dF))]=some (.l ((dB ws).map .int),[.d (.tuple (ws.map dF))]) at tg
  have hi:fm [some (.d (au W)),some (.d (.tuple (ws.map dF))),some (.d (.tuple (rs.map .int)))]=some ((dB ws).map .int,[],[some (.d (au W)),some (.d (.tuple (ws.map dF))),some (.d (.tuple (rs.map .int)))]):=my (by
    generalize (dB ws).map PyData.int=OO at*
    generalize ws.map dF=FF at*
    generalize rs.map PyData.int=RR at*
    simp? [tg])
  have hv:=dz (cp:=[(2,"rolls"),(1,"shares")]) (nT:=1) (fi:=fm) (g:=ag 2) (ft:=cF) (fe:=dJ) (cs:=[some (.d (.tuple (rs.map .int))),some (.d (.tuple (ws.map dF)))]) (t:=[none]) (t':=[t']) hi rfl rfl hf
  have eo:[]++(((dB ws).map .int).filter fun x=>match x with | .int i=>hZ ws rs i | _=>false).map id=((dB ws).filter (hZ ws rs)).map PyData.int:=by
    rw [List.nil_append,List.map_id,List.filter_map]
    rfl
  rw [eo] at hv
  generalize ((dB ws).filter (hZ ws rs)).map PyData.int=OUT at*
  generalize ws.map dF=FF at*
  generalize rs.map PyData.int=RR at*
  simp? [d9,jZ,hv]
theorem rq{ws:List Fr}{rs:List Int}(h0:∀r∈rs,0≤r):(eh ws).filter (hZ ws rs)=(dB ws).filter (hZ ws rs):=by
  unfold eh
  rw [List.filter_filter]
  refine List.filter_congr fun i _=>?_
  unfold hZ
  have g0:0≤rs.getD i.toNat 0:=by
    rw [List.getD_eq_getElem?_getD]
    cases q:rs[i.toNat]? with
    | none=>exact Int.le_refl _
    | some r=>exact h0 r (List.mem_of_getElem? q)
  by_cases c:rs.getD i.toNat 0 < (bE ws i.toNat).1
  · rw [decide_eq_true c,decide_eq_true (show 0 < (bE ws i.toNat).1 by lia)];rfl
  · rw [decide_eq_false c];rfl
abbrev eQ(ns ds:List Int)(v2:Option Sv)(W:aW)(ws:List Fr)(v6 v7 v8 v9:Option Sv):En:=[some (.d (.list (ns.map .int))),some (.l (ds.map .int)),v2,some (.d (au W)),some (.d (.tuple (ws.map dF))),some (.d (.tuple ((eh ws).map .int))),v6,v7,v8,v9]
def rF(ei:En)(o:Option Nat)(s:Option Sv):Option Sv:=match s with
  | some (.l xs)=>match o with
    | some k=>(ei[k]?).join
    | none=>some (.l xs)
  | s=>s
theorem Af(ei:En)(s:Option Sv):rF ei none s=s:=by
  unfold rF
  split<;>rfl
theorem pI{ns ds:List Int}{v2:Option Sv}{W:aW}{ws:List Fr}(h:∀f∈ws,FQ 195 f)(h12:ws.length≤12){way:Int}(w0:0≤way)(w1:way < 3){v6 v8 v9:Option Sv}(hd:fL ds):∃(ds' rs:List Int),bA [(7,"_law_way"),(1,"_law_drawn")] 1 Cw (ag 2) b_ B7 (eQ ns ds v2 W ws v6 (some (.d (.int way))) v8 v9)=some (.l (rs.map .int),eQ ns ds' v2 W ws v6 (some (.d (.int way))) v8 v9)∧fL ds'∧rs.length=ws.length∧∀r∈rs,0≤r:=by
  obtain⟨out,e',h1,h2,h3,⟨ds',v,he,hd'⟩⟩:=lA (g:=ag 2) (ft:=b_) (fe:=B7) (fun i e=>∃ds v,e=[some (.d (.int way)),some (.l (ds.map .int)),v]∧fL ds) (fun d=>∃r:Int,d=.int r∧0≤r) (ws.map dF) 0 [some (.d (.int way)),some (.l (ds.map .int)),none] [] (fun i x e hx ⟨ds,v,he,hd⟩=>by
    subst he
    rw [List.getElem?_map] at hx
    obtain⟨f,hf,rfl⟩:=Option.map_eq_some_iff.mp hx
    have fp:=(h f (List.mem_of_getElem? hf)).pos
    obtain⟨n,d1,t1,a1, -,hd1⟩:=gQ hd
    have gm:∀e:En,aT e (.d (.int n)) (.d (.int f.2))=some (.d (.int (n % f.2))):=fun e=>aI fp
    obtain⟨z,hz,az⟩:=gU (xs:=[PyData.int (n % f.2),.int 0,.int (f.2 - 1)]) (i:=way) w0 (by simpa using w1)
    obtain⟨r,rfl,r0⟩:∃r:Int,z=.int r∧0≤r:=by
      simp only [List.mem_cons,List.not_mem_nil,or_false] at hz
      rcases hz with rfl | rfl | rfl
      · exact⟨_,rfl,rL fp⟩
      · exact⟨_,rfl,by decide⟩
      · exact⟨_,rfl,by lia⟩
    refine⟨_,.d (.int r),.int r,_,rfl,rfl,?_,rfl,⟨r,rfl,r0⟩,d1,some (.d (dF f)),rfl,hd1⟩
    unfold dF
    generalize n % f.2=q at*
    generalize f.1=p1 at*
    generalize f.2=p2 at*
    simp? [B7,t1,gm,az]) ⟨ds,none,rfl,hd⟩ (by simp;lia)
  subst he
  rw [List.nil_append] at h1
  obtain⟨rs,rfl,r0⟩:∃rs:List Int,out=rs.map .int∧∀r∈rs,0≤r:=by
    clear h1 h2
    induction out with
    | nil=>exact⟨[],rfl,fun r hr=>by cases hr⟩
    | cons d out ih=>
      obtain⟨r,rfl,hr⟩:=h3 d (by simp)
      obtain⟨rs,rfl,hrs⟩:=ih fun d hd=>h3 d (by simp [hd])
      exact⟨r::rs,rfl,fun x hx=>(List.mem_cons.mp hx).elim (fun z=>z ▸ hr) (hrs x)⟩
  refine⟨ds',rs,?_,hd',by simpa using h2,r0⟩
  rw [rG (cp:=[(7,"_law_way"),(1,"_law_drawn")]) (nT:=1) (fi:=Cw) (e:=eQ ns ds v2 W ws v6 (some (.d (.int way))) v8 v9) (e1:=eQ ns ds v2 W ws v6 (some (.d (.int way))) v8 v9) (items:=ws.map dF) (kf rfl) h1 rfl]
  refine congrArg (fun z=>some (Rv.l (rs.map .int),z)) ?_
  have u:jj (jb [(7,"_law_way"),(1,"_law_drawn")]) [some (.d (.int way)),some (.l (ds'.map .int)),v] (eQ ns ds v2 W ws v6 (some (.d (.int way))) v8 v9)=[some (.d (.list (ns.map .int))),some (.l (ds'.map .int)),rF [] none v2,some (.d (au W)),some (.d (.tuple (ws.map dF))),some (.d (.tuple ((eh ws).map .int))),rF [] none v6,some (.d (.int way)),rF [] none v8,rF [] none v9]:=rfl
  simp only [Af] at u
  exact u
theorem vf{ns ds:List Int}{v2:Option Sv}{W:aW}{ws:List Fr}(h:∀f∈ws,FQ 195 f)(h12:ws.length≤12){way:Int}(w0:0≤way)(w1:way < 3){v6 v8 v9:Option Sv}(hd:fL ds):∃ds' v8' v9',AF (eQ ns ds v2 W ws v6 (some (.d (.int way))) v8 v9)=some (.nx (eQ ns ds' v2 W ws v6 (some (.d (.int way))) v8' v9'))∧fL ds':=by
  obtain⟨ds',rs,hv,hd',hl,r0⟩:=pI (ns:=ns) (v2:=v2) (W:=W) h h12 w0 w1 (v6:=v6) (v8:=v8) (v9:=v9) hd
  have br:=pM (W:=W) h h12 hl
  have ol:=jP ws
  have ip:∀x∈eh ws,0≤x∧x < ws.length:=fun x hx=>kG (List.mem_filter.mp hx).1
  have lp:(eh ws).length≤12:=by
    have:=List.length_filter_le (fun i=>decide (0 < (bE ws i.toNat).1)) (dB ws)
    unfold eh
    lia
  obtain⟨t',hf⟩:=bB (cs:=[some (.l (rs.map .int)),some (.d (.tuple (ws.map dF)))]) (ft:=AJ) (fe:=B6) (b:=fun x=>match x with | .int i=>hZ ws rs i | _=>false) (y:=id) ((eh ws).map .int) none [] (fun x hx=>by
    obtain⟨k,hk,rfl⟩:=List.mem_map.mp hx
    obtain⟨k0,k1⟩:=ip k hk
    have a:=ij k0 k1
    have a2:=fQ (ns:=rs) k0 (by lia)
    show AJ [some (.l (rs.map .int)),some (.d (.tuple (ws.map dF))),some (.d (.int k))]=some (decide (rs.getD k.toNat 0 < (bE ws k.toNat).1),[some (.l (rs.map .int)),some (.d (.tuple (ws.map dF))),some (.d (.int k))])
    unfold dF at*
    generalize rs.getD k.toNat 0=r at*
    generalize (bE ws k.toNat).1=p at*
    generalize (bE ws k.toNat).2=q at*
    generalize ws.map (fun f=>PyData.tuple [.int f.1,.int f.2])=FF at*
    generalize rs.map PyData.int=RR at*
    simp? [AJ,a,a2]) (fun x hx _=>by simp? [B6]) (by simp;lia)
  have hv2:=dz (cp:=[(8,"_law_rolls"),(4,"_law_shares_here")]) (nT:=1) (fi:=Da) (g:=ag 2) (ft:=AJ) (fe:=B6) (e:=eQ ns ds' v2 W ws v6 (some (.d (.int way))) (some (.l (rs.map .int))) v9) (e1:=eQ ns ds' v2 W ws v6 (some (.d (.int way))) (some (.l (rs.map .int))) v9) (cs:=[some (.l (rs.map .int)),some (.d (.tuple (ws.map dF)))]) (t:=[none]) (t':=[t']) (kf rfl) rfl rfl hf
  have eo:[]++(((eh ws).map .int).filter fun x=>match x with | .int i=>hZ ws rs i | _=>false).map id=((dB ws).filter (hZ ws rs)).map PyData.int:=by
    rw [List.nil_append,List.map_id,List.filter_map,←rq r0]
    rfl
  rw [eo] at hv2
  have lq:=List.length_filter_le (hZ ws rs) (dB ws)
  have sm:=nU (D:=(dB ws).filter (hZ ws rs)) (by lia) (fun r hr=>by have:=kG (List.mem_filter.mp hr).1;lia)
  refine⟨ds',some (.l (rs.map .int)),some (.d (.tuple (((dB ws).filter (hZ ws rs)).map .int))),?_,hd'⟩
  unfold AF
  refine(bF (e1:=eQ ns ds' v2 W ws v6 (some (.d (.int way))) (some (.l (rs.map .int))) v9) ?_).trans ?_
  · simp only [eQ] at hv ⊢
    generalize (eh ws).map PyData.int=OP at*
    generalize rs.map PyData.int=RR at*
    generalize ws.map dF=FF at*
    generalize au W=WW at*
    simp? [hv]
  · simp only [eQ] at hv2 ⊢
    generalize ((dB ws).filter (hZ ws rs)).map PyData.int=OUT at*
    generalize (eh ws).map PyData.int=OP at*
    generalize rs.map PyData.int=RR at*
    generalize ws.map dF=FF at*
    generalize au W=WW at*
    simp? [hv2,br,sm]
inductive LI (ns:List Int):En→Prop
  | mk {ds v2 v3 v4 v5 v6 v7 v8 v9} (hd:fL ds):LI ns [some (.d (.list (ns.map .int))),some (.l (ds.map .int)),v2,v3,v4,v5,v6,v7,v8,v9]
theorem tu{ns ds:List Int}{v2 v3 v4 v5 v6 v7 v8 v9:Option Sv}(hd:fL ds):∃e2,AG [some (.d (.list (ns.map .int))),some (.l (ds.map .int)),v2,v3,v4,v5,v6,v7,v8,v9]=some (.nx e2)∧LI ns e2:=by
  obtain⟨W,d1,tw,hd1,ok, -,tl⟩:=BV ds 8 12 hd (by decide) (by decide) (by decide) (by decide)
  have wl:=ok.len
  obtain⟨w0,d2,t2,hd2,hl0,hs0⟩:=va ok hd1
  obtain⟨ws,t3,h3,l3, -⟩:=u_ ok (n:=6) hs0 hl0 (by lia) (by decide)
  have hq:∀f∈ws,FQ 195 f:=fun f hf=>CN (h3 f hf)
  have h12:ws.length≤12:=by lia
  have td:=BQ (W:=W) hq l3 h12
  have tb:=ox (W:=W) hq h12
  have ol:=jP ws
  have lp:(eh ws).length≤12:=by
    have:=List.length_filter_le (fun i=>decide (0 < (bE ws i.toNat).1)) (dB ws)
    unfold eh
    lia
  have sm:=nU (D:=eh ws) (by lia) (fun r hr=>by have:=kG (List.mem_filter.mp hr).1;lia)
  have sA:Sw true (2*100000+5) 7 (.tuple [au W,.tuple (ws.map dF)]):=Sw.tup (n:=100000) (dep:=6) (m:=2) (fun x hx=>by
    simp only [List.mem_cons,List.not_mem_nil,or_false] at hx
    rcases hx with rfl | rfl
    · exact(Ak ok true).mono (by decide) (by decide)
    · exact(yJ (fun f hf=>(hq f hf).mono (by decide)) (by lia)).mono (by decide) (by decide)) (by simp)
  have gr:=sA.repr (by decide) (by decide)
  have ge:=fun e=>sC (e:=e) sA.so
  obtain⟨SH,hSH⟩:∃SH,SH=(PyData.tuple [au W,.tuple (ws.map dF)]).shown:=⟨_,rfl⟩
  rw [←hSH] at gr ge
  obtain⟨e3,h4,⟨d3,u7,u8,u9,he,hd3⟩⟩:=a' (own:=[]) (g:=ag 7) (f:=AF) (fun _ e=>∃ds v7 v8 v9,e=eQ ns ds v2 W ws (some (.d (.str SH))) v7 v8 v9∧fL ds) (aM 0 3) 0 (eQ ns d2 v2 W ws (some (.d (.str SH))) v7 v8 v9) (fun i x e hx ⟨ds,v7,v8,v9,he,hd⟩=>by
    subst he
    obtain⟨rfl,hi⟩:=cv hx
    obtain⟨d,w8,w9,k1,k2⟩:=vf (ns:=ns) (v2:=v2) (W:=W) hq h12 (way:=(0:Int)+(i:Int)) (by lia) (by lia) (v6:=some (.d (.str SH))) (v8:=v8) (v9:=v9) hd
    exact⟨_,_,rfl,k1,bh,_,_,_,_,rfl,k2⟩) ⟨_,_,_,_,rfl,hd2⟩
  subst he
  have hf:∀Wl,cQ Wl Cy (ag 7) AF (eQ ns d2 v2 W ws (some (.d (.str SH))) v7 v8 v9)=some (.nx (eQ ns d3 v2 W ws (some (.d (.str SH))) u7 u8 u9)):=fun Wl=>by
    rw [bO (show Cy (eQ ns d2 v2 W ws (some (.d (.str SH))) v7 v8 v9)=some (aM 0 3,[],eQ ns d2 v2 W ws (some (.d (.str SH))) v7 v8 v9) from rfl)]
    exact h4
  refine⟨eQ ns d3 v2 W ws (some (.d (.str SH))) u7 u8 u9,?_,.mk hd3⟩
  simp only [eQ] at hf ⊢
  generalize (eh ws).map PyData.int=OP at*
  generalize ws.map dF=FF at*
  generalize w0.map dF=F0 at*
  generalize au W=WW at*
  simp? [AG,tw,t2,t3,td,tb,sm,gr,ge,hf]
theorem tj(ns:List Int)(hl:ns.length≤63):∃as',ko [.d (.list (ns.map .int))]=some (.d (.bool true),as'):=by
  obtain⟨ds,td,hd⟩:=xq ns hl
  obtain⟨e2,h1,hI⟩:=a' (own:=[]) (g:=ag 2) (f:=AG) (fun _=>LI ns) (aM 0 4) 0 [some (.d (.list (ns.map .int))),some (.l (ds.map .int)),none,none,none,none,none,none,none,none] (fun i x e hx hI=>by
    obtain⟨hd⟩:=hI
    rename_i ds v2 v3 v4 v5 v6 v7 v8 v9
    obtain⟨e2,k1,k2⟩:=tu (ns:=ns) (v2:=some (.d x)) (v3:=v3) (v4:=v4) (v5:=v5) (v6:=v6) (v7:=v7) (v8:=v8) (v9:=v9) hd
    exact⟨_,e2,rfl,k1,bh,k2⟩) (.mk hd)
  obtain⟨hd2⟩:=hI
  have hfor:=fun Wl=>bO (W:=Wl) (g:=ag 2) (f:=AG) (show Dc [some (.d (.list (ns.map .int))),some (.l (ds.map .int)),none,none,none,none,none,none,none,none]=some (aM 0 4,[],[some (.d (.list (ns.map .int))),some (.l (ds.map .int)),none,none,none,none,none,none,none,none]) from rfl)
  rw [h1] at hfor
  simp? [ko,xO,td,hfor]
def kE(P:Params)(k:Str)(t:Tok)(v:Value):DictEntry:=⟨PyData.keyHash P k,.str k t,v⟩
def kF(n:Str)(s:Stmt)(doc pm:Value)(c:Addr):Obj:=⟨.type "function",none,.func (W.fnOf n n (cG s) (bL s) (ah s) .none .none doc pm none (.ref c) .none),#[]⟩
def kI(n:Int):Value:=.int n 0
def kC(n:Str)(a:Nat)(l:List Value)(z:Nat):Obj:=⟨.type "code",none,.fields (Value.str n a::Value.str n (a+1)::Value.str "/claim/cut.py" (a+2)::l++[Value.str "/claim/cut.py" z]).toArray,#[]⟩
def Dd:Value:=.str "askedpairs.fractions" 187
def B9:Value:=.str "askedpairs.bounds" 195
def fv:Value:=.str "law_askedpairs_k52_orders_by_shares" 209
def kK(P:Params):W.Frag:=[(3,⟨.type "dict",none,.dict (List.toArray [kE P "__name__" 165 (.str "law_askedpairs_k52_orders_by_shares" 209),kE P "__doc__" 166 (.none),kE P "__package__" 167 (.none),kE P "__loader__" 168 (.builtin "__main__.__loader__#opaque"),kE P "__spec__" 169 (.none),kE P "__annotations__" 170 (.ref 6),kE P "__builtins__" 171 (.ref 4),kE P "__file__" 173 (.str "/claim/cut.py" 172),kE P "__cached__" 174 (.none),kE P "greatest_first" 194 (.ref 19),kE P "by_shares" 202 (.ref 24),kE P "by_rolls" 208 (.ref 29),kE P "_law_mixed" 219 (.ref 36),kE P "_law_draws" 230 (.ref 43),kE P "_law_next" 237 (.ref 50),kE P "_law_gcd" 245 (.ref 57),kE P "_law_low" 254 (.ref 64),kE P "_law_plus" 262 (.ref 71),kE P "_law_times" 270 (.ref 78),kE P "_law_less" 278 (.ref 85),kE P "_law_same" 286 (.ref 92),kE P "_law_chance" 295 (.ref 99),kE P "_law_worth" 303 (.ref 106),kE P "_law_ties" 322 (.ref 113),kE P "_law_web" 338 (.ref 120),kE P "_law_sum" 347 (.ref 127),kE P "_law_loads" 353 (.ref 132),kE P "_law_scaled" 359 (.ref 137),kE P "_law_shares" 371 (.ref 144),kE P "_law_due" 377 (.ref 149),kE P "law" 383 (.ref 154)]) 31,#[]⟩),
  (19,kF "greatest_first" aK (.none) Dd 18),
  (18,kC "greatest_first" 189 [kI 2,kI 1,kI 0,kI 0,kI 3,.ref 15,.bool true,kI 181,.ref 16,.none,.none,.none,.ref 17,kI 192,kI 2] 193),
  (24,kF "by_shares" cx (.none) B9 23),
  (23,kC "by_shares" 197 [kI 9,kI 2,kI 0,kI 0,kI 3,.ref 20,.bool true,kI 181,.ref 21,.none,.none,.none,.ref 22,kI 200,kI 9] 201),
  (29,kF "by_rolls" di (.none) B9 28),
  (28,kC "by_rolls" 203 [kI 11,kI 3,kI 0,kI 0,kI 3,.ref 25,.bool true,kI 181,.ref 26,.none,.none,.none,.ref 27,kI 206,kI 11] 207),
  (36,kF "_law_mixed" iP (.none) fv 35),
  (35,kC "_law_mixed" 211 [kI 14,kI 2,kI 0,kI 0,kI 3,.ref 30,.bool true,kI 181,.ref 31,.none,.ref 32,.ref 33,.ref 34,kI 217,kI 14] 218),
  (43,kF "_law_draws" iO (.none) fv 42),
  (42,kC "_law_draws" 220 [kI 17,kI 1,kI 0,kI 0,kI 3,.ref 37,.bool true,kI 181,.ref 38,.none,.ref 39,.ref 40,.ref 41,kI 228,kI 17] 229),
  (50,kF "_law_next" gf (.none) fv 49),
  (49,kC "_law_next" 231 [kI 30,kI 1,kI 0,kI 0,kI 3,.ref 44,.bool true,kI 181,.ref 45,.none,.ref 46,.ref 47,.ref 48,kI 235,kI 30] 236),
  (57,kF "_law_gcd" nW (.none) fv 56),
  (56,kC "_law_gcd" 238 [kI 34,kI 2,kI 0,kI 0,kI 3,.ref 51,.bool true,kI 181,.ref 52,.none,.ref 53,.ref 54,.ref 55,kI 243,kI 34] 244),
  (64,kF "_law_low" jw (.none) fv 63),
  (63,kC "_law_low" 246 [kI 38,kI 2,kI 0,kI 0,kI 3,.ref 58,.bool true,kI 181,.ref 59,.none,.ref 60,.ref 61,.ref 62,kI 252,kI 38] 253),
  (71,kF "_law_plus" kR (.none) fv 70),
  (70,kC "_law_plus" 255 [kI 41,kI 2,kI 0,kI 0,kI 3,.ref 65,.bool true,kI 181,.ref 66,.none,.ref 67,.ref 68,.ref 69,kI 260,kI 41] 261),
  (78,kF "_law_times" iQ (.none) fv 77),
  (77,kC "_law_times" 263 [kI 43,kI 2,kI 0,kI 0,kI 3,.ref 72,.bool true,kI 181,.ref 73,.none,.ref 74,.ref 75,.ref 76,kI 268,kI 43] 269),
  (85,kF "_law_less" jg (.none) fv 84),
  (84,kC "_law_less" 271 [kI 45,kI 2,kI 0,kI 0,kI 3,.ref 79,.bool true,kI 181,.ref 80,.none,.ref 81,.ref 82,.ref 83,kI 276,kI 45] 277),
  (92,kF "_law_same" kS (.none) fv 91),
  (91,kC "_law_same" 279 [kI 47,kI 2,kI 0,kI 0,kI 3,.ref 86,.bool true,kI 181,.ref 87,.none,.ref 88,.ref 89,.ref 90,kI 284,kI 47] 285),
  (99,kF "_law_chance" eU (.none) fv 98),
  (98,kC "_law_chance" 287 [kI 49,kI 2,kI 0,kI 0,kI 3,.ref 93,.bool true,kI 181,.ref 94,.none,.ref 95,.ref 96,.ref 97,kI 293,kI 49] 294),
  (106,kF "_law_worth" iR (.none) fv 105),
  (105,kC "_law_worth" 296 [kI 59,kI 2,kI 0,kI 0,kI 3,.ref 100,.bool true,kI 181,.ref 101,.none,.ref 102,.ref 103,.ref 104,kI 301,kI 59] 302),
  (113,kF "_law_ties" kT (.none) fv 112),
  (112,kC "_law_ties" 304 [kI 61,kI 3,kI 0,kI 0,kI 3,.ref 107,.bool true,kI 181,.ref 108,.none,.ref 109,.ref 110,.ref 111,kI 320,kI 61] 321),
  (120,kF "_law_web" nY (.none) fv 119),
  (119,kC "_law_web" 323 [kI 76,kI 3,kI 0,kI 0,kI 3,.ref 114,.bool true,kI 181,.ref 115,.none,.ref 116,.ref 117,.ref 118,kI 336,kI 76] 337),
  (127,kF "_law_sum" nX (.none) fv 126),
  (126,kC "_law_sum" 339 [kI 86,kI 1,kI 0,kI 0,kI 3,.ref 121,.bool true,kI 181,.ref 122,.none,.ref 123,.ref 124,.ref 125,kI 345,kI 86] 346),
  (132,kF "_law_loads" eE (.none) fv 131),
  (131,kC "_law_loads" 348 [kI 91,kI 2,kI 0,kI 0,kI 3,.ref 128,.bool true,kI 181,.ref 129,.none,.none,.none,.ref 130,kI 351,kI 91] 352),
  (137,kF "_law_scaled" eV (.none) fv 136),
  (136,kC "_law_scaled" 354 [kI 98,kI 2,kI 0,kI 0,kI 3,.ref 133,.bool true,kI 181,.ref 134,.none,.none,.none,.ref 135,kI 357,kI 98] 358),
  (144,kF "_law_shares" gh (.none) fv 143),
  (143,kC "_law_shares" 360 [kI 108,kI 2,kI 0,kI 0,kI 3,.ref 138,.bool true,kI 181,.ref 139,.none,.ref 140,.ref 141,.ref 142,kI 369,kI 108] 370),
  (149,kF "_law_due" lR (.none) fv 148),
  (148,kC "_law_due" 372 [kI 115,kI 2,kI 0,kI 0,kI 3,.ref 145,.bool true,kI 181,.ref 146,.none,.none,.none,.ref 147,kI 375,kI 115] 376),
  (154,kF "law" iS (.none) fv 153),
  (153,kC "law" 378 [kI 126,kI 1,kI 0,kI 0,kI 3,.ref 150,.bool true,kI 181,.ref 151,.none,.none,.none,.ref 152,kI 381,kI 126] 382)]
def kA:List Addr:=[3,19,18,24,23,29,28,36,35,43,42,50,49,57,56,64,63,71,70,78,77,85,84,92,91,99,98,106,105,113,112,120,119,127,126,132,131,137,136,144,143,149,148,154,153]
def kq:Program:={PySem.Challenge.pw_askedpairs_k52_orders_by_shares with main:={PySem.Challenge.pw_askedpairs_k52_orders_by_shares.main with body:=[top 1,top 3,top 4,top 6,top 7,top 8,top 9,top 10,top 11,top 12,top 13,top 14,top 15,top 16,top 17,top 18,top 19,top 20,top 21,top 22,top 23,top 24]}}
def kH:W.Hook:=W.kHook kK kA (fun _=>by kernel_rfl)
theorem left:W.LeftO PySem.Challenge.pw_askedpairs_k52_orders_by_shares kq [] (fun s=>W.xlAt kq [] s&&W.recOk (W.RowW.records (W.OpenRow.toRowW (W.OpenLaw.row PySem.Challenge.rw_askedpairs_k52_orders_by_shares))) s) (W.Hook.obs kH) (W.Hook.val kH) 1502:=fun w=>by kernel_rfl
theorem A4{P:List Value→Prop}(h:∀a0,P [a0]):∀us:List Value,us.length=1→P us:=fun us e=>match us,e with | [a0],_=>h a0
theorem qg{P:List Value→Prop}(h:∀a0 a1,P [a0,a1]):∀us:List Value,us.length=2→P us:=fun us e=>match us,e with | [a0,a1],_=>h a0 a1
theorem CF{P:List Value→Prop}(h:∀a0 a1 a2,P [a0,a1,a2]):∀us:List Value,us.length=3→P us:=fun us e=>match us,e with | [a0,a1,a2],_=>h a0 a1 a2
theorem hm{w:World}{h:Heap}{mg:Str→Option Value}{n:Str}{s:Stmt}{a:Addr}{ps:List Str}(c:Addr)(d p:Value)(X:(kK w.params).In h)(G:h.Ns mainGlobals mg)
    (e:(W.nsIn (kK w.params) mainGlobals n,List.lookup a (kK w.params),W.codeIn (kK w.params) (.ref c) n,W.keepIn (kK w.params) (.ref a))=(some (some (.ref a)),some (kF n s d p c),true,true))
    (b:∀(kV doc pm:Value) (an:Option Addr) (cdv ct:Value) (us:List Value),us.length=ps.length→bindArgs (W.fnOf n n (cG s) (bL s) (ah s) .none kV doc pm an cdv ct) ⟨us,[]⟩=pure (ps.zip us)):
    bj (kK w.params) mg n s a (W.fnOf n n (cG s) (bL s) (ah s) .none .none d p none (.ref c) .none) ps:=yM X G (congrArg (·.1) e) (congrArg (·.2.1) e) (congrArg (·.2.2.1) e) (congrArg (·.2.2.2) e) b
theorem all_mk{l:W.OpenLaw}{w:World}{h:Heap}{mg:Str→Option Value}{fa:Addr}(X:(kK w.params).In h)(G:h.Ns mainGlobals mg)(hfa:mg "law"=some (.ref fa)):
    ∃fd:FuncData,(∀(s:Shared) (v:Value),BindsTo s fd ⟨[v],[]⟩ [("_law_script",v)])∧∀base:Heap,(kK w.params).In base→base.Ns mainGlobals mg→aJ l.prog w (kK w.params) mg base cw 7 fa fd ["_law_script"] (cC (kK w.params) 1 ko):=by
  have e:=hfa.symm.trans (W.mg_of X G (show W.nsIn (kK w.params) mainGlobals "law"=some (some (.ref 154)) by kernel_rfl))
  cases e
  have T:jW mg:=⟨W.mg_none_of X G (show W.nsIn (kK w.params) mainGlobals "abs"=some none by kernel_rfl),W.mg_none_of X G (show W.nsIn (kK w.params) mainGlobals "len"=some none by kernel_rfl),W.mg_none_of X G (show W.nsIn (kK w.params) mainGlobals "min"=some none by kernel_rfl),W.mg_none_of X G (show W.nsIn (kK w.params) mainGlobals "max"=some none by kernel_rfl),W.mg_none_of X G (show W.nsIn (kK w.params) mainGlobals "range"=some none by kernel_rfl),W.mg_none_of X G (show W.nsIn (kK w.params) mainGlobals "repr"=some none by kernel_rfl),W.mg_none_of X G (show W.nsIn (kK w.params) mainGlobals "tuple"=some none by kernel_rfl),W.mg_none_of X G (show W.nsIn (kK w.params) mainGlobals "int"=some none by kernel_rfl),W.mg_none_of X G (show W.nsIn (kK w.params) mainGlobals "sorted"=some none by kernel_rfl),W.mg_none_of X G (show W.nsIn (kK w.params) mainGlobals "zip"=some none by kernel_rfl),W.mg_none_of X G (show W.nsIn (kK w.params) mainGlobals "enumerate"=some none by kernel_rfl)⟩
  have h_greatest_first:bj (kK w.params) mg "greatest_first" aK 19 _ ["row"]:=hm 18 (.none) Dd X G (by kernel_rfl) fun _ _ _ _ _ _=>A4 fun _=>rfl
  have h_by_shares:bj (kK w.params) mg "by_shares" cx 24 _ ["web","shares"]:=hm 23 (.none) B9 X G (by kernel_rfl) fun _ _ _ _ _ _=>qg fun _ _=>rfl
  have h_by_rolls:bj (kK w.params) mg "by_rolls" di 29 _ ["web","shares","rolls"]:=hm 28 (.none) B9 X G (by kernel_rfl) fun _ _ _ _ _ _=>CF fun _ _ _=>rfl
  have hLmixed:bj (kK w.params) mg "_law_mixed" iP 36 _ ["_law_cell","_law_k"]:=hm 35 (.none) fv X G (by kernel_rfl) fun _ _ _ _ _ _=>qg fun _ _=>rfl
  have hLdraws:bj (kK w.params) mg "_law_draws" iO 43 _ ["_law_script"]:=hm 42 (.none) fv X G (by kernel_rfl) fun _ _ _ _ _ _=>A4 fun _=>rfl
  have hLnext:bj (kK w.params) mg "_law_next" gf 50 _ ["_law_drawn"]:=hm 49 (.none) fv X G (by kernel_rfl) fun _ _ _ _ _ _=>A4 fun _=>rfl
  have hLgcd:bj (kK w.params) mg "_law_gcd" nW 57 _ ["_law_one","_law_other"]:=hm 56 (.none) fv X G (by kernel_rfl) fun _ _ _ _ _ _=>qg fun _ _=>rfl
  have hLlow:bj (kK w.params) mg "_law_low" jw 64 _ ["_law_top","_law_bottom"]:=hm 63 (.none) fv X G (by kernel_rfl) fun _ _ _ _ _ _=>qg fun _ _=>rfl
  have hLplus:bj (kK w.params) mg "_law_plus" kR 71 _ ["_law_one","_law_other"]:=hm 70 (.none) fv X G (by kernel_rfl) fun _ _ _ _ _ _=>qg fun _ _=>rfl
  have hLtimes:bj (kK w.params) mg "_law_times" iQ 78 _ ["_law_one","_law_other"]:=hm 77 (.none) fv X G (by kernel_rfl) fun _ _ _ _ _ _=>qg fun _ _=>rfl
  have hLless:bj (kK w.params) mg "_law_less" jg 85 _ ["_law_one","_law_other"]:=hm 84 (.none) fv X G (by kernel_rfl) fun _ _ _ _ _ _=>qg fun _ _=>rfl
  have hLsame:bj (kK w.params) mg "_law_same" kS 92 _ ["_law_found","_law_due_here"]:=hm 91 (.none) fv X G (by kernel_rfl) fun _ _ _ _ _ _=>qg fun _ _=>rfl
  have hLchance:bj (kK w.params) mg "_law_chance" eU 99 _ ["_law_number","_law_kind"]:=hm 98 (.none) fv X G (by kernel_rfl) fun _ _ _ _ _ _=>qg fun _ _=>rfl
  have hLworth:bj (kK w.params) mg "_law_worth" iR 106 _ ["_law_number","_law_kind"]:=hm 105 (.none) fv X G (by kernel_rfl) fun _ _ _ _ _ _=>qg fun _ _=>rfl
  have hLties:bj (kK w.params) mg "_law_ties" kT 113 _ ["_law_drawn","_law_things","_law_many"]:=hm 112 (.none) fv X G (by kernel_rfl) fun _ _ _ _ _ _=>CF fun _ _ _=>rfl
  have hLweb:bj (kK w.params) mg "_law_web" nY 120 _ ["_law_drawn","_law_most","_law_ties_here"]:=hm 119 (.none) fv X G (by kernel_rfl) fun _ _ _ _ _ _=>CF fun _ _ _=>rfl
  have hLsum:bj (kK w.params) mg "_law_sum" nX 127 _ ["_law_rows"]:=hm 126 (.none) fv X G (by kernel_rfl) fun _ _ _ _ _ _=>A4 fun _=>rfl
  have hLloads:bj (kK w.params) mg "_law_loads" eE 132 _ ["_law_web_here","_law_shares_here"]:=hm 131 (.none) fv X G (by kernel_rfl) fun _ _ _ _ _ _=>qg fun _ _=>rfl
  have hLscaled:bj (kK w.params) mg "_law_scaled" eV 137 _ ["_law_web_here","_law_shares_here"]:=hm 136 (.none) fv X G (by kernel_rfl) fun _ _ _ _ _ _=>qg fun _ _=>rfl
  have hLshares:bj (kK w.params) mg "_law_shares" gh 144 _ ["_law_drawn","_law_web_here"]:=hm 143 (.none) fv X G (by kernel_rfl) fun _ _ _ _ _ _=>qg fun _ _=>rfl
  have hLdue:bj (kK w.params) mg "_law_due" lR 149 _ ["_law_web_here","_law_shares_here"]:=hm 148 (.none) fv X G (by kernel_rfl) fun _ _ _ _ _ _=>qg fun _ _=>rfl
  have h_law:bj (kK w.params) mg "law" iS 154 _ ["_law_script"]:=hm 153 (.none) fv X G (by kernel_rfl) fun _ _ _ _ _ _=>A4 fun _=>rfl
  refine⟨W.fnOf "law" "law" (cG iS) (bL iS) (ah iS) .none .none (.none) fv none (.ref 153) .none,fun s v=>.of_eq rfl,fun base _ _=>?_⟩
  have G_greatest_first:=iI (P:=l.prog) (w:=w) (base:=base) h_greatest_first T
  have G_by_shares:=mF (P:=l.prog) (w:=w) (base:=base) h_by_shares T h_greatest_first G_greatest_first
  have G_by_rolls:=nM (P:=l.prog) (w:=w) (base:=base) h_by_rolls T h_greatest_first G_greatest_first
  have GLmixed:=tS (P:=l.prog) (w:=w) (base:=base) hLmixed T
  have GLdraws:=tQ (P:=l.prog) (w:=w) (base:=base) hLdraws T hLmixed GLmixed
  have GLnext:=v0 (P:=l.prog) (w:=w) (base:=base) hLnext T
  have GLgcd:=y0 (P:=l.prog) (w:=w) (base:=base) hLgcd T
  have GLlow:=y3 (P:=l.prog) (w:=w) (base:=base) hLlow T hLgcd GLgcd
  have GLplus:=v_ (P:=l.prog) (w:=w) (base:=base) hLplus T hLlow GLlow
  have GLtimes:=tT (P:=l.prog) (w:=w) (base:=base) hLtimes T hLlow GLlow
  have GLless:=vZ (P:=l.prog) (w:=w) (base:=base) hLless T
  have GLsame:=wa (P:=l.prog) (w:=w) (base:=base) hLsame T
  have GLchance:=rf (P:=l.prog) (w:=w) (base:=base) hLchance T hLlow GLlow
  have GLworth:=tU (P:=l.prog) (w:=w) (base:=base) hLworth T
  have GLties:=wb (P:=l.prog) (w:=w) (base:=base) hLties T hLnext GLnext hLchance GLchance hLworth GLworth
  have GLweb:=y6 (P:=l.prog) (w:=w) (base:=base) hLweb T hLties GLties hLnext GLnext
  have GLsum:=y4 (P:=l.prog) (w:=w) (base:=base) hLsum T hLplus GLplus
  have GLloads:=tR (P:=l.prog) (w:=w) (base:=base) hLloads T hLsum GLsum hLtimes GLtimes
  have GLscaled:=rg (P:=l.prog) (w:=w) (base:=base) hLscaled T hLloads GLloads hLless GLless hLlow GLlow
  have GLshares:=rh (P:=l.prog) (w:=w) (base:=base) hLshares T hLnext GLnext hLchance GLchance
  have GLdue:=yZ (P:=l.prog) (w:=w) (base:=base) hLdue T hLless GLless
  have G_law:=y8 (P:=l.prog) (w:=w) (base:=base) h_law T hLdraws GLdraws hLweb GLweb hLscaled GLscaled hLdue GLdue hLshares GLshares hLsame GLsame h_by_shares G_by_shares h_by_rolls G_by_rolls hLnext GLnext
  exact G_law
def BF(K:W.Frag):Sp:=fun vs H Q _=>∃(a:Addr) (ns:List Int),vs=[.ref a]∧fH K H a (ns.map V.int)∧ns.length≤63∧∀H',Q (.bl true) H'
theorem yU{K:W.Frag}{vs:List V}{H:Hp}{Q:VK}{E:XK}(h:BF K vs H Q E):cC K 1 ko vs H Q E:=by
  obtain⟨a,ns,rfl,hS,hl,q⟩:=h
  obtain⟨as',hm⟩:=tj ns hl
  exact pL hS hm q
theorem walk{l:W.OpenLaw}{q:Program}{loose:List Str}{XP:(Str→Option Value)→Heap→Prop}{YP:World→Heap→Prop}{d:DefRec}{K:Params→W.Frag}(hn:l.most=some 63)(hdf:d.params.defaults=[])
    (hY:∀(w:World) (h:Heap),YP w h→(K w.params).In h)
    (F:∀(w:World) (mg:Str→Option Value) (fa:Addr) (h:Heap),(K w.params).In h→h.Ns mainGlobals mg→mg d.name=some (.ref fa)→
      ∃fd:FuncData,(∀(s:Shared) (u:Value),BindsTo s fd ⟨[u],[]⟩ [("_law_script",u)])∧∀base:Heap,(K w.params).In base→base.Ns mainGlobals mg→aJ l.prog w (K w.params) mg base cw 7 fa fd ["_law_script"] (cC (K w.params) 1 ko)):
    W.WalkO q loose XP YP l.row.toRowW d [] (fun f vs=>PySem.call f vs):=
  L2.walk_of (n:=63) (k:=7) (x:="_law_script") (CX:=fun _=>cw) (sp:=fun w=>cC (K w.params) 1 ko) hn (by decide) hdf ⟨rfl,by decide,by decide,rfl⟩ hY F (fun _ _ a ns hl _ hS=>yU ⟨a,ns,rfl,hS,hl,fun _=>rfl⟩) fun _ _ _ _ _ z=>z
end V52
open PySem PySem.W PyProof.Rows
set_option maxRecDepth 100000 in
set_option maxHeartbeats 0 in
theorem PySem.Challenge.cw_askedpairs_k52_orders_by_shares_holds : PySem.Challenge.rw_askedpairs_k52_orders_by_shares.Holds := by
  w_on;o_law
  refine holds_open (q:=V52.kq) (loose:=[]) (Xt:=fun s=>xlAt V52.kq [] s&&recOk (RowW.records (OpenRow.toRowW (OpenLaw.row PySem.Challenge.rw_askedpairs_k52_orders_by_shares))) s) (XP:=XL V52.kq []) (Yf:=Hook.obs V52.kH) (Ya:=Hook.val V52.kH) (YP:=Hook.says V52.kH) (N:=1502) V52.left (Hook.of V52.kH) (Hook.keeps V52.kH) (fun s e=>xl_of s (Bool.and_eq_true_iff.mp e).1) XL.keeps (by rfl) (by rfl) (by rfl) (fun s e=>recFacts_of (Bool.and_eq_true_iff.mp e).2) (by rfl) (by assumption) (by decide+kernel) ⟨rfl,rfl,rfl,rfl,rfl,by decide+kernel⟩ ?hw ?hc
  case hw=>w_witness2
  case hc=>exact V52.walk (l:=PySem.Challenge.rw_askedpairs_k52_orders_by_shares) rfl rfl (fun w h Y=>kIn_of Y) (fun w mg fa h KX G hmg=>V52.all_mk KX G hmg)
