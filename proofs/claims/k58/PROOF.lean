import PyProof.Rows.All
import Wide.All
import OpenK.AllK
import Wide.FinOn
import Lean
import PyProof.EqAt
import PyProof.EqKinds
import PyProof.TupleCall
import PyProof.ReprRoads
import PyProof.IsInstance
import PyProof.IsInstanceH
import PyProof.FitsBits
import PyProof.CompFree
import PyProof.Rows.SumAny
import PyProof.Rows.SortShell
import PyProof.Rows.TupAdd
import PyProof.NeKinds
import PyProof.ConsumeWalk
import PyProof.ZipIter
import PyProof.TupleIter
import PyProof.LayNew
import PyProof.Draws
import PyProof.EnumFor
import PyProof.EnumMake
import PyProof.ListRange
import PyProof.CollectIter
import KE.KRevIter
import PyProof.ListMulRoad
import PyProof.TupleOps
import PyProof.TupleOfStr
import PyProof.WalksMore
import PyProof.FactsAll.range_iterator
import PyProof.IsRules
import PyProof.CompUse
import PyProof.P3In
import PyProof.EqLayable
import KE.KIsAll
import PyProof.Rows.FactsN_isinstance
import PyProof.CallStr
import PyProof.Rows.StrWeight2
import PyProof.Rows.FStr
import PyProof.StrLawsRepr
import PyProof.Rows.SetFrom
import KE.KIntText
import KE.KRevSl
import PyProof.Rows.SeqMore2
import PySem.Challenge.RW_askedpairs_k58_charges_right_and_bent
set_option Elab.async false
set_option linter.all false
set_option maxRecDepth 100000
namespace L2
open PySem PySem.Spec PyProof.Rows
abbrev eJ:=Sum Int Str
def ki:eJ→Value→Bool
  | .inl k,v=>Value.isInt k v
  | .inr x,v=>Value.isStrOf x v
def Do(w:World):eJ→Int
  | .inl k=>hashInt k
  | .inr x=>hashStr w x
theorem bi:∀{k:eJ} {v:Value},ki k v=true→(∃i t,k=Sum.inl i∧v=Value.int i t)∨(∃x t,k=Sum.inr x∧v=Value.str x t)
  | .inl i,v,h=>by
    obtain⟨t,e⟩:=Value.isInt_shape (k:=i) (v:=v) h
    exact .inl ⟨i,t,rfl,e⟩
  | .inr x,v,h=>by
    obtain⟨t,e⟩:=Value.isStrOf_shape (x:=x) (v:=v) h
    exact .inr ⟨x,t,rfl,e⟩
theorem rE(i:Int)(t:Tok):ki (.inl i) (.int i t)=true:=by simp [ki,Value.isInt]
theorem rF(x:Str)(t:Tok):ki (.inr x) (.str x t)=true:=by simp [ki,Value.isStrOf]
theorem y0(a b:Int):decide ((Sum.inl a:eJ)=Sum.inl b)=(a==b):=by
  by_cases e:a=b
  · subst e;simp
  · have h:¬(Sum.inl a:eJ)=Sum.inl b:=fun q=>e (Sum.inl.inj q)
    rw [decide_eq_false h]
    exact(beq_eq_false_iff_ne.mpr e).symm
theorem y3(a b:Str):decide ((Sum.inr a:eJ)=Sum.inr b)=decide (a=b):=by
  by_cases e:a=b
  · subst e;simp
  · have h:¬(Sum.inr a:eJ)=Sum.inr b:=fun q=>e (Sum.inr.inj q)
    rw [decide_eq_false h,decide_eq_false e]
theorem y1(a:Int)(b:Str):decide ((Sum.inl a:eJ)=Sum.inr b)=false:=decide_eq_false (fun q=>nomatch q)
theorem y2(a:Str)(b:Int):decide ((Sum.inr a:eJ)=Sum.inl b)=false:=decide_eq_false (fun q=>nomatch q)
def cJ(prog:Program)(w:World):PySem.KeyKind prog w eJ where
  is:=ki
  hash:=Do w
  inj:=fun v a b ha hb=>by
    rcases bi ha with ⟨i,t,rfl,rfl⟩ | ⟨x,t,rfl,rfl⟩
    · rcases bi hb with ⟨j,u,rfl,e⟩ | ⟨y,u,rfl,e⟩
      · injection e with e1 _;rw [e1]
      · exact nomatch e
    · rcases bi hb with ⟨j,u,rfl,e⟩ | ⟨y,u,rfl,e⟩
      · exact nomatch e
      · injection e with e1 _;rw [e1]
  byValue:=fun k v h=>by
    rcases bi h with ⟨i,t,rfl,rfl⟩ | ⟨x,t,rfl,rfl⟩<;>rfl
  pyHash:=fun hv h=>by
    rcases bi hv with ⟨i,t,rfl,rfl⟩ | ⟨x,t,rfl,rfl⟩
    · exact wpAny_pyHash_int h
    · exact wpAny_pyHash_str h
  eqBool:=fun hu hv h=>by
    rcases bi hu with ⟨i,t,rfl,rfl⟩ | ⟨x,t,rfl,rfl⟩
    · rcases bi hv with ⟨j,u,rfl,rfl⟩ | ⟨y,u,rfl,rfl⟩
      · rw [y0] at h;exact wpAny_eqBool_int h
      · rw [y1] at h;exact SeqAt.EqAt.int_str i t y u _ _ _ _ h
    · rcases bi hv with ⟨j,u,rfl,rfl⟩ | ⟨y,u,rfl,rfl⟩
      · rw [y2] at h;exact SeqAt.EqAt.str_int x t j u _ _ _ _ h
      · rw [y3] at h;exact wpAny_eqBool_str h
  «strs»:=fun k x t v h=>by
    rcases bi h with ⟨i,u,rfl,e⟩ | ⟨y,u,rfl,e⟩
    · exact nomatch e
    · injection e with e1 _
      subst e1
      cases v<;>rfl
theorem oi(prog:Program)(w:World)(i:Int)(t:Tok):(cJ prog w).is (.inl i) (.int i t)=true:=rE i t
theorem oj(prog:Program)(w:World)(x:Str)(t:Tok):(cJ prog w).is (.inr x) (.str x t)=true:=rF x t
end L2
namespace L2
open PySem PySem.Spec PyProof.Rows
inductive V where
  | non | bl (b:Bool) | int (i:Int) | str (x:Str) | byt (b:Array UInt8) | flt (b:UInt64) | ref (a:Addr) | ty (n:String)
  deriving DecidableEq
def bj:V→Value→Prop
  | .non,u=>u=Value.none
  | .bl b,u=>u=Value.bool b
  | .int i,u=>∃t,u=Value.int i t
  | .str x,u=>∃t,u=Value.str x t
  | .byt b,u=>∃t,u=Value.bytes b t
  | .flt b,u=>∃t,u=Value.float b t
  | .ref a,u=>u=Value.ref a
  | .ty n,u=>u=Value.type n
abbrev aI:List V→List Value→Prop:=Paired bj
theorem aI.length{xs:List V}{us:List Value}(r:aI xs us):xs.length=us.length:=Paired.length r
theorem aI.get:∀{xs:List V} {us:List Value} {i:Nat} {x:V},aI xs us→xs[i]?=some x→∃u,us[i]?=some u∧bj x u
  | _,_,_,_,.nil,e=>by simp at e
  | _,_,0,_,.cons r _,e=>by simp at e;subst e;exact⟨_,rfl,r⟩
  | _,_,i+1,x,.cons _ t,e=>by
    obtain⟨u,h1,h2⟩:=aI.get (i:=i) (x:=x) t (by simpa using e)
    exact⟨u,by simpa using h1,h2⟩
theorem aI.append:∀{xs ys:List V} {us ws:List Value},aI xs us→aI ys ws→aI (xs++ys) (us++ws)
  | _,_,_,_,.nil,s=>s
  | _,_,_,_,.cons r t,s=>.cons r (aI.append t s)
theorem aI.take:∀{xs:List V} {us:List Value} (n:Nat),aI xs us→aI (xs.take n) (us.take n)
  | _,_,0,_=>.nil
  | _,_,_+1,.nil=>.nil
  | _,_,n+1,.cons r t=>.cons r (aI.take n t)
theorem aI.drop:∀{xs:List V} {us:List Value} (n:Nat),aI xs us→aI (xs.drop n) (us.drop n)
  | _,_,0,r=>r
  | _,_,_+1,.nil=>.nil
  | _,_,n+1,.cons _ t=>aI.drop n t
def A4:Option V→Option Value→Prop
  | some v,some u=>bj v u
  | none,none=>True
  | _,_=>False
def KV{κ:Type}:List (κ × V)→List (κ × Value)→Prop:=Paired fun(p:κ × V) (q:κ × Value)=>p.1=q.1∧bj p.2 q.2
def kV:eJ→V
  | .inl i=>.int i
  | .inr x=>.str x
inductive HO where
  /-- a list -/
  | lst (xs:List V)
  /-- a tuple (never changes) -/
  | tup (xs:List V)
  /-- a dict whose keys are ints and texts; one whose keys are tuples of ints and texts (the empty one is both) -/
  | dK (kvs:List (eJ × V)) | dT (kvs:List (List eJ × V))
  /-- a set of ints: its members, its size -/
  | set (S:Int→Bool) (n:Nat)
  /-- an instance of the class at C, its dict at dx, its attributes -/
  | ins (C dx:Addr) (fs:List (Str × V))
  /-- the dict of the instance at x -/
  | own (x:Addr)
  /-- the dict of an exception -/
  | xd (fs:List (Str × V))
  /-- a bound method, f of x -/
  | met (f x:Addr)
  /-- a range object lo, lo + 1, .. below hi -/
  | rng (lo hi:Int)
  /-- a thing that is known to the object (the script; a dict while a loop walks it): read, never written while it is so -/
  | frz (o:Obj) (u:HO)
  /-- a code object's table -/
  | tbl (ps:Array Value)
  /-- any other thing, by what is true of its one object (a def of one's own: SetO a S n := HO.ext fun h => ..) -/
  | ext (φ:Heap→Prop)
abbrev Hp:=Addr→Option HO
def aT(H:Hp)(a:Addr)(o:HO):Hp:=fun b=>if b=a then some o else H b
theorem ay{H:Hp}{a:Addr}{o:HO}:aT H a o a=some o:=by unfold aT;rw [if_pos rfl]
theorem aE{H:Hp}{a b:Addr}{o:HO}(h:b≠a):aT H a o b=H b:=by unfold aT;rw [if_neg h]
theorem c7{H:Hp}{a b:Addr}{o:HO}(h:H a=some o)(h':H b=none):a≠b:=by
  intro e;subst e;rw [h] at h';cases h'
def gY(h:Heap)(a:Addr)(items:Array Value):Prop:=∃o,h.get? a=some o∧o.cls=.type "tuple"∧∃n,o.data=.seq items n∧o.dict=none
theorem gY.tup{h:Heap}{a:Addr}{items:Array Value}(x:gY h a items):IsTup h a items:=let ⟨o,ho,hc,n,hd,_⟩:=x;⟨o,ho,hc,n,hd⟩
theorem gY.new(h:Heap)(items:Array Value):gY (h.push {cls:=.type "tuple",data:=.seq items}) h.objs.size items:=⟨_,Heap.get?_push_size _ rfl,rfl,_,rfl,rfl⟩
section
variable(P:Program)(w:World)
def cn(H:Hp)(h:Heap)(a:Addr):HO→Prop
  | .lst xs=>xs.length≤sizeLine∧∃(its:List Value) (n:Nat),aI xs its∧h.get? a=some {cls:=.type "list",data:=.seq its.toArray n}
  | .tup xs=>xs.length≤sizeLine∧∃its:List Value,aI xs its∧gY h a its.toArray
  | .dK kvs=>kvs.length≤sizeLine∧(a==sysModules)=false∧∃vs,KV kvs vs∧h.DictOf (cJ P w) a vs
  | .dT kvs=>kvs.length≤sizeLine∧(a==sysModules)=false∧∃xs:List (List eJ × Addr × Value),
      Paired (fun(p:List eJ × V) (q:List eJ × Addr × Value)=>p.1=q.1∧H q.2.1=some (.tup (p.1.map kV))∧bj p.2 q.2.2) kvs xs∧
      ∃o es ep,h.get? a=some o∧o.ExactDict∧o.data=.dict es ep∧es.toList=xs.map (entryOfKey (tupleKind (cJ P w)))∧(xs.map (·.1)).Nodup
  | .set S n=>h.SetOf (intKind P w) a S n
  | .ins C dx fs=>H dx=some (.own a)∧fs.length≤1000∧dx≠a∧h.get? a=some (PySem.W.instObj C dx)∧
      ∃mA,h.Ns1 dx mA∧(∀f,A4 (fs.lookup f) (mA f))∧PySem.Within mA (fs.map (·.1))
  | .own _=>∃o,h.get? a=some o
  | .xd fs=>∃mA,h.Ns1 a mA∧∀f,A4 (fs.lookup f) (mA f)
  | .rng lo hi=>∃t u v,h.get? a=some {cls:=.type "range",data:=.fields #[.int lo t,.int hi u,.int 1 v]}
  | .frz o u=>h.get? a=some o∧cn H h a u
  | .tbl ps=>h.get? a=some {cls:=.none,data:=.fields ps}
  | .met f x=>h.get? a=some (PySem.W.methodObj (.ref f) (.ref x))
  | .ext φ=>φ h∧(∃o,h.get? a=some o)∧∀h1 h2:Heap,φ h1→(∀o,h1.get? a=some o→h2.get? a=some o)→φ h2
def js(H:Hp)(h:Heap):Prop:=∀a o,H a=some o→cn P w H h a o
end
section
variable{P:Program}{w:World}{H H':Hp}{h h':Heap}{a:Addr}{o:HO}
theorem cn.lt(x:cn P w H h a o):a < h.objs.size:=by
  cases o with
  | lst xs=>obtain⟨_,_,_,_,e⟩:=x;exact Heap.lt_size e
  | tup xs=>obtain⟨_,_,_,p⟩:=x;exact p.tup.lt
  | dK kvs=>obtain⟨_,_,_,_,o,_,_,e,_⟩:=x;exact Heap.lt_size e
  | dT kvs=>obtain⟨_,_,_,_,o,_,_,e,_⟩:=x;exact Heap.lt_size e
  | set S n=>obtain⟨o,_,_,_,e,_⟩:=x;exact Heap.lt_size e
  | ins C dx fs=>obtain⟨_,_,_,e,_⟩:=x;exact Heap.lt_size e
  | own y=>obtain⟨_,e⟩:=x;exact Heap.lt_size e
  | xd fs=>obtain⟨_,⟨_,_,_,e,_⟩,_⟩:=x;exact Heap.lt_size e
  | rng lo hi=>obtain⟨_,_,_,e⟩:=x;exact Heap.lt_size e
  | frz ob u=>obtain⟨e,_⟩:=x;exact Heap.lt_size e
  | tbl ps=>exact Heap.lt_size (show h.get? a=some _ from x)
  | met f y=>exact Heap.lt_size (show h.get? a=some _ from x)
  | ext φ=>obtain⟨_,⟨_,e⟩,_⟩:=x;exact Heap.lt_size e
theorem Paired.mapP{α β:Type}{F G:α→β→Prop}:∀{l₁:List α} {l₂:List β},Paired F l₁ l₂→(∀a b,F a b→G a b)→Paired G l₁ l₂
  | _,_,.nil,_=>.nil
  | _,_,.cons r t,f=>.cons (f _ _ r) (Paired.mapP t f)
theorem cn.stay(x:cn P w H h a o)(k:∀b u,(b=a∨H b=some (.own a))→h.get? b=some u→h'.get? b=some u)
    (ho:∀b,H b=some (.own a)→H' b=some (.own a))(ht:∀b xs,H b=some (.tup xs)→H' b=some (.tup xs)):cn P w H' h' a o:=by
  induction o with
  | lst xs=>obtain⟨z,its,n,r,e⟩:=x;exact⟨z,its,n,r,k _ _ (.inl rfl) e⟩
  | tup xs=>obtain⟨z,its,r,ob,e,c⟩:=x;exact⟨z,its,r,ob,k _ _ (.inl rfl) e,c⟩
  | dK kvs=>obtain⟨z,y,vs,r,ob,es,ep,e,c⟩:=x;exact⟨z,y,vs,r,ob,es,ep,k _ _ (.inl rfl) e,c⟩
  | dT kvs=>
    obtain⟨z,y,xs,r,ob,es,ep,e,c⟩:=x
    exact⟨z,y,xs,Paired.mapP r fun p q z=>⟨z.1,ht _ _ z.2.1,z.2.2⟩,ob,es,ep,k _ _ (.inl rfl) e,c⟩
  | set S n=>obtain⟨ob,es,ep,t,e,c⟩:=x;exact⟨ob,es,ep,t,k _ _ (.inl rfl) e,c⟩
  | ins C dx fs=>
    obtain⟨d,z,ne,e,mA,⟨od,es,ep,e2,c⟩,r⟩:=x
    exact⟨ho _ d,z,ne,k _ _ (.inl rfl) e,mA,⟨od,es,ep,k _ _ (.inr d) e2,c⟩,r⟩
  | own y=>obtain⟨ob,e⟩:=x;exact⟨ob,k _ _ (.inl rfl) e⟩
  | xd fs=>obtain⟨mA,⟨od,es,ep,e,c⟩,r⟩:=x;exact⟨mA,⟨od,es,ep,k _ _ (.inl rfl) e,c⟩,r⟩
  | rng lo hi=>obtain⟨t,u,v,e⟩:=x;exact⟨t,u,v,k _ _ (.inl rfl) e⟩
  | frz ob u ih=>obtain⟨e,q⟩:=x;exact⟨k _ _ (.inl rfl) e,ih q⟩
  | tbl ps=>
    have e:h.get? a=some {cls:=.none,data:=.fields ps}:=x
    show h'.get? a=some {cls:=.none,data:=.fields ps}
    exact k a _ (.inl rfl) e
  | met f y=>
    have e:h.get? a=some (PySem.W.methodObj (.ref f) (.ref y)):=x
    show h'.get? a=some (PySem.W.methodObj (.ref f) (.ref y))
    exact k a _ (.inl rfl) e
  | ext φ=>obtain⟨p,⟨o,e⟩,st⟩:=x;exact⟨st _ _ p fun o q=>k _ _ (.inl rfl) q,⟨o,k _ _ (.inl rfl) e⟩,st⟩
theorem js.lt(x:js P w H h)(e:H a=some o):a < h.objs.size:=(x a o e).lt
theorem js.fresh(x:js P w H h)(e:h.objs.size≤a):H a=none:=by
  cases q:H a with
  | none=>rfl
  | some u=>exact absurd (Nat.lt_of_lt_of_le (x.lt q) e) (Nat.lt_irrefl _)
theorem js.kept(x:js P w H h)(k:∀b u,h.get? b=some u→h'.get? b=some u):js P w H h':=fun a o e=>
  (x a o e).stay (fun b u _ q=>k b u q) (fun _ q=>q) fun _ _ q=>q
theorem js.laid(x:js P w H h)(k:∀b u,h.get? b=some u→h'.get? b=some u)(hp:h.objs.size≤a)(new:cn P w (aT H a o) h' a o):js P w (aT H a o) h':=fun b u e=>by
  have hn:=x.fresh hp
  by_cases hb:b=a
  · subst hb;rw [ay] at e;cases e;exact new
  · rw [aE hb] at e
    exact(x b u e).stay (fun c v _ q=>k c v q) (fun c q=>by rw [aE (c7 q hn)];exact q) fun c xs q=>by rw [aE (c7 q hn)];exact q
end
def Rd(H:Hp)(a:Addr)(u:HO):Prop:=H a=some u∨∃o,H a=some (.frz o u)
theorem Rd.ok{P:Program}{w:World}{H:Hp}{h:Heap}{a:Addr}{u:HO}(r:Rd H a u)(x:js P w H h):cn P w H h a u:=by
  rcases r with r | ⟨o,r⟩
  · exact x a u r
  · obtain⟨_,q⟩:=x a _ r
    exact q
def AY:Option HO→Prop
  | some (.lst _)=>True
  | some (.dK _)=>True
  | some (.dT _)=>True
  | some (.set _ _)=>True
  | some (.ins _ _ _)=>True
  | some (.ext _)=>True
  | _=>False
section
variable{P:Program}{w:World}{H:Hp}{h h':Heap}{x e:Addr}{o':HO}
theorem js.write(ok:js P w H h)(mu:AY (H x))(he:e=x∨H e=some (.own x))(k:∀b u,b≠e→h.get? b=some u→h'.get? b=some u)(heo:∃u,h'.get? e=some u)
    (new:cn P w (aT H x o') h' x o'):js P w (aT H x o') h':=fun b u q=>by
  have nown:∀c y,H c=some (.own y)→c≠x:=fun c y r z=>by subst z;rw [r] at mu;exact mu
  have ntup:∀c xs,H c=some (.tup xs)→c≠x:=fun c xs r z=>by subst z;rw [r] at mu;exact mu
  by_cases hb:b=x
  · subst hb;rw [ay] at q;cases q;exact new
  · rw [aE hb] at q
    by_cases hbe:b=e
    · have q':H b=some (.own x):=by
        rcases he with z | z
        · exact absurd (hbe.trans z) hb
        · rw [hbe];exact z
      rw [q] at q';cases q'
      obtain⟨v,hv⟩:=heo
      exact⟨v,by rw [hbe];exact hv⟩
    · refine(ok b u q).stay (fun c v hc r=>k c v ?_ r) (fun c r=>by rw [aE (nown c b r)];exact r) fun c xs r=>by rw [aE (ntup c xs r)];exact r
      rcases hc with rfl | hc
      · exact hbe
      · rintro rfl
        rcases he with z | z
        · exact nown c b hc z
        · rw [hc] at z;cases z;exact hb rfl
end
structure Un (fs ex:List Addr) (H H':Hp) (h h':Heap):Prop where
  keep:∀b o,h.get? b=some o→H b=none→b∉fs→b∉ex→h'.get? b=some o
  slot:∀b o,h.get? b=some o→H b=none→b∈fs→b∉ex→∃sl,h'.get? b=some {o with slots:=sl}
  free:∀b o,h.get? b=some o→H b=none→b∉ex→H' b=none
  there:∀b o,h.get? b=some o→b∉ex→∃o',h'.get? b=some o'
  tups:∀b xs,H b=some (.tup xs)→H' b=some (.tup xs)
  frzs:∀b o u,H b=some (.frz o u)→H' b=some (.frz o u)
  tbls:∀b ps,H b=some (.tbl ps)→∃more,H' b=some (.tbl (ps++more))
section
variable{fs fs' ex ex':List Addr}{H H1 H2:Hp}{h h1 h2 h':Heap}{a x e:Addr}{o:HO}
theorem Un.any(u:Un fs ex H H1 h h1){b:Addr}{ob:Obj}(q:h.get? b=some ob)(n:H b=none)(hx:b∉ex):∃sl,h1.get? b=some {ob with slots:=sl}:=by
  by_cases hb:b∈fs
  · exact u.slot b ob q n hb hx
  · exact⟨ob.slots,u.keep b ob q n hb hx⟩
theorem Un.kept(k:∀b u,h.get? b=some u→h'.get? b=some u):Un fs ex H H h h':=
  ⟨fun b ob q _ _ _=>k b ob q,fun b ob q _ _ _=>⟨ob.slots,k b ob q⟩,fun _ _ _ n _=>n,fun b ob q _=>⟨ob,k b ob q⟩,fun _ _ q=>q,fun _ _ _ q=>q,fun _ ps q=>⟨#[],by rw [q];simp⟩⟩
theorem Un.refl:Un fs ex H H h h:=Un.kept fun _ _ q=>q
theorem Un.laid(k:∀b u,h.get? b=some u→h'.get? b=some u)(hp:h.objs.size≤a)(hn:H a=none):Un fs ex H (aT H a o) h h' where
  keep:=fun b u q _ _ _=>k b u q
  slot:=fun b u q _ _ _=>⟨u.slots,k b u q⟩
  free:=fun b u q n _=>by rw [aE (Nat.ne_of_lt (Nat.lt_of_lt_of_le (Heap.lt_size q) hp))];exact n
  there:=fun b u q _=>⟨u,k b u q⟩
  tups:=fun b xs q=>by rw [aE (c7 q hn)];exact q
  frzs:=fun b u xs q=>by rw [aE (c7 q hn)];exact q
  tbls:=fun b ps q=>⟨#[],by rw [aE (c7 q hn),q];simp⟩
theorem Un.write(mu:AY (H x))(he:e=x∨H e=some (.own x))(k:∀b u,b≠e→h.get? b=some u→h'.get? b=some u)(heo:∃u,h'.get? e=some u):Un fs ex H (aT H x o) h h':=by
  have hx:∀b,H b=none→b≠x:=fun b n z=>by subst z;rw [n] at mu;exact mu
  have hb:∀b,H b=none→b≠e:=fun b n z=>by
    subst z
    rcases he with r | r
    · exact hx b n r
    · rw [n] at r;cases r
  have hm:∀b u,H b=some u→¬AY (some u)→b≠x:=fun b u q nm z=>by subst z;rw [q] at mu;exact nm mu
  refine⟨fun b u q n _ _=>k b u (hb b n) q,fun b u q n _ _=>⟨u.slots,k b u (hb b n) q⟩,fun b u q n _=>by rw [aE (hx b n)];exact n,fun b u q _=>?_,
    fun b xs q=>by rw [aE (hm b _ q fun z=>z)];exact q,fun b u xs q=>by rw [aE (hm b _ q fun z=>z)];exact q,fun b ps q=>⟨#[],by rw [aE (hm b _ q fun z=>z),q];simp⟩⟩
  by_cases hbe:b=e
  · subst hbe;exact heo
  · exact⟨u,k b u hbe q⟩
end
def C0(h:Heap)(H:Hp):List Addr:=(List.range h.objs.size).filter fun a=>(H a).isSome
def mN(h:Heap)(H:Hp):Heap:=PySem.W.hideAll h (C0 h H)
theorem rA(h:Heap)(H:Hp):(mN h H).objs.size=h.objs.size:=PySem.W.hideAll_size _ _
theorem tU{h:Heap}{H:Hp}{b:Addr}{o:Obj}(e:h.get? b=some o)(n:H b=none):(mN h H).get? b=some o:=
  PySem.W.hideAll_get _ e fun hm=>by
    have q:(H b).isSome=true:=(List.mem_filter.mp hm).2
    rw [n] at q;simp at q
theorem wg{h:Heap}{H:Hp}{b:Addr}{o:Obj}(e:(mN h H).get? b=some o):h.get? b=some o∧H b=none:=by
  have e':h.get? b=some o:=PySem.W.of_hideAll (C0 h H) e
  refine⟨e',?_⟩
  cases q:H b with
  | none=>rfl
  | some x=>
    have hm:b∈C0 h H:=List.mem_filter.mpr ⟨List.mem_range.mpr (Heap.lt_size e'),by simp [q]⟩
    have z:(mN h H).get? b=none:=PySem.W.hideAll_none (C0 h H) hm
    rw [z] at e;cases e
def mr(g h:Heap)(L:Addr):List (Addr × Obj):=(List.range h.objs.size).filterMap fun a=>if a=L∨(g.get? a).isSome=true then none else(h.get? a).map fun o=>(a,o)
theorem ky{g h:Heap}{L:Addr}{p:Addr × Obj}(hp:p∈mr g h L):p.1≠L∧g.get? p.1=none∧h.get? p.1=some p.2:=by
  obtain⟨b,_,e⟩:=List.mem_filterMap.mp hp
  split at e
  · cases e
  · rename_i hn
    cases q:h.get? b with
    | none=>rw [q] at e;simp at e
    | some u=>
      rw [q] at e
      simp only [Option.map_some,Option.some.injEq] at e
      subst e
      refine⟨fun z=>hn (.inl z),?_,q⟩
      show g.get? b=none
      cases r:g.get? b with
      | none=>rfl
      | some v=>exact(hn (.inr (by simp [r]))).elim
def dr(g h:Heap)(L d:Addr):List (Addr × Obj):=(mr g h L).filter fun p=>decide (p.1≠d)
theorem ue{g h:Heap}{L:Addr}:News g L h (mr g h L):=fun p hp=>let ⟨a,b,c⟩:=ky hp;⟨c,a,b⟩
end L2
namespace L2
open PySem PySem.Spec PyProof.Rows
structure Mod (K:PySem.W.Frag) (mg:Str→Option Value) (base:Heap):Prop where
  kin:K.In base
  glob:base.Ns mainGlobals mg
  blt:∃mb,base.Ns builtinsNs mb∧∀x:Str,x≠"__name__"→mb x=bootBuiltins x
  nolimit:base.NoLimit
structure Cx where
  prog:Program
  w:World
  K:PySem.W.Frag
  mg:Str→Option Value
  base:Heap
  A:Around
  N:List Str
  s₀:Shared
  H₀:Hp
  env:Env
  outer:List Env
  stack:List Env
  ex:List Addr
  fn:Str→Bool
  calm:Bool
  pn:List (Addr × Obj)
  xe:Value→Shared→Prop
def s_(l:List Env):List Addr:=l.filterMap (·.frame)
abbrev Cx.fs(X:Cx):List Addr:=s_ X.outer
def A9(sc:Scope)(x:Str):Prop:=sc.names.lookup x=some .local∨sc.names.lookup x=some .cell∨sc.names.lookup x=some .free
def AM(sc:Scope)(x:Str):Prop:=sc.names.lookup x=some .local∨sc.names.lookup x=some .cell
def C5(env:Env)(h:Heap)(m:Str→Option Value)(x:Str)(u:Value):Prop:=
  (env.kindOf x=some .local∧m x=some u)∨((env.kindOf x=some .cell∨env.kindOf x=some .free)∧∃c,env.cells.lookup x=some c∧h.IsCell c (some u))
structure Cx.Ok (X:Cx):Prop where
  mod:Mod X.K X.mg X.base
  kind:X.env.scope.kind=.function
  glob:X.env.globals=mainGlobals
  blt:X.env.builtins=builtinsNs
  above:X.s₀.heap.objs.size≤X.env.locals
  inj:∀x y c,X.env.cells.lookup x=some c→X.env.cells.lookup y=some c→x=y
  has:∀x,(X.env.kindOf x=some .cell∨X.env.kindOf x=some .free)→∃c,X.env.cells.lookup x=some c
  cab:∀x c,X.fn x=true→X.env.cells.lookup x=some c→X.s₀.heap.objs.size≤c
  hd:X.calm=true→X.A.handled=none
  frames:X.A.frames=some X.stack
  stk:X.stack=X.outer∨(X.stack=X.env::X.outer∧X.env.frame=some X.env.locals)
  exf:∀b∈X.ex,b≠X.env.locals∧∀x c,X.env.cells.lookup x=some c→c≠b
  bs:∀b o,X.base.get? b=some o→X.s₀.heap.get? b=some o∧X.H₀ b=none
  bsz:X.base.objs.size≤X.s₀.heap.objs.size
  noex:∀b o,X.base.get? b=some o→b∉X.ex
  exfs:∀b∈X.ex,b∉X.fs
  funs:X.s₀.heap.FunFrames X.base X.outer
  frf:∀b∈X.fs,X.H₀ b=none
structure aA (X:Cx) (pins:List (Addr × Obj)) (σ:List (Option V)) (H:Hp) (s:Shared):Prop where
  ok:X.Ok
  os:s.os=X.s₀.os
  bare:AllBare s.gens
  base:Un X.fs X.ex X.H₀ H X.s₀.heap s.heap
  loc:∃m,s.heap.Ns X.env.locals m∧∀(i:Nat) (x:Str) (v:V),X.N[i]?=some x→σ[i]?=some (some v)→A9 X.env.scope x→∃u,bj v u∧C5 X.env s.heap m x u
  cell:∀x c,X.env.cells.lookup x=some c→∃v,s.heap.IsCell c v
  free:H X.env.locals=none
  freeC:∀x c,X.env.cells.lookup x=some c→H c=none
  pin:∀p∈X.pn++pins,s.heap.get? p.1=some p.2∧H p.1=none∧p.1≠X.env.locals∧p.1∉X.fs∧∀v,p.2.data≠.cell v
  hok:js X.prog X.w H s.heap
  len:σ.length=X.N.length
section
variable{X:Cx}{pins:List (Addr × Obj)}{σ:List (Option V)}{H H':Hp}{s:Shared}{h':Heap}
theorem Cx.Ok.nofr(ok:X.Ok){b:Addr}{o:Obj}(e:X.base.get? b=some o):b∉X.fs:=fun hb=>by
  have:=(ok.funs.mem hb).1
  rw [e] at this;cases this
theorem aA.bs(I:aA X pins σ H s):∀b o,X.base.get? b=some o→s.heap.get? b=some o∧H b=none:=fun b o e=>
  ⟨I.base.keep b o (I.ok.bs b o e).1 (I.ok.bs b o e).2 (I.ok.nofr e) (I.ok.noex b o e),I.base.free b o (I.ok.bs b o e).1 (I.ok.bs b o e).2 (I.ok.noex b o e)⟩
theorem aA.bk(I:aA X pins σ H s):∀b o,X.base.get? b=some o→s.heap.get? b=some o:=fun b o e=>(I.bs b o e).1
theorem aA.mod(I:aA X pins σ H s):Mod X.K X.mg X.base:=I.ok.mod
theorem aA.kIn(I:aA X pins σ H s):X.K.In s.heap:=I.ok.mod.kin.keeps I.bk
theorem aA.fr(I:aA X pins σ H s):∃m,Fr X.base X.env.locals s.heap m:=
  let ⟨m,hn,_⟩:=I.loc
  ⟨m,hn,I.bk,Nat.le_trans I.ok.bsz I.ok.above⟩
theorem aA.lt(I:aA X pins σ H s):X.env.locals < s.heap.objs.size:=let ⟨_,hn,_⟩:=I.loc;hn.lt
theorem aA.sz(I:aA X pins σ H s):X.s₀.heap.objs.size≤s.heap.objs.size:=Nat.le_trans I.ok.above (Nat.le_of_lt I.lt)
theorem aA.nofs(I:aA X pins σ H s){a:Addr}(h:s.heap.objs.size≤a):a∉X.fs:=fun hb=>by
  obtain⟨_,o,ho,_⟩:=I.ok.funs.mem hb
  exact absurd (Nat.lt_of_lt_of_le (Heap.lt_size ho) (Nat.le_trans I.sz h)) (Nat.lt_irrefl _)
theorem aA.cne(I:aA X pins σ H s):∀x c,X.env.cells.lookup x=some c→c≠X.env.locals:=fun x c e z=>by
  obtain⟨v,o,ho,hd⟩:=I.cell x c e
  obtain⟨m,⟨o',es,ep,ho',hd',_⟩,_⟩:=I.loc
  rw [z,ho'] at ho;cases ho;rw [hd'] at hd;cases hd
theorem aA.funs(I:aA X pins σ H s):s.heap.FunFrames X.base X.outer:=by
  have all:∀(l:List Env),(∀b∈s_ l,b∈X.fs)→X.s₀.heap.FunFrames X.base l→s.heap.FunFrames X.base l:=by
    intro l
    induction l with
    | nil=>intro _ _;trivial
    | cons env r ih=>
      intro hs hl
      obtain⟨hk,⟨L,o,hf,hn,ho,hd⟩,hr⟩:=hl
      have hL:L∈X.fs:=hs L (by unfold s_;rw [List.filterMap_cons,hf];exact List.mem_cons_self)
      obtain⟨sl,e⟩:=I.base.slot L o ho (I.ok.frf L hL) hL fun z=>I.ok.exfs L z hL
      exact⟨hk,⟨L,_,hf,hn,e,hd⟩,ih (fun b hb=>hs b (by unfold s_;rw [List.filterMap_cons,hf];exact List.mem_cons_of_mem _ hb)) hr⟩
  exact all X.outer (fun _ hb=>hb) I.ok.funs
theorem aA.stack(I:aA X pins σ H s):s.heap.FunFrames X.base X.stack:=by
  rcases I.ok.stk with e | ⟨e,hf⟩
  · rw [e];exact I.funs
  · rw [e]
    obtain⟨m,hn,_⟩:=I.loc
    refine .cons (by rw [I.ok.kind];decide) hf hn ?_ I.funs
    exact Heap.get?_none_of_le (Nat.le_trans I.ok.bsz I.ok.above)
theorem aA.stkSub(I:aA X pins σ H s):∀b∈s_ X.stack,b∈X.env.locals::X.fs:=fun b hb=>by
  rcases I.ok.stk with e | ⟨e,hf⟩
  · rw [e] at hb;exact List.mem_cons_of_mem _ hb
  · rw [e] at hb
    unfold s_ at hb
    rw [List.filterMap_cons,hf] at hb
    exact hb
theorem aA.stkFree(I:aA X pins σ H s):∀b∈s_ X.stack,H b=none:=fun b hb=>by
  rcases List.mem_cons.mp (I.stkSub b hb) with e | hb
  · rw [e];exact I.free
  · obtain⟨_,o,ho,_⟩:=I.ok.funs.mem hb
    exact I.base.free b o ho (I.ok.frf b hb) fun z=>I.ok.exfs b z hb
theorem aA.step{g':Array GenState}{t':Nat}{d':Drawn}{ch:List Addr}(I:aA X pins σ H s)
    (hch:∀b∈ch,(b∈X.ex∨X.s₀.heap.objs.size≤b)∧b≠X.env.locals∧(∀x c,X.env.cells.lookup x=some c→c≠b)∧∀p∈X.pn++pins,p.1≠b)
    (keep:∀b o,b≠X.env.locals→b∉X.fs→b∉ch→s.heap.get? b=some o→H b=none→h'.get? b=some o)
    (slot:∀b o,b≠X.env.locals→b∈X.fs→b∉ch→s.heap.get? b=some o→H b=none→∃sl,h'.get? b=some {o with slots:=sl})(free:∀b o,b∉ch→s.heap.get? b=some o→H b=none→H' b=none)
    (there:∀b o,b∉ch→s.heap.get? b=some o→∃o',h'.get? b=some o')
    (tups:∀b xs,H b=some (.tup xs)→H' b=some (.tup xs))(frzs:∀b o u,H b=some (.frz o u)→H' b=some (.frz o u))(tbls:∀b ps,H b=some (.tbl ps)→∃more,H' b=some (.tbl (ps++more)))
    (ns:∀m,s.heap.Ns X.env.locals m→h'.Ns X.env.locals m)(hok:js X.prog X.w H' h')(hg:AllBare g'):
    aA X pins σ H' {s with heap:=h',gens:=g',drawn:=d',toks:=t'}:=by
  have neL:∀b o,X.s₀.heap.get? b=some o→b≠X.env.locals:=fun b o e=>Nat.ne_of_lt (Nat.lt_of_lt_of_le (Heap.lt_size e) I.ok.above)
  have neC:∀b o,X.s₀.heap.get? b=some o→b∉X.ex→b∉ch:=fun b o e hx hb=>by
    rcases(hch b hb).1 with z | z
    · exact hx z
    · exact absurd (Nat.lt_of_lt_of_le (Heap.lt_size e) z) (Nat.lt_irrefl _)
  have cellK:∀x c,X.env.cells.lookup x=some c→∀v,s.heap.IsCell c v→h'.IsCell c v:=fun x c e v ⟨o,ho,hd⟩=>by
    have nch:c∉ch:=fun z=>(hch c z).2.2.1 x c e rfl
    by_cases hc:c∈X.fs
    · obtain⟨sl,q⟩:=slot c o (I.cne x c e) hc nch ho (I.freeC x c e)
      exact⟨_,q,hd⟩
    · exact⟨o,keep c o (I.cne x c e) hc nch ho (I.freeC x c e),hd⟩
  refine⟨I.ok,I.os,hg,⟨fun b o e n hb hx=>?_,fun b o e n hb hx=>?_,fun b o e n hx=>?_,fun b o e hx=>?_,fun b xs e=>tups b xs (I.base.tups b xs e),fun b o xs e=>frzs b o xs (I.base.frzs b o xs e),fun b ps e=>?_⟩,?_,fun x c e=>?_,?_,fun x c e=>?_,fun p hp=>?_,hok,I.len⟩
  · exact keep b o (neL b o e) hb (neC b o e hx) (I.base.keep b o e n hb hx) (I.base.free b o e n hx)
  · obtain⟨sl,e1⟩:=I.base.slot b o e n hb hx
    obtain⟨sl',e2⟩:=slot b _ (neL b o e) hb (neC b o e hx) e1 (I.base.free b o e n hx)
    exact⟨sl',e2⟩
  · obtain⟨o',e1⟩:=I.base.there b o e hx
    exact free b o' (neC b o e hx) e1 (I.base.free b o e n hx)
  · obtain⟨o',e1⟩:=I.base.there b o e hx
    exact there b o' (neC b o e hx) e1
  · obtain⟨m1,e1⟩:=I.base.tbls b ps e
    obtain⟨m2,e2⟩:=tbls b _ e1
    exact⟨m1++m2,by rw [e2,Array.append_assoc]⟩
  · obtain⟨m,hn,hl⟩:=I.loc
    refine⟨m,ns m hn,fun i x v e1 e2 e3=>?_⟩
    obtain⟨u,r,l⟩:=hl i x v e1 e2 e3
    refine⟨u,r,?_⟩
    rcases l with l | ⟨k,c,e,z⟩
    · exact .inl l
    · exact .inr ⟨k,c,e,cellK x c e _ z⟩
  · obtain⟨v,z⟩:=I.cell x c e
    exact⟨v,cellK x c e v z⟩
  · obtain⟨m,⟨o,_,_,ho,_⟩,_⟩:=I.loc
    exact free _ o (fun z=>(hch _ z).2.1 rfl) ho I.free
  · obtain⟨v,o,ho,hd⟩:=I.cell x c e
    exact free c o (fun z=>(hch c z).2.2.1 x c e rfl) ho (I.freeC x c e)
  · obtain⟨e,n,ne,nf,d⟩:=I.pin p hp
    have nch:p.1∉ch:=fun z=>(hch p.1 z).2.2.2 p hp rfl
    exact⟨keep p.1 p.2 ne nf nch e n,free p.1 p.2 nch e n,ne,nf,d⟩
theorem aA.un{t':Nat}(I:aA X pins σ H s)(u:Un X.fs [] H H' s.heap h')(hok:js X.prog X.w H' h'):aA X pins σ H' {s with heap:=h',toks:=t'}:=by
  obtain⟨m,⟨o,es,ep,ho,r⟩,_⟩:=id I.loc
  obtain⟨sl,hL⟩:=u.any ho I.free (by simp)
  exact I.step (g':=s.gens) (d':=s.drawn) (ch:=[]) (fun _ z=>nomatch z) (fun b o _ hb _ e n=>u.keep b o e n hb (by simp)) (fun b o _ hb _ e n=>u.slot b o e n hb (by simp)) (fun b o _ e n=>u.free b o e n (by simp)) (fun b o _ e=>u.there b o e (by simp)) u.tups u.frzs u.tbls (fun m' hm=>by
    obtain⟨o',es',ep',ho',r'⟩:=hm
    rw [ho] at ho';cases ho'
    exact⟨_,es',ep',hL,r'⟩) hok I.bare
theorem aA.call{g':Array GenState}{t':Nat}{d':Drawn}{ch:List Addr}(I:aA X pins σ H s)(u:Un (s_ X.stack) ch H H' s.heap h')(hok:js X.prog X.w H' h')(hg:AllBare g')
    (hch:∀b∈ch,(b∈X.ex∨X.s₀.heap.objs.size≤b)∧b≠X.env.locals∧(∀x c,X.env.cells.lookup x=some c→c≠b)∧∀p∈X.pn++pins,p.1≠b):
    aA X pins σ H' {s with heap:=h',gens:=g',drawn:=d',toks:=t'}:=by
  obtain⟨m,⟨o,es,ep,ho,r⟩,_⟩:=id I.loc
  obtain⟨sl,hL⟩:=u.any ho I.free fun z=>(hch _ z).2.1 rfl
  exact I.step (ch:=ch) hch (fun b o hL hb hc e n=>u.keep b o e n (fun z=>(List.mem_cons.mp (I.stkSub b z)).elim hL hb) hc) (fun b o _ _ hc e n=>u.any e n hc) (fun b o hc e n=>u.free b o e n hc) (fun b o hc e=>u.there b o e hc) u.tups u.frzs u.tbls (fun m' hm=>by
    obtain⟨o',es',ep',ho',r'⟩:=hm
    rw [ho] at ho';cases ho'
    exact⟨_,es',ep',hL,r'⟩) hok hg
theorem aA.turned{t':Nat}{it:Addr}(I:aA X pins σ H s)(k:∀b o,b≠it→s.heap.get? b=some o→h'.get? b=some o)(hn:H it=none)(hL:it≠X.env.locals)
    (h1:it∈X.ex∨X.s₀.heap.objs.size≤it)(h2:∀x c,X.env.cells.lookup x=some c→c≠it)(h3:∀p∈X.pn++pins,p.1≠it):aA X pins σ H {s with heap:=h',toks:=t'}:=by
  have nit:∀b u,H b=some u→b≠it:=fun b u e z=>by rw [z,hn] at e;cases e
  refine I.step (g':=s.gens) (d':=s.drawn) (ch:=[it]) (fun b hb=>?_) (fun b o _ _ hc e _=>k b o (fun z=>hc (by simp [z])) e) (fun b o _ _ hc e _=>⟨o.slots,k b o (fun z=>hc (by simp [z])) e⟩) (fun _ _ _ _ n=>n)
    (fun b o hc e=>⟨o,k b o (fun z=>hc (by simp [z])) e⟩) (fun _ _ e=>e) (fun _ _ _ e=>e) (fun b ps e=>⟨#[],by rw [e];simp⟩) (fun m hm=>?_) (fun b u e=>?_) I.bare
  · have e:b=it:=by simpa using hb
    subst e
    exact⟨h1,hL,h2,h3⟩
  · obtain⟨o,es,ep,ho,r⟩:=hm
    exact⟨o,es,ep,k _ o (Ne.symm hL) ho,r⟩
  · refine(I.hok b u e).stay (fun c v hc q=>k c v ?_ q) (fun _ q=>q) fun _ _ q=>q
    rcases hc with z | z
    · rw [z];exact nit b u e
    · exact nit c _ z
theorem aA.tok(I:aA X pins σ H s)(t:Nat):aA X pins σ H {s with toks:=t}:=I.un (h':=s.heap) (t':=t) Un.refl I.hok
theorem aA.kept{t':Nat}(I:aA X pins σ H s)(k:∀b u,s.heap.get? b=some u→h'.get? b=some u):aA X pins σ H {s with heap:=h',toks:=t'}:=I.un (Un.kept k) (I.hok.kept k)
theorem aA.laid{a:Addr}{o:HO}{t':Nat}(I:aA X pins σ H s)(k:∀b u,s.heap.get? b=some u→h'.get? b=some u)(hp:s.heap.objs.size≤a)(new:cn X.prog X.w (aT H a o) h' a o):
    aA X pins σ (aT H a o) {s with heap:=h',toks:=t'}:=I.un (Un.laid k hp (I.hok.fresh hp)) (I.hok.laid k hp new)
theorem aA.write{x e:Addr}{o:HO}{t':Nat}(I:aA X pins σ H s)(mu:AY (H x))(he:e=x∨H e=some (.own x))(k:∀b u,b≠e→s.heap.get? b=some u→h'.get? b=some u)(heo:∃u,h'.get? e=some u)
    (new:cn X.prog X.w (aT H x o) h' x o):aA X pins σ (aT H x o) {s with heap:=h',toks:=t'}:=I.un (Un.write mu he k heo) (I.hok.write mu he k heo new)
theorem aA.pins_of{pins':List (Addr × Obj)}(I:aA X pins σ H s)(h:∀p∈pins',s.heap.get? p.1=some p.2∧H p.1=none∧p.1≠X.env.locals∧p.1∉X.fs∧∀v,p.2.data≠.cell v):aA X pins' σ H s:=
  ⟨I.ok,I.os,I.bare,I.base,I.loc,I.cell,I.free,I.freeC,fun p hp=>(List.mem_append.mp hp).elim (fun z=>I.pin p (List.mem_append_left _ z)) (h p),I.hok,I.len⟩
theorem oq{N:List Str}(hN:N.Nodup){i j:Nat}{x:Str}(a:N[i]?=some x)(b:N[j]?=some x):i=j:=by
  obtain⟨h1,e1⟩:=List.getElem?_eq_some_iff.mp a
  obtain⟨h2,e2⟩:=List.getElem?_eq_some_iff.mp b
  exact(List.getElem_inj hN).mp (e1.trans e2.symm)
theorem md{M:Model}{A:Around}{E:Value→Shared→Prop}{i:Nat}{x:Str}{v:V}{u:Value}{Q:Unit→Shared→Prop}(I:aA X pins σ H s)(hN:X.N.Nodup)(hi:X.N[i]?=some x)(hx:AM X.env.scope x)(r:bj v u)
    (h:∀s',aA X pins (σ.set i (some v)) H s'→(∃a,Heap.SameBut a s.heap s'.heap∧(a=X.env.locals∨X.env.cells.lookup x=some a))→Q () s')(hf:X.fn x=true∨X.env.scope.names.lookup x=some .local:=by first | exact .inl rfl | exact .inr rfl | assumption):wpAny M A (storeName X.env x u) Q E s:=by
  obtain⟨m,hn,hl⟩:=id I.loc
  have hcls:(X.env.scope.kind==.class || (X.env.scope.kind==.module&&X.env.locals != X.env.globals))=false:=by rw [I.ok.kind];rfl
  have hiσ:i < σ.length:=by rw [I.len];exact(List.getElem?_eq_some_iff.mp hi).1
  have cne:=I.cne
  have tracked:∀{a:Addr} {h':Heap},(∃o,s.heap.get? a=some o∧H a=none)→Heap.SameBut a s.heap h'→js X.prog X.w H h':=fun{a h'} ha hs b ob e=>by
    obtain⟨_,_,hfree⟩:=ha
    refine(I.hok b ob e).stay (fun c w' hc q=>(hs.2 c ?_).trans q) (fun _ q=>q) fun _ _ q=>q
    rintro rfl
    rcases hc with rfl | hc
    · rw [hfree] at e;cases e
    · rw [hfree] at hc;cases hc
  rcases hx with hk | hk
  · refine wpAny_storeName_local hk hn (fun h' hn' hs=>?_) hcls
    obtain⟨oL,_,_,hoL,_⟩:=id hn
    refine h _ ⟨I.ok,I.os,I.bare,⟨fun b o e n hb hx=>?_,fun b o e n hb hx=>?_,I.base.free,fun b o e hx=>?_,I.base.tups,I.base.frzs,I.base.tbls⟩,⟨_,hn',fun j y v' e1 e2 e3=>?_⟩,fun y c e=>?_,I.free,I.freeC,fun p hp=>?_,tracked ⟨oL,hoL,I.free⟩ hs,by simpa using I.len⟩ ⟨_,hs,.inl rfl⟩
    · exact(hs.2 b (Nat.ne_of_lt (Nat.lt_of_lt_of_le (Heap.lt_size e) I.ok.above))).trans (I.base.keep b o e n hb hx)
    · obtain⟨sl,e1⟩:=I.base.slot b o e n hb hx
      exact⟨sl,(hs.2 b (Nat.ne_of_lt (Nat.lt_of_lt_of_le (Heap.lt_size e) I.ok.above))).trans e1⟩
    · obtain⟨o',e1⟩:=I.base.there b o e hx
      exact⟨o',(hs.2 b (Nat.ne_of_lt (Nat.lt_of_lt_of_le (Heap.lt_size e) I.ok.above))).trans e1⟩
    · by_cases hj:j=i
      · subst hj
        rw [hi] at e1;cases e1
        rw [List.getElem?_set_self hiσ] at e2
        cases e2
        exact⟨u,r,.inl ⟨hk,by simp⟩⟩
      · rw [List.getElem?_set_ne (Ne.symm hj)] at e2
        obtain⟨u',r',q⟩:=hl j y v' e1 e2 e3
        refine⟨u',r',?_⟩
        rcases q with ⟨k,e⟩ | ⟨k,c,e,z⟩
        · refine .inl ⟨k,?_⟩
          have:y≠x:=fun e=>hj (oq hN e1 (e ▸ hi))
          simp [this,e]
        · exact .inr ⟨k,c,e,z.sameBut hs (cne y c e)⟩
    · obtain⟨w',z⟩:=I.cell y c e
      exact⟨w',z.sameBut hs (cne y c e)⟩
    · obtain⟨e,n,ne,nf,d⟩:=I.pin p hp
      exact⟨(hs.2 p.1 ne).trans e,n,ne,nf,d⟩
  · have hfn:X.fn x=true:=by
      rcases hf with z | z
      · exact z
      · rw [z] at hk;cases hk
    obtain⟨c,hc⟩:=I.ok.has x (.inl hk)
    obtain⟨w',z⟩:=I.cell x c hc
    refine wpAny_storeName_cell I.ok.kind hk hc z (fun h' hc' hs=>?_)
    obtain⟨oc,hoc,hocd⟩:=id z
    refine h {s with heap:=h'} ⟨I.ok,I.os,I.bare,⟨fun b o e n hb hx=>?_,fun b o e n hb hx=>?_,I.base.free,fun b o e hx=>?_,I.base.tups,I.base.frzs,I.base.tbls⟩,⟨m,hn.sameBut hs (Ne.symm (cne x c hc)),fun j y v' e1 e2 e3=>?_⟩,fun y c' e=>?_,I.free,I.freeC,fun p hp=>?_,tracked ⟨oc,hoc,I.freeC x c hc⟩ hs,by simpa using I.len⟩ ⟨c,hs,.inr hc⟩
    · exact(hs.2 b (Nat.ne_of_lt (Nat.lt_of_lt_of_le (Heap.lt_size e) (I.ok.cab x c hfn hc)))).trans (I.base.keep b o e n hb hx)
    · obtain⟨sl,e1⟩:=I.base.slot b o e n hb hx
      exact⟨sl,(hs.2 b (Nat.ne_of_lt (Nat.lt_of_lt_of_le (Heap.lt_size e) (I.ok.cab x c hfn hc)))).trans e1⟩
    · obtain⟨o',e1⟩:=I.base.there b o e hx
      exact⟨o',(hs.2 b (Nat.ne_of_lt (Nat.lt_of_lt_of_le (Heap.lt_size e) (I.ok.cab x c hfn hc)))).trans e1⟩
    · by_cases hj:j=i
      · subst hj
        rw [hi] at e1;cases e1
        rw [List.getElem?_set_self hiσ] at e2
        cases e2
        exact⟨u,r,.inr ⟨.inl hk,c,hc,hc'⟩⟩
      · rw [List.getElem?_set_ne (Ne.symm hj)] at e2
        obtain⟨u',r',q⟩:=hl j y v' e1 e2 e3
        refine⟨u',r',?_⟩
        rcases q with q | ⟨k,c',e,z'⟩
        · exact .inl q
        · refine .inr ⟨k,c',e,z'.sameBut hs ?_⟩
          rintro rfl
          exact hj (oq hN e1 (I.ok.inj _ _ _ e hc ▸ hi))
    · by_cases hcc:c'=c
      · subst hcc;exact⟨_,hc'⟩
      · obtain⟨w2,z2⟩:=I.cell y c' e
        exact⟨w2,z2.sameBut hs hcc⟩
    · obtain⟨e,n,ne,nf,d⟩:=I.pin p hp
      refine⟨(hs.2 p.1 ?_).trans e,n,ne,nf,d⟩
      intro q
      rw [q,hoc] at e
      have q':oc=p.2:=Option.some.inj e
      exact d w' (by rw [←q'];exact hocd)
theorem iY{M:Model}{A:Around}{E:Value→Shared→Prop}{i:Nat}{x:Str}{v:V}{u:Value}{Q:Unit→Shared→Prop}(I:aA X pins σ H s)(hN:X.N.Nodup)(hi:X.N[i]?=some x)(hx:AM X.env.scope x)(r:bj v u)
    (h:∀s',aA X pins (σ.set i (some v)) H s'→Q () s')(hf:X.fn x=true∨X.env.scope.names.lookup x=some .local:=by first | exact .inl rfl | exact .inr rfl | assumption):wpAny M A (storeName X.env x u) Q E s:=
  md I hN hi hx r (fun s' I' _=>h s' I') hf
theorem aA.call'{s':Shared}{ch:List Addr}(I:aA X pins σ H s)(ho:s'.os=s.os)(u:Un (s_ X.stack) ch H H' s.heap s'.heap)(hok:js X.prog X.w H' s'.heap)(hg:AllBare s'.gens)
    (hch:∀b∈ch,(b∈X.ex∨X.s₀.heap.objs.size≤b)∧b≠X.env.locals∧(∀x c,X.env.cells.lookup x=some c→c≠b)∧∀p∈X.pn++pins,p.1≠b):aA X pins σ H' s':=by
  obtain⟨h',g',d',t',o'⟩:=s'
  have e:o'=s.os:=ho
  subst e
  exact I.call (g':=g') (t':=t') (d':=d') u hok hg hch
end
abbrev XK:=Value→Option Addr→Hp→Prop
abbrev St:=List (Option V)
abbrev VK:=V→Hp→Prop
abbrev TE:=St→Hp→VK→Prop
abbrev TT:=St→Hp→(Bool→Hp→Prop)→Prop
abbrev TA:=St→Hp→(List V→Hp→Prop)→Prop
structure o8 where
  nx:St→Hp→Prop
  rt:VK
  bk:St→Hp→Prop:=fun _ _=>False
  ct:St→Hp→Prop:=fun _ _=>False
abbrev TS:=o8→St→Hp→Prop
def EP(X:Cx)(pins:List (Addr × Obj))(σ:St)(Q:VK)(u:Value)(s':Shared):Prop:=∃v H',aA X pins σ H' s'∧bj v u∧Q v H'
def TP(X:Cx)(pins:List (Addr × Obj))(σ:St)(Q:Bool→Hp→Prop)(b:Bool)(s':Shared):Prop:=∃H',aA X pins σ H' s'∧Q b H'
def AP(X:Cx)(pins:List (Addr × Obj))(σ:St)(Q:List V→Hp→Prop)(us:List Value)(s':Shared):Prop:=∃vs H',aA X pins σ H' s'∧aI vs us∧Q vs H'
def SP(X:Cx)(pins:List (Addr × Obj))(D:o8)(f:Flow)(s':Shared):Prop:=
  match f with
  | .next=>∃σ' H',aA X pins σ' H' s'∧D.nx σ' H'
  | .brk=>∃σ' H',aA X pins σ' H' s'∧D.bk σ' H'
  | .cont=>∃σ' H',aA X pins σ' H' s'∧D.ct σ' H'
  | .ret u=>∃v σ' H',aA X pins σ' H' s'∧bj v u∧D.rt v H'
def PE(X:Cx)(e:Expr)(t:TE):Prop:=
  ∀(pins:List (Addr × Obj)) (s:Shared) (σ:St) (H:Hp) (Q:VK),aA X pins σ H s→t σ H Q→wpAny (model X.prog X.w) X.A (eval e X.env) (EP X pins σ Q) X.xe s
def PT(X:Cx)(e:Expr)(t:TT):Prop:=
  ∀(pins:List (Addr × Obj)) (s:Shared) (σ:St) (H:Hp) (Q:Bool→Hp→Prop),aA X pins σ H s→t σ H Q→wpAny (model X.prog X.w) X.A (isTrue e X.env (eval e X.env)) (TP X pins σ Q) X.xe s
def PW(X:Cx)(e:Expr)(t:TT):Prop:=
  ∀(whole:Sem Value) (pins:List (Addr × Obj)) (s:Shared) (σ:St) (H:Hp) (Q:Bool→Hp→Prop),aA X pins σ H s→t σ H Q→wpAny (model X.prog X.w) X.A (isTrue e X.env whole) (TP X pins σ Q) X.xe s
theorem PW.pt{X:Cx}{e:Expr}{t:TT}(h:PW X e t):PT X e t:=h _
def PA(X:Cx)(es:List Expr)(t:TA):Prop:=
  ∀(pos:Pos) (pins:List (Addr × Obj)) (s:Shared) (σ:St) (H:Hp) (Q:List V→Hp→Prop),aA X pins σ H s→t σ H Q→wpAny (model X.prog X.w) X.A (spliced (backTo pos (starEach es X.env))) (AP X pins σ Q) X.xe s
def PS(X:Cx)(st:Stmt)(t:TS):Prop:=
  ∀(pins:List (Addr × Obj)) (s:Shared) (σ:St) (H:Hp) (D:o8),aA X pins σ H s→t D σ H→wpAny (model X.prog X.w) X.A (exec st X.env) (SP X pins D) X.xe s
def jJ(X:Cx)(st:List Stmt)(t:TS):Prop:=
  ∀(pins:List (Addr × Obj)) (s:Shared) (σ:St) (H:Hp) (D:o8),aA X pins σ H s→t D σ H→wpAny (model X.prog X.w) X.A (execs st X.env) (SP X pins D) X.xe s
theorem bO{α:Type}{t:Sem α}{Q Q':α→Shared→Prop}{M:Model}{A:Around}{E:Value→Shared→Prop}{s:Shared}(h:wpAny M A t Q E s)(hQ:∀a s,Q a s→Q' a s):wpAny M A t Q' E s:=wpAny_mono h hQ fun _ _ x=>x
end L2
namespace L2
open PySem PySem.Spec PyProof.Rows
section
variable{X:Cx}
def Cy(i:Nat):TE:=fun σ H Q=>∃v,σ[i]?=some (some v)∧Q v H
def tC(v:V):TE:=fun _ H Q=>Q v H
theorem zM{i:Nat}{x:Str}{pos:Pos}(hN:X.N[i]?=some x)(hv:A9 X.env.scope x)(hd:(x==("__debug__":Str))=false:=by decide)(hcd:(x==("__classdict__":Str))=false:=by decide):PE X (.Name x pos) (Cy i):=by
  intro pins s σ H Q I h
  obtain⟨v,e,h⟩:=h
  obtain⟨m,hn,hl⟩:=I.loc
  obtain⟨u,r,l⟩:=hl i x v hN e hv
  have fin:EP X pins σ Q u s:=⟨v,H,I,r,h⟩
  rcases l with ⟨hk,hm⟩ | ⟨hk,c,hc,hcell⟩
  · exact wpAny_Name (wpAny_loadName_local I.ok.kind hk hn hm fin) hd
  · rcases hk with hk | hk
    · exact wpAny_Name (wpAny_loadName_cell I.ok.kind hk hc hcell fin) hd
    · exact wpAny_Name (wpAny_loadName_free I.ok.kind hk hc hcell fin hcd) hd
theorem pP{i j pos}:PE X (.Constant (.int i) j pos) (tC (.int i)):=fun _ _ _ H _ I h=>wpAny_Constant_int ⟨.int i,H,I.tok _,⟨_,rfl⟩,h⟩
theorem BR{b j pos}:PE X (.Constant (.bool b) j pos) (tC (.bl b)):=fun _ _ _ H _ I h=>Constant_bool ⟨.bl b,H,I,rfl,h⟩
theorem zH{j pos}:PE X (.Constant .none j pos) (tC .non):=fun _ _ _ H _ I h=>Constant_none ⟨.non,H,I,rfl,h⟩
theorem zK{x j pos}:PE X (.Constant (.str x) j pos) (tC (.str x)):=fun _ _ _ H _ I h=>Calls.Constant_str ⟨.str x,H,I.tok _,⟨_,rfl⟩,h⟩
def Gl(X:Cx)(x:Str):Prop:=X.env.kindOf x=some .globalImplicit
theorem wc{E:Value→Shared→Prop}{pins:List (Addr × Obj)}{s:Shared}{σ:St}{H:Hp}{x:Str}{u:Value}{pos:Pos}{Q:Value→Shared→Prop}(I:aA X pins σ H s)(hg:Gl X x)(hm:X.mg x=some u)(h:Q u s)
    (hd:(x==("__debug__":Str))=false:=by decide):wpAny (model X.prog X.w) X.A (eval (.Name x pos) X.env) Q E s:=
  Calls.Name_function_global I.ok.kind hg (Calls.loadGlobal_global (by rw [I.ok.glob];exact I.mod.glob.keeps I.bk) hm h) hd
theorem dB{E:Value→Shared→Prop}{pins:List (Addr × Obj)}{s:Shared}{σ:St}{H:Hp}{x:Str}{u:Value}{pos:Pos}{Q:Value→Shared→Prop}(I:aA X pins σ H s)(hg:Gl X x)(hm:X.mg x=none)(hv:bootBuiltins x=some u)(h:Q u s)
    (hn:x≠"__name__":=by decide)(hd:(x==("__debug__":Str))=false:=by decide):wpAny (model X.prog X.w) X.A (eval (.Name x pos) X.env) Q E s:=by
  obtain⟨mb,h1,h2⟩:=I.mod.blt
  exact Calls.Name_function_global I.ok.kind hg (Calls.loadGlobal_builtin (by rw [I.ok.glob];exact I.mod.glob.keeps I.bk) hm (by rw [I.ok.blt];exact h1.keeps I.bk) ((h2 x hn).trans hv) h) hd
variable{a b:Expr}{ta tb:TE}{pos:Pos}
def tB(t:TE):TT:=fun σ H Q=>t σ H fun x H1=>∃c,x=.bl c∧Q c H1
theorem zW{e:Expr}{t:TE}(h:PE X e t)(he:∀whole,isTrue e X.env whole=(do let v ←whole;standAt e.pos;holding [v] (truthy v)):=by intro _;rfl):PT X e (tB t):=by
  intro pins s σ H Q I hw
  refine isTrue_plain (bO (h pins s σ H _ I hw) fun v s1 ⟨x,H1,I1,r1,q1⟩=>?_) (he _)
  obtain⟨d,rfl,q⟩:=q1
  cases r1
  exact wpAny_truthy_bool ⟨H1,I1,q⟩
variable{tA tB':TT}{dr:List Expr}
def Cm(t u:TT):TT:=fun σ H Q=>t σ H fun c H1=>if c=true then u σ H1 Q else Q false H1
def DY(t u:TT):TT:=fun σ H Q=>t σ H fun c H1=>if c=true then Q true H1 else u σ H1 Q
def Cr(t:TT):TT:=fun σ H Q=>t σ H fun c H1=>Q (!c) H1
theorem xh(ha:PT X a tA):PW X (.BoolOp .And [a] pos) tA:=by
  intro wh pins s σ H Q I h
  refine isTrue_and (bO (ha pins s σ H Q I h) fun c s1 e=>?_)
  cases c with
  | true=>exact isTrue_and_nil e
  | false=>exact e
theorem zY(ha:PT X a tA):PW X (.BoolOp .Or [a] pos) tA:=by
  intro wh pins s σ H Q I h
  refine isTrue_or (bO (ha pins s σ H Q I h) fun c s1 e=>?_)
  cases c with
  | false=>exact isTrue_or_nil e
  | true=>exact e
theorem zX(ha:PT X a tA)(hb:PW X (.BoolOp .And (b::dr) pos) tB'):PW X (.BoolOp .And (a::b::dr) pos) (Cm tA tB'):=by
  intro wh pins s σ H Q I h
  refine isTrue_and (bO (ha pins s σ H _ I h) fun c s1 ⟨H1,I1,q1⟩=>?_)
  cases c with
  | true=>exact hb wh pins s1 σ H1 Q I1 q1
  | false=>exact⟨H1,I1,q1⟩
theorem B2(ha:PT X a tA)(hb:PW X (.BoolOp .Or (b::dr) pos) tB'):PW X (.BoolOp .Or (a::b::dr) pos) (DY tA tB'):=by
  intro wh pins s σ H Q I h
  refine isTrue_or (bO (ha pins s σ H _ I h) fun c s1 ⟨H1,I1,q1⟩=>?_)
  cases c with
  | true=>exact⟨H1,I1,q1⟩
  | false=>exact hb wh pins s1 σ H1 Q I1 q1
theorem zV(ha:PT X a tA):PT X (.UnaryOp .Not a pos) (Cr tA):=by
  intro pins s σ H Q I h
  exact isTrue_not (ha pins s σ H (fun c H1=>Q (!c) H1) I h)
def Cn(ta tb:TE):TE:=fun σ H Q=>ta σ H fun x H1=>∃c,x=.bl c∧if c=true then tb σ H1 Q else Q (.bl false) H1
def DC(ta tb:TE):TE:=fun σ H Q=>ta σ H fun x H1=>∃c,x=.bl c∧if c=true then Q (.bl true) H1 else tb σ H1 Q
def Cs(ta:TE):TE:=fun σ H Q=>ta σ H fun x H1=>∃c,x=.bl c∧Q (.bl (!c)) H1
theorem zJ{op}{t:TE}(h:PE X a t):PE X (.BoolOp op [a] pos) t:=fun pins s σ H Q I hw=>BoolOp_one (h pins s σ H Q I hw)
theorem zF(ha:PE X a ta)(hb:PE X (.BoolOp .And (b::dr) pos) tb):PE X (.BoolOp .And (a::b::dr) pos) (Cn ta tb):=by
  intro pins s σ H Q I h
  refine BoolOp_and (bO (ha pins s σ H _ I h) fun v s1 ⟨x,H1,I1,r1,q1⟩=>?_)
  obtain⟨c,rfl,q1⟩:=q1
  cases r1
  refine wpAny_truthy_bool ?_
  cases c with
  | true=>exact hb pins s1 σ H1 Q I1 q1
  | false=>exact⟨.bl false,H1,I1,rfl,q1⟩
theorem BW(ha:PE X a ta)(hb:PE X (.BoolOp .Or (b::dr) pos) tb):PE X (.BoolOp .Or (a::b::dr) pos) (DC ta tb):=by
  intro pins s σ H Q I h
  refine BoolOp_or (bO (ha pins s σ H _ I h) fun v s1 ⟨x,H1,I1,r1,q1⟩=>?_)
  obtain⟨c,rfl,q1⟩:=q1
  cases r1
  refine wpAny_truthy_bool ?_
  cases c with
  | false=>exact hb pins s1 σ H1 Q I1 q1
  | true=>exact⟨.bl true,H1,I1,rfl,q1⟩
theorem zI(ha:PE X a ta):PE X (.UnaryOp .Not a pos) (Cs ta):=by
  intro pins s σ H Q I h
  refine UnaryOp_ (bO (ha pins s σ H _ I h) fun v s1 ⟨x,H1,I1,r1,q1⟩=>?_)
  obtain⟨c,rfl,q1⟩:=q1
  cases r1
  exact not_of (wpAny_truthy_bool ⟨.bl (!c),H1,I1,rfl,q1⟩)
end
end L2
namespace L2
open PySem PySem.Spec PyProof.Rows
def bR(K:PySem.W.Frag)(H:Hp)(a:Addr)(xs:List V):Prop:=
  Rd H a (.lst xs)∨
    ∃(o:Obj) (its:Array Value) (n:Nat),K.lookup a=some o∧o.cls=.type "list"∧o.dict=none∧o.data=.seq its n∧its.size≤sizeLine∧aI xs its.toList
def bB(K:PySem.W.Frag)(H:Hp)(a:Addr)(xs:List V):Prop:=
  Rd H a (.tup xs)∨
    ∃(o:Obj) (its:Array Value) (n:Nat),K.lookup a=some o∧o.cls=.type "tuple"∧o.dict=none∧o.data=.seq its n∧its.size≤sizeLine∧aI xs its.toList
def C_:Value→Option V
  | .none=>some .non
  | .bool b=>some (.bl b)
  | .int i _=>some (.int i)
  | .str x _=>some (.str x)
  | .bytes b _=>some (.byt b)
  | .float b _=>some (.flt b)
  | .ref a=>some (.ref a)
  | .type n=>some (.ty n)
  | _=>none
theorem bj.abs{x:V}{u:Value}(r:bj x u):C_ u=some x:=by
  cases x with
  | non=>cases r;rfl
  | bl _=>cases r;rfl
  | int _=>obtain⟨t,rfl⟩:=r;rfl
  | str _=>obtain⟨t,rfl⟩:=r;rfl
  | byt _=>obtain⟨t,rfl⟩:=r;rfl
  | flt _=>obtain⟨t,rfl⟩:=r;rfl
  | ref _=>cases r;rfl
  | ty _=>cases r;rfl
theorem bj.inj{x y:V}{u:Value}(r:bj x u)(q:bj y u):x=y:=Option.some.inj (r.abs.symm.trans q.abs)
theorem aI.inj:∀{xs ys:List V} {us:List Value},aI xs us→aI ys us→xs=ys
  | _,_,_,.nil,.nil=>rfl
  | _,_,_,.cons r t,.cons r' t'=>by rw [r.inj r',aI.inj t t']
section
variable{X:Cx}{pins:List (Addr × Obj)}{σ:St}{H:Hp}{s:Shared}{a:Addr}{xs ys:List V}
theorem bR.of{K:PySem.W.Frag}(h:H a=some (.lst xs)):bR K H a xs:=.inl (.inl h)
theorem bB.of{K:PySem.W.Frag}(h:H a=some (.tup xs)):bB K H a xs:=.inl (.inl h)
theorem aA.list(I:aA X pins σ H s)(h:bR X.K H a xs):∃its:List Value,aI xs its∧PlainL s.heap a its.toArray∧xs.length≤sizeLine:=by
  rcases h with h | ⟨o,its,n,hk,hc,hd,hs,hz,r⟩
  · obtain⟨z,its,n,r,e⟩:=h.ok I.hok
    exact⟨its,r,⟨_,n,e,rfl,rfl,rfl⟩,z⟩
  · refine⟨its.toList,r,⟨o,n,I.kIn a o hk,hc,hd,by simpa using hs⟩,?_⟩
    have e:=r.length
    simp only [Array.length_toList] at e
    lia
theorem aA.tuple(I:aA X pins σ H s)(h:bB X.K H a xs):∃its:List Value,aI xs its∧IsTup s.heap a its.toArray∧xs.length≤sizeLine:=by
  rcases h with h | ⟨o,its,n,hk,hc,_,hs,hz,r⟩
  · obtain⟨z,its,r,p⟩:=h.ok I.hok
    exact⟨its,r,p.tup,z⟩
  · refine⟨its.toList,r,⟨o,I.kIn a o hk,hc,n,by simpa using hs⟩,?_⟩
    have e:=r.length
    simp only [Array.length_toList] at e
    lia
theorem aA.list_inj(I:aA X pins σ H s)(h:bR X.K H a xs)(h':bR X.K H a ys):xs=ys:=by
  obtain⟨its,r,⟨o,n,e,_,_,d⟩,_⟩:=I.list h
  obtain⟨its',r',⟨o',n',e',_,_,d'⟩,_⟩:=I.list h'
  rw [e] at e';cases e'
  rw [d] at d'
  injection d' with d1 _
  have:its=its':=by simpa using congrArg Array.toList d1
  subst this
  exact r.inj r'
theorem aA.tuple_inj(I:aA X pins σ H s)(h:bB X.K H a xs)(h':bB X.K H a ys):xs=ys:=by
  obtain⟨its,r,⟨o,e,_,n,d⟩,_⟩:=I.tuple h
  obtain⟨its',r',⟨o',e',_,n',d'⟩,_⟩:=I.tuple h'
  rw [e] at e';cases e'
  rw [d] at d'
  injection d' with d1 _
  have:its=its':=by simpa using congrArg Array.toList d1
  subst this
  exact r.inj r'
end
abbrev Cx.wish(X:Cx)(E:Value→Shared→Prop):Cx:={X with xe:=E}
abbrev Cx.nox(X:Cx):Cx:=X.wish fun _ _=>False
theorem Cx.Ok.wish{X:Cx}(ok:X.Ok)(E:Value→Shared→Prop):(X.wish E).Ok:=
  ⟨ok.mod,ok.kind,ok.glob,ok.blt,ok.above,ok.inj,ok.has,ok.cab,ok.hd,ok.frames,ok.stk,ok.exf,ok.bs,ok.bsz,ok.noex,ok.exfs,ok.funs,ok.frf⟩
theorem Cx.Ok.unwish{X:Cx}{E:Value→Shared→Prop}(ok:(X.wish E).Ok):X.Ok:=
  ⟨ok.mod,ok.kind,ok.glob,ok.blt,ok.above,ok.inj,ok.has,ok.cab,ok.hd,ok.frames,ok.stk,ok.exf,ok.bs,ok.bsz,ok.noex,ok.exfs,ok.funs,ok.frf⟩
section
variable{X:Cx}{pins:List (Addr × Obj)}{σ:St}{H:Hp}{s:Shared}{E:Value→Shared→Prop}
theorem aA.wish(I:aA X pins σ H s)(E:Value→Shared→Prop):aA (X.wish E) pins σ H s:=⟨I.ok.wish E,I.os,I.bare,I.base,I.loc,I.cell,I.free,I.freeC,I.pin,I.hok,I.len⟩
theorem aA.unwish(I:aA (X.wish E) pins σ H s):aA X pins σ H s:=⟨I.ok.unwish,I.os,I.bare,I.base,I.loc,I.cell,I.free,I.freeC,I.pin,I.hok,I.len⟩
theorem SP.unwish{D:o8}{f:Flow}{s':Shared}(h:SP (X.wish E) pins D f s'):SP X pins D f s':=by
  cases f with
  | next=>obtain⟨σ',H',I,q⟩:=h;exact⟨σ',H',I.unwish,q⟩
  | brk=>obtain⟨σ',H',I,q⟩:=h;exact⟨σ',H',I.unwish,q⟩
  | cont=>obtain⟨σ',H',I,q⟩:=h;exact⟨σ',H',I.unwish,q⟩
  | ret u=>obtain⟨v,σ',H',I,r,q⟩:=h;exact⟨v,σ',H',I.unwish,r,q⟩
theorem jJ.nox{st:List Stmt}{t:TS}(h:jJ X.nox st t):jJ X st t:=fun pins s σ H D I hw=>
  wpAny_mono (h pins s σ H D (I.wish _) hw) (fun _ _ q=>q.unwish) fun _ _ z=>False.elim z
end
section
variable{X:Cx}{st:Stmt}{dr:List Stmt}{t u:TS}{e:Expr}{te:TE}{pos:Pos}
def Cq:TS:=fun D σ H=>D.nx σ H
def DG(t u:TS):TS:=fun D σ H=>t {D with nx:=u D} σ H
theorem w_:jJ X [] Cq:=fun _ _ σ H _ I h=>wpAny_execs_nil ⟨σ,H,I,h⟩
theorem uM(h1:PS X st t)(h2:jJ X dr u):jJ X (st::dr) (DG t u):=by
  intro pins s σ H D I h
  refine wpAny_execs_cons (bO (h1 pins s σ H {D with nx:=u D} I h) fun f s1 q=>?_)
  cases f with
  | next=>
    obtain⟨σ',H',I',q⟩:=q
    exact h2 pins s1 σ' H' D I' q
  | ret v=>exact q
  | brk=>exact q
  | cont=>exact q
theorem xa(h1:PS X st t):jJ X [st] t:=by
  intro pins s σ H D I h
  refine wpAny_execs_cons (bO (h1 pins s σ H D I h) fun f s1 q=>?_)
  cases f with
  | next=>exact wpAny_execs_nil q
  | ret v=>exact q
  | brk=>exact q
  | cont=>exact q
theorem aA.quiet{pins:List (Addr × Obj)}{σ:St}{H:Hp}{s:Shared}(I:aA X pins σ H s):interactive X.env=false:=by simp [interactive,I.ok.kind]
def Cp(te:TE):TS:=fun D σ H=>te σ H fun _ H1=>D.nx σ H1
theorem wZ(he:PE X e te)(hs:swapsWith e none pos.line X.env=pure false:=by rfl):PS X (.Expr e pos) (Cp te):=by
  intro pins s σ H D I h
  exact wpAny_Expr_any (bO (he pins s σ H _ I h) fun v s1 ⟨x,H1,I1,r1,q1⟩=>⟨σ,H1,I1,q1⟩) I.quiet hs
def DF(te:TE):TS:=fun D σ H=>te σ H D.rt
theorem zT(he:PE X e te):PS X (.Return (some e) pos) (DF te):=by
  intro pins s σ H D I h
  exact wpAny_Return_some (bO (he pins s σ H _ I h) fun v s1 ⟨x,H1,I1,r1,q1⟩=>⟨x,σ,H1,I1,r1,q1⟩)
def Dz(c:TT)(t u:TS):TS:=fun D σ H=>c σ H fun b H1=>if b=true then t D σ H1 else u D σ H1
theorem B1{c:Expr}{a b:List Stmt}{tc:TT}(hc:PT X c tc)(ha:jJ X a t)(hb:jJ X b u):PS X (.If c a b pos) (Dz tc t u):=by
  intro pins s σ H D I h
  refine wpAny_If (bO (hc pins s σ H _ I h) fun d s1 ⟨H1,I1,q1⟩=>?_)
  cases d with
  | true=>exact ha pins s1 σ H1 D I1 q1
  | false=>exact hb pins s1 σ H1 D I1 q1
end
abbrev TG:=V→St→Hp→(St→Hp→Prop)→Prop
abbrev vA:=List V→St→Hp→(St→Hp→Prop)→Prop
def PG(X:Cx)(target:Expr)(t:TG):Prop:=
  ∀(pins:List (Addr × Obj)) (s:Shared) (σ:St) (H:Hp) (v:V) (u:Value) (Q:St→Hp→Prop),aA X pins σ H s→bj v u→t v σ H Q→
    wpAny (model X.prog X.w) X.A (assign target X.env u) (fun _ s'=>∃σ' H',aA X pins σ' H' s'∧Q σ' H') X.xe s
def r_(X:Cx)(ts:List Expr)(t:vA):Prop:=
  ∀(pins:List (Addr × Obj)) (s:Shared) (σ:St) (H:Hp) (vs:List V) (us:List Value) (Q:St→Hp→Prop),aA X pins σ H s→aI vs us→t vs σ H Q→
    wpAny (model X.prog X.w) X.A (assignInOrder ((assignEach ts X.env).map (·.2)) us) (fun _ s'=>∃σ' H',aA X pins σ' H' s'∧Q σ' H') X.xe s
section
variable{X:Cx}{pos:Pos}
def tP(i:Nat):TG:=fun v σ H Q=>Q (σ.set i (some v)) H
theorem wM{i:Nat}{x:Str}(hN:X.N.Nodup)(hi:X.N[i]?=some x)(hx:AM X.env.scope x)(hf:X.fn x=true∨X.env.scope.names.lookup x=some .local:=by first | exact .inl rfl | exact .inr rfl | assumption):PG X (.Name x pos) (tP i):=by
  intro pins s σ H v u Q I r h
  exact wpAny_assign_Name (iY I hN hi hx r (fun s' I'=>⟨_,H,I',h⟩) hf)
def Dc:vA:=fun vs σ H Q=>vs=[]∧Q σ H
def Bm(t:TG)(u:vA):vA:=fun vs σ H Q=>∃v r,vs=v::r∧t v σ H fun σ' H'=>u r σ' H' Q
theorem wO:r_ X [] Dc:=by
  intro pins s σ H vs us Q I r h
  obtain⟨e,h⟩:=h
  subst e
  cases r
  exact assignInOrder_nil ⟨σ,H,I,h⟩
theorem uw{e:Expr}{es:List Expr}{t:TG}{u:vA}(h1:PG X e t)(h2:r_ X es u)
    (hs:(assignEach (e::es) X.env).map (·.2)=assign e X.env::(assignEach es X.env).map (·.2):=by rfl):r_ X (e::es) (Bm t u):=by
  intro pins s σ H vs us Q I r h
  obtain⟨v,vr,e1,h⟩:=h
  subst e1
  cases r with
  | cons r rr=>
    rw [hs]
    refine assignInOrder_cons (bO (h1 pins s σ H _ _ _ I r h) fun _ s1 ⟨σ1,H1,I1,q1⟩=>?_)
    exact h2 pins s1 σ1 H1 _ _ Q I1 rr q1
def tR(K:PySem.W.Frag)(n:Nat)(t:vA):TG:=fun v σ H Q=>∃a xs,v=.ref a∧bB K H a xs∧xs.length=n∧t xs σ H Q
theorem zN{es:List Expr}{k:Nat}{t:vA}{n:Nat}(hc:X.calm=true)(h:r_ X es t)
    (hn:(assignEach es X.env).length=n:=by rfl)(hst:(assignEach es X.env).findIdx? (·.1)=none:=by rfl):PG X (.Tuple es k pos) (tR X.K n t):=by
  intro pins s σ H v u Q I r hw
  obtain⟨a,xs,e1,hq,hl,hw⟩:=hw
  subst e1
  cases r
  obtain⟨its,rv,ht,hz⟩:=I.tuple hq
  refine assign_Tuple_tuple (I.ok.hd hc) ht (by simp [hn,←hl,rv.length]) hst fun h' hx=>?_
  have I1:aA X pins σ H {s with heap:=h'}:=I.kept (t':=s.toks) fun b o e=>hx b o (Nat.ne_of_lt (Heap.lt_size e)) e
  exact h pins _ σ H xs _ Q I1 (by simpa using rv) hw
def Ap(te:TE)(g:TG):TS:=fun D σ H=>te σ H fun x H1=>g x σ H1 D.nx
theorem zQ{tg e:Expr}{te:TE}{g:TG}(he:PE X e te)(hg:PG X tg g)(hs:swapsWithSole [tg] e pos.line X.env=pure false:=by rfl)(hw:swappedStores [tg] e X.env=pure none:=by rfl)
    (h1:(assignEach [tg] X.env).map (·.2)=[assign tg X.env]:=by rfl):PS X (.Assign [tg] e pos) (Ap te g):=by
  intro pins s σ H D I h
  refine wpAny_Assign_stores (bO (he pins s σ H _ I h) fun v s1 ⟨x,H1,I1,r1,q1⟩=>?_) hs hw
  rw [h1]
  exact bO (hg pins s1 σ H1 x v _ I1 r1 q1) fun _ s2 q=>q
theorem zU{i:Nat}{x:Str}{e:Expr}{te:TE}{pos':Pos}(hN:X.N.Nodup)(hi:X.N[i]?=some x)(hx:AM X.env.scope x)(he:PE X e te)(hs:swapsWith e (some (.Name x pos')) pos.line X.env=pure false:=by rfl)(hf:X.fn x=true∨X.env.scope.names.lookup x=some .local:=by first | exact .inl rfl | exact .inr rfl | assumption):
    PS X (.Assign [.Name x pos'] e pos) (Ap te (tP i)):=by
  intro pins s σ H D I h
  refine wpAny_Assign_Name (bO (he pins s σ H _ I h) fun v s1 ⟨y,H1,I1,r1,q1⟩=>?_) hs
  exact iY I1 hN hi hx r1 (fun s2 I2=>⟨_,H1,I2,q1⟩) hf
def DE(i j:Nat)(ta:TA):TS:=fun D σ H=>ta σ H fun vs H1=>∃v w,vs=[v,w]∧D.nx ((σ.set i (some v)).set j (some w)) H1
theorem zS{i j:Nat}{x y:Str}{a b:Expr}{ta:TA}{px py pt:Pos}{kt k2 pt2}(hc:X.calm=true)(hN:X.N.Nodup)(hi:X.N[i]?=some x)(hj:X.N[j]?=some y)(hij:i≠j)
    (hx:X.env.scope.names.lookup x=some .local)(hy:X.env.scope.names.lookup y=some .local)(ha:PA X [a,b] ta)
    (hw:swappedStores [.Tuple [.Name x px,.Name y py] kt pt] (.Tuple [a,b] k2 pt2) X.env=pure (some [x,y]))
    (hs:swapsWithSole [.Tuple [.Name x px,.Name y py] kt pt] (.Tuple [a,b] k2 pt2) pos.line X.env=pure false:=by rfl):
    PS X (.Assign [.Tuple [.Name x px,.Name y py] kt pt] (.Tuple [a,b] k2 pt2) pos) (DE i j ta):=by
  intro pins s σ H D I h
  rw [exec_Assign_arm]
  refine wpAny_bind (wpAny_standAt ?_)
  rw [hs]
  refine wpAny_bind (wpAny_pure ?_)
  rw [if_neg (by decide)]
  refine wpAny_bind (Tuple_ (bO (ha _ pins s σ H _ I h) fun us s1 ⟨vs,H1,I1,r1,q1⟩=>?_))
  obtain⟨v,w,e1,q1⟩:=q1
  subst e1
  obtain⟨u1,u2,rfl,rv,rw'⟩:∃u1 u2,us=[u1,u2]∧bj v u1∧bj w u2:=by
    cases r1 with
    | cons p q=>
      cases q with
      | cons p' q'=>
        cases q'
        exact⟨_,_,rfl,p,p'⟩
  refine wpAny_newObj_type ?_ (by show 2≤sizeLine;decide)
  have I2:aA X pins σ H1 {s1 with heap:=s1.heap.push {cls:=.type "tuple",data:=.seq [u1,u2].toArray}}:=I1.kept (t':=s1.toks) fun b o e=>Heap.get?_push_of_some _ e
  rw [hw]
  refine wpAny_bind (wpAny_pure ?_)
  show wpAny (model X.prog X.w) X.A (do rule "assign.swapped-stores";let items ←unpackItems (.ref s1.heap.objs.size) 2 none;assignInOrder [fun v=>bindName X.env y v,fun v=>bindName X.env x v] items.reverse;pure Flow.next) _ _ _
  refine wpAny_bind (wpAny_rule (wpAny_bind (unpackItems_tuple (items:=#[u1,u2]) (I.ok.hd hc) (IsTup.new s1.heap _) fun h' hx'=>?_)))
  have I3:=I2.kept (h':=h') (t':=s1.toks) fun b o e=>hx' b o (Nat.ne_of_lt (Heap.lt_size e)) e
  show wpAny _ _ (assignInOrder [fun v=>bindName X.env y v,fun v=>bindName X.env x v] [u2,u1] >>= fun _=>pure Flow.next) _ _ _
  refine wpAny_bind (assignInOrder_cons (wpAny_bindName (iY I3 hN hj (.inl hy) rw' (fun s2 I4=>?_) (.inr hy))))
  refine assignInOrder_cons (wpAny_bindName (iY I4 hN hi (.inl hx) rv (fun s3 I5=>assignInOrder_nil (wpAny_pure ?_)) (.inr hx)))
  rw [List.set_comm _ _ (Ne.symm hij)] at I5
  exact⟨_,H1,I5,q1⟩
end
section
variable{X:Cx}{pos:Pos}
def Au(c:TT)(tb:TS):TS:=fun D σ H=>∃W:Nat→St→Hp→Prop,(∃m,W m σ H)∧∀m σ H,W m σ H→
  c σ H fun b H1=>if b=true then ∃N:St→Hp→Prop,(∀σ' H',N σ' H'→∃m',m' < m∧W m' σ' H')∧tb {D with nx:=N,ct:=N,bk:=D.nx} σ H1 else D.nx σ H1
theorem uL{c:Expr}{body:List Stmt}{tc:TT}{tb:TS}(hp:PassesOwn (model X.prog X.w) X.A X.env X.xe)(hc:PT X c tc)(hb:jJ X body tb):PS X (.While c body [] pos) (Au tc tb):=by
  intro pins s σ H D I h
  obtain⟨W,⟨m0,w0⟩,turn⟩:=h
  refine wpAny_While (codeAny_whileLoop (fun n s'=>∃σ' H',aA X pins σ' H' s'∧W n σ' H') ?_ m0 ⟨σ,H,I,w0⟩)
  rintro n s1 ⟨σ1,H1,I1,w1⟩
  refine wpAny_passesOwn hp (bO (hc pins s1 σ1 H1 _ I1 (turn n σ1 H1 w1)) fun b s2 ⟨H2,I2,q2⟩=>?_)
  cases b with
  | true=>
    obtain⟨N,hN,q2⟩:=q2
    rw [if_pos rfl]
    refine wpAny_passesOwn hp (bO (hb pins s2 σ1 H2 _ I2 q2) fun f s3 q3=>?_)
    cases f with
    | next=>
      obtain⟨σ3,H3,I3,n3⟩:=q3
      obtain⟨m',hm,w3⟩:=hN σ3 H3 n3
      exact⟨m',hm,σ3,H3,I3,w3⟩
    | cont=>
      obtain⟨σ3,H3,I3,n3⟩:=q3
      obtain⟨m',hm,w3⟩:=hN σ3 H3 n3
      exact⟨m',hm,σ3,H3,I3,w3⟩
    | brk=>exact q3
    | ret v=>exact q3
  | false=>
    rw [if_neg Bool.false_ne_true]
    exact wpAny_execs_nil ⟨σ1,H2,I2,q2⟩
end
structure It where
  go:Nat→Hp→Prop
  yld:Nat→Hp→V→Hp→Prop
  stop:Nat→Hp→Prop
def eI(X:Cx)(pins:List (Addr × Obj))(H:Hp)(b:Addr):Prop:=
  H b=none∧b≠X.env.locals∧b∉X.fs∧(b∈X.ex∨X.s₀.heap.objs.size≤b)∧(∀x c,X.env.cells.lookup x=some c→c≠b)∧∀p∈X.pn++pins,p.1≠b
theorem aA.fpOk{X:Cx}{pins:List (Addr × Obj)}{σ:St}{H H':Hp}{s:Shared}{b:Addr}(I:aA X pins σ H s)(hb:s.heap.objs.size≤b)(hn:H' b=none):eI X pins H' b:=by
  refine⟨hn,Nat.ne_of_gt (Nat.lt_of_lt_of_le I.lt hb),I.nofs hb,.inr (Nat.le_trans I.sz hb),fun x c e z=>?_,fun p hp z=>?_⟩
  · obtain⟨v,q⟩:=I.cell x c e
    exact absurd (Nat.lt_of_lt_of_le q.lt (by rw [z];exact hb)) (Nat.lt_irrefl _)
  · exact absurd (Nat.lt_of_lt_of_le (Heap.lt_size (I.pin p hp).1) (by rw [z];exact hb)) (Nat.lt_irrefl _)
structure lb (P:Program) (w:World) (K:PySem.W.Frag) (tg:Expr) (J:It) (fp:List Addr) (it:Addr) (tn:Nat→Heap→Prop):Prop where
  mem:it∈fp
  obj:∀i h,tn i h→∀b∈fp,∃o,h.get? b=some o∧∀v,o.data≠.cell v
  keep:∀i h h',tn i h→(∀b∈fp,∀o,h.get? b=some o→h'.get? b=some o)→tn i h'
  item:∀(X:Cx),X.prog=P→X.w=w→X.K=K→X.calm=true→∀(i:Nat) (pins:List (Addr × Obj)) (s:Shared) (σ:St) (H:Hp) (E:Value→Shared→Prop),aA X pins σ H s→(∀b∈fp,eI X pins H b)→tn i s.heap→J.go i H→
    wpAny (model P w) X.A (pyNext (.ref it)) (fun r s1=>∃u,r=some u∧
      wpAny (model P w) X.A (letOwnedTupleGo tg (.ref it) u) (fun _ s2=>∃x H',aA X pins σ H' s2∧bj x u∧J.yld i H x H'∧tn (i+1) s2.heap∧∀b∈fp,H' b=none) E s1) E s
  done:∀(X:Cx),X.prog=P→X.w=w→X.K=K→X.calm=true→∀(i:Nat) (pins:List (Addr × Obj)) (s:Shared) (σ:St) (H:Hp) (E:Value→Shared→Prop),aA X pins σ H s→(∀b∈fp,eI X pins H b)→tn i s.heap→J.stop i H→
    wpAny (model P w) X.A (pyNext (.ref it)) (fun r s1=>r=none∧aA X pins σ H s1) E s
  self:∀(A:Around) (i:Nat) (s:Shared) (Q:Value→Shared→Prop) (E:Value→Shared→Prop),tn i s.heap→Q (.ref it) s→wpAny (model P w) A (pyIter (.ref it)) Q E s
abbrev TI:=St→Hp→(It→Hp→Prop)→Prop
def DO(X:Cx)(pins:List (Addr × Obj))(σ:St)(tg:Expr)(R:It→Hp→Prop)(itv:Value)(s2:Shared):Prop:=
  ∃(it:Addr) (fp:List Addr) (tn:Nat→Heap→Prop) (J:It) (H':Hp),itv=.ref it∧aA X pins σ H' s2∧lb X.prog X.w X.K tg J fp it tn∧tn 0 s2.heap∧(∀b∈fp,eI X pins H' b)∧R J H'
def PI(X:Cx)(tg iter:Expr)(wi:TI):Prop:=
  ∀(pins:List (Addr × Obj)) (s:Shared) (σ:St) (H:Hp) (R:It→Hp→Prop),aA X pins σ H s→wi σ H R→
    wpAny (model X.prog X.w) X.A (eval iter X.env) (fun v s1=>wpAny (model X.prog X.w) X.A (pyIter v) (DO X pins σ tg R) X.xe s1) X.xe s
theorem tT{M:Model}{A:Around}{E:Value→Shared→Prop}{s:Shared}{tg:Expr}{it:Addr}{u:Value}{o:Obj}{n:String}{vs:Array Value}{Q:Unit→Shared→Prop}(ho:s.heap.get? it=some o)(hc:o.cls=.type n)(hd:o.data=.fields vs)
    (hn:["enumerate","zip","dict_itemiterator","dict_reverseitemiterator","odict_iterator","itertools.zip_longest","itertools.pairwise"].contains n=false)(hQ:Q () s):wpAny M A (letOwnedTupleGo tg (.ref it) u) Q E s:=by
  unfold letOwnedTupleGo
  cases tg<;>first
    | exact wpAny_pure hQ
    | (cases u<;>first
        | exact wpAny_pure hQ
        | (refine wpAny_bind (wpAny_load ho ?_)
           rw [hc,hd]
           show wpAny M A (if (["enumerate","zip","dict_itemiterator","dict_reverseitemiterator","odict_iterator","itertools.zip_longest","itertools.pairwise"].contains n&&vs[0]?==some (rawInt _))=true then _ else _) Q E s
           rw [if_neg (by intro h;rw [hn,Bool.false_and] at h;cases h)]
           exact wpAny_pure hQ))
def C2(K:PySem.W.Frag)(a:Addr):It:=
  ⟨fun i H=>∃xs x,bR K H a xs∧xs[i]?=some x,fun i H x H'=>H'=H∧∀xs,bR K H a xs→xs[i]?=some x,fun i H=>∃xs,bR K H a xs∧xs.length≤i⟩
def C3(K:PySem.W.Frag)(a:Addr):It:=
  ⟨fun i H=>∃xs x,bB K H a xs∧xs[i]?=some x,fun i H x H'=>H'=H∧∀xs,bB K H a xs→xs[i]?=some x,fun i H=>∃xs,bB K H a xs∧xs.length≤i⟩
def CM(lo:Int)(n:Nat):It:=⟨fun i _=>i < n,fun i H x H'=>H'=H∧x=.int (lo+i),fun i _=>n≤i⟩
theorem rW{P:Program}{w:World}{K:PySem.W.Frag}{tg:Expr}(a it:Addr):lb P w K tg (C2 K a) [it] it (fun i h=>h.IsListIter it a i) where
  mem:=by simp
  obj:=fun i h st b hb=>by
    have e:b=it:=by simpa using hb
    subst e
    obtain⟨o,e,c,d⟩:=st
    exact⟨o,e,fun v z=>by rw [d] at z;cases z⟩
  keep:=fun i h h' st k=>st.at fun o e=>k it (by simp) o e
  item:=by
    intro X hP hw hK hc i pins s σ H E I hf st hg
    subst hP hw hK
    obtain⟨xs,x,hq,hx⟩:=hg
    obtain⟨its,rv,p,hz⟩:=I.list hq
    obtain⟨u,hu,ru⟩:=rv.get hx
    obtain⟨f0,f1,f2,f3,f4,f5⟩:=hf it (by simp)
    refine wpAny_pyNext_list_item st p.isList (x:=u) (by simpa using hu) fun h' st' sb=>?_
    have I1:aA X pins σ H {s with heap:=h'}:=I.turned (t':=s.toks) (fun b o hb e=>(sb.2 b hb).trans e) f0 f1 f3 f4 f5
    obtain⟨o,e,c,d⟩:=id st'
    exact⟨u,rfl,tT (s:={s with heap:=h'}) e c d (by decide) ⟨x,H,I1,ru,⟨rfl,fun ys hy=>by rw [I.list_inj hy hq];exact hx⟩,st',fun b hb=>(hf b hb).1⟩⟩
  done:=by
    intro X hP hw hK hc i pins s σ H E I hf st hg
    subst hP hw hK
    obtain⟨xs,hq,hx⟩:=hg
    obtain⟨its,rv,p,hz⟩:=I.list hq
    obtain⟨f0,f1,f2,f3,f4,f5⟩:=hf it (by simp)
    have hl:=rv.length
    exact wpAny_pyNext_list_end (I.ok.hd hc) st p.isList (by simp;lia) fun h' eb=>⟨rfl,I.turned (t':=s.toks) (fun b o hb e=>eb b o hb e) f0 f1 f3 f4 f5⟩
  self:=fun _ _ _ _ _ st h=>wpAny_pyIter_listiter st h
theorem p8{P:Program}{w:World}{K:PySem.W.Frag}{tg:Expr}(a it:Addr):lb P w K tg (C3 K a) [it] it (fun i h=>h.IsTupleIter it a i) where
  mem:=by simp
  obj:=fun i h st b hb=>by
    have e:b=it:=by simpa using hb
    subst e
    obtain⟨o,e,c,d⟩:=st
    exact⟨o,e,fun v z=>by rw [d] at z;cases z⟩
  keep:=fun i h h' st k=>st.at fun o e=>k it (by simp) o e
  item:=by
    intro X hP hw hK hc i pins s σ H E I hf st hg
    subst hP hw hK
    obtain⟨xs,x,hq,hx⟩:=hg
    obtain⟨its,rv,p,hz⟩:=I.tuple hq
    obtain⟨u,hu,ru⟩:=rv.get hx
    obtain⟨f0,f1,f2,f3,f4,f5⟩:=hf it (by simp)
    refine wpAny_pyNext_tuple_item st (show s.heap.IsTuple a its.toArray from p) (x:=u) (by simpa using hu) fun h' st' sb=>?_
    have I1:aA X pins σ H {s with heap:=h'}:=I.turned (t':=s.toks) (fun b o hb e=>(sb.2 b hb).trans e) f0 f1 f3 f4 f5
    obtain⟨o,e,c,d⟩:=id st'
    exact⟨u,rfl,tT (s:={s with heap:=h'}) e c d (by decide) ⟨x,H,I1,ru,⟨rfl,fun ys hy=>by rw [I.tuple_inj hy hq];exact hx⟩,st',fun b hb=>(hf b hb).1⟩⟩
  done:=by
    intro X hP hw hK hc i pins s σ H E I hf st hg
    subst hP hw hK
    obtain⟨xs,hq,hx⟩:=hg
    obtain⟨its,rv,p,hz⟩:=I.tuple hq
    obtain⟨f0,f1,f2,f3,f4,f5⟩:=hf it (by simp)
    have hl:=rv.length
    exact wpAny_pyNext_tuple_end (I.ok.hd hc) st (show s.heap.IsTuple a its.toArray from p) (by simp;lia) fun h' eb=>⟨rfl,I.turned (t':=s.toks) (fun b o hb e=>eb b o hb e) f0 f1 f3 f4 f5⟩
  self:=fun _ _ _ _ _ st h=>wpAny_pyIter_tupleiter st h
theorem p7{P:Program}{w:World}{K:PySem.W.Frag}{tg:Expr}(it:Addr)(lo:Int)(n:Nat):lb P w K tg (CM lo n) [it] it (fun i h=>IsRangeIter h it (lo+(i:Nat)*1) ((n:Int) - (i:Nat)) 1) where
  mem:=by simp
  obj:=fun i h st b hb=>by
    have e:b=it:=by simpa using hb
    subst e
    exact⟨_,st,fun v z=>by
      have z':Data.fields _=Data.cell v:=z
      cases z'⟩
  keep:=fun i h h' st k=>k it (by simp) _ st
  item:=by
    intro X hP hw hK hc i pins s σ H E I hf st hg
    subst hP hw hK
    obtain⟨f0,f1,f2,f3,f4,f5⟩:=hf it (by simp)
    have W:=Walks.range (prog:=X.prog) (w:=X.w) (I.ok.hd hc) it lo 1 n
    refine W.item i s _ _ hg st fun v h' tk hv st' kk=>?_
    obtain⟨t,rfl⟩:=hv
    have I1:aA X pins σ H {s with heap:=h',toks:=tk}:=I.turned (fun b o hb e=>kk b o (by simpa using hb) e) f0 f1 f3 f4 f5
    refine⟨_,rfl,tT (s:={s with heap:=h',toks:=tk}) (n:="range_iterator") st' rfl rfl (by decide) ⟨.int (lo+i),H,I1,⟨t,?_⟩,⟨rfl,rfl⟩,st',fun b hb=>(hf b hb).1⟩⟩
    rw [Int.mul_one]
  done:=by
    intro X hP hw hK hc i pins s σ H E I hf st hg
    subst hP hw hK
    obtain⟨f0,f1,f2,f3,f4,f5⟩:=hf it (by simp)
    exact wpAny_pyNext_range_end (I.ok.hd hc) st (by have:n≤i:=hg;lia) fun h' eb=>⟨rfl,I.turned (t':=s.toks) (fun b o hb e=>eb b o hb e) f0 f1 f3 f4 f5⟩
  self:=fun _ _ _ _ _ st h=>wpAny_pyIter_rangeiter st h
end L2
namespace L2
open PySem PySem.Spec PyProof.Rows
section
variable{X:Cx}{tg:Expr}
def yh(K:PySem.W.Frag)(tl:TE):TI:=fun σ H R=>tl σ H fun x H1=>∃a,x=.ref a∧(∃xs,bR K H1 a xs)∧R (C2 K a) H1
def Bq(K:PySem.W.Frag)(tl:TE):TI:=fun σ H R=>tl σ H fun x H1=>∃a,x=.ref a∧(∃xs,bB K H1 a xs)∧R (C3 K a) H1
theorem wQ{l:Expr}{tl:TE}(hl:PE X l tl):PI X tg l (yh X.K tl):=by
  intro pins s σ H R I h
  refine bO (hl pins s σ H _ I h) fun v s1 ⟨x,H1,I1,r1,q1⟩=>?_
  obtain⟨a,e,⟨xs,hq⟩,q⟩:=q1
  subst e
  cases r1
  obtain⟨its,rv,p,hz⟩:=I1.list hq
  refine wpAny_pyIter_list p.isList ?_
  refine⟨s1.heap.objs.size,[s1.heap.objs.size],_,_,H1,rfl,I1.kept (t':=s1.toks) fun b o e=>Heap.get?_push_of_some _ e,rW a _,⟨_,Heap.get?_push_size _ rfl,rfl,rfl⟩,fun b hb=>?_,q⟩
  have e:b=s1.heap.objs.size:=by simpa using hb
  subst e
  exact I1.fpOk (Nat.le_refl _) (I1.hok.fresh (Nat.le_refl _))
theorem zO{l:Expr}{tl:TE}(hl:PE X l tl):PI X tg l (Bq X.K tl):=by
  intro pins s σ H R I h
  refine bO (hl pins s σ H _ I h) fun v s1 ⟨x,H1,I1,r1,q1⟩=>?_
  obtain⟨a,e,⟨xs,hq⟩,q⟩:=q1
  subst e
  cases r1
  obtain⟨its,rv,p,hz⟩:=I1.tuple hq
  refine wpAny_pyIter_tuple (show s1.heap.IsTuple a its.toArray from p) ?_
  refine⟨s1.heap.objs.size,[s1.heap.objs.size],_,_,H1,rfl,I1.kept (t':=s1.toks) fun b o e=>Heap.get?_push_of_some _ e,p8 a _,⟨_,Heap.get?_push_size _ rfl,rfl,rfl⟩,fun b hb=>?_,q⟩
  have e:b=s1.heap.objs.size:=by simpa using hb
  subst e
  exact I1.fpOk (Nat.le_refl _) (I1.hok.fresh (Nat.le_refl _))
theorem u7{pins:List (Addr × Obj)}{σ:St}{H:Hp}{s:Shared}{R:It→Hp→Prop}{E:Value→Shared→Prop}{lo hi:Int}{t u v:Tok}{tk:Nat}(I:aA X pins σ H s)(h1: -(2 ^ 62)≤lo)(h2:lo < 2 ^ 62)(h3: -(2 ^ 62)≤hi)(h4:hi < 2 ^ 62)
    (q:R (CM lo (hi - lo).toNat) H):wpAny (model X.prog X.w) X.A (pyIter (.ref s.heap.objs.size)) (DO X pins σ tg R) E {s with heap:=s.heap.push {cls:=.type "range",data:=.fields #[.int lo t,.int hi u,.int 1 v]},toks:=tk}:=by
  refine wpAny_pyIter_range (IsRange.new ..) (small_one h1 h2 h3 h4) ?_
  have I1:aA X pins σ H {s with heap:=s.heap.push {cls:=.type "range",data:=.fields #[.int lo t,.int hi u,.int 1 v]},toks:=tk}:=I.kept fun b o e=>Heap.get?_push_of_some _ e
  refine⟨(s.heap.push {cls:=.type "range",data:=.fields #[.int lo t,.int hi u,.int 1 v]}).objs.size,[(s.heap.push {cls:=.type "range",data:=.fields #[.int lo t,.int hi u,.int 1 v]}).objs.size],_,_,H,rfl,
    I1.kept (t':=tk) fun b o e=>Heap.get?_push_of_some _ e,p7 _ lo (hi - lo).toNat,?_,fun b hb=>?_,q⟩
  · have e1:lo+((0:Nat):Int)*1=lo:=by simp
    have e2:(((hi - lo).toNat:Nat):Int) - ((0:Nat):Int)=Builtin.Range.rangeSize lo hi 1:=by rw [rangeSize_one];split<;>lia
    show IsRangeIter _ _ (lo+((0:Nat):Int)*1) ((((hi - lo).toNat:Nat):Int) - ((0:Nat):Int)) 1
    rw [e1,e2]
    exact Heap.get?_push_size _ rfl
  · have e:b=(s.heap.push {cls:=.type "range",data:=.fields #[.int lo t,.int hi u,.int 1 v]}).objs.size:=by simpa using hb
    subst e
    exact I1.fpOk (Nat.le_refl _) (I1.hok.fresh (Nat.le_refl _))
def Bp(ta:TA):TI:=fun σ H R=>ta σ H fun vs H1=>∃j:Int,vs=[.int j]∧ -(2 ^ 62)≤j∧j < 2 ^ 62∧R (CM 0 j.toNat) H1
theorem rO{a:Expr}{ta:TA}{p pos:Pos}(hg:Gl X "range")(hm:X.mg "range"=none)(ha:PA X [a] ta)(hs:starEach [a] X.env=[(false,eval a X.env)]:=by rfl):PI X tg (.Call (.Name "range" p) [a] [] pos) (Bp ta):=by
  intro pins s σ H R I h
  refine Call_ (dB I hg hm boot_range (PyProof.Rows.callWith_type1 (bO (ha pos pins s σ H _ I h) fun us s1 ⟨vs,H1,I1,r1,q1⟩=>?_) hs rfl))
  obtain⟨j,e,q1,q2,q⟩:=q1
  subst e
  cases r1 with
  | cons r rr=>
    cases rr
    obtain⟨t,rfl⟩:=r
    exact call_range_1 (u7 I1 (by lia) (by lia) q1 q2 (by simpa using q))
def Dy(wi:TI)(g:TG)(tb:TS):TS:=fun D σ H=>wi σ H fun J H1=>∃W:Nat→Nat→St→Hp→Prop,(∃m,W 0 m σ H1)∧∀i m σ H,W i m σ H→
  (J.stop i H∧D.nx σ H)∨(J.go i H∧∃N:St→Hp→Prop,(∀σ' H',N σ' H'→∃m',m' < m∧W (i+1) m' σ' H')∧∀x H',J.yld i H x H'→g x σ H' fun σ2 H2=>tb {D with nx:=N,ct:=N,bk:=D.nx} σ2 H2)
def jj(fp:List Addr)(h:Heap):List (Addr × Obj):=fp.filterMap fun b=>(h.get? b).map fun o=>(b,o)
theorem cZ{fp:List Addr}{h:Heap}{b:Addr}{o:Obj}(hb:b∈fp)(e:h.get? b=some o):(b,o)∈jj fp h:=List.mem_filterMap.mpr ⟨b,hb,by rw [e];rfl⟩
theorem rH{fp:List Addr}{h:Heap}{p:Addr × Obj}(hp:p∈jj fp h):p.1∈fp∧h.get? p.1=some p.2:=by
  obtain⟨b,hb,e⟩:=List.mem_filterMap.mp hp
  cases q:h.get? b with
  | none=>rw [q] at e;cases e
  | some o=>
    rw [q] at e
    have e':(b,o)=p:=Option.some.inj e
    subst e'
    exact⟨hb,q⟩
theorem aA.pinned{pins:List (Addr × Obj)}{σ:St}{H:Hp}{s:Shared}{fp:List Addr}(I:aA X pins σ H s)(hf:∀b∈fp,eI X pins H b)(ho:∀b∈fp,∃o,s.heap.get? b=some o∧∀v,o.data≠.cell v):aA X (pins++jj fp s.heap) σ H s:=
  I.pins_of fun p hp=>(List.mem_append.mp hp).elim (fun z=>I.pin p (List.mem_append_right _ z)) fun z=>by
    obtain⟨hb,e⟩:=rH z
    obtain⟨f0,f1,f2,_⟩:=hf p.1 hb
    obtain⟨o,e',d⟩:=ho p.1 hb
    rw [e] at e';cases e'
    exact⟨e,f0,f1,f2,d⟩
theorem aA.unpinned{pins pl:List (Addr × Obj)}{σ:St}{H:Hp}{s:Shared}(I:aA X (pins++pl) σ H s):aA X pins σ H s:=I.pins_of fun p hp=>I.pin p (List.mem_append_right _ (List.mem_append_left _ hp))
theorem zR{iter:Expr}{body:List Stmt}{wi:TI}{g:TG}{tb:TS}{pos:Pos}(hp:PassesOwn (model X.prog X.w) X.A X.env X.xe)(hc:X.calm=true)(hi:PI X tg iter wi)(hg:PG X tg g)(hb:jJ X body tb)
    (hs:∀x,foldedSetIterable iter X.env x=pure x:=by intro _;rfl):PS X (.For tg iter body [] pos) (Dy wi g tb):=by
  intro pins s σ H D I h
  refine wpAny_For (bO (hi pins s σ H _ I h) fun v s1 h1=>bO h1 fun itv s2 h2=>?_) hs
  obtain⟨it,fp,tn,J,H2,e,I2,T,st2,f2,W,⟨m0,w0⟩,turn⟩:=h2
  subst e
  have stat:∀{H':Hp},(∀b∈fp,H' b=none)→∀b∈fp,eI X pins H' b:=fun hn b hb=>⟨hn b hb,(f2 b hb).2⟩
  refine codeAny_forLoop_any (fun n s'=>∃i σ' H',aA X pins σ' H' s'∧tn i s'.heap∧(∀b∈fp,H' b=none)∧W i n σ' H') ?_ m0 ⟨0,σ,H2,I2,st2,fun b hb=>(f2 b hb).1,w0⟩
  rintro n s3 ⟨i,σ3,H3,I3,st3,fr3,w3⟩
  rcases turn i n σ3 H3 w3 with ⟨stop,qn⟩ | ⟨go,N,hN,step⟩
  · refine wpAny_passesOwn hp (bO (T.done X rfl rfl rfl hc i pins s3 σ3 H3 X.xe I3 (stat fr3) st3 stop) fun r s4 ⟨hr,I4⟩=>?_)
    subst hr
    exact wpAny_execs_nil ⟨σ3,H3,I4,qn⟩
  · refine wpAny_passesOwn hp (bO (T.item X rfl rfl rfl hc i pins s3 σ3 H3 X.xe I3 (stat fr3) st3 go) fun r s4 ⟨u,hr,h4⟩=>?_)
    subst hr
    refine wpAny_passesOwn hp (bO h4 fun _ s5 ⟨x,H5,I5,r5,y5,st5,fr5⟩=>?_)
    have I5':=I5.pinned (stat fr5) (T.obj _ _ st5)
    refine wpAny_passesOwn hp (bO (hg _ s5 σ3 H5 x u _ I5' r5 (step x H5 y5)) fun _ s6 ⟨σ6,H6,I6,q6⟩=>?_)
    refine wpAny_passesOwn hp (bO (hb _ s6 σ6 H6 _ I6 q6) fun f s7 q7=>?_)
    have again:∀{σ7:St} {H7:Hp},aA X (pins++jj fp s5.heap) σ7 H7 s7→N σ7 H7→∃m,m < n∧∃i σ' H',aA X pins σ' H' s7∧tn i s7.heap∧(∀b∈fp,H' b=none)∧W i m σ' H':=fun{σ7 H7} I7 n7=>by
      obtain⟨m',hm,w7⟩:=hN σ7 H7 n7
      refine⟨m',hm,i+1,σ7,H7,I7.unpinned,T.keep _ _ _ st5 fun b hb o e=>(I7.pin (b,o) (List.mem_append_right _ (List.mem_append_right _ (cZ hb e)))).1,fun b hb=>?_,w7⟩
      obtain⟨o,e,d⟩:=T.obj _ _ st5 b hb
      exact(I7.pin (b,o) (List.mem_append_right _ (List.mem_append_right _ (cZ hb e)))).2.1
    cases f with
    | next=>obtain⟨σ7,H7,I7,n7⟩:=q7;exact again I7 n7
    | cont=>obtain⟨σ7,H7,I7,n7⟩:=q7;exact again I7 n7
    | brk=>obtain⟨σ7,H7,I7,q7⟩:=q7;exact⟨σ7,H7,I7.unpinned,q7⟩
    | ret v=>obtain⟨x7,σ7,H7,I7,r7,q7⟩:=q7;exact⟨x7,σ7,H7,I7.unpinned,r7,q7⟩
end
end L2
namespace L2
open PySem PySem.Spec PyProof.Rows
abbrev R2:=V→V→Hp→VK→Prop
def eK(X:Cx)(f:Value→Value→Sem Value)(r:R2):Prop:=
  ∀(pins:List (Addr × Obj)) (s:Shared) (σ:St) (H:Hp) (x y:V) (v u:Value) (Q:VK),aA X pins σ H s→bj x v→bj y u→r x y H Q→
    wpAny (model X.prog X.w) X.A (f v u) (EP X pins σ Q) X.xe s
def CQ(X:Cx)(f:Value→Sem Value)(r:V→Hp→VK→Prop):Prop:=
  ∀(pins:List (Addr × Obj)) (s:Shared) (σ:St) (H:Hp) (x:V) (v:Value) (Q:VK),aA X pins σ H s→bj x v→r x H Q→
    wpAny (model X.prog X.w) X.A (f v) (EP X pins σ Q) X.xe s
def ce(X:Cx)(f:Value)(r:List V→Hp→VK→Prop):Prop:=
  ∀(pins:List (Addr × Obj)) (s:Shared) (σ:St) (H:Hp) (xs:List V) (us:List Value) (Q:VK),aA X pins σ H s→aI xs us→r xs H Q→
    wpAny (model X.prog X.w) X.A (call f us) (EP X pins σ Q) X.xe s
def Ct(r:R2)(ta tb:TE):TE:=fun σ H Q=>ta σ H fun x H1=>tb σ H1 fun y H2=>r x y H2 Q
def DZ(r:V→Hp→VK→Prop)(ta:TE):TE:=fun σ H Q=>ta σ H fun x H1=>r x H1 Q
def rI(C:Int→Int→Prop)(g:Int→Int→V):R2:=fun x y H Q=>∃i j,x=.int i∧y=.int j∧C i j∧Q (g i j) H
def pT(g:Int→Int→V):R2:=fun x y H Q=>∃i j,x=.int i∧y=.int j∧Q (g i j) H
def rU(g:Int→V):V→Hp→VK→Prop:=fun x H Q=>∃i,x=.int i∧Q (g i) H
section
variable{X:Cx}{a b c:Expr}{ta tb tc:TE}{pos:Pos}
theorem yA(ha:PE X a ta)(hb:PE X b tb){pins:List (Addr × Obj)}{s:Shared}{σ:St}{H:Hp}{R:V→V→Hp→Prop}(I:aA X pins σ H s)
    (h:ta σ H fun x H1=>tb σ H1 fun y H2=>R x y H2){Q:Value→Shared→Prop}{f:Value→Value→Sem Value}
    (hf:∀v u s2 x y H2,aA X pins σ H2 s2→bj x v→bj y u→R x y H2→wpAny (model X.prog X.w) X.A (f v u) Q X.xe s2):
    wpAny (model X.prog X.w) X.A (eval a X.env) (fun v s₁=>wpAny (model X.prog X.w) X.A (eval b X.env) (fun u s₂=>wpAny (model X.prog X.w) X.A (f v u) Q X.xe s₂) X.xe s₁) X.xe s:=by
  refine bO (ha pins s σ H _ I h) fun v s1 ⟨x,H1,I1,r1,q1⟩=>?_
  refine bO (hb pins s1 σ H1 _ I1 q1) fun u s2 ⟨y,H2,I2,r2,q2⟩=>?_
  exact hf v u s2 x y H2 I2 r1 r2 q2
theorem BV{op:Operator}{r:R2}(ho:eK X (binaryOp op) r)(ha:PE X a ta)(hb:PE X b tb):PE X (.BinOp a op b pos) (Ct r ta tb):=by
  intro pins s σ H Q I h
  exact wpAny_BinOp (yA ha hb I h fun v u s2 x y H2 I2 rx ry q=>ho pins s2 σ H2 x y v u Q I2 rx ry q)
theorem BY{op:UnaryOp}{r:V→Hp→VK→Prop}(ho:CQ X (unaryOp op) r)(ha:PE X a ta):PE X (.UnaryOp op a pos) (DZ r ta):=by
  intro pins s σ H Q I h
  exact UnaryOp_ (bO (ha pins s σ H _ I h) fun v s1 ⟨x,H1,I1,r1,q1⟩=>ho pins s1 σ H1 x v Q I1 r1 q1)
theorem AS{f:Value→Value→Sem Value}{C:Int→Int→Prop}{g:Int→Int→Int}
    (rule:∀(i j:Int) (t u:Tok) (s:Shared) (Q:Value→Shared→Prop) (E:Value→Shared→Prop),C i j→Q (.int (g i j) s.toks) {s with toks:=s.toks+1}→wpAny (model X.prog X.w) X.A (f (.int i t) (.int j u)) Q E s):
    eK X f (rI C fun i j=>.int (g i j)):=by
  intro pins s σ H x y v u Q I rx ry h
  obtain⟨i,j,rfl,rfl,hc,q⟩:=h
  obtain⟨t,rfl⟩:=rx
  obtain⟨t',rfl⟩:=ry
  exact rule i j t t' s _ _ hc ⟨.int (g i j),H,I.tok _,⟨_,rfl⟩,q⟩
theorem zp{f:Value→Value→Sem Value}{g:Int→Int→Int}
    (rule:∀(i j:Int) (t u:Tok) (s:Shared) (Q:Value→Shared→Prop) (E:Value→Shared→Prop),Q (.int (g i j) s.toks) {s with toks:=s.toks+1}→wpAny (model X.prog X.w) X.A (f (.int i t) (.int j u)) Q E s):
    eK X f (pT fun i j=>.int (g i j)):=by
  intro pins s σ H x y v u Q I rx ry h
  obtain⟨i,j,rfl,rfl,q⟩:=h
  obtain⟨t,rfl⟩:=rx
  obtain⟨t',rfl⟩:=ry
  exact rule i j t t' s _ _ ⟨.int (g i j),H,I.tok _,⟨_,rfl⟩,q⟩
theorem zo{f:Value→Value→Sem Value}{g:Int→Int→Bool}
    (rule:∀(i j:Int) (t u:Tok) (s:Shared) (Q:Value→Shared→Prop) (E:Value→Shared→Prop),Q (.bool (g i j)) s→wpAny (model X.prog X.w) X.A (f (.int i t) (.int j u)) Q E s):
    eK X f (pT fun i j=>.bl (g i j)):=by
  intro pins s σ H x y v u Q I rx ry h
  obtain⟨i,j,rfl,rfl,q⟩:=h
  obtain⟨t,rfl⟩:=rx
  obtain⟨t',rfl⟩:=ry
  exact rule i j t t' s _ _ ⟨.bl (g i j),H,I,rfl,q⟩
def yv(i j:Int):Prop:=0≤j∧j≤1000000∧i.natAbs < 2 ^ 64
def vE(i j:Int):Prop:=(-(2 ^ 64) < i∧i < 2 ^ 64)∨(-(2 ^ 64) < j∧j < 2 ^ 64)
theorem vE.ok{i j:Int}(h:vE i j):IntMulOk i j:=by
  rcases h with ⟨h1,h2⟩ | ⟨h1,h2⟩
  · exact .of_left (intBits_le_64 h1 h2)
  · exact .of_right (intBits_le_64 h1 h2)
theorem qb(k:Nat):(0:Int)≤2 ^ k:=by
  rw [two_pow_cast]
  exact Int.natCast_nonneg _
theorem zq:eK X (binaryOp .Add) (pT fun i j=>.int (i+j)):=zp fun _ _ _ _ _ _ _ q=>add_int q
theorem zE:eK X (binaryOp .Sub) (pT fun i j=>.int (i - j)):=zp fun _ _ _ _ _ _ _ q=>sub_int q
theorem zz:eK X (binaryOp .Mult) (rI vE fun i j=>.int (i*j)):=AS fun _ _ _ _ _ _ _ hc q=>mul_int q hc.ok
theorem wB:eK X (binaryOp .Mod) (rI (fun _ j=>j≠0) fun i j=>.int (i.fmod j)):=AS fun _ _ _ _ _ _ _ hc q=>mod_int' hc q
theorem zB:eK X (binaryOp .Pow) (rI yv fun i j=>.int (i ^ j.toNat)):=AS fun _ _ _ _ _ _ _ hc q=>pow_int_small hc.1 hc.2.1 hc.2.2 q
theorem zD:eK X (binaryOp .RShift) (rI (fun _ j=>0≤j) fun i j=>.int (i / 2 ^ j.toNat)):=AS fun i j _ _ _ _ _ hc q=>
  rshift_int hc (by rw [Int.fdiv_eq_ediv_of_nonneg i (qb _)];exact q)
theorem zr:eK X (binaryOp .BitAnd) (pT fun i j=>.int (Builtin.bitAnd i j)):=zp fun _ _ _ _ _ _ _ q=>and_int q
theorem Em{f:Value→Sem Value}{g:Int→Int}
    (rule:∀(i:Int) (t:Tok) (s:Shared) (Q:Value→Shared→Prop) (E:Value→Shared→Prop),Q (.int (g i) s.toks) {s with toks:=s.toks+1}→wpAny (model X.prog X.w) X.A (f (.int i t)) Q E s):
    CQ X f (rU fun i=>.int (g i)):=by
  intro pins s σ H x v Q I rx h
  obtain⟨i,rfl,q⟩:=h
  obtain⟨t,rfl⟩:=rx
  exact rule i t s _ _ ⟨.int (g i),H,I.tok _,⟨_,rfl⟩,q⟩
theorem AE:CQ X (unaryOp .USub) (rU fun i=>.int (-i)):=Em fun _ _ _ _ _ q=>neg_int q
end
section
variable{X:Cx}{a b c:Expr}{ta tb tc:TE}{pos:Pos}
theorem yJ{pins:List (Addr × Obj)}{σ:St}{H:Hp}{s:Shared}{Q:VK}{k k':Bool}(I:aA X pins σ H s)(q:Q (.bl k) H)(e:k=k'):EP X pins σ Q (.bool k') s:=by
  subst e
  exact⟨.bl k,H,I,rfl,q⟩
theorem BP:eK X (compareOp .Lt) (pT fun i j=>.bl (decide (i < j))):=zo fun _ _ _ _ _ _ _ q=>lt_int q
theorem BO:eK X (compareOp .Gt) (pT fun i j=>.bl (decide (j < i))):=zo fun _ _ _ _ _ _ _ q=>gt_int q
theorem BN:eK X (compareOp .GtE) (pT fun i j=>.bl (decide (j≤i))):=zo fun _ _ _ _ _ _ _ q=>ge_int q
theorem zy:eK X (compareOp .Is) (fun x y H Q=>y=.non∧Q (.bl (decide (x=.non))) H):=by
  intro pins s σ H x y v u Q I rx ry h
  obtain⟨rfl,q⟩:=h
  cases ry
  refine is_none_gen (yJ I q ?_)
  cases x<;>first
    | (cases rx;rfl)
    | (obtain⟨t,rfl⟩:=rx;rfl)
theorem eK.or{f:Value→Value→Sem Value}{r r':R2}(h:eK X f r)(h':eK X f r'):eK X f (fun x y H Q=>r x y H Q∨r' x y H Q):=by
  intro pins s σ H x y v u Q I rx ry q
  rcases q with q | q
  · exact h pins s σ H x y v u Q I rx ry q
  · exact h' pins s σ H x y v u Q I rx ry q
theorem aZ(b:Expr){op:CmpOp}(h:op≠.In:=by decide)(h2:op≠.NotIn:=by decide):behindInMarks op b=false:=by
  have e1:(op==CmpOp.In)=false:=by cases op<;>first | rfl | exact absurd rfl h
  have e2:(op==CmpOp.NotIn)=false:=by cases op<;>first | rfl | exact absurd rfl h2
  cases b<;>simp [behindInMarks,e1,e2]
theorem wJ{op:CmpOp}{r:R2}(ho:eK X (compareOp op) r)(ha:PE X a ta)(hb:PE X b tb)(hm:behindInMarks op b=false):PE X (.Compare a [op] [b] pos) (Ct r ta tb):=by
  intro pins s σ H Q I h
  exact wpAny_Compare1 (yA ha hb I h fun v u s2 x y H2 I2 rx ry q=>ho pins s2 σ H2 x y v u Q I2 rx ry q) hm
def Cv(t:TE):TT:=fun σ H Q=>t σ H fun x H'=>∃k,x=.bl k∧Q k H'
theorem xb{op:CmpOp}{r:R2}(ho:eK X (compareOp op) r)(ha:PE X a ta)(hb:PE X b tb)(hm:behindInMarks op b=false):PT X (.Compare a [op] [b] pos) (Cv (Ct r ta tb)):=by
  intro pins s σ H Q I h
  refine wpAny_isTrue_Compare1 (bO (ha pins s σ H _ I h) fun v s1 ⟨x,H1,I1,r1,q1⟩=>bO (hb pins s1 σ H1 _ I1 q1) fun u s2 ⟨y,H2,I2,r2,q2⟩=>
    bO (ho pins s2 σ H2 x y v u _ I2 r1 r2 q2) fun c s3 ⟨z,H3,I3,r3,k,e,q3⟩=>?_) hm
  subst e
  cases r3
  exact wpAny_truthy_bool ⟨H3,I3,q3⟩
theorem pI:(sizeLine:Nat) < 2 ^ 63:=by rw [sizeLine_eq];decide
theorem mi{x:V}{us:List Value}(r:aI [x] us):∃u,us=[u]∧bj x u:=by
  cases r with
  | cons r1 r2=>cases r2;exact⟨_,rfl,r1⟩
theorem yt{x y:V}{us:List Value}(r:aI [x,y] us):∃u w',us=[u,w']∧bj x u∧bj y w':=by
  cases r with
  | cons r1 r2=>
    cases r2 with
    | cons r3 r4=>cases r4;exact⟨_,_,rfl,r1,r3⟩
theorem sP:ce X (.builtin "abs") (fun xs H Q=>∃i,xs=[.int i]∧Q (.int (if i < 0 then -i else i)) H):=by
  intro pins s σ H xs us Q I r h
  obtain⟨i,rfl,q⟩:=h
  obtain⟨u,rfl,t,rfl⟩:=mi r
  exact call_abs_int fun u tk=>⟨.int (if i < 0 then -i else i),H,I.tok _,⟨_,rfl⟩,q⟩
theorem rc(hc:X.calm=true):ce X (.builtin "max") (fun xs H Q=>∃i j,xs=[.int i,.int j]∧Q (.int (if j > i then j else i)) H):=by
  intro pins s σ H xs us Q I r h
  obtain⟨i,j,rfl,q⟩:=h
  obtain⟨u,w',rfl,⟨t,rfl⟩,⟨t',rfl⟩⟩:=yt r
  refine max_two_ints (I.ok.hd hc) fun h' tk k=>⟨_,H,I.kept k,?_,q⟩
  by_cases hj:j > i
  · rw [if_pos hj,if_pos hj];exact⟨_,rfl⟩
  · rw [if_neg hj,if_neg hj];exact⟨_,rfl⟩
theorem rg(hc:X.calm=true):ce X (.builtin "min") (fun xs H Q=>∃i j,xs=[.int i,.int j]∧Q (.int (if j < i then j else i)) H):=by
  intro pins s σ H xs us Q I r h
  obtain⟨i,j,rfl,q⟩:=h
  obtain⟨u,w',rfl,⟨t,rfl⟩,⟨t',rfl⟩⟩:=yt r
  refine min_two_ints (I.ok.hd hc) fun h' tk k=>⟨_,H,I.kept k,?_,q⟩
  by_cases hj:j < i
  · rw [if_pos hj,if_pos hj];exact⟨_,rfl⟩
  · rw [if_neg hj,if_neg hj];exact⟨_,rfl⟩
theorem q_:ce X (.type "int") (fun xs H Q=>(∃i,xs=[.int i]∧Q (.int i) H)∨∃k,xs=[.bl k]∧Q (.int (if k then 1 else 0)) H):=by
  intro pins s σ H xs us Q I r h
  rcases h with ⟨i,rfl,q⟩ | ⟨k,rfl,q⟩
  · obtain⟨u,rfl,t,rfl⟩:=mi r
    exact call_int_int ⟨.int i,H,I,⟨_,rfl⟩,q⟩
  · obtain⟨u,rfl,r1⟩:=mi r
    cases r1
    exact call_int_bool ⟨.int (if k then 1 else 0),H,I.tok _,⟨_,rfl⟩,q⟩
end
end L2
namespace L2
open PySem PySem.Spec PyProof.Rows
structure D8 (h:Heap) (x dx C:Addr) (mA:Str→Option Value):Prop where
  obj:h.get? x=some (PySem.W.instObj C dx)
  ns:h.Ns1 dx mA
  ne:dx≠x
section
variable{prog:Program}{w:World}{A:Around}{E:Value→Shared→Prop}{s:Shared}{K:PySem.W.Frag}{x dx C f:Addr}{mA:Str→Option Value}{name:Str}{v:Value}
end
section
variable{P:Program}{w:World}{H H':Hp}{h h':Heap}{a C dx:Addr}{fs fs':List (Str × V)}
end
structure D4 (K:PySem.W.Frag) (C:Addr):Prop where
  pg:PySem.W.plainGet K C Str.empty=true
  hd:PySem.W.hasDictIn K C=true
  po:PySem.W.plainOver K C=true
  sa:PySem.W.findIn K (.ref C) "__setattr__"=some (some (.builtin "object.__setattr__"))
structure Eo (K:PySem.W.Frag) (C:Addr) (f:Str) (v:V) (u:Value):Prop where
  at_:PySem.W.findIn K (.ref C) f=some (some u)
  rel:bj v u
  get:PySem.W.specialIn K u "__get__"=some none
  cp:PySem.W.copiedNames.contains f=false
structure D7 (K:PySem.W.Frag) (C:Addr) (m:Str) (f:Addr):Prop where
  at_:PySem.W.findIn K (.ref C) m=some (some (.ref f))
  fn:PySem.W.isFn K (.ref f)=true
  kp:PySem.W.keepIn K (.ref f)=true
section
variable{X:Cx}{pins:List (Addr × Obj)}{σ:St}{H:Hp}{s:Shared}{a C dx:Addr}{fs:List (Str × V)}{f:Str}{v:V}{A:Around}{E:Value→Shared→Prop}
end
section
variable{X:Cx}{o e value:Expr}{f:Str}{pos pos' tpos:Pos}{ta tv:TE}
end
section
variable{X:Cx}{pins:List (Addr × Obj)}{σ:St}{H:Hp}{s:Shared}{A:Around}{E:Value→Shared→Prop}{Q:Value→Shared→Prop}{c:Value}{b:Bool}
inductive j2 (K:PySem.W.Frag) (H:Hp):V→Value→Prop where
  | non:j2 K H .non (.type "NoneType")
  | bl (x:Bool):j2 K H (.bl x) (.type "bool")
  | int (i:Int):j2 K H (.int i) (.type "int")
  | str (x:Str):j2 K H (.str x) (.type "str")
  | flt (x:UInt64):j2 K H (.flt x) (.type "float")
  | lst {a:Addr} {xs:List V} (e:H a=some (.lst xs)):j2 K H (.ref a) (.type "list")
  | frz {a:Addr} {o:Obj} {xs:List V} (e:H a=some (.frz o (.lst xs))):j2 K H (.ref a) (.type "list")
  | tup {a:Addr} {xs:List V} (e:H a=some (.tup xs)):j2 K H (.ref a) (.type "tuple")
  | dK {a:Addr} {kvs:List (eJ × V)} (e:H a=some (.dK kvs)):j2 K H (.ref a) (.type "dict")
  | dT {a:Addr} {kvs:List (List eJ × V)} (e:H a=some (.dT kvs)):j2 K H (.ref a) (.type "dict")
  | ins {a C dx:Addr} {fs:List (Str × V)} (e:H a=some (.ins C dx fs)) (cl:D4 K C) (ha:PySem.W.findIn K (.ref C) "__class__"=some (some (.builtin "object.__class__")))
      (hn:PySem.W.specialIn K (.builtin "object.__class__") "__get__"=some (some (.builtin "getset_descriptor.__get__"))) (htk:PySem.W.takesIn K (.builtin "object.__class__")=some true)
      (hm:PySem.W.mroIn K C (.type "object")=some true):j2 K H (.ref a) (.ref C)
end
end L2
namespace L2
open PySem PySem.Spec PyProof.Rows
structure bU (k:Nat) (A:Around):Prop where
  hd:A.handled=none
  dp:A.depth+3*k+5 < recursionLimit
  un:A.units+16*k+200 < cLine
  gd:A.guards=some []
theorem bU.mono{j k:Nat}{A:Around}(r:bU k A)(h:j≤k):bU j A:=⟨r.hd,by have:=r.dp;lia,by have:=r.un;lia,r.gd⟩
theorem bU.deeper{k:Nat}{A:Around}(r:bU (k+1) A)(env:Env):bU k (A.deeper env):=
  ⟨r.hd,by have:=r.dp;show A.depth+1+3*k+5 < _;lia,by have:=r.un;show A.units+3+16*k+200 < _;lia,r.gd⟩
theorem bU.depth{k:Nat}{A:Around}(r:bU k A):A.depth < recursionLimit:=by have:=r.dp;lia
theorem bU.units{k:Nat}{A:Around}(r:bU k A):A.units+64 < cLine:=by have:=r.un;lia
def As:TA:=fun _ H Q=>Q [] H
def oS(ta:TE)(tr:TA):TA:=fun σ H Q=>ta σ H fun x H1=>tr σ H1 fun xs H2=>Q (x::xs) H2
section
variable{X:Cx}{e:Expr}{es:List Expr}{te:TE}{t:TA}{pos:Pos}
theorem uq:PA X [] As:=fun _ _ _ _ H Q I h=>Calls.spliced_nil ⟨[],H,I,.nil,h⟩
theorem mX(ha:PE X e te)(hr:PA X es t)(hs:starEach (e::es) X.env=(false,eval e X.env)::starEach es X.env:=by rfl):PA X (e::es) (oS te t):=by
  intro pos pins s σ H Q I h
  rw [hs]
  show wpAny _ _ (spliced ((false,eval e X.env)::backTo pos (starEach es X.env))) _ _ s
  refine Calls.spliced_cons (bO (ha pins s σ H _ I h) fun u s1 ⟨x,H1,I1,r1,q1⟩=>?_)
  exact bO (hr pos pins s1 σ H1 _ I1 q1) fun us s2 ⟨xs,H2,I2,r2,q2⟩=>⟨x::xs,H2,I2,.cons r1 r2,q2⟩
def Cw(t:TA):TE:=fun σ H Q=>t σ H fun xs H1=>xs.length≤sizeLine∧∀p,H1 p=none→Q (.ref p) (aT H1 p (.tup xs))
def DB(t:TA):TE:=fun σ H Q=>t σ H fun xs H1=>xs.length≤sizeLine∧∀p,H1 p=none→Q (.ref p) (aT H1 p (.lst xs))
theorem zL{x1}(h:PA X es t):PE X (.Tuple es x1 pos) (Cw t):=by
  intro pins s σ H Q I hq
  refine wpAny_Tuple_spliced (bO (h pos pins s σ H _ I hq) fun us s1 ⟨xs,H1,I1,r,z,q⟩=>⟨by rw [←r.length];exact z,?_⟩)
  have hf:H1 s1.heap.objs.size=none:=I1.hok.fresh (Nat.le_refl _)
  refine⟨.ref s1.heap.objs.size,aT H1 s1.heap.objs.size (.tup xs),I1.laid (t':=s1.toks) (fun b u e=>Heap.get?_push_of_some _ e) (Nat.le_refl _) ?_,rfl,q _ hf⟩
  exact⟨z,us,r,⟨_,Heap.get?_push_size _ rfl,rfl,_,rfl,rfl⟩⟩
theorem zG(h:PA X es t):PE X (.List es pos) (DB t):=by
  intro pins s σ H Q I hq
  refine wpAny_List_spliced (bO (h pos pins s σ H _ I hq) fun us s1 ⟨xs,H1,I1,r,z,q⟩=>⟨by rw [←r.length];exact z,?_⟩)
  have hf:H1 s1.heap.objs.size=none:=I1.hok.fresh (Nat.le_refl _)
  refine⟨.ref s1.heap.objs.size,aT H1 s1.heap.objs.size (.lst xs),I1.laid (t':=s1.toks) (fun b u e=>Heap.get?_push_of_some _ e) (Nat.le_refl _) ?_,rfl,q _ hf⟩
  exact⟨z,us,0,r,Heap.get?_push_size _ rfl⟩
end
abbrev Sp:=List V→Hp→VK→XK→Prop
abbrev q5:=List Env→Hp→Shared→XK→Value→Shared→Prop
structure vF (P:Program) (w:World) (K:PySem.W.Frag) (mg:Str→Option Value) (base:Heap) (A:Around) (outer:List Env) (s:Shared) (H:Hp):Prop where
  frames:A.frames=some outer
  mod:Mod K mg base
  bs:∀b o,base.get? b=some o→s.heap.get? b=some o∧H b=none
  bsz:base.objs.size≤s.heap.objs.size
  funs:s.heap.FunFrames base outer
  frf:∀b∈s_ outer,H b=none
  hok:js P w H s.heap
  bare:AllBare s.gens
def CE(outer:List Env)(P:Program)(w:World)(H:Hp)(s:Shared)(Q:VK)(u:Value)(s':Shared):Prop:=
  ∃v H',s'.os=s.os∧AllBare s'.gens∧Un (s_ outer) [] H H' s.heap s'.heap∧js P w H' s'.heap∧bj v u∧Q v H'
def CR(CX:q5)(outer:List Env)(P:Program)(w:World)(H:Hp)(s:Shared)(Q:VK)(E:XK)(r:Result)(s':Shared):Prop:=
  match r with
  | .ok (.ret u)=>CE outer P w H s Q u s'
  | .ok _=>False
  | .error e=>CX outer H s E e s'
structure aP (P:Program) (w:World) (K:PySem.W.Frag) (mg:Str→Option Value) (base:Heap) (CX:q5) (k:Nat) (f:Addr) (fd:FuncData) (ps:List Str) (sp:Sp):Prop where
  len:∀vs H Q E,sp vs H Q E→vs.length=ps.length
  run:∀(A:Around) (outer:List Env) (s:Shared) (H:Hp) (args:Args) (us:List Value) (vs:List V) (Q:VK) (E:XK),bU k A→vF P w K mg base A outer s H→BindsTo s fd args (ps.zip us)→aI vs us→sp vs H Q E→
    codeAny (model P w) A (.call (.ref f) args) (CR CX outer P w H s Q E) s
section
variable{X:Cx}{pins:List (Addr × Obj)}{σ:St}{H:Hp}{s s':Shared}
theorem aA.env0(I:aA X pins σ H s):vF X.prog X.w X.K X.mg X.base X.A X.stack s H:=
  ⟨I.ok.frames,I.ok.mod,I.bs,Nat.le_trans I.ok.bsz I.sz,I.stack,I.stkFree,I.hok,I.bare⟩
theorem aA.after{Q:VK}{u:Value}(I:aA X pins σ H s)(h:CE X.stack X.prog X.w H s Q u s'):EP X pins σ Q u s':=by
  obtain⟨v,H',os,bare,un,hok,r,q⟩:=h
  obtain⟨hh,g,d,t,os'⟩:=s'
  obtain rfl:os'=s.os:=os
  exact⟨v,H',I.call (h':=hh) (g':=g) (d':=d) (t':=t) (ch:=[]) un hok bare (fun b z=>absurd z (by simp)),r,q⟩
end
def vn(sp:Sp)(dvs:List V)(E:XK)(t:TA):TE:=fun σ H Q=>t σ H fun vs H1=>sp (vs++dvs) H1 Q E
def lu(K:PySem.W.Frag)(fd:FuncData)(ps:List Str)(ds:List Value):Prop:=
  ∀(s:Shared) (us:List Value),K.In s.heap→(us++ds).length=ps.length→BindsTo s fd ⟨us,[]⟩ (ps.zip (us++ds))
theorem lu.all{K:PySem.W.Frag}{fd:FuncData}{ps:List Str}(h:∀us:List Value,us.length=ps.length→bindArgs fd ⟨us,[]⟩=pure (ps.zip us)):lu K fd ps []:=fun s us _ hl=>by
  rw [List.append_nil] at hl ⊢
  exact .of_eq (h us hl)
def pb(CX:q5)(X:Cx)(E:XK):Prop:=∀(pins:List (Addr × Obj)) (σ:St) (H:Hp) (s:Shared) (e:Value) (s':Shared),aA X pins σ H s→CX X.stack H s E e s'→X.xe e s'
section
variable{X:Cx}{CX:q5}{k:Nat}{f C:Addr}{fd:FuncData}{ps:List Str}{sp:Sp}{dvs:List V}{ds:List Value}{E:XK}{x m:Str}{p pos apos:Pos}{e o:Expr}{es:List Expr}{ta:TE}{t:TA}
theorem Aj{pins:List (Addr × Obj)}{σ:St}{H:Hp}{s:Shared}{Q:VK}{us:List Value}{vs:List V}(F:aP X.prog X.w X.K X.mg X.base CX k f fd ps sp)(hr:bU k X.A)(hb:lu X.K fd ps ds)(hd:aI dvs ds)(hx:pb CX X E)
    (I:aA X pins σ H s)(r:aI vs us)(h:sp (vs++dvs) H Q E):wpAny (model X.prog X.w) X.A (call (.ref f) us) (EP X pins σ Q) X.xe s:=by
  have r2:aI (vs++dvs) (us++ds):=r.append hd
  have hl:(us++ds).length=ps.length:=by rw [←r2.length];exact F.len _ _ _ _ h
  refine wpAny_call (codeAny_mono (F.run X.A X.stack s H ⟨us,[]⟩ (us++ds) (vs++dvs) Q E hr I.env0 (hb s us I.kIn hl) r2 h) fun r s' hq=>?_)
  cases r with
  | error e=>exact hx pins σ H s e s' I hq
  | ok fl=>
    cases fl with
    | ret u=>exact I.after hq
    | next=>exact False.elim hq
    | brk=>exact False.elim hq
    | cont=>exact False.elim hq
theorem wH(F:aP X.prog X.w X.K X.mg X.base CX k f fd ps sp)(hr:bU k X.A)(hg:Gl X x)(hm:X.mg x=some (.ref f))(hk:PySem.W.keepIn X.K (.ref f)=true)(hb:lu X.K fd ps ds)(hd:aI dvs ds)(hx:pb CX X E)
    (ha:PA X (e::es) t)(hdb:(x==("__debug__":Str))=false:=by decide)(he:starEach (e::es) X.env=(false,eval e X.env)::starEach es X.env:=by rfl)(hpl:(backTo pos (starEach es X.env)).any (·.1)=false:=by rfl):
    PE X (.Call (.Name x p) (e::es) [] pos) (vn sp dvs E t):=by
  intro pins s σ H Q I h
  refine wpAny_Call_Name_kw (wc I hg hm ?_ hdb)
  refine PySem.W.callWith_K (h₀:=X.base) I.ok.mod.kin hk (bO (ha pos pins s σ H _ I h) fun us s1 ⟨vs,H1,I1,r,q⟩=>⟨I1.kIn,?_⟩) he hpl
  exact Aj F hr hb hd hx I1 r q
structure Mk (K:PySem.W.Frag) (C f:Addr):Prop where
  makes:PySem.W.makesIn K C=true
  init:PySem.W.findIn K (.ref C) "__init__"=some (some (.ref f))
  fn:PySem.W.isFn K (.ref f)=true
  kp:PySem.W.keepIn K (.ref C)=true
end
section
variable{X:Cx}{CX:q5}{k:Nat}{f C:Addr}{fd:FuncData}{ps ks:List Str}{sp:Sp}{E:XK}{x m:Str}{p pos apos kpos:Pos}{e o:Expr}{es:List Expr}{kws:List Keyword}{te ta:TE}{t tk:TA}{nm:Option Str}
structure C4 (K:PySem.W.Frag) (fd:FuncData) (ps ks:List Str) (g:List Value→List Value→List Value) (gV:List V→List V→List V):Prop where
  to:∀(s:Shared) (us ws:List Value),K.In s.heap→(g us ws).length=ps.length→BindsTo s fd ⟨us,ks.zip ws⟩ (ps.zip (g us ws))
  rel:∀{vs:List V} {us:List Value} {zs:List V} {ws:List Value},aI vs us→aI zs ws→aI (gV vs zs) (g us ws)
variable{g:List Value→List Value→List Value}{gV:List V→List V→List V}
end
structure aJ (N P:List Str) (sc:Scope):Prop where
  kind:sc.kind=.function
  co:sc.isCoroutine=false
  gen:sc.isGenerator=false
  nd:N.Nodup
  pre:N.take P.length=P
  par:∀x∈P,sc.names.lookup x=some .local∨sc.names.lookup x=some .cell
  nofree:∀y∈sc.names,y.2≠.free
theorem lD{kindOf:Str→Option NameKind}{x:Str}:∀{binds:List (Str × Value)} {m:Str→Option Value},(∀v,(x,v)∉binds)→bindL kindOf binds m x=m x
  | [],_,_=>rfl
  | (n,v)::r,m,h=>by
    unfold bindL
    rw [lD fun w hw=>h w (List.mem_cons_of_mem _ hw)]
    split
    · have:x≠n:=by rintro rfl;exact h v List.mem_cons_self
      simp [this]
    · rfl
theorem lA{kindOf:Str→Option NameKind}{x:Str}:∀{binds:List (Str × Value)} {m:Str→Option Value},(∀v,(x,v)∉binds)→bindC kindOf binds m x=m x
  | [],_,_=>rfl
  | (n,v)::r,m,h=>by
    unfold bindC
    rw [lA fun w hw=>h w (List.mem_cons_of_mem _ hw)]
    split
    · rfl
    · have:x≠n:=by rintro rfl;exact h v List.mem_cons_self
      simp [this]
theorem lC{kindOf:Str→Option NameKind}{x:Str}{v:Value}:∀{P:List Str} {vs:List Value} {i:Nat} {m:Str→Option Value},P.Nodup→P[i]?=some x→vs[i]?=some v→kindOf x=some .local→
    bindL kindOf (P.zip vs) m x=some v
  | [],_,_,_,_,h,_,_=>by simp at h
  | _::_,[],_,_,_,_,h,_=>by simp at h
  | p::P,w::vs,0,m,nd,h1,h2,hk=>by
    simp at h1 h2;subst h1;subst h2
    show bindL kindOf ((p,w)::P.zip vs) m p=_
    unfold bindL
    rw [lD fun v hv=>(List.nodup_cons.mp nd).1 (List.of_mem_zip hv).1,if_pos hk]
    simp
  | p::P,w::vs,i+1,m,nd,h1,h2,hk=>by
    show bindL kindOf ((p,w)::P.zip vs) m x=_
    unfold bindL
    exact lC (i:=i) (List.nodup_cons.mp nd).2 (by simpa using h1) (by simpa using h2) hk
theorem ly{kindOf:Str→Option NameKind}{x:Str}{v:Value}:∀{P:List Str} {vs:List Value} {i:Nat} {m:Str→Option Value},P.Nodup→P[i]?=some x→vs[i]?=some v→kindOf x≠some .local→
    bindC kindOf (P.zip vs) m x=some v
  | [],_,_,_,_,h,_,_=>by simp at h
  | _::_,[],_,_,_,_,h,_=>by simp at h
  | p::P,w::vs,0,m,nd,h1,h2,hk=>by
    simp at h1 h2;subst h1;subst h2
    show bindC kindOf ((p,w)::P.zip vs) m p=_
    unfold bindC
    rw [lA fun v hv=>(List.nodup_cons.mp nd).1 (List.of_mem_zip hv).1,if_neg hk]
    simp
  | p::P,w::vs,i+1,m,nd,h1,h2,hk=>by
    show bindC kindOf ((p,w)::P.zip vs) m x=_
    unfold bindC
    exact ly (i:=i) (List.nodup_cons.mp nd).2 (by simpa using h1) (by simpa using h2) hk
def fP(N:List Str)(vs:List V):St:=vs.map some++List.replicate (N.length - vs.length) none
def pz(CX:q5)(P:Program)(w:World)(K:PySem.W.Frag)(mg:Str→Option Value)(base:Heap)(N:List Str)(qual:Str)(scope:Scope)(f:Addr)(cd:Value)(A:Around)(outer:List Env)(s:Shared)(H:Hp)(E:XK):Cx where
  prog:=P
  w:=w
  K:=K
  mg:=mg
  base:=base
  A:=A.deeper (envOfC qual scope s.heap.objs.size f cd)
  N:=N
  s₀:=s
  H₀:=H
  env:=envOfC qual scope s.heap.objs.size f cd
  outer:=outer
  stack:=envOfC qual scope s.heap.objs.size f cd::outer
  ex:=[]
  calm:=true
  fn:=fun _=>true
  pn:=[]
  xe:=fun e s'=>wpAny (model P w) (A.deeper (envOfC qual scope s.heap.objs.size f cd)) (leaving (envOfC qual scope s.heap.objs.size f cd) e) (fun _ s''=>CX outer H s E e s'') (fun e' s''=>CX outer H s E e' s'') s'
theorem nE{sc:Scope}{n:Nat}{x:Str}(h:sc.names.lookup x=some .cell):∃c,(cellsFrom n sc.names []).lookup x=some c:=by
  have q:=PySem.W.cellsFrom_some sc.names n [] (.inl h)
  exact Option.isSome_iff_exists.mp q
theorem rB{CX:q5}{P:Program}{w:World}{K:PySem.W.Frag}{mg:Str→Option Value}{base:Heap}{N ps:List Str}{qual:Str}{scope:Scope}{f:Addr}{cd:Value}{A:Around}{outer:List Env}{s s1:Shared}{H:Hp}{E:XK}{us:List Value}{vs:List V}
    (S:aJ N ps scope)(hd:A.handled=none)(e0:vF P w K mg base A outer s H)(hl:vs.length=ps.length)(r:aI vs us)
    (x:InCallC s s.heap.objs.size (bindL (envOfC qual scope s.heap.objs.size f cd).kindOf (ps.zip us) fun _=>none) (cellsFrom (s.heap.objs.size+1) scope.names []) (bindC (envOfC qual scope s.heap.objs.size f cd).kindOf (ps.zip us) fun _=>none) s1):
    aA (pz CX P w K mg base N qual scope f cd A outer s H E) [] (fP N vs) H s1:=by
  have hpl:ps.length≤N.length:=by have:=congrArg List.length S.pre;rw [List.length_take] at this;lia
  obtain⟨h1,tk,rfl,hk⟩:=x.done
  have noA:∀b:Addr,b∉(pz CX P w K mg base N qual scope f cd A outer s H E).ex:=fun b z=>absurd (show b∈([]:List Addr) from z) (by simp)
  refine⟨⟨e0.mod,S.kind,rfl,rfl,Nat.le_refl _,fun y z c h1 h2=>?_,fun y hy=>?_,fun y c _ h=>?_,fun _=>hd,Around.frames_deeper e0.frames,.inr ⟨rfl,rfl⟩,fun b z=>absurd z (noA b),e0.bs,e0.bsz,fun b _ _=>noA b,fun b z=>absurd z (noA b),e0.funs,e0.frf⟩,
    rfl,e0.bare,Un.kept hk,⟨_,x.toInCall.ns,fun i y v h1 h2 h3=>?_⟩,fun y c h=>⟨_,x.cell y c h⟩,e0.hok.fresh (Nat.le_refl _),fun y c h=>?_,fun p hp=>absurd (show p∈([]:List (Addr × Obj)) from hp) (by simp),e0.hok.kept hk,?_⟩
  · exact name_of_addr x.apart (PySem.mem_of_lookup h1) (PySem.mem_of_lookup h2)
  · have hy:scope.names.lookup y=some .cell∨scope.names.lookup y=some .free:=hy
    rcases hy with hy | hy
    · exact nE hy
    · exact absurd rfl (S.nofree _ (PySem.mem_of_lookup hy))
  · exact Nat.le_of_lt (x.above y c (PySem.mem_of_lookup h))
  · have hi:i < vs.length:=by
      unfold fP at h2
      by_cases hi:i < vs.length
      · exact hi
      · rw [List.getElem?_append_right (by simpa using hi)] at h2
        rw [List.getElem?_replicate] at h2
        split at h2<;>cases h2
    have ha:vs[i]?=some v:=by
      unfold fP at h2
      rw [List.getElem?_append_left (by simpa using hi),List.getElem?_map] at h2
      cases e:vs[i]? with
      | none=>rw [e] at h2;cases h2
      | some a=>rw [e] at h2;cases h2;rfl
    obtain⟨u,hu,rv⟩:=r.get ha
    have hp:ps[i]?=some y:=by
      rw [←S.pre,List.getElem?_take_of_lt (by lia)];exact h1
    have ndP:ps.Nodup:=by rw [←S.pre];exact S.nd.sublist (List.take_sublist _ _)
    refine⟨u,rv,?_⟩
    rcases S.par y (List.mem_of_getElem? hp) with k | k
    · exact .inl ⟨k,lC ndP hp hu k⟩
    · obtain⟨c,e⟩:=nE (n:=s.heap.objs.size+1) k
      refine .inr ⟨.inl k,c,e,?_⟩
      have q:=x.cell y c e
      rw [ly ndP hp hu (by show scope.names.lookup y≠_;rw [k];decide)] at q
      exact q
  · exact e0.hok.fresh (Nat.le_of_lt (x.above y c (PySem.mem_of_lookup h)))
  · unfold fP
    show _=N.length
    rw [List.length_append,List.length_map,List.length_replicate]
    lia
theorem Bk{CX:q5}{P:Program}{w:World}{K:PySem.W.Frag}{mg:Str→Option Value}{base:Heap}{k:Nat}{f:Addr}{name qual:Str}{params:Arguments}{body:List Stmt}{scope:Scope}{dV kV doc pm cdv ct oc:Value}{an od:Option Addr}
    {osl:Array (Option Value)}{N ps:List Str}{sp:Sp}(lk:K.lookup f=some ⟨oc,od,.func (PySem.W.fnOf name qual params body scope dV kV doc pm an cdv ct),osl⟩)(hcd:PySem.W.codeIn K cdv qual=true)(S:aJ N ps scope)
    (len:∀vs H Q E,sp vs H Q E→vs.length=ps.length)
    (hbody:∀(A:Around) (outer:List Env) (s:Shared) (H:Hp) (vs:List V) (Q:VK) (E:XK),bU k (A.deeper (envOfC qual scope s.heap.objs.size f cdv))→sp vs H Q E→
      ∃t,jJ (pz CX P w K mg base N qual scope f cdv A outer s H E) body t∧t {nx:=fun _ H'=>Q .non H',rt:=Q} (fP N vs) H):
    aP P w K mg base CX (k+1) f (PySem.W.fnOf name qual params body scope dV kV doc pm an cdv ct) ps sp:=by
  refine⟨len,fun A outer s H args us vs Q E hr e0 hb r hsp=>?_⟩
  have hl:=len _ _ _ _ hsp
  have KX:K.In s.heap:=e0.mod.kin.keeps fun b o e=>(e0.bs b o e).1
  have lim:s.heap.NoLimit:=e0.mod.nolimit.keeps fun b o e=>(e0.bs b o e).1
  have hkind:∀y∈ps.zip us,scope.names.lookup y.1=some .local∨(scope.names.lookup y.1=some .cell∧((cellsFrom (s.heap.objs.size+1) scope.names []).lookup y.1).isSome=true):=fun⟨n,v⟩ hy=>by
    rcases S.par n (List.of_mem_zip hy).1 with q | q
    · exact .inl q
    · exact .inr ⟨q,PySem.W.cellsFrom_some _ _ _ (.inl q)⟩
  refine codeAny_call_function hr.depth (KX _ _ lk) rfl S.co S.gen rfl (PySem.W.codeRec_of KX hcd) (hb _ _ _ _ ?_)
  refine wpAny_newFunctionEnv_cells S.kind hkind fun env he s1 x=>?_
  subst he
  refine⟨lim.keeps x.toInCall.keep,codeAny_func ?_⟩
  obtain⟨t,ht,hq⟩:=hbody A outer s H vs Q E (hr.deeper _) hsp
  have I:aA (pz CX P w K mg base N qual scope f cdv A outer s H E) [] (fP N vs) H s1:=rB S hr.hd e0 hl r x
  refine wpAny_mono (ht [] s1 (fP N vs) H _ I hq) (fun fl s' hs=>?_) fun e s' hs=>hs
  have fin:∀{σ':St} {H':Hp} {v:V} {u:Value},aA (pz CX P w K mg base N qual scope f cdv A outer s H E) [] σ' H' s'→bj v u→Q v H'→CE outer P w H s Q u s':=
    fun{σ' H' v u} J rv q=>⟨v,H',J.os,J.bare,J.base,J.hok,rv,q⟩
  cases fl with
  | ret u=>
    obtain⟨v,σ',H',J,rv,q⟩:=hs
    exact fin J rv q
  | next=>
    obtain⟨σ',H',J,q⟩:=hs
    exact fin (v:=V.non) (u:=Value.none) J rfl q
  | brk=>
    obtain⟨_,_,_,q⟩:=hs
    exact False.elim q
  | cont=>
    obtain⟨_,_,_,q⟩:=hs
    exact False.elim q
end L2
namespace L2
open PySem PySem.Spec PyProof.Rows
section
variable{X:Cx}{x:Str}{p pos:Pos}{e:Expr}{es:List Expr}{t:TA}{id T:String}{r:List V→Hp→VK→Prop}
def Dw(r:List V→Hp→VK→Prop)(t:TA):TE:=fun σ H Q=>t σ H fun vs H1=>r vs H1 Q
theorem ou(hc:ce X (.builtin id) r)(hg:Gl X x)(hm:X.mg x=none)(hv:bootBuiltins x=some (.builtin id))(ha:PA X (e::es) t)(hn:x≠"__name__":=by decide)(hdb:(x==("__debug__":Str))=false:=by decide)
    (he:starEach (e::es) X.env=(false,eval e X.env)::starEach es X.env:=by rfl)(hpl:(backTo pos (starEach es X.env)).any (·.1)=false:=by rfl):PE X (.Call (.Name x p) (e::es) [] pos) (Dw r t):=by
  intro pins s σ H Q I h
  refine wpAny_Call_Name_kw (dB I hg hm hv ?_ hn hdb)
  exact PyProof.Rows.callWith_builtin1 (bO (ha pos pins s σ H _ I h) fun us s1 ⟨vs,H1,I1,r1,q1⟩=>hc pins s1 σ H1 vs us Q I1 r1 q1) he hpl
theorem rM(hc:ce X (.type T) r)(hg:Gl X x)(hm:X.mg x=none)(hv:bootBuiltins x=some (.type T))(ha:PA X (e::es) t)(hn:x≠"__name__":=by decide)(hdb:(x==("__debug__":Str))=false:=by decide)
    (he:starEach (e::es) X.env=(false,eval e X.env)::starEach es X.env:=by rfl)(hpl:(backTo pos (starEach es X.env)).any (·.1)=false:=by rfl):PE X (.Call (.Name x p) (e::es) [] pos) (Dw r t):=by
  intro pins s σ H Q I h
  refine wpAny_Call_Name_kw (dB I hg hm hv ?_ hn hdb)
  exact PyProof.Rows.callWith_type1 (bO (ha pos pins s σ H _ I h) fun us s1 ⟨vs,H1,I1,r1,q1⟩=>hc pins s1 σ H1 vs us Q I1 r1 q1) he hpl
end
end L2
namespace HT
open PySem PyProof.Rows
section
open PySem.SeqAt
open PySem.AutoSeq1 (wpAny_loadPart')
open PySem.MeetsSeq PySem.MeetsSeq2 PySem.MeetsSeq3
end
section
variable{prog:Program}{w:World}{A:Around}{E:Value→Shared→Prop}{s:Shared}
theorem cat_tup{t b:Addr}{vs ws:List Value}{Q:Value→Shared→Prop}(ht:IsTup s.heap t vs.toArray)(hb:IsTup s.heap b ws.toArray)(hv:vs≠[])
    (h1:ws=[]→Q (.ref t) s)(h2:ws≠[]→Q (.ref s.heap.objs.size) {s with heap:=s.heap.push {cls:=.type "tuple",data:=.seq (vs++ws).toArray}})
    (hsz:vs.length+ws.length≤sizeLine):wpAny (model prog w) A (binaryOp .Add (.ref t) (.ref b)) Q E s:=by
  obtain⟨⟨cls,dd,data,sl⟩,ho,hc,n,hd⟩:=id ht
  obtain⟨⟨cls2,dd2,data2,sl2⟩,ho2,hc2,n2,hd2⟩:=id hb
  simp only at hc hd hc2 hd2
  subst hc hd hc2 hd2
  have e:vs.toArray++ws.toArray=(vs++ws).toArray:=by simp
  by_cases hw:ws=[]
  · exact concat_meets ⟨_,ho,rfl⟩ ⟨_,ho2,rfl⟩ noFill_tuple_add seq_tuple_add PySem.F.slot_tuple_add PySem.F.entry_tuple_add (PySem.F.args_tuple_add_2 _ _)
      (tuple_addW1 t b vs.toArray ws.toArray n n2 dd dd2 sl sl2 (by simpa using hv) (by simp [hw])) ⟨ho,ho2,h1 hw⟩
  · refine concat_meets ⟨_,ho,rfl⟩ ⟨_,ho2,rfl⟩ noFill_tuple_add seq_tuple_add PySem.F.slot_tuple_add PySem.F.entry_tuple_add (PySem.F.args_tuple_add_2 _ _)
      (tuple_addW2 t b vs.toArray ws.toArray n n2 dd dd2 sl sl2 (by simpa using hv) (by simpa using hw) (by rw [List.size_toArray,List.size_toArray];exact hsz)) ⟨ho,ho2,?_⟩
    rw [e]
    exact h2 hw
def sIx(n d:Nat):Option Int→Nat
  | none=>d
  | some v=>if v < 0 then(v+(n:Int)).toNat else min v.toNat n
theorem Ak(n d:Nat)(hd:d≤n)(o:Option Int):sIx n d o≤n:=by
  cases o with
  | none=>exact hd
  | some v=>
    show(if v < 0 then(v+(n:Int)).toNat else min v.toNat n)≤n
    by_cases hv:v < 0
    · rw [if_pos hv];lia
    · rw [if_neg hv];exact Nat.min_le_right _ _
theorem qp(v:Int)(n d:Nat):(if v < 0 then max (v+(n:Int)) 0 else min v (n:Int))=((sIx n d (some v):Nat):Int):=by
  show(if v < 0 then max (v+(n:Int)) 0 else min v (n:Int))=(((if v < 0 then(v+(n:Int)).toNat else min v.toNat n):Nat):Int)
  by_cases hv:v < 0
  · simp only [if_pos hv];lia
  · simp only [if_neg hv];lia
theorem pd(lo hi:Option Int)(n:Nat):Builtin.Slice.sliceAdjust lo hi 1 (n:Int)=(((sIx n 0 lo:Nat):Int),((sIx n n hi:Nat):Int)):=by
  have h1:¬((1:Int) < 0):=by lia
  unfold Builtin.Slice.sliceAdjust
  simp only [h1,if_false]
  refine Prod.ext ?_ ?_
  · cases lo with
    | none=>rfl
    | some v=>exact qp v n 0
  · cases hi with
    | none=>rfl
    | some v=>exact qp v n n
theorem pQ(i j:Nat):Builtin.Slice.slicePlaces (i:Int) (j:Int) 1=j - i:=by
  unfold Builtin.Slice.slicePlaces
  have h1:(1:Int) > 0:=by lia
  simp only [h1,if_true,Int.ediv_one]
  split<;>lia
theorem slicePart_{v:Value}{o:Option Int}{Q:Option Int→Shared→Prop}(p:IsPart v o)(h:Q o s):wpAny (model prog w) A (Builtin.Slice.slicePartIndex v) Q E s:=by
  cases p with
  | none=>exact slicePart_none h
  | int i t=>exact slicePart_int h
theorem fj{sl:Addr}{vl vu:Value}{lo hi:Option Int}{n:Nat}{Q:Int × Int × Nat→Shared→Prop}(hs:s.heap.IsSliceOf sl vl vu .none)(pl:IsPart vl lo)(pu:IsPart vu hi)
    (h:Q (((sIx n 0 lo:Nat):Int),1,sIx n n hi - sIx n 0 lo) s):wpAny (model prog w) A (Builtin.Slice.sliceApplied (.ref sl) (pure (n:Int))) Q E s:=by
  obtain⟨os,hos,hcs,hds⟩:=id hs
  unfold Builtin.Slice.sliceApplied Builtin.Slice.sliceFields
  refine wpAny_bind (wpAny_bind (wpAny_field hos hds (x:=vl) rfl (wpAny_bind (wpAny_field hos hds (x:=vu) rfl (wpAny_bind (wpAny_field hos hds (x:=.none) rfl (wpAny_pure ?_)))))))
  refine wpAny_bind (slicePart_none ?_)
  show wpAny _ _ (if ((1:Int)==0)=true then _ else _) _ _ s
  rw [if_neg (by decide)]
  refine wpAny_bind (slicePart_ pl (wpAny_bind (slicePart_ pu (wpAny_bind (wpAny_pure ?_)))))
  show wpAny _ _ (match Builtin.Slice.sliceAdjust lo hi 1 (n:Int) with | (lo,hi)=>pure (lo,(1:Int),Builtin.Slice.slicePlaces lo hi 1)) _ _ s
  rw [pd lo hi n]
  show wpAny _ _ (pure (((sIx n 0 lo:Nat):Int),(1:Int),Builtin.Slice.slicePlaces ((sIx n 0 lo:Nat):Int) ((sIx n n hi:Nat):Int) 1)) _ _ s
  rw [pQ]
  exact wpAny_pure h
theorem uG(xs:Array Value)(i k:Nat):((List.range k).filterMap fun(m:Nat)=>xs[((i:Int)+(m:Int)*1).toNat]?).toArray=((xs.toList.drop i).take k).toArray:=by
  have e:(fun(m:Nat)=>xs[((i:Int)+(m:Int)*1).toNat]?)=fun m=>xs[i+m]?:=by
    funext m
    have:((i:Int)+(m:Int)*1).toNat=i+m:=by lia
    rw [this]
  rw [e]
  have:=pick_run xs i k
  rw [List.filterMap_map] at this
  have e2:((fun x=>xs[x]?) ∘ fun x=>i+x)=fun m=>xs[i+m]?:=rfl
  rw [e2] at this
  rw [this]
theorem getItem_tuple_cut{t sl:Addr}{items:Array Value}{vl vu:Value}{lo hi:Option Int}{Q:Value→Shared→Prop}(ht:IsTup s.heap t items)(hs:s.heap.IsSliceOf sl vl vu .none)(pl:IsPart vl lo)(pu:IsPart vu hi)
    (hw:¬(sIx items.size 0 lo=0∧sIx items.size items.size hi=items.size))
    (h:Q (.ref s.heap.objs.size) {s with heap:=s.heap.push {cls:=.type "tuple",data:=.seq ((items.toList.drop (sIx items.size 0 lo)).take (sIx items.size items.size hi - sIx items.size 0 lo)).toArray}})
    (hsz:items.size≤sizeLine):wpAny (model prog w) A (getItem (.ref t) (.ref sl)) Q E s:=by
  have htake:sizeOk (.seq ((items.toList.drop (sIx items.size 0 lo)).take (sIx items.size items.size hi - sIx items.size 0 lo)).toArray):=by
    show((items.toList.drop (sIx items.size 0 lo)).take (sIx items.size items.size hi - sIx items.size 0 lo)).toArray.size≤sizeLine
    rw [List.size_toArray,List.length_take,List.length_drop,Array.length_toList]
    lia
  have hj:sIx items.size items.size hi≤items.size:=Ak _ _ (Nat.le_refl _) hi
  obtain⟨os,hos,hcs,hds⟩:=id hs
  have hTs:s.TypeIs (.ref sl) "slice":=⟨os,hos,hcs⟩
  unfold getItem
  try with_reducible refine wpAny_holding ?_
  first | refine wpAny_bind (wpAny_pure ?_) | skip
  refine wpAny_bind (wpAny_sequenceKey ht.typeIs (by decide) ?_)
  refine wpAny_bind (wpAny_callSpecial?_slot (name:=Str.ofString "__getitem__") ht.typeIs PyProof.Rows.slot_tuple_getitem
    (wpAny_call_entry PyProof.Rows.slot_tuple_getitem ht.typeIs entry_tuple_getitem ?_ (args_tuple_getitem _ _)))
  show wpAny _ _ (Builtin.Tuple.tupleItemsOf (.ref t) >>= _) _ _ s
  refine wpAny_bind (tupleItemsOf_ ht ?_)
  refine wpAny_bind (wpAny_typeOf hTs ?_)
  rw [if_pos (by decide)]
  refine wpAny_bind (fj hs pl pu ?_)
  have hno:¬((((sIx items.size 0 lo:Nat):Int)==0&&(1:Int)==1&&(sIx items.size items.size hi - sIx items.size 0 lo)==items.size)=true):=by
    intro q
    rw [Bool.and_eq_true,Bool.and_eq_true] at q
    have q1:((sIx items.size 0 lo:Nat):Int)=0:=eq_of_beq q.1.1
    have q2:sIx items.size items.size hi - sIx items.size 0 lo=items.size:=eq_of_beq q.2
    exact hw ⟨by lia,by lia⟩
  show wpAny _ _ (if (((sIx items.size 0 lo:Nat):Int)==0&&(1:Int)==1&&(sIx items.size items.size hi - sIx items.size 0 lo)==items.size)=true then _ else _) _ _ s
  rw [if_neg hno,uG]
  first
    | exact wpAny_bind (m:=Builtin.Tuple.tupleExact _) (wpAny_newObj_type (wpAny_pure ⟨_,rfl,wpAny_pure h⟩) htake)
    | exact wpAny_bind (m:=Builtin.Tuple.tupleExact _) (wpAny_newObj_type (wpAny_bind (wpAny_pure (wpAny_pure ⟨_,rfl,wpAny_pure h⟩))) htake)
    | exact wpAny_bind (wpAny_bind (m:=Builtin.Tuple.tupleExact _) (wpAny_newObj_type (wpAny_pure (wpAny_pure ⟨_,rfl,wpAny_pure h⟩)) htake))
    | exact wpAny_bind (wpAny_bind (m:=Builtin.Tuple.tupleExact _) (wpAny_newObj_type (wpAny_pure ⟨_,rfl,wpAny_pure h⟩) htake))
end
end HT
namespace L2
open PySem PySem.Spec PyProof.Rows
abbrev TO:=St→Hp→(Option Int→Hp→Prop)→Prop
def PO(X:Cx)(e:Option Expr)(t:TO):Prop:=
  ∀(pins:List (Addr × Obj)) (s:Shared) (σ:St) (H:Hp) (Q:Option Int→Hp→Prop),aA X pins σ H s→t σ H Q→
    wpAny (model X.prog X.w) X.A (evalPart e X.env) (fun u s'=>∃o H',aA X pins σ H' s'∧IsPart u o∧Q o H') X.xe s
def xu:TO:=fun _ H Q=>Q none H
def Cu(t:TE):TO:=fun σ H Q=>t σ H fun x H1=>∃i,x=.int i∧Q (some i) H1
theorem hV{ns:List Int}:∀{us:List Value},aI (ns.map V.int) us→IntsAre us ns:=by
  induction ns with
  | nil=>intro us r;rw [List.map_nil] at r;cases r;exact .nil
  | cons n ns ih=>
    intro us r
    rw [List.map_cons] at r
    cases r with
    | cons r1 r2=>
      obtain⟨t,e⟩:=r1
      subst e
      exact .cons n t (ih r2)
section
variable{X:Cx}{e:Expr}{te:TE}{lo hi:Option Expr}{tl th:TO}{pos p2:Pos}
theorem wU:PO X none xu:=by
  intro pins s σ H Q I h
  rw [evalPart_none]
  exact wpAny_pure ⟨none,H,I,.none,h⟩
theorem wV(h:PE X e te):PO X (some e) (Cu te):=by
  intro pins s σ H Q I hw
  rw [evalPart_some]
  refine bO (h pins s σ H _ I hw) fun u s1 ⟨x,H1,I1,r1,q1⟩=>?_
  obtain⟨i,rfl,q⟩:=q1
  obtain⟨t,rfl⟩:=r1
  exact⟨some i,H1,I1,.int i t,q⟩
def vH(X:Cx)(r:V→Option Int→Option Int→Hp→VK→Prop):Prop:=
  ∀(pins:List (Addr × Obj)) (s:Shared) (σ:St) (H:Hp) (x:V) (v vl vu:Value) (lo hi:Option Int) (sl:Addr) (Q:VK),aA X pins σ H s→bj x v→s.heap.IsSliceOf sl vl vu .none→IsPart vl lo→IsPart vu hi→r x lo hi H Q→
    ∃T id,typeLookup (.type T) "__getitem__"=pure (some (.builtin id))∧s.TypeIs v T∧wpAny (model X.prog X.w) X.A (getItem v (.ref sl)) (EP X pins σ Q) X.xe s
theorem vH.or{r r':V→Option Int→Option Int→Hp→VK→Prop}(h:vH X r)(h':vH X r'):vH X (fun x lo hi H Q=>r x lo hi H Q∨r' x lo hi H Q):=by
  intro pins s σ H x v vl vu lo hi sl Q I rx hs pl pu q
  rcases q with q | q
  · exact h pins s σ H x v vl vu lo hi sl Q I rx hs pl pu q
  · exact h' pins s σ H x v vl vu lo hi sl Q I rx hs pl pu q
def El(r:V→Option Int→Option Int→Hp→VK→Prop)(te:TE)(tl th:TO):TE:=fun σ H Q=>te σ H fun x H1=>tl σ H1 fun l H2=>th σ H2 fun u H3=>r x l u H3 Q
theorem ut{r:V→Option Int→Option Int→Hp→VK→Prop}(hr:vH X r)(he:PE X e te)(hl:PO X lo tl)(hu:PO X hi th):PE X (.Subscript e (.Slice lo hi none p2) pos) (El r te tl th):=by
  intro pins s σ H Q I h
  refine Subscript_ (bO (he pins s σ H _ I h) fun v s1 ⟨x,H1,I1,r1,q1⟩=>?_)
  refine wpAny_Slice (bO (hl pins s1 σ H1 _ I1 q1) fun vl s2 ⟨l,H2,I2,pl,q2⟩=>bO (hu pins s2 σ H2 _ I2 q2) fun vu s3 ⟨u,H3,I3,pu,q3⟩=>?_)
  rw [evalPart_none]
  refine wpAny_pure ?_
  have I4:aA X pins σ H3 {s3 with heap:=s3.heap.push {cls:=.type "slice",data:=.fields #[vl,vu,.none]}}:=I3.kept (t':=s3.toks) fun b ob q=>Heap.get?_push_of_some _ q
  obtain⟨T,id,hT,ht,hg⟩:=hr pins {s3 with heap:=s3.heap.push {cls:=.type "slice",data:=.fields #[vl,vu,.none]}} σ H3 x v vl vu l u s3.heap.objs.size Q I4 r1 (Heap.IsSliceOf.new ..) pl pu q3
  show wpAny (model X.prog X.w) X.A (subscriptTail e (.Slice lo hi none p2) v (.ref s3.heap.objs.size)) (EP X pins σ Q) X.xe {s3 with heap:=s3.heap.push {cls:=.type "slice",data:=.fields #[vl,vu,.none]}}
  exact tail_any (ops:=[.ref s3.heap.objs.size,v]) ht hT hg (by with_unfolding_all rfl)
def li(xs:List V)(lo hi:Option Int):List V:=(xs.drop (HT.sIx xs.length 0 lo)).take (HT.sIx xs.length xs.length hi - HT.sIx xs.length 0 lo)
theorem jy(xs:List V)(lo hi:Option Int):(li xs lo hi).length≤xs.length:=by
  unfold li
  rw [List.length_take,List.length_drop]
  lia
def Cb(K:PySem.W.Frag):V→Option Int→Option Int→Hp→VK→Prop:=fun x lo hi H Q=>∃a xs,x=.ref a∧bB K H a xs∧
  ¬(HT.sIx xs.length 0 lo=0∧HT.sIx xs.length xs.length hi=xs.length)∧∀p,H p=none→Q (.ref p) (aT H p (.tup (li xs lo hi)))
theorem Am:vH X (Cb X.K):=by
  intro pins s σ H x v vl vu lo hi sl Q I rx hs pl pu h
  obtain⟨a,xs,rfl,hx,hw,q⟩:=h
  cases rx
  obtain⟨its,r,ht,hz⟩:=I.tuple hx
  have hlen:its.toArray.size=xs.length:=by rw [List.size_toArray];exact r.length.symm
  refine⟨"tuple",_,PyProof.Rows.slot_tuple_getitem.lookup,ht.typeIs,?_⟩
  refine HT.getItem_tuple_cut ht hs pl pu (by rw [hlen];exact hw) ?_ (by rw [hlen];exact hz)
  rw [hlen]
  refine⟨.ref s.heap.objs.size,_,I.laid (t':=s.toks) (o:=.tup (li xs lo hi)) (fun b ob q=>Heap.get?_push_of_some _ q) (Nat.le_refl _) ?_,rfl,q _ (I.hok.fresh (Nat.le_refl _))⟩
  exact⟨Nat.le_trans (jy xs lo hi) hz,_,(r.drop (HT.sIx xs.length 0 lo)).take (HT.sIx xs.length xs.length hi - HT.sIx xs.length 0 lo),gY.new _ _⟩
def B7(K:PySem.W.Frag):R2:=fun x y H Q=>∃a b xs ys,x=.ref a∧y=.ref b∧bB K H a xs∧bB K H b ys∧xs≠[]∧xs.length+ys.length≤sizeLine∧
  (ys=[]→Q (.ref a) H)∧(ys≠[]→∀p,H p=none→Q (.ref p) (aT H p (.tup (xs++ys))))
theorem aI.nil_iff{xs:List V}{us:List Value}(r:aI xs us):us=[]↔ xs=[]:=by
  cases r with
  | nil=>simp
  | cons _ _=>simp
theorem wA:eK X (binaryOp .Add) (B7 X.K):=by
  intro pins s σ H x y v u Q I rx ry h
  obtain⟨a,b,xs,ys,rfl,rfl,ha,hb,hx,hz,q1,q2⟩:=h
  cases rx
  cases ry
  obtain⟨its,r1,p1,_⟩:=I.tuple ha
  obtain⟨its2,r2,p2,_⟩:=I.tuple hb
  refine HT.cat_tup p1 p2 (fun z=>hx (r1.nil_iff.mp z)) (fun z=>⟨.ref a,H,I,rfl,q1 (r2.nil_iff.mp z)⟩) (fun z=>?_) (by rw [←r1.length,←r2.length];exact hz)
  refine⟨.ref s.heap.objs.size,_,I.laid (t':=s.toks) (o:=.tup (xs++ys)) (fun b ob q=>Heap.get?_push_of_some _ q) (Nat.le_refl _) ?_,rfl,q2 (fun w=>z (r2.nil_iff.mpr w)) _ (I.hok.fresh (Nat.le_refl _))⟩
  exact⟨by rw [List.length_append];exact hz,_,r1.append r2,gY.new _ _⟩
end
end L2
namespace L2
open PySem PySem.Spec PyProof.Rows
def BC(n:Nat)(i:Int):Option Nat:=if 0≤i then(if i < n then some i.toNat else none) else if -(n:Int)≤i then some (i+n).toNat else none
def atI{α:Type}(xs:List α)(i:Int):Option α:=(BC xs.length i).bind fun j=>xs[j]?
theorem wa{n:Nat}{i:Int}{j:Nat}(h:BC n i=some j):seqIndex? i n=some j∧j < n∧ -(n:Int)≤i∧i < n:=by
  unfold BC at h
  by_cases h0:0≤i
  · rw [if_pos h0] at h
    by_cases h1:i < n
    · rw [if_pos h1] at h
      have e:i.toNat=j:=Option.some.inj h
      exact⟨by rw [seqIndex_of h0 h1,e],by lia,by lia,h1⟩
    · rw [if_neg h1] at h;cases h
  · rw [if_neg h0] at h
    by_cases h1: -(n:Int)≤i
    · rw [if_pos h1] at h
      have e:(i+n).toNat=j:=Option.some.inj h
      exact⟨by rw [seqIndex_neg (by lia) h1,e],by lia,h1,by lia⟩
    · rw [if_neg h1] at h;cases h
theorem qi{α:Type}{xs:List α}{i:Int}{v:α}(h:atI xs i=some v):∃j,seqIndex? i xs.length=some j∧xs[j]?=some v∧j < xs.length∧ -(xs.length:Int)≤i∧i < xs.length:=by
  unfold atI at h
  cases e:BC xs.length i with
  | none=>rw [e] at h;cases h
  | some j=>
    rw [e] at h
    obtain⟨h1,h2,h3,h4⟩:=wa e
    exact⟨j,h1,h,h2,h3,h4⟩
def mj(b:Expr):Prop:=∀o i,subscripted b false o i=operate [o,i] (getItem o i)
def vG(X:Cx)(r:R2):Prop:=
  ∀(value slice:Expr) (pins:List (Addr × Obj)) (s:Shared) (σ:St) (H:Hp) (x y:V) (v u:Value) (Q:VK),aA X pins σ H s→bj x v→bj y u→r x y H Q→
    subscripted slice false v u=operate [v,u] (getItem v u)→wpAny (model X.prog X.w) X.A (subscriptTail value slice v u) (EP X pins σ Q) X.xe s
def DM(X:Cx)(id:String)(r:V→List V→Hp→VK→Prop):Prop:=
  ∀(pins:List (Addr × Obj)) (s:Shared) (σ:St) (H:Hp) (x:V) (xs:List V) (v:Value) (us:List Value) (Q:VK),aA X pins σ H s→bj x v→aI xs us→r x xs H Q→
    wpAny (model X.prog X.w) X.A (call (.builtin id) (v::us)) (EP X pins σ Q) X.xe s
section
variable{X:Cx}{a b:Expr}{ta tb:TE}{pos:Pos}
theorem vG.or{r r':R2}(h:vG X r)(h':vG X r'):vG X (fun x y H Q=>r x y H Q∨r' x y H Q):=by
  intro value slice pins s σ H x y v u Q I rx ry q hs
  rcases q with q | q
  · exact h value slice pins s σ H x y v u Q I rx ry q hs
  · exact h' value slice pins s σ H x y v u Q I rx ry q hs
theorem BU{r:R2}(hr:vG X r)(ha:PE X a ta)(hb:PE X b tb)(hs:mj b):PE X (.Subscript a b pos) (Ct r ta tb):=by
  intro pins s σ H Q I h
  exact Subscript_ (yA ha hb I h fun v u s2 x y H2 I2 rx ry q=>hr a b pins s2 σ H2 x y v u Q I2 rx ry q (hs _ _))
def B_(K:PySem.W.Frag):R2:=fun x y H Q=>∃p xs i v,x=.ref p∧y=.int i∧bR K H p xs∧atI xs i=some v∧Q v H
def B'(K:PySem.W.Frag):R2:=fun x y H Q=>∃p xs i v,x=.ref p∧y=.int i∧bB K H p xs∧atI xs i=some v∧Q v H
theorem wb:vG X (B_ X.K):=by
  intro value slice pins s σ H x y v u Q I rx ry h hs
  obtain⟨p,xs,i,z,rfl,rfl,hq,he,q⟩:=h
  cases rx
  obtain⟨t,rfl⟩:=ry
  obtain⟨its,r,pl,hz⟩:=I.list hq
  obtain⟨j,h1,h2,h3,h4,h5⟩:=qi he
  obtain⟨w,ew,rw'⟩:=r.get h2
  have hl:=r.length
  have hn:=pI
  have fin:EP X pins σ Q w s:=⟨z,H,I,rw',q⟩
  by_cases h0:0≤i
  · have hj:i.toNat=j:=by
      rw [seqIndex_of h0 h5] at h1
      exact Option.some.inj h1
    exact item_listR pl.isList h0 (by lia) (by rw [hj];simpa using ew) fin hs
  · have hj:(i+(its.toArray.size:Int)).toNat=j:=by
      rw [seqIndex_neg (by lia) h4] at h1
      rw [List.size_toArray,←hl]
      exact Option.some.inj h1
    exact subscriptTail_builtinR (x:=w) pl.isList.typeIs slot_list_getitem.lookup
      (wpAny_getItem_list_neg (Q:=fun r s'=>r=w∧EP X pins σ Q r s') pl.isList (by lia) (by rw [List.size_toArray]<;>lia) (by lia) (by rw [hj];simpa using ew) ⟨rfl,fin⟩) hs
theorem yZ:vG X (B' X.K):=by
  intro value slice pins s σ H x y v u Q I rx ry h hs
  obtain⟨p,xs,i,z,rfl,rfl,hq,he,q⟩:=h
  cases rx
  obtain⟨t,rfl⟩:=ry
  obtain⟨its,r,pl,hz⟩:=I.tuple hq
  obtain⟨j,h1,h2,h3,h4,h5⟩:=qi he
  obtain⟨w,ew,rw'⟩:=r.get h2
  have hl:=r.length
  have hn:=pI
  have fin:EP X pins σ Q w s:=⟨z,H,I,rw',q⟩
  exact subscriptTail_builtinR (x:=w) pl.typeIs slot_tuple_getitem.lookup
    (getItem_tuple (j:=j) (Q:=fun r s'=>r=w∧EP X pins σ Q r s') pl (by lia) (by lia) (by rw [List.size_toArray,←hl];exact h1) (by simpa using ew) ⟨rfl,fin⟩) hs
theorem m8(lo hi:Option Int)(n:Nat):(sliceBounds lo hi none n).1=((HT.sIx n 0 lo:Nat):Int)∧(sliceBounds lo hi none n).2.1=((HT.sIx n n hi:Nat):Int)∧(sliceBounds lo hi none n).2.2=1:=by
  refine⟨?_,?_,rfl⟩
  · cases lo with
    | none=>simp [sliceBounds,HT.sIx]
    | some i=>
      simp only [sliceBounds,HT.sIx,Option.getD_none,show(1:Int) > 0 by decide,if_true]
      by_cases h:i < 0
      · simp only [h,if_true]<;>lia
      · simp only [h,if_false]<;>lia
  · cases hi with
    | none=>simp [sliceBounds,HT.sIx]
    | some i=>
      simp only [sliceBounds,HT.sIx,Option.getD_none,show(1:Int) > 0 by decide,if_true]
      by_cases h:i < 0
      · simp only [h,if_true]<;>lia
      · simp only [h,if_false]<;>lia
theorem lq(its:List Value)(lo hi:Option Int):slicePick its.toArray lo hi none=((its.drop (HT.sIx its.length 0 lo)).take (HT.sIx its.length its.length hi - HT.sIx its.length 0 lo)).toArray:=by
  obtain⟨h1,h2,h3⟩:=m8 lo hi its.toArray.size
  unfold slicePick
  rw [h1,h2,h3]
  simp only [sliceRange_one,pick_run,List.size_toArray]<;>rfl
def Ca(K:PySem.W.Frag):V→Option Int→Option Int→Hp→VK→Prop:=fun x lo hi H Q=>∃a xs,x=.ref a∧bR K H a xs∧∀p,H p=none→Q (.ref p) (aT H p (.lst (li xs lo hi)))
theorem xo:vH X (Ca X.K):=by
  intro pins s σ H x v vl vu lo hi sl Q I rx hs pl pu h
  obtain⟨a,xs,rfl,hx,q⟩:=h
  cases rx
  obtain⟨its,r,ht,hz⟩:=I.list hx
  have hlen:=r.length
  refine⟨"list",_,slot_list_getitem.lookup,ht.isList.typeIs,?_⟩
  refine wpAny_getItem_list_slice ht.isList hs pl pu .none (by simp) ?_ (by rw [List.size_toArray]<;>lia)
  rw [lq,←hlen]
  refine⟨.ref s.heap.objs.size,_,I.laid (t':=s.toks) (o:=.lst (li xs lo hi)) (fun b ob q=>Heap.get?_push_of_some _ q) (Nat.le_refl _) ?_,rfl,q _ (I.hok.fresh (Nat.le_refl _))⟩
  exact⟨Nat.le_trans (jy xs lo hi) hz,_,0,(r.drop (HT.sIx xs.length 0 lo)).take (HT.sIx xs.length xs.length hi - HT.sIx xs.length 0 lo),Heap.get?_push_size _ rfl⟩
theorem mB:ce X (.builtin "len") (fun xs H Q=>∃p ys,xs=[.ref p]∧(bR X.K H p ys∨bB X.K H p ys)∧Q (.int ys.length) H):=by
  intro pins s σ H xs us Q I r h
  obtain⟨p,ys,rfl,hq,q⟩:=h
  obtain⟨u,rfl,rx⟩:=mi r
  cases rx
  have hn:=pI
  rcases hq with hq | hq
  · obtain⟨its,r',pl,hz⟩:=I.list hq
    have hlen:=r'.length
    exact Calls.call_len_list pl.isList (by simp only [List.size_toArray]<;>lia) ⟨.int ys.length,H,I.tok _,⟨s.toks+1,by rw [List.size_toArray,hlen]⟩,q⟩
  · obtain⟨its,r',pl,hz⟩:=I.tuple hq
    have hlen:=r'.length
    exact len_tuple pl (by simp only [List.size_toArray]<;>lia) ⟨.int ys.length,H,I.tok _,⟨s.toks+1,by rw [List.size_toArray,hlen]⟩,q⟩
theorem mC:ce X (.type "list") (fun xs H Q=>∃p ys,xs=[.ref p]∧(bR X.K H p ys∨bB X.K H p ys)∧∀l,H l=none→Q (.ref l) (aT H l (.lst ys))):=by
  intro pins s σ H xs us Q I r h
  obtain⟨p,ys,rfl,hq,q⟩:=h
  obtain⟨u,rfl,rx⟩:=mi r
  cases rx
  have fin:∀(its:List Value),aI ys its→ys.length≤sizeLine→∀(h':Heap) (c':Nat),(∀b o',s.heap.get? b=some o'→h'.get? b=some o')→
      h'.get? s.heap.objs.size=some {cls:=.type "list",dict:=none,data:=.seq its.toArray c',slots:=#[]}→EP X pins σ Q (.ref s.heap.objs.size) {s with heap:=h'}:=fun its r' hz h' c' kp e=>
    ⟨.ref s.heap.objs.size,_,I.laid (t':=s.toks) kp (Nat.le_refl _) (show cn X.prog X.w _ h' _ (.lst ys) from⟨hz,its,c',r',e⟩),rfl,q _ (I.hok.fresh (Nat.le_refl _))⟩
  rcases hq with hq | hq
  · obtain⟨its,r',pl,hz⟩:=I.list hq
    have hlen:=r'.length
    obtain⟨o,ho,hc,n,hd⟩:=pl.isList
    exact call_list_seq p (.inl rfl) ho hc hd (fun h' c' kp e=>fin its r' hz h' c' kp e) (by simp only [List.size_toArray]<;>lia)
  · obtain⟨its,r',pl,hz⟩:=I.tuple hq
    have hlen:=r'.length
    obtain⟨o,ho,hc,n,hd⟩:=pl
    exact call_list_seq p (.inr rfl) ho hc hd (fun h' c' kp e=>fin its r' hz h' c' kp e) (by simp only [List.size_toArray]<;>lia)
theorem lg:ce X (.type "tuple") (fun xs H Q=>∃p ys,xs=[.ref p]∧((bR X.K H p ys∧∀l,H l=none→Q (.ref l) (aT H l (.tup ys)))∨(bB X.K H p ys∧Q (.ref p) H))):=by
  intro pins s σ H xs us Q I r h
  obtain⟨p,ys,rfl,h⟩:=h
  obtain⟨u,rfl,rx⟩:=mi r
  cases rx
  rcases h with ⟨hq,q⟩ | ⟨hq,q⟩
  · obtain⟨its,r',pl,hz⟩:=I.list hq
    have hlen:=r'.length
    refine call_tuple_list pl.isList (fun h' kp=>?_) (by simp only [List.size_toArray]<;>lia)
    have I1:aA X pins σ H {s with heap:=h'}:=I.kept (t':=s.toks) kp
    have I2:aA X pins σ (aT H h'.objs.size (.tup ys)) {s with heap:=h'.push {cls:=.type "tuple",data:=.seq its.toArray}}:=
      I1.laid (t':=s.toks) (fun b o e=>Heap.get?_push_of_some _ e) (Nat.le_refl _) (show cn X.prog X.w _ _ _ (.tup ys) from⟨hz,its,r',gY.new _ _⟩)
    exact⟨.ref h'.objs.size,_,I2,rfl,q _ (I1.hok.fresh (Nat.le_refl _))⟩
  · obtain⟨its,r',pl,hz⟩:=I.tuple hq
    exact call_tuple_same pl ⟨.ref p,H,I,rfl,q⟩
def D1(K:PySem.W.Frag)(T:String)(x:V)(H:Hp):Prop:=match x with
  | .str _=>T="str"
  | .int _=>T="int"
  | .ref p=>(T="list"∧∃xs,bR K H p xs)∨(T="tuple"∧∃o,K.lookup p=some o∧o.cls=.type "tuple"∧o.dict=none)∨
      (T="dict"∧((∃kvs,H p=some (.dK kvs))∨∃kvs,H p=some (.dT kvs)))∨(T="set"∧∃S n,H p=some (.set S n))
  | _=>False
theorem AD{pins:List (Addr × Obj)}{σ:St}{H:Hp}{s:Shared}{T:String}{x:V}{v:Value}(I:aA X pins σ H s)(r:bj x v)(ty:D1 X.K T x H):
    s.TypeIs v T∧∀a,v=.ref a→∃ob,s.heap.get? a=some ob∧ob.dict=none:=by
  cases x with
  | str z=>
    obtain⟨t,rfl⟩:=r
    cases (show T="str" from ty)
    exact⟨typeIs_str s z t,fun _ e=>nomatch e⟩
  | int i=>
    obtain⟨t,rfl⟩:=r
    cases (show T="int" from ty)
    exact⟨typeIs_int s i t,fun _ e=>nomatch e⟩
  | ref p=>
    cases r
    rcases ty with ⟨rfl,xs,hq⟩ | ⟨rfl,o,hk,hc,hd⟩ | ⟨rfl,hk⟩ | ⟨rfl,S,n,hk⟩
    · obtain⟨its,_,pl,_⟩:=I.list hq
      refine⟨pl.isList.typeIs,fun a e=>?_⟩
      cases e
      obtain⟨o,n,e,c,hd,_⟩:=pl
      exact⟨o,e,hd⟩
    · refine⟨⟨o,I.kIn p o hk,hc⟩,fun a e=>?_⟩
      cases e
      exact⟨o,I.kIn _ o hk,hd⟩
    · have z:∃o,s.heap.get? p=some o∧o.ExactDict:=by
        rcases hk with ⟨kvs,hk⟩ | ⟨kvs,hk⟩
        · obtain⟨_,_,_,_,o,_,_,e,ex,_⟩:=I.hok p _ hk
          exact⟨o,e,ex⟩
        · obtain⟨_,_,_,_,o,_,_,e,ex,_⟩:=I.hok p _ hk
          exact⟨o,e,ex⟩
      obtain⟨o,e,ex⟩:=z
      refine⟨⟨o,e,ex.1⟩,fun a e2=>?_⟩
      cases e2
      exact⟨o,e,ex.2.1⟩
    · obtain⟨o,_,_,_,e,ex,_⟩:=I.hok p _ hk
      refine⟨⟨o,e,ex.1⟩,fun a e2=>?_⟩
      cases e2
      exact⟨o,e,ex.2.1⟩
  | _=>exact False.elim ty
def DX(K:PySem.W.Frag)(T:String)(r:V→List V→Hp→VK→Prop)(to:TE)(t:TA):TE:=fun σ H Q=>to σ H fun x H1=>D1 K T x H1∧t σ H1 fun xs H2=>r x xs H2 Q
variable{o e:Expr}{es:List Expr}{to:TE}{t:TA}{name:Str}{apos cpos:Pos}{T id:String}{r:V→List V→Hp→VK→Prop}
theorem BS(pa:PlainAttrs T)(slot:Slot T name id)(hty:typeOf (.builtin id)=pure (.type "method_descriptor"))(hm:DM X id r)(ho:PE X o to)(ha:PA X (e::es) t)
    (hbase:attributeBase o name X.env (eval o X.env)=eval o X.env:=by rfl)
    (hfew:((backTo cpos (starEach (e::es) X.env)).all (fun x=> !x.1)&&(backToKw cpos (keywordEach [] X.env)).all (fun x=>x.1.isSome)
      &&decide ((e::es).length+([]:List Keyword).length+(if ([]:List Keyword).isEmpty then 0 else 1) < 30))=true:=by rfl)
    (hline:(apos.endLine==cpos.line)=true:=by rfl)(hs:starEach (e::es) X.env=(false,eval e X.env)::starEach es X.env:=by rfl)(hplain:(backTo cpos (starEach es X.env)).any (·.1)=false:=by rfl):
    PE X (.Call (.Attribute o name apos) (e::es) [] cpos) (DX X.K T r to t):=by
  intro pins s σ H Q I h
  refine wpAny_Call_method_late hbase hfew hline rfl (bO (ho pins s σ H _ I h) fun v s1 ⟨x,H1,I1,r1,ty,q1⟩=>?_)
  obtain⟨h1,h2⟩:=AD I1 r1 ty
  refine⟨T,id,pa,slot,hty,h1,h2,?_⟩
  have hA:=ha cpos pins s1 σ H1 _ I1 q1
  rw [hs] at hA ⊢
  refine Calls.callWith_builtin (by show(false || (backTo cpos (starEach es X.env)).any (·.1))=false;rw [hplain]<;>rfl) (Calls.evalArgs_plain ?_)
  exact bO hA fun us s2 ⟨vs,H2,I2,r2,q2⟩=>hm pins s2 σ H2 x vs v us Q I2 r1 r2 q2
end
end L2
namespace L2
open PySem PySem.Spec PyProof.Rows
def DL(X:Cx)(id:String)(r:V→List V→Hp→VK→Prop):Prop:=
  ∀(pins:List (Addr × Obj)) (s:Shared) (σ:St) (H:Hp) (x:V) (xs:List V) (v:Value) (us:List Value) (Q:VK),aA X pins σ H s→bj x v→aI xs us→r x xs H Q→
    wpAny (model X.prog X.w) X.A (call (.builtin id) (v::us)) (EP X pins σ Q) X.xe s
theorem aI.one:∀{x:V} {us:List Value},aI [x] us→∃u,us=[u]∧bj x u
  | _,_,.cons r .nil=>⟨_,rfl,r⟩
theorem aI.eraseIdx:∀{xs:List V} {us:List Value} (i:Nat),aI xs us→aI (xs.eraseIdx i) (us.eraseIdx i)
  | _,_,_,.nil=>.nil
  | _,_,0,.cons _ t=>t
  | _,_,i+1,.cons r t=>.cons r (aI.eraseIdx i t)
theorem aI.reverse{xs:List V}{us:List Value}(h:aI xs us):aI xs.reverse us.reverse:=by
  induction h with
  | nil=>exact .nil
  | cons r t ih=>rw [List.reverse_cons,List.reverse_cons];exact aI.append ih (.cons r .nil)
theorem aI.rep{xs:List V}{us:List Value}(h:aI xs us):∀k:Nat,aI (List.replicate k xs).flatten (List.replicate k us).flatten
  | 0=>.nil
  | k+1=>by
    rw [List.replicate_succ,List.replicate_succ,List.flatten_cons,List.flatten_cons]
    exact aI.append h (aI.rep h k)
theorem lU{α:Type}:∀(l:List α) (i:Nat),(l.eraseIdx i).length≤l.length
  | [],_=>Nat.le_refl _
  | _::_,0=>Nat.le_succ _
  | _::r,i+1=>Nat.succ_le_succ (lU r i)
theorem lJ(its:List Value):∀(k:Nat) (acc:List Value),
    List.foldl (fun x1 x2=>x1++x2) acc.toArray (List.replicate k its.toArray)=(acc++(List.replicate k its).flatten).toArray
  | 0,acc=>by simp
  | k+1,acc=>by
    have e:acc.toArray++its.toArray=(acc++its).toArray:=by simp
    have e2:(acc++its)++(List.replicate k its).flatten=acc++(List.replicate (k+1) its).flatten:=by
      rw [List.replicate_succ,List.flatten_cons,List.append_assoc]
    rw [←e2,←lJ its k (acc++its),←e,List.replicate_succ,List.foldl_cons]
section
variable{X:Cx}{pins:List (Addr × Obj)}{σ:St}{H:Hp}{s:Shared}{l b:Addr}{xs ys zs:List V}
theorem aA.lset{its its':List Value}{n:Nat}{f:Array Value→Array Value}{t':Nat}(I:aA X pins σ H s)(hH:H l=some (.lst xs))
    (e:s.heap.get? l=some {cls:=.type "list",data:=.seq its.toArray n})(hf:f its.toArray=its'.toArray)(hv:aI ys its')(hz:ys.length≤sizeLine):
    aA X pins σ (aT H l (.lst ys)) {s with heap:=s.heap.update l (Obj.mapSeq f),toks:=t'}:=by
  have q:=PySem.IsL.update e f
  rw [hf] at q
  refine I.write (x:=l) (e:=l) (by rw [hH];exact trivial) (.inl rfl) (fun b' u hb hu=>(Heap.get?_update_other s.heap (Obj.mapSeq f) (Ne.symm hb)).trans hu) ⟨_,q⟩ ?_
  exact⟨hz,its',_,hv,q⟩
theorem aA.lnew{its:List Value}{t':Nat}(I:aA X pins σ H s)(hv:aI ys its)(hz:ys.length≤sizeLine):
    aA X pins σ (aT H s.heap.objs.size (.lst ys)) {s with heap:=s.heap.push {cls:=.type "list",data:=.seq its.toArray},toks:=t'}:=
  I.laid (fun _ _ q=>Heap.get?_push_of_some _ q) (Nat.le_refl _) ⟨hz,its,0,hv,Heap.get?_push_size _ rfl⟩
theorem aA.fresh(I:aA X pins σ H s):H s.heap.objs.size=none:=I.hok.fresh (Nat.le_refl _)
theorem aA.lstM(I:aA X pins σ H s)(hH:H l=some (.lst xs)):xs.length≤sizeLine∧∃(its:List Value) (n:Nat),aI xs its∧xs.length=its.length∧s.heap.get? l=some {cls:=.type "list",data:=.seq its.toArray n}:=by
  obtain⟨z,its,n,r,e⟩:=I.hok l _ hH
  exact⟨z,its,n,r,r.length,e⟩
theorem uf{n:Nat}(h:n≤sizeLine):Builtin.List.listTooLong n=false:=by
  unfold Builtin.List.listTooLong
  exact decide_eq_false (by lia)
end
section
variable{X:Cx}
def qK:V→List V→Hp→VK→Prop:=fun x vs H Q=>∃l xs y,x=.ref l∧vs=[y]∧H l=some (.lst xs)∧xs.length < sizeLine∧Q .non (aT H l (.lst (xs++[y])))
theorem jh:DL X "list.append" qK:=by
  intro pins s σ H x vs v us Q I rx rv h
  obtain⟨l,xs,y,rfl,rfl,hH,hz,q⟩:=h
  cases rx
  obtain⟨u,rfl,ru⟩:=rv.one
  obtain⟨z,its,n,r,hl,e⟩:=I.lstM hH
  refine call_meets F.slot_list_append ⟨_,e,rfl⟩ F.entry_list_append (F.args_list_append_2 _ _) (PySem.list_append l its.toArray n u (by rw [List.size_toArray];lia)) ⟨e,?_⟩
  refine⟨.non,_,I.lset (its':=its++[u]) hH e (by simp) (r.append (.cons ru .nil)) ?_,rfl,q⟩
  rw [List.length_append,List.length_singleton]
  lia
def uV:V→List V→Hp→VK→Prop:=fun x vs H Q=>∃l xs i k y,x=.ref l∧vs=[.int i]∧H l=some (.lst xs)∧ -(2 ^ 63)≤i∧i < 2 ^ 63∧seqIndex? i xs.length=some k∧xs[k]?=some y∧Q y (aT H l (.lst (xs.eraseIdx k)))
theorem ua:DL X "list.pop" uV:=by
  intro pins s σ H x vs v us Q I rx rv h
  obtain⟨l,xs,i,k,y,rfl,rfl,hH,h1,h2,hk,hy,q⟩:=h
  cases rx
  obtain⟨u,rfl,ru⟩:=rv.one
  obtain⟨t,rfl⟩:=ru
  obtain⟨z,its,n,r,hl,e⟩:=I.lstM hH
  obtain⟨w,hw,rw'⟩:=r.get hy
  refine call_meets F.slot_list_pop ⟨_,e,rfl⟩ F.entry_list_pop (F.args_list_pop_2 _ _)
    (MeetsSeq.list_pop_at l its.toArray n i t k w (fitsIndex_both h1 h2) (by rw [List.size_toArray,←hl];exact hk) (by rw [←Array.getElem?_toList];exact hw) (by rw [List.size_toArray];lia)) ⟨e,?_⟩
  refine⟨y,_,I.lset (its':=its.eraseIdx k) hH e ?_ (r.eraseIdx k) ?_,rw',q⟩
  · show its.toArray.eraseIdxIfInBounds k=(its.eraseIdx k).toArray
    rw [List.eraseIdxIfInBounds_toArray]
  · have:=lU xs k
    lia
def Aa:R2:=fun x y H Q=>∃l b xs zs,x=.ref l∧y=.ref b∧H l=some (.lst xs)∧H b=some (.lst zs)∧xs.length+zs.length≤sizeLine∧∀p,H p=none→Q (.ref p) (aT H p (.lst (xs++zs)))
theorem zt:eK X (binaryOp .Add) Aa:=by
  intro pins s σ H x y v u Q I rx ry h
  obtain⟨l,b,xs,zs,rfl,rfl,hH,hB,hz,q⟩:=h
  cases rx
  cases ry
  obtain⟨z,its,n,r,hl,e⟩:=I.lstM hH
  obtain⟨z2,its2,n2,r2,hl2,e2⟩:=I.lstM hB
  refine PySem.P.add_list e e2 ?_ (by rw [List.size_toArray,List.size_toArray];lia)
  have ea:its.toArray++its2.toArray=(its++its2).toArray:=by simp
  rw [ea]
  exact⟨.ref _,_,I.lnew (t':=s.toks) (r.append r2) (by rw [List.length_append];lia),rfl,q _ I.fresh⟩
def Ad:R2:=fun x y H Q=>∃l k xs,x=.ref l∧y=.int k∧H l=some (.lst xs)∧ -(2 ^ 63)≤k∧k < 2 ^ 63∧xs.length*k.toNat≤sizeLine∧
  ∀p,H p=none→Q (.ref p) (aT H p (.lst (List.replicate k.toNat xs).flatten))
theorem wd{α:Type}(xs:List α)(k:Nat):(List.replicate k xs).flatten.length=k*xs.length:=by
  induction k with
  | zero=>simp
  | succ k ih=>rw [List.replicate_succ,List.flatten_cons,List.length_append,ih,Nat.succ_mul,Nat.add_comm]
theorem zC:eK X (binaryOp .Mult) Ad:=by
  intro pins s σ H x y v u Q I rx ry h
  obtain⟨l,k,xs,rfl,rfl,hH,h1,h2,hz,q⟩:=h
  cases rx
  obtain⟨t,rfl⟩:=ry
  obtain⟨z,its,n,r,hl,e⟩:=I.lstM hH
  have hlen:its.toArray.size*k.toNat≤sizeLine:=by rw [List.size_toArray,←hl];exact hz
  have hcap:¬its.toArray.size*k.toNat > (2 ^ 63 - 1) / 8:=by
    have:(sizeLine:Nat)≤(2 ^ 63 - 1) / 8:=by decide
    lia
  have hfit:¬(!Builtin.List.listFitsIndex k)=true:=by
    rw [fitsIndex_both h1 h2]
    exact Bool.false_ne_true
  have hlong:¬Builtin.List.listTooLong (its.toArray.size*k.toNat)=true:=by
    rw [uf hlen]
    exact Bool.false_ne_true
  have hnew:List.foldl (fun x1 x2=>x1++x2) #[] (List.replicate (if its.toArray.isEmpty=true then 0 else k.toNat) its.toArray)=(List.replicate k.toNat its).flatten.toArray:=by
    have f0:∀m:Nat,List.foldl (fun x1 x2=>x1++x2) #[] (List.replicate m its.toArray)=(List.replicate m its).flatten.toArray:=fun m=>by
      have:=lJ its m []
      rw [List.nil_append] at this
      exact this
    rw [f0]
    cases its with
    | nil=>simp
    | cons a r'=>rw [if_neg (by simp)]
  refine wpAny_binaryOp_repeat_ref (T:="list") (U:="int") (by decide) ⟨_,e,rfl⟩ (fun s'=>typeIs_int s' k t) noFill_list_mul F.fills_int_mul F.slot_int_rmul repeat_list F.slot_int_index.lookup
    (call_meets F.slot_int_rmul (typeIs_int s k t) F.entry_int_rmul (F.args_int_rmul_2 _ _) (int___rmul___int_list k t l its.toArray n)
      ⟨e,rfl,⟨_,e,rfl⟩,call_meets F.slot_list_mul ⟨_,e,rfl⟩ F.entry_list_mul (F.args_list_mul_2 _ _) (AutoListH.list___mul___list_int_3 l its.toArray n k t hfit hcap hlong) ⟨e,?_⟩⟩)
  rw [hnew]
  exact⟨.ref _,_,I.lnew (t':=s.toks) (r.rep k.toNat) (by rw [wd,Nat.mul_comm];exact hz),rfl,q _ I.fresh⟩
end
section
variable{prog:Program}{w:World}{A:Around}{E:Value→Shared→Prop}{s:Shared}
end
section
variable{X:Cx}
end
end L2
namespace Att
open PySem PySem.W PySem.Calls PyProof.Rows
theorem jL{P:Params}{h:Heap}:∀(ns:List Int) (vs:List Value),WellAll P h vs (ns.map WData.int)→IntsAre vs ns:=by
  intro ns
  induction ns with
  | nil=>
    intro vs w
    rw [List.map_nil] at w
    cases w
    exact .nil
  | cons n ns ih=>
    intro vs w
    rw [List.map_cons] at w
    cases w with
    | cons a b=>
      cases a
      exact .cons _ _ (ih _ b)
theorem rR{l:OpenLaw}{n:Nat}(hn:l.most=some n){P:Params}{h:Heap}{args:List WData}{vals:List Value}
    (hpre:l.row.toRowW.claim.pre args=true)(hwl:WellAll P h vals args):
    ∃a vs ns,vals=[Value.ref a]∧args=[WData.list (ns.map WData.int)]∧h.get? a=some {cls:=.type "list",data:=.seq vs.toArray}∧IntsAre vs ns∧ns.length≤n:=by
  have hsh:WShape.hasAll [] args [.list .int]=true:=(pre_splitW hpre).1
  have hc:l.pre.holds [] {args:=args}=true:=(pre_splitW hpre).2
  obtain⟨d,r,rfl,h1,h2⟩:=hasAllW_cons hsh
  obtain rfl:=hasAllW_nil h2
  obtain⟨xs,rfl,h3⟩:=hasW_list h1
  obtain⟨ns,rfl⟩:=items_int h3
  have hlen:ns.length≤n:=by
    unfold OpenLaw.pre at hc
    have h4:(WTm.not (.lt (.lit (.int (n:Int))) (.len (.arg 0)))).holds [] {args:=[.list (ns.map .int)]}=true:=by
      have h4:=(holds_andW hc).1
      rw [hn] at h4
      exact h4
    have h5:=condW_of h4 (w_not (w_lt w_lit (w_len_list (w_arg rfl))))
    rw [List.length_map] at h5
    refine Nat.le_of_not_lt fun q=>?_
    have q':(n:Int) < ((ns.length:Nat):Int):=by lia
    first
      | (rw [decide_eq_true q'] at h5;exact absurd h5 (by decide))
      | (simp at h5;lia)
  cases hwl with
  | cons w1 w2=>
    cases w2
    cases w1 with
    | list ho hall=>exact⟨_,_,ns,rfl,rfl,ho,jL ns _ hall,hlen⟩
theorem rP(l:OpenLaw)(args:List WData):l.row.toRowW.claim.post args (.bool true) args=true:=
  postW_of (r:=l.row.toRowW) (X:=(true==true))
    (show WShape.has [] (.bool true) .bool=true by first | rfl | decide | simp [WShape.has,WShape.arms,WShape.armsAll])
    (show(WTm.eq .res (.lit (.bool true))).value [] {args:=args,res:=some (.bool true),after:=args}=some (.bool (true==true)) from w_eq_bool (w_res rfl) w_lit) rfl
theorem attach_call{l:OpenLaw}{n:Nat}{q:Program}{loose:List Str}{XP:(Str→Option Value)→Heap→Prop}{YP:World→Heap→Prop}{d:DefRec}
    (hn:l.most=some n)(hdf:d.params.defaults=[])
    (call:∀(w:World) (s₀ s₁:Shared) (mg mb:Str→Option Value) (fa:Addr) (o:Obj) (pm cd doc:Value) (a:Addr) (vs:List Value) (ns:List Int),
      Ground q loose [] XP w s₀ mg mb s₁.heap→YP w s₁.heap→
      s₁.heap.get? fa=some o→o.data=.func (docDef d.name d.params d.body d.scope pm cd doc)→s₁.heap.CodeRec cd d.name→mg d.name=some (.ref fa)→
      s₁.heap.get? a=some {cls:=.type "list",data:=.seq vs.toArray}→IntsAre vs ns→ns.length≤n→s₁.gens=#[]→
      codeAny (model l.prog w) callerA (.call (.ref fa) ⟨[.ref a],[]⟩) (fun r s'=>r=.ok (.ret (.bool true))∧OldK s₁.heap s'.heap∧s'.os=s₁.os∧AllBare s'.gens) s₁):
    WalkO q loose XP YP l.row.toRowW d [] (fun f vs=>PySem.call f vs):=by
  intro w s₀ s₁ mg mb G Y fa o pm cd doc dV kV ho hd hcd hD hmg hg args vals as hpre hlay hrd hwl hlo
  obtain rfl:dV=.none:=Dflts.none hD hdf
  obtain rfl:kV=.none:=Dflts.noKw hD
  obtain⟨a,vs,ns,rfl,rfl,hobj,hints,hlen⟩:=rR hn hpre hwl
  refine enter_call (codeAny_mono (call w s₀ s₁ mg mb fa o pm cd doc a vs ns G Y ho (fd_plain hd) hcd hmg hobj hints hlen hg) fun r s' hq=>?_)
  obtain⟨rfl,h2,h3,h4⟩:=hq
  exact⟨.inl ⟨.bool true,.bool true,[],rfl,fun _=>rfl,.bool true,rP l _,fun _=>⟨List.Pairwise.nil,fun _ hm=>(nomatch hm)⟩⟩,h2,h3,h4⟩
section
variable{prog:Program}{w:World}{A:Around}{E:Value→Shared→Prop}{s:Shared}{K:Frag}
end
end Att
namespace L2
open PySem PySem.Spec PyProof.Rows
theorem gX:∀{vs:List Value} {ns:List Int},IntsAre vs ns→aI (ns.map V.int) vs
  | _,_,.nil=>.nil
  | _,_,.cons n t h=>.cons ⟨t,rfl⟩ (gX h)
def yy(H:Hp):Prop:=∀b,H b=none∨∃o xs,H b=some (.frz o (.lst xs))
theorem tY{P:Program}{w:World}{K:PySem.W.Frag}{mg mb:Str→Option Value}{CX:q5}{k:Nat}{fa a:Addr}{fd:FuncData}{x:Str}{sp:Sp}{s₁:Shared}{vs:List Value}{ns:List Int}
    (KX:K.In s₁.heap)(hns:s₁.heap.Ns mainGlobals mg)(hb:s₁.heap.Ns builtinsNs mb)(hbb:∀x:Str,x≠"__name__"→mb x=bootBuiltins x)(hlim:s₁.heap.NoLimit)(hg:s₁.gens=#[])
    (ha:s₁.heap.get? a=some {cls:=.type "list",data:=.seq vs.toArray})(hi:IntsAre vs ns)(hl:ns.length≤sizeLine)(hr:bU k callerA)
    (F:∀base:Heap,K.In base→base.Ns mainGlobals mg→aP P w K mg base CX k fa fd [x] sp)(hbind:∀(s:Shared) (u:Value),BindsTo s fd ⟨[u],[]⟩ [(x,u)])
    (hsp:∀H:Hp,yy H→bR K H a (ns.map V.int)→sp [.ref a] H (fun v _=>v=.bl true) fun _ _ _=>False)
    (hCX:∀H e s',CX [] H s₁ (fun _ _ _=>False) e s'→False):
    codeAny (model P w) callerA (.call (.ref fa) ⟨[.ref a],[]⟩) (fun r s'=>r=.ok (.ret (.bool true))∧OldK s₁.heap s'.heap∧s'.os=s₁.os∧AllBare s'.gens) s₁:=by
  have rv:=gX hi
  have lenV:=hi.length
  have core:∀H:Hp,yy H→bR K H a (ns.map V.int)→js P w H s₁.heap→(∀b,H b≠none→b=a)→(H a≠none→K.lookup a=none)→
      codeAny (model P w) callerA (.call (.ref fa) ⟨[.ref a],[]⟩) (fun r s'=>r=.ok (.ret (.bool true))∧OldK s₁.heap s'.heap∧s'.os=s₁.os∧AllBare s'.gens) s₁:=by
    intro H hO hS hok hA hK
    have base_of:∀{b:Addr} {o:Obj},s₁.heap.get? b=some o→H b=none→(mN s₁.heap H).get? b=some o:=fun e n=>tU e n
    have noA:∀{b:Addr} {o:Obj} {es:Array DictEntry} {ep:Nat},s₁.heap.get? b=some o→o.data=.dict es ep→H b=none:=fun{b o es ep} e d=>by
      cases q:H b with
      | none=>rfl
      | some u=>
        have e':b=a:=hA b (by rw [q];simp)
        subst e'
        rw [ha] at e;cases e
        have d':Data.seq vs.toArray _=Data.dict es ep:=d
        cases d'
    have nsK:∀{b:Addr} {m:Str→Option Value},s₁.heap.Ns b m→(mN s₁.heap H).Ns b m:=fun{b m} ⟨o,es,ep,e,d,r⟩=>⟨o,es,ep,base_of e (noA e d),d,r⟩
    have hKb:K.In (mN s₁.heap H):=fun b o e=>base_of (KX b o e) (by
      cases q:H b with
      | none=>rfl
      | some u=>
        have e':b=a:=hA b (by rw [q];simp)
        subst e'
        rw [hK (by rw [q];simp)] at e;cases e)
    have hM:Mod K mg (mN s₁.heap H):=⟨hKb,nsK hns,⟨mb,nsK hb,hbb⟩,let ⟨mc,h1,h2⟩:=hlim;⟨mc,nsK h1,h2⟩⟩
    have e0:vF P w K mg (mN s₁.heap H) callerA [] s₁ H:=⟨rfl,hM,fun b o e=>wg e,Nat.le_of_eq (rA _ _),trivial,fun b hb=>absurd (show b∈([]:List Addr) from hb) (by simp),hok,.of_eq hg⟩
    refine codeAny_mono ((F _ hKb (nsK hns)).run callerA [] s₁ H ⟨[.ref a],[]⟩ [.ref a] [.ref a] _ _ hr e0 (hbind s₁ (.ref a)) (.cons rfl .nil) (hsp H hO hS)) fun r s' h=>?_
    cases r with
    | error e=>exact(hCX H e s' h).elim
    | ok fl=>
      cases fl with
      | next=>exact False.elim h
      | brk=>exact False.elim h
      | cont=>exact False.elim h
      | ret u=>
        obtain⟨v,H',os,bare,un,hok',r',q⟩:=h
        have q':v=.bl true:=q
        subst q'
        obtain rfl:u=Value.bool true:=r'
        refine⟨rfl,OldK.of_keep fun b o e=>?_,os,bare⟩
        cases q:H b with
        | none=>exact un.keep b o e q (by intro z;exact absurd (show b∈([]:List Addr) from z) (by simp)) (by simp)
        | some u=>
          rcases hO b with z | ⟨ob,xs,z⟩
          · rw [q] at z;cases z
          · have z2:=un.frzs b ob _ z
            obtain⟨e1,_⟩:=hok b _ z
            obtain⟨e2,_⟩:=hok' b _ z2
            rw [e] at e1;cases e1
            exact e2
  cases hk:K.lookup a with
  | some o=>
    have e:=KX a o hk
    rw [ha] at e
    cases e
    refine core (fun _=>none) (fun _=>.inl rfl) (.inr ⟨_,vs.toArray,_,hk,rfl,rfl,rfl,by rw [List.size_toArray,lenV];exact hl,by simpa using rv⟩) (fun b u z=>by have z':(none:Option HO)=some u:=z;cases z') (fun b z=>absurd rfl z) fun z=>absurd rfl z
  | none=>
    refine core (fun b=>if b=a then some (.frz {cls:=.type "list",data:=.seq vs.toArray} (.lst (ns.map V.int))) else none) (fun b=>?_) (.inl (.inr ⟨{cls:=.type "list",data:=.seq vs.toArray},if_pos rfl⟩)) (fun b u z=>?_) (fun b z=>?_) fun _=>hk
    · by_cases hb:b=a
      · exact .inr ⟨_,_,if_pos hb⟩
      · exact .inl (if_neg hb)
    · by_cases hb:b=a
      · have z':=(if_pos hb).symm.trans z
        cases z'
        subst hb
        exact⟨ha,by rw [List.length_map];exact hl,vs,_,rv,ha⟩
      · have z':=(if_neg hb).symm.trans z
        cases z'
    · by_cases hb:b=a
      · exact hb
      · exact absurd (if_neg hb) z
end L2
namespace L2
open PySem PySem.Spec PyProof.Rows
theorem walk_of{l:PySem.W.OpenLaw}{n k:Nat}{q:Program}{loose:List Str}{XP:(Str→Option Value)→Heap→Prop}{YP:World→Heap→Prop}{d:DefRec}{K:Params→PySem.W.Frag}{CX:World→q5}{sp:World→Sp}{x:Str}
    (hn:l.most=some n)(hn2:n≤sizeLine)(hdf:d.params.defaults=[])(hr:bU k callerA)
    (hY:∀(w:World) (h:Heap),YP w h→(K w.params).In h)
    (F:∀(w:World) (mg:Str→Option Value) (fa:Addr) (h:Heap),(K w.params).In h→h.Ns mainGlobals mg→mg d.name=some (.ref fa)→
      ∃fd:FuncData,(∀(s:Shared) (u:Value),BindsTo s fd ⟨[u],[]⟩ [(x,u)])∧
        ∀base:Heap,(K w.params).In base→base.Ns mainGlobals mg→aP l.prog w (K w.params) mg base (CX w) k fa fd [x] (sp w))
    (hsp:∀(w:World) (H:Hp) (a:Addr) (ns:List Int),ns.length≤n→yy H→bR (K w.params) H a (ns.map V.int)→sp w [.ref a] H (fun v _=>v=.bl true) fun _ _ _=>False)
    (hCX:∀(w:World) (H:Hp) (s:Shared) (e:Value) (s':Shared),CX w [] H s (fun _ _ _=>False) e s'→False):
    PySem.W.WalkO q loose XP YP l.row.toRowW d [] (fun f vs=>PySem.call f vs):=by
  refine Att.attach_call hn hdf fun w s₀ s₁ mg mb fa o pm cd doc a vs ns G Y ho hd hcd hmg hobj hints hlen hg=>?_
  have KX:=hY w _ Y
  obtain⟨fd,hb,hF⟩:=F w mg fa _ KX G.T.g hmg
  exact tY KX G.T.g G.T.b G.T.builtins G.T.nolimit hg hobj hints (Nat.le_trans hlen hn2) hr hF hb (fun H hO hS=>hsp w H a ns hlen hO hS) fun H e s'=>hCX w H s₁ e s'
end L2
namespace L2
open PySem PySem.Spec PyProof.Rows
def cH(s:Stmt):Arguments:=match s with
  | .FunctionDef _ a _ _ _ _ _ _ _ _=>a
  | _=>{posonlyargs:=[],args:=[],vararg:=none,kwonlyargs:=[],kw_defaults:=[],kwarg:=none,defaults:=[]}
def bZ(s:Stmt):List Stmt:=match s with
  | .FunctionDef _ _ b _ _ _ _ _ _ _=>b
  | _=>[]
def ao(s:Stmt):Scope:=match s with
  | .FunctionDef _ _ _ _ _ _ sc _ _ _=>sc
  | _=>{kind:=.function,names:=[],isGenerator:=false,isCoroutine:=false}
abbrev bY:q5:=fun _ _ _ _ _ _=>False
abbrev E0:XK:=fun _ _ _=>False
theorem BQ{X:Cx}:pb bY X E0:=fun _ _ _ _ _ _ _ h=>h.elim
structure AL (K:PySem.W.Frag) (x qual:Str) (st:Stmt) (f:Addr) (fd:FuncData):Prop where
  ex:∃(oc:Value) (od:Option Addr) (kV doc pm:Value) (an:Option Addr) (cdv ct:Value) (osl:Array (Option Value)),
    fd=PySem.W.fnOf x qual (cH st) (bZ st) (ao st) .none kV doc pm an cdv ct∧K.lookup f=some ⟨oc,od,.func fd,osl⟩∧PySem.W.codeIn K cdv qual=true
  kp:PySem.W.keepIn K (.ref f)=true
section
variable{P:Program}{w:World}{K:PySem.W.Frag}{mg:Str→Option Value}{base:Heap}
theorem AL.ok{x qual:Str}{st:Stmt}{f:Addr}{fd:FuncData}{N ps:List Str}{k:Nat}{sp:Sp}(F:AL K x qual st f fd)(S:aJ N ps (ao st))(len:∀vs H Q E,sp vs H Q E→vs.length=ps.length)
    (hbody:∀(cdv:Value) (A:Around) (outer:List Env) (s:Shared) (H:Hp) (vs:List V) (Q:VK) (E:XK),bU k (A.deeper (envOfC qual (ao st) s.heap.objs.size f cdv))→sp vs H Q E→
      ∃t,jJ (pz bY P w K mg base N qual (ao st) f cdv A outer s H E).nox (bZ st) t∧t {nx:=fun _ H'=>Q .non H',rt:=Q} (fP N vs) H):aP P w K mg base bY (k+1) f fd ps sp:=by
  obtain⟨oc,od,kV,doc,pm,an,cdv,ct,osl,rfl,lk,hcd⟩:=F.ex
  refine Bk lk hcd S len fun A outer s H vs Q E hr hsp=>?_
  obtain⟨t,h,q⟩:=hbody cdv A outer s H vs Q E hr hsp
  exact⟨t,h.nox,q⟩
theorem AL.binds{x qual:Str}{st:Stmt}{f:Addr}{fd:FuncData}{ps:List Str}(F:AL K x qual st f fd)
    (h:∀(kV doc pm:Value) (an:Option Addr) (cdv ct:Value) (us:List Value),us.length=ps.length→bindArgs (PySem.W.fnOf x qual (cH st) (bZ st) (ao st) .none kV doc pm an cdv ct) ⟨us,[]⟩=pure (ps.zip us)):lu K fd ps []:=by
  obtain⟨oc,od,kV,doc,pm,an,cdv,ct,osl,rfl,lk,hcd⟩:=F.ex
  exact .all (h kV doc pm an cdv ct)
theorem ti{x qual:Str}{st:Stmt}{f:Addr}{oc:Value}{od an:Option Addr}{osl:Array (Option Value)}{kV doc pm cdv ct:Value}(l:K.lookup f=some ⟨oc,od,.func (PySem.W.fnOf x qual (cH st) (bZ st) (ao st) .none kV doc pm an cdv ct),osl⟩)
    (c:PySem.W.codeIn K cdv qual=true)(k:PySem.W.keepIn K (.ref f)=true):AL K x qual st f (PySem.W.fnOf x qual (cH st) (bZ st) (ao st) .none kV doc pm an cdv ct):=⟨⟨oc,od,kV,doc,pm,an,cdv,ct,osl,rfl,l,c⟩,k⟩
end
theorem ma{n:Nat}(h:n≤1000):n < sizeLine:=Nat.lt_of_le_of_lt h (by decide)
section
variable{X:Cx}
end
theorem Bz{A B:Prop}(h:B):if false=true then A else B:=by
  rw [if_neg Bool.false_ne_true]
  exact h
theorem BA{A B:Prop}(h:A):if true=true then A else B:=by
  rw [if_pos rfl]
  exact h
def ax(H H':Hp):Prop:=∀b o,H b=some o→H' b=some o
theorem ax.refl(H:Hp):ax H H:=fun _ _ h=>h
theorem ax.trans{H H1 H2:Hp}(a:ax H H1)(b:ax H1 H2):ax H H2:=fun c o h=>b c o (a c o h)
theorem ax.free{H H':Hp}(e:ax H H'){l:Addr}(h:H' l=Option.none):H l=Option.none:=by
  cases q:H l with
  | none=>rfl
  | some o=>
    rw [e l o q] at h
    cases h
theorem ax.seq{K:PySem.W.Frag}{H H':Hp}{a:Addr}{xs:List V}(e:ax H H')(h:bR K H a xs):bR K H' a xs:=by
  rcases h with (h | ⟨o,h⟩) | h
  · exact .inl (.inl (e _ _ h))
  · exact .inl (.inr ⟨o,e _ _ h⟩)
  · exact .inr h
end L2
set_option maxHeartbeats 4000000
namespace L2
open PySem PySem.Spec PyProof.Rows
def Bt(n:Nat)(i:Int):Prop:=i.natAbs < 2 ^ n
theorem Bt.mono{m n:Nat}{i:Int}(h:Bt m i)(hm:m≤n):Bt n i:=Nat.lt_of_lt_of_le h (Nat.pow_le_pow_right (by decide) hm)
theorem Bt.log{m:Nat}{i:Int}(h:Bt m i)(hm:0 < m):i.natAbs.log2 < m:=by
  unfold Bt at h
  rcases Nat.eq_zero_or_pos i.natAbs with h0 | hp
  · rw [h0];exact hm
  · exact(Nat.log2_lt (by lia)).mpr h
theorem Bt.bits{m:Nat}{i:Int}(h:Bt m i)(hm:0 < m):Builtin.Int.intBits i≤m:=by
  unfold Builtin.Int.intBits
  split
  · exact Nat.zero_le _
  · exact h.log hm
theorem Bt.of_le{m:Nat}{i:Int}{j:Int}(h:Bt m j)(e:i.natAbs≤j.natAbs):Bt m i:=Nat.lt_of_le_of_lt e h
section
variable{X:Cx}
def xJ(i j:Int):Prop:=Bt 4000 i∧Bt 4000 j
theorem wF:eK X (binaryOp .Mult) (rI xJ fun i j=>.int (i*j)):=AS fun _ _ _ _ _ _ _ hc q=>
  mul_int q (.of_bits (Nat.le_trans (hc.1.bits (by decide)) (by decide)) (Nat.le_trans (hc.2.bits (by decide)) (by decide)))
def xI(i j:Int):Prop:=j≠0∧Bt 8000 j
theorem uo:eK X (binaryOp .FloorDiv) (rI xI fun i j=>.int (i.fdiv j)):=AS fun _ _ _ _ _ _ _ hc q=>
  floordiv_int hc.1 q (.inl (PyProof.noPylong_of_log2 (Nat.lt_trans (hc.2.log (by decide)) (by decide))))
theorem zx:eK X (compareOp .Is) (fun x y H Q=>∃b c,x=.bl b∧y=.bl c∧Q (.bl (b==c)) H):=by
  intro pins s σ H x y v u Q I rx ry h
  obtain⟨b,c,rfl,rfl,q⟩:=h
  cases rx;cases ry
  exact is_bool ⟨.bl _,H,I,rfl,q⟩
end
def jt(H H':Hp):Prop:=∀a o,H a=some o→(∀xs,o≠.lst xs)→(∀ob xs,o≠.frz ob (.lst xs))→H' a=some o
theorem jt.trans{H H1 H2:Hp}(a:jt H H1)(b:jt H1 H2):jt H H2:=fun c o h n m=>b c o (a c o h n m) n m
theorem ax.ts{H H':Hp}(h:ax H H'):jt H H':=fun a o e _ _=>h a o e
theorem jt.tup{K:PySem.W.Frag}{H H':Hp}(h:jt H H'){a:Addr}{xs:List V}(q:bB K H a xs):bB K H' a xs:=by
  rcases q with (q | ⟨o,q⟩) | q
  · exact .inl (.inl (h _ _ q (fun _ e=>nomatch e) (fun _ _ e=>nomatch e)))
  · exact .inl (.inr ⟨o,h _ _ q (fun _ e=>nomatch e) (fun _ _ e=>nomatch e)⟩)
  · exact .inr q
section
variable{X:Cx}
end
end L2
namespace L2
open PySem PySem.Spec PyProof.Rows
structure bz (K:PySem.W.Frag) (mg:Str→Option Value) (x:Str) (st:Stmt) (f:Addr) (fd:FuncData) (ps:List Str):Prop where
  F:AL K x x st f fd
  m:mg x=some (.ref f)
  b:lu K fd ps []
theorem yU{K:PySem.W.Frag}{mg:Str→Option Value}{h:Heap}{x:Str}{st:Stmt}{f:Addr}{ps:List Str}{oc:Value}{od an:Option Addr}{osl:Array (Option Value)}{kV doc pm cdv ct:Value}(X:K.In h)(G:h.Ns mainGlobals mg)(a:PySem.W.nsIn K mainGlobals x=some (some (.ref f)))
    (l:K.lookup f=some ⟨oc,od,.func (PySem.W.fnOf x x (cH st) (bZ st) (ao st) .none kV doc pm an cdv ct),osl⟩)(c:PySem.W.codeIn K cdv x=true)(k:PySem.W.keepIn K (.ref f)=true)
    (hb:∀(kV doc pm:Value) (an:Option Addr) (cdv ct:Value) (us:List Value),us.length=ps.length→bindArgs (PySem.W.fnOf x x (cH st) (bZ st) (ao st) .none kV doc pm an cdv ct) ⟨us,[]⟩=pure (ps.zip us)):
    bz K mg x st f (PySem.W.fnOf x x (cH st) (bZ st) (ao st) .none kV doc pm an cdv ct) ps:=⟨ti l c k,PySem.W.mg_of X G a,(ti l c k).binds hb⟩
theorem Dr{X:Cx}{x:Str}{st:Stmt}{f:Addr}{fd:FuncData}{ps:List Str}{k:Nat}{sp:Sp}{e:Expr}{es:List Expr}{t:TA}{p pos:Pos}(h:bz X.K X.mg x st f fd ps)(G:aP X.prog X.w X.K X.mg X.base bY k f fd ps sp)(hr:bU k X.A)(ha:PA X (e::es) t)
    (hg:Gl X x:=by rfl)(hdb:(x==("__debug__":Str))=false:=by decide)(he:starEach (e::es) X.env=(false,eval e X.env)::starEach es X.env:=by rfl)(hpl:(backTo pos (starEach es X.env)).any (·.1)=false:=by rfl):
    PE X (.Call (.Name x p) (e::es) [] pos) (vn sp [] E0 t):=wH G hr hg h.m h.F.kp h.b .nil BQ ha hdb he hpl
theorem ax.new{H:Hp}{p:Addr}{o:HO}(h:H p=none):ax H (aT H p o):=fun b u e=>by
  rw [aE (c7 e h)];exact e
theorem ax.tup{K:PySem.W.Frag}{H H':Hp}{a:Addr}{xs:List V}(e:ax H H')(h:bB K H a xs):bB K H' a xs:=e.ts.tup h
end L2
namespace L2
open PySem PySem.Spec PyProof.Rows
def dC(t b:Int):Int × Int:=if b < 0 then(t.fdiv (-(Int.gcd t b:Int)),b.fdiv (-(Int.gcd t b:Int))) else(t.fdiv (Int.gcd t b:Int),b.fdiv (Int.gcd t b:Int))
theorem tS(x y:Int):Int.gcd y (x.fmod y)=Int.gcd x y:=by
  rw [Int.fmod_def,Int.gcd_sub_mul_left_right,Int.gcd_comm]
theorem jA(x:Int){y:Int}(h:y≠0):(x.fmod y).natAbs < y.natAbs:=by
  rcases Int.lt_or_gt_of_ne h with h | h
  · have h1:x.fmod y= -((-x).fmod (-y)):=by
      have:=Int.neg_fmod_neg x y
      lia
    have h2:=Int.fmod_nonneg_of_pos (-x) (b:= -y) (by lia)
    have h3:=Int.fmod_lt_of_pos (-x) (b:= -y) (by lia)
    lia
  · have h2:=Int.fmod_nonneg_of_pos x h
    have h3:=Int.fmod_lt_of_pos x h
    lia
theorem qD{t b:Int}(h:b≠0):(0:Int) < Int.gcd t b:=by
  have:=Int.gcd_pos_of_ne_zero_right t h
  lia
theorem lV{t b:Int}(h:b≠0):∃d:Int,d.natAbs=Int.gcd t b∧d≠0∧(dC t b).1*d=t∧(dC t b).2*d=b∧0 < (dC t b).2:=by
  have hg:=qD (t:=t) h
  have d1:(Int.gcd t b:Int) ∣ t:=Int.gcd_dvd_left ..
  have d2:(Int.gcd t b:Int) ∣ b:=Int.gcd_dvd_right ..
  unfold dC
  split
  · rename_i hb
    have e1:t.fdiv (-(Int.gcd t b:Int))*(-(Int.gcd t b:Int))=t:=Int.fdiv_mul_cancel (Int.neg_dvd.mpr d1)
    have e2:b.fdiv (-(Int.gcd t b:Int))*(-(Int.gcd t b:Int))=b:=Int.fdiv_mul_cancel (Int.neg_dvd.mpr d2)
    refine⟨-(Int.gcd t b:Int),by lia,by lia,e1,e2,?_⟩
    show 0 < b.fdiv (-(Int.gcd t b:Int))
    have h3:b.fdiv (-(Int.gcd t b:Int))*(Int.gcd t b:Int)= -b:=by rw [Int.mul_neg] at e2;lia
    exact Int.pos_of_mul_pos_left (by lia) (by lia) (b:=(Int.gcd t b:Int))
  · rename_i hb
    have e1:t.fdiv (Int.gcd t b:Int)*(Int.gcd t b:Int)=t:=Int.fdiv_mul_cancel d1
    have e2:b.fdiv (Int.gcd t b:Int)*(Int.gcd t b:Int)=b:=Int.fdiv_mul_cancel d2
    refine⟨(Int.gcd t b:Int),by lia,by lia,e1,e2,?_⟩
    show 0 < b.fdiv (Int.gcd t b:Int)
    exact Int.pos_of_mul_pos_left (by lia) (by lia) (b:=(Int.gcd t b:Int))
theorem t_{t b:Int}(h:b≠0):Int.gcd (dC t b).1 (dC t b).2=1:=by
  obtain⟨d,h1,h2,h3,h4,h5⟩:=lV (t:=t) h
  have e:Int.gcd ((dC t b).1*d) ((dC t b).2*d)=Int.gcd (dC t b).1 (dC t b).2*d.natAbs:=Int.gcd_mul_right ..
  rw [h3,h4,←h1] at e
  have hd:0 < d.natAbs:=by lia
  exact(Nat.eq_of_mul_eq_mul_right hd (by rw [Nat.one_mul];exact e)).symm
theorem yR{t b:Int}(h:b≠0){n:Nat}(hb:Bt n b):Bt n (Int.gcd t b:Int):=by
  refine hb.of_le ?_
  have h1:=Nat.le_of_dvd (show 0 < b.natAbs by lia) (Int.ofNat_dvd.mp (by rw [Int.dvd_natAbs];exact Int.gcd_dvd_right t b))
  lia
mutual
def cnt:PyData→Nat
  | .tuple ds=>1+hG ds
  | .str _=>0
  | _=>1
def hG:List PyData→Nat
  | []=>0
  | d::ds=>cnt d+hG ds
end
mutual
def kx:PyData→Bool
  | .tuple ds=>eX ds
  | .str _=>false
  | .list _=>false
  | .dict _=>false
  | _=>true
def eX:List PyData→Bool
  | []=>true
  | d::ds=>kx d&&eX ds
end
theorem lm{a:Int}(h:a.natAbs.log2 < 1920):(Str.ofString (toString a)).length≤1921:=by
  have e:=int_text_length_le (k:=1920) (by decide) h
  rw [PySem.ofString_length];lia
theorem fF(x:Str)(r:List Str):piled (x::r)=x.length+2+piled r:=by
  simp [piled]
theorem jq(ts:List Str):(tupleText ts).length≤piled ts+3:=by
  unfold tupleText
  rw [strLen_append,strLen_append]
  have h1:(("(":Str)).length=1:=by decide
  have h2:(Str.ofString (if (ts.length==1)=true then ",)" else ")")).length≤2:=by split<;>decide
  have h3:(Str.join ", " ts).length≤piled ts:=by
    cases ts with
    | nil=>show(Str.join ", " []).length≤0;decide
    | cons x r=>have:=join_length_add (x::r) (by simp);lia
  lia
mutual
theorem l_:∀{d:PyData},kx d=true→d.showable=true→d.shown.length+2≤2000*cnt d
  | .none,_,_=>by show(Str.ofString "None").length+2≤2000*1;decide
  | .bool b,_,_=>by
    cases b
    · show(Str.ofString "False").length+2≤2000*1;decide
    · show(Str.ofString "True").length+2≤2000*1;decide
  | .int i,_,hs=>by
    simp only [PyData.showable,decide_eq_true_eq] at hs
    have:=lm hs
    show(Str.ofString (toString i)).length+2≤2000*1
    lia
  | .tuple ds,hn,hs=>by
    simp only [PyData.showable] at hs
    simp only [kx] at hn
    have h1:=iX hn hs
    have h2:=jq (PyData.shownAll ds)
    simp only [PyData.shown,cnt]
    lia
  | .str _,hn,_=>by simp [kx] at hn
  | .list _,hn,_=>by simp [kx] at hn
  | .dict _,hn,_=>by simp [kx] at hn
theorem iX:∀{ds:List PyData},eX ds=true→PyData.showableAll ds=true→piled (PyData.shownAll ds)≤2000*hG ds
  | [],_,_=>by simp [PyData.shownAll,piled]
  | d::ds,hn,hs=>by
    simp only [eX,Bool.and_eq_true] at hn
    simp only [PyData.showableAll,Bool.and_eq_true] at hs
    have h1:=l_ hn.1 hs.1
    have h2:=iX hn.2 hs.2
    simp only [PyData.shownAll,hG,fF]
    lia
end
end L2
namespace L2
open PySem PySem.Spec PyProof.Rows
def fQ(env:Env):List (Str × NameKind)→List (Str × Addr)→List (Str × Addr)
  | [],cs=>cs
  | (n,k)::r,cs=>fQ env r (if k==.free then(n,(env.cells.lookup n).getD 0)::cs else cs)
theorem iw{env:Env}:∀(names:List (Str × NameKind)) (cs:List (Str × Addr)),(∀y∈names,y.2=.free→∃c,env.cells.lookup y.1=some c)→
    (forIn names cs (fun(x:Str × NameKind) (r:List (Str × Addr))=>(if (x.2==NameKind.free)=true then do let a ←cellOf env x.1;pure (ForInStep.yield ((x.1,a)::r)) else pure (ForInStep.yield r):Sem (ForInStep (List (Str × Addr))))):Sem (List (Str × Addr)))=pure (fQ env names cs)
  | [],cs,_=>rfl
  | (n,k)::r,cs,h=>by
    rw [List.forIn_cons]
    have ih:=fun cs'=>iw (env:=env) r cs' (fun y hy=>h y (List.mem_cons_of_mem _ hy))
    by_cases hk:(k==NameKind.free)=true
    · have hk':k=.free:=by simpa using hk
      obtain⟨c,hc⟩:=h (n,k) List.mem_cons_self hk'
      have e:cellOf env n=pure c:=by unfold cellOf;rw [hc]
      simp only [hk,if_true,e,pure_bind,fQ,hc,Option.getD_some]
      exact ih _
    · have hk':(k==NameKind.free)=false:=by simpa using hk
      simp only [hk',Bool.false_eq_true,if_false,pure_bind,fQ]
      exact ih _
theorem j8{scope:Scope}{env:Env}(h:∀y∈scope.names,y.2=.free→∃c,env.cells.lookup y.1=some c):closureFor scope env=pure (fQ env scope.names []):=by
  have e:=iw (env:=env) scope.names [] h
  unfold closureFor
  simp only [pure_bind,bind_pure] at e ⊢
  exact e
theorem g_{env:Env}:∀(names:List (Str × NameKind)) (cs:List (Str × Addr)) (x:Str) (c:Addr),(∀y∈names,y.2=.free→∃c,env.cells.lookup y.1=some c)→(∀x c,cs.lookup x=some c→env.cells.lookup x=some c)→(fQ env names cs).lookup x=some c→env.cells.lookup x=some c
  | [],cs,x,c,_,hs,h=>hs x c h
  | (n,k)::r,cs,x,c,hn,hs,h=>by
    refine g_ r _ x c (fun y hy=>hn y (List.mem_cons_of_mem _ hy)) (fun x' c' e=>?_) h
    by_cases hk:(k==NameKind.free)=true
    · rw [if_pos hk] at e
      obtain⟨c0,hc⟩:=hn (n,k) List.mem_cons_self (by simpa using hk)
      rw [List.lookup_cons] at e
      cases hx:x'==n with
      | true=>
        rw [hx] at e
        have e1:x'=n:=by simpa using hx
        subst e1
        simp only [hc,Option.getD_some,Option.some.injEq] at e
        rw [←e];exact hc
      | false=>rw [hx] at e;exact hs x' c' e
    · rw [if_neg hk] at e
      exact hs x' c' e
theorem j7{env:Env}:∀(names:List (Str × NameKind)) (cs:List (Str × Addr)) (x:Str),((∃y∈names,y.1=x∧y.2=.free)∨∃c,cs.lookup x=some c)→∃c,(fQ env names cs).lookup x=some c
  | [],cs,x,h=>by
    rcases h with ⟨y,hy,_⟩ | h
    · cases hy
    · exact h
  | (n,k)::r,cs,x,h=>by
    refine j7 r _ x ?_
    by_cases hk:(k==NameKind.free)=true
    · rw [if_pos hk,List.lookup_cons]
      cases hx:x==n with
      | true=>exact .inr ⟨_,rfl⟩
      | false=>
        rcases h with ⟨y,hy,e1,e2⟩ | h
        · rcases List.mem_cons.mp hy with z | z
          · subst z;subst e1;simp at hx
          · exact .inl ⟨y,z,e1,e2⟩
        · exact .inr h
    · rw [if_neg hk]
      rcases h with ⟨y,hy,e1,e2⟩ | h
      · rcases List.mem_cons.mp hy with z | z
        · subst z;exact absurd (by simpa using e2) hk
        · exact .inl ⟨y,z,e1,e2⟩
      · exact .inr h
theorem cO{env:Env}:∀{names:List (Str × NameKind)} {x:Str},(∀y∈names,y.2≠.cell)→(names.map fun(n,k)=>if (k==NameKind.free&&env.scope.kind==.function&&env.kindOf n==some .cell) then(n,NameKind.cell) else(n,k)).lookup x=some .cell∨
    (names.map fun(n,k)=>if (k==NameKind.free&&env.scope.kind==.function&&env.kindOf n==some .cell) then(n,NameKind.cell) else(n,k)).lookup x=some .free→∃y∈names,y.1=x∧y.2=.free
  | [],x,_,h=>by simp at h
  | (n,k)::r,x,hc,h=>by
    have ih:=@cO env r x (fun y hy=>hc y (List.mem_cons_of_mem _ hy))
    have nc:k≠.cell:=hc (n,k) List.mem_cons_self
    rw [List.map_cons] at h
    cases hx:x==n with
    | true=>
      have e1:x=n:=by simpa using hx
      subst e1
      refine⟨(x,k),List.mem_cons_self,rfl,?_⟩
      by_cases q:(k==NameKind.free&&env.scope.kind==.function&&env.kindOf x==some .cell)=true
      · simp only [Bool.and_eq_true,beq_iff_eq] at q;exact q.1.1
      · simp only [q,Bool.false_eq_true,if_false,List.lookup_cons,beq_self_eq_true,Option.some.injEq] at h
        rcases h with h | h
        · exact absurd h nc
        · exact h
    | false=>
      have e2:∀(l:List (Str × NameKind)),((if (k==NameKind.free&&env.scope.kind==.function&&env.kindOf n==some .cell)=true then(n,NameKind.cell) else(n,k))::l).lookup x=l.lookup x:=fun l=>by
        split<;>simp [List.lookup_cons,hx]
      simp only [e2] at h
      obtain⟨y,hy,z⟩:=ih h
      exact⟨y,List.mem_cons_of_mem _ hy,z⟩
theorem dF{env:Env}:∀{names:List (Str × NameKind)} {x:Str},names.lookup x=some .free→
    (names.map fun(n,k)=>if (k==NameKind.free&&env.scope.kind==.function&&env.kindOf n==some .cell) then(n,NameKind.cell) else(n,k)).lookup x≠some .local
  | [],x,h=>by simp at h
  | (n,k)::r,x,h=>by
    rw [List.map_cons]
    cases hx:x==n with
    | true=>
      simp only [hx,List.lookup_cons] at h
      cases h
      show List.lookup x ((if (NameKind.free==NameKind.free&&env.scope.kind==.function&&env.kindOf n==some .cell)=true then(n,NameKind.cell) else(n,NameKind.free))::_)≠_
      split<;>simp [List.lookup_cons,hx]
    | false=>
      simp only [hx,List.lookup_cons] at h
      have ih:=@dF env r x h
      have e2:∀(l:List (Str × NameKind)),((if (k==NameKind.free&&env.scope.kind==.function&&env.kindOf n==some .cell)=true then(n,NameKind.cell) else(n,k))::l).lookup x=l.lookup x:=fun l=>by
        split<;>simp [List.lookup_cons,hx]
      simp only [e2]
      exact ih
def aM(X:Cx)(scope:Scope)(cp:List (Nat × Str))(tgN:List Str)(C:Addr)(s0:Shared)(H0:Hp)(fp:List Addr):Cx where
  prog:=X.prog
  w:=X.w
  K:=X.K
  mg:=X.mg
  base:=X.base
  A:=X.A
  N:=cp.map (·.2)++tgN
  s₀:=s0
  H₀:=H0
  env:=compEnvC scope (fQ X.env scope.names []) C X.env
  outer:=X.stack
  stack:=X.stack
  ex:=fp
  fn:=fun x=>scope.names.lookup x==some .local
  calm:=X.calm
  pn:=[]
  xe:=fun _ _=>False
def sr(X:Cx)(ifs:List Expr)(t:TT):Prop:=
  ∀(pins:List (Addr × Obj)) (s:Shared) (σ:L2.St) (H:Hp) (Q:Bool→Hp→Prop),aA X pins σ H s→t σ H Q→
    wpAny (model X.prog X.w) X.A (forIn ifs true fun c r=>if r=true then do let ok ←isTrue c X.env (eval c X.env);pure (ForInStep.yield ok) else pure (ForInStep.yield r)) (TP X pins σ Q) X.xe s
theorem xc{X:Cx}:sr X [] (fun _ H Q=>Q true H):=fun _ _ _ H _ I h=>wpAny_tests_nil ⟨H,I,h⟩
theorem xf{X:Cx}{c:Expr}{t:TT}(h:PT X c t):sr X [c] t:=fun pins s σ H Q I q=>wpAny_tests_one (h pins s σ H Q I q)
abbrev AR:Value→Shared→Prop:=fun _ _=>False
def yG(prog:Program)(w:World)(A:Around)(elt tg:Expr)(ifs:List Expr)(env:Env)(it acc:Value)(onward:Shared→Prop)(v:Value)(u:Shared):Prop:=
  wpAny (model prog w) A (letOwnedTupleGo tg it v) (fun _ u1=>wpAny (model prog w) A (assign tg env v) (fun _ u2=>wpAny (model prog w) A
    (forIn ifs true fun c r=>if r=true then do let ok ←isTrue c env (eval c env);pure (ForInStep.yield ok) else pure (ForInStep.yield r)) (fun ok u3=>if ok=true then wpAny (model prog w) A (eval elt env) (fun x u4=>wpAny (model prog w) A (call (.builtin "list.append") [acc,x]) (fun _ u5=>onward u5) AR u4) AR u3 else onward u3) AR u2) AR u1) AR u
theorem iy{prog:Program}{w:World}{A:Around}{R:Result→Shared→Prop}{elt tg iter:Expr}{ifs:List Expr}{scope:Scope}{pos:Pos}{it acc:Value}{env:Env}(J:Nat→Shared→Prop)
    (turn:∀n u,J n u→wpAny (model prog w) A (pyNext it) (fun r u1=>(r=none→R (.ok .next) u1)∧∀v,r=some v→yG prog w A elt tg ifs env it acc (fun u2=>∃m,m < n∧J m u2) v u1) AR u){n0:Nat}{u0:Shared}(fP:J n0 u0):
    codeAny (model prog w) A (.compLoop (.ListComp elt [⟨tg,iter,ifs,0⟩] scope pos) 0 it acc env) R u0:=by
  refine codeAny_loop rfl J (fun n u ju=>?_) n0 fP
  show wpAny _ A ((compTurn (.ListComp elt [⟨tg,iter,ifs,0⟩] scope pos) 0 it acc env).onRaise _) _ _ u;refine wpAny_noted ?_;rw [compTurn_list]
  refine wpAny_bind (wpAny_standAt (wpAny_bind (wpAny_mono (turn n u ju) (fun r u1 k1=>?_) fun _ _ z=>z.elim)))
  cases r with
  | none=>exact wpAny_pure (k1.1 rfl)
  | some v=>
    refine wpAny_bind (wpAny_mono (k1.2 v rfl) (fun _ u2 k2=>wpAny_bind (wpAny_mono k2 (fun _ u3 k3=>wpAny_bind (wpAny_mono k3 (fun ok u4 k4=>?_) fun _ _ z=>z.elim)) fun _ _ z=>z.elim)) fun _ _ z=>z.elim)
    cases ok with
    | false=>rw [if_neg Bool.false_ne_true] at k4;exact wpAny_pure ⟨rfl,k4⟩
    | true=>
      rw [if_pos rfl] at k4
      refine wpAny_bind (wpAny_bind (wpAny_mono k4 (fun x u5 k5=>wpAny_bind (wpAny_mono k5 (fun _ u6 k6=>?_) fun _ _ z=>z.elim)) fun _ _ z=>z.elim));exact wpAny_pure (wpAny_pure ⟨rfl,k6⟩)
def fg(cp:List (Nat × Str))(nT:Nat)(σ:L2.St):L2.St:=cp.map (fun p=>(σ[p.1]?).join)++List.replicate nT none
structure qS (cp:List (Nat × Str)) (nT:Nat) (wi:TI) (g:TG) (tc:TT) (te:TE) (σ:L2.St) (H:Hp) (Q:VK):Prop where
  go:wi σ H fun J H1=>∀l,H1 l=none→
  ∃W:Nat→Nat→L2.St→Hp→Prop,(∃m,W 0 m (fg cp nT σ) (aT H1 l (.lst [])))∧∀i m σ' H',W i m σ' H'→
    (J.stop i H'∧Q (.ref l) H')∨(J.go i H'∧∃N:L2.St→Hp→Prop,(∀σ2 H2,N σ2 H2→∃m',m' < m∧W (i+1) m' σ2 H2)∧
      ∀x H2,J.yld i H' x H2→g x σ' H2 fun σ2 H3=>tc σ2 H3 fun b H4=>if b=true then te σ2 H4 fun v H5=>∃ys,H5 l=some (.lst ys)∧ys.length < sizeLine∧N σ2 (aT H5 l (.lst (ys++[v]))) else N σ2 H4)
theorem wK{X:Cx}{elt iter tg:Expr}{ifs:List Expr}{scope:Scope}{pos:Pos}{wi:TI}{g:TG}{tc:TT}{te:TE}(sc0:Scope)(N0:List Str)(cp:List (Nat × Str))(tgN:List Str)
    (hc:X.calm=true)(hsc:X.env.scope=sc0)(hN0:X.N=N0)(hi:PI X tg iter wi)
    (hg:∀C s0 H0 fp,PG (aM X scope cp tgN C s0 H0 fp) tg g)
    (ht:∀C s0 H0 fp,sr (aM X scope cp tgN C s0 H0 fp) ifs tc)
    (he:∀C s0 H0 fp,PE (aM X scope cp tgN C s0 H0 fp) elt te)
    (hk:scope.kind=.function)(hcell:∀y∈scope.names,y.2≠.cell)(hnames:∀y∈scope.names,y.2=.local→scope.names.lookup y.1=some .local)
    (hfr:∀y∈scope.names,y.2=.free→scope.names.lookup y.1=some .free∧sc0.names.lookup y.1=some .cell)
    (hcp:∀p∈cp,N0[p.1]?=some p.2)(hcq:∀p∈cp,sc0.names.lookup p.2=some .cell∧scope.names.lookup p.2=some .free)
    (hs:∀x,foldedSetIterable iter X.env x=pure x:=by intro _;rfl):
    PE X (.ListComp elt [⟨tg,iter,ifs,0⟩] scope pos) (qS cp tgN.length wi g tc te):=by
  intro pins s σ H Q I h
  have hkind:∀x,X.env.kindOf x=sc0.names.lookup x:=fun x=>by unfold Env.kindOf;rw [hsc]
  have hfree:∀y∈scope.names,y.2=.free→∃c,X.env.cells.lookup y.1=some c:=fun y hy e=>I.ok.has y.1 (.inl (by rw [hkind];exact(hfr y hy e).2))
  rw [eval_ListComp]
  refine wpAny_comprehension_free (use:=none) rfl hs (j8 hfree) hk hnames (wpAny_mono (hi pins s σ H _ I h.go) (fun xv s₁ h₁=>wpAny_mono h₁ (fun itv s₂ h₂=>?_) fun _ _ e=>e) fun _ _ e=>e)
  obtain⟨it,fp,tn,J,H2,rfl,I2,T,st2,f2,hq⟩:=h₂
  refine wpAny_newObj_type ?_
  have hlF:H2 s₂.heap.objs.size=none:=I2.hok.fresh (Nat.le_refl _)
  have I3:aA X pins σ (aT H2 s₂.heap.objs.size (.lst [])) {s₂ with heap:=s₂.heap.push {cls:=.type "list",data:=.seq ([]:List Value).toArray}}:=I2.lnew (t':=s₂.toks) .nil (Nat.zero_le _)
  obtain⟨W,⟨m0,w0⟩,turn⟩:=hq _ hlF
  have f3:∀b∈fp,eI X pins (aT H2 s₂.heap.objs.size (.lst [])) b:=fun b hb=>by
    obtain⟨f0,fr⟩:=f2 b hb
    obtain⟨o,ho,_⟩:=T.obj _ _ st2 b hb
    exact⟨by rw [aE (Nat.ne_of_lt (Heap.lt_size ho))];exact f0,fr⟩
  have st3:tn 0 (s₂.heap.push {cls:=.type "list",data:=.seq ([]:List Value).toArray}):=T.keep _ _ _ st2 fun b _ o e=>Heap.get?_push_of_some _ e
  generalize hD:s₂.heap.objs.size=D at*
  generalize hs3:({s₂ with heap:=s₂.heap.push {cls:=.type "list",data:=.seq ([]:List Value).toArray}}:Shared)=s₃ at*
  have hst3:tn 0 s₃.heap:=by rw [←hs3];exact st3
  refine wpAny_newFunctionEnv hcell (by intro y hy;simp at hy) (fun h₁ hns₁ hsb₁=>?_) hk
  generalize hC:s₃.heap.objs.size=C at*
  have old:∀b o,s₃.heap.get? b=some o→h₁.get? b=some o:=fun b o e=>hsb₁.extBut b o (by rw [←hC];exact Nat.ne_of_lt (Heap.lt_size e)) (Heap.get?_push_of_some _ e)
  have nC:∀b o,s₃.heap.get? b=some o→b≠C:=fun b o e=>by rw [←hC];exact Nat.ne_of_lt (Heap.lt_size e)
  have hHC:(aT H2 D (.lst [])) C=none:=I3.hok.fresh (by rw [hC];exact Nat.le_refl _)
  have clS:∀x c,(fQ X.env scope.names []).lookup x=some c→X.env.cells.lookup x=some c:=fun x c e=>g_ _ _ x c hfree (fun _ _ z=>by simp at z) e
  have clH:∀x,(∃y∈scope.names,y.1=x∧y.2=.free)→∃c,(fQ X.env scope.names []).lookup x=some c:=fun x e=>j7 _ _ x (.inl e)
  have ok':(aM X scope cp tgN C s₃ (aT H2 D (.lst [])) fp).Ok:=by
    refine⟨I.ok.mod,hk,I.ok.glob,I.ok.blt,by rw [←hC];exact Nat.le_refl _,fun x y c e1 e2=>I.ok.inj x y c (clS _ _ e1) (clS _ _ e2),fun x e=>clH x (cO hcell e),fun x c e1 e2=>?_,I.ok.hd,I.ok.frames,.inl rfl,fun b hb=>?_,fun b o e=>I3.bs b o e,?_,fun b o e hb=>?_,fun b hb z=>?_,I3.stack,fun b hb=>I3.stkFree b hb⟩
    · exfalso
      have e1':scope.names.lookup x=some .local:=by simpa [aM] using e1
      have e2':=clS x c e2
      obtain⟨c',hc'⟩:∃y∈scope.names,y.1=x∧y.2=.free:=by
        by_cases q:∃y∈scope.names,y.1=x∧y.2=.free
        · exact q
        · exfalso
          have:∀(names:List (Str × NameKind)) (cs:List (Str × Addr)),(¬∃y∈names,y.1=x∧y.2=.free)→cs.lookup x=none→(fQ X.env names cs).lookup x=none:=by
            intro names
            induction names with
            | nil=>intro cs _ h;exact h
            | cons y r ih=>
              intro cs hn hcs
              obtain⟨n,k⟩:=y
              refine ih _ (fun⟨y,hy,z⟩=>hn ⟨y,List.mem_cons_of_mem _ hy,z⟩) ?_
              by_cases hk:(k==NameKind.free)=true
              · rw [if_pos hk,List.lookup_cons]
                cases hx:x==n with
                | true=>exact absurd ⟨(n,k),List.mem_cons_self,(by simpa using hx:x=n).symm,by simpa using hk⟩ hn
                | false=>exact hcs
              · rw [if_neg hk];exact hcs
          have z:=this scope.names [] q rfl
          have e2'':(fQ X.env scope.names []).lookup x=some c:=e2
          rw [z] at e2'';cases e2''
      have z:=(hfr c' hc'.1 hc'.2.2).1
      rw [hc'.2.1,e1'] at z;cases z
    · obtain⟨f0,f1,f4,f5,f6,f7⟩:=f3 b hb
      obtain⟨o,ho,_⟩:=T.obj _ _ hst3 b hb
      exact⟨nC b o ho,fun x c e=>f6 x c (clS x c e)⟩
    · exact Nat.le_trans I.ok.bsz I3.sz
    · obtain⟨f0,f1,f4,f5,f6,f7⟩:=f3 b hb
      rcases f5 with z | z
      · exact I.ok.noex b o e z
      · have:=(I.ok.bs b o e).1
        exact absurd (Nat.lt_of_lt_of_le (Heap.lt_size this) z) (Nat.lt_irrefl _)
    · obtain⟨f0,f1,f4,f5,f6,f7⟩:=f3 b hb
      rcases List.mem_cons.mp (I3.stkSub b z) with z | z
      · exact f1 z
      · exact f4 z
  have I4:aA (aM X scope cp tgN C s₃ (aT H2 D (.lst [])) fp) [] (fg cp tgN.length σ) (aT H2 D (.lst [])) {s₃ with heap:=h₁,toks:=s₃.toks+([]:List (Str × Value)).length}:=by
    refine⟨ok',rfl,I3.bare,Un.kept old,⟨_,hns₁,fun i x v e1 e2 e3=>?_⟩,fun x c e=>?_,hHC,fun x c e=>I3.freeC x c (clS x c e),fun p hp=>by simp [aM] at hp,I3.hok.kept old,by simp [fg,aM]⟩
    · have hlt:i < cp.length:=by
        by_cases q:i < cp.length
        · exact q
        · exfalso
          unfold fg at e2
          rw [List.getElem?_append_right (by simp;lia)] at e2
          rw [List.getElem?_replicate] at e2
          split at e2<;>cases e2
      have e1':(cp.map (·.2))[i]?=some x:=by
        have e1'':(cp.map (·.2)++tgN)[i]?=some x:=e1
        rwa [List.getElem?_append_left (by simp;exact hlt)] at e1''
      have e2':(cp.map (fun p=>(σ[p.1]?).join))[i]?=some (some v):=by
        unfold fg at e2
        rwa [List.getElem?_append_left (by simp;exact hlt)] at e2
      rw [List.getElem?_map,List.getElem?_eq_getElem hlt] at e1' e2'
      have ex:(cp[i]).2=x:=by simpa using e1'
      have ev:(σ[(cp[i]).1]?).join=some v:=by simpa using e2'
      have ev':σ[(cp[i]).1]?=some (some v):=by
        cases q:σ[(cp[i]).1]? with
        | none=>rw [q] at ev;cases ev
        | some z=>rw [q] at ev;simp only [Option.join_some] at ev;rw [ev]
      have hN:=hcp cp[i] (List.getElem_mem hlt)
      rw [←hN0] at hN
      obtain⟨hcl,hcf⟩:=hcq cp[i] (List.getElem_mem hlt)
      rw [ex] at hN hcl hcf
      obtain⟨m,hn,hl⟩:=I3.loc
      obtain⟨u,r,l⟩:=hl _ x v hN ev' (.inr (.inl (by rw [hsc];exact hcl)))
      refine⟨u,r,.inr ?_⟩
      rcases l with ⟨k1,_⟩ | ⟨k1,c,hcc,o,ho,hd⟩
      · rw [hkind,hcl] at k1;cases k1
      · have e3':(relabel scope X.env).names.lookup x=some .local∨(relabel scope X.env).names.lookup x=some .cell∨(relabel scope X.env).names.lookup x=some .free:=e3
        have nl:(relabel scope X.env).names.lookup x=some .cell∨(relabel scope X.env).names.lookup x=some .free:=by
          rcases e3' with z | z | z
          · exact absurd z (dF hcf)
          · exact .inl z
          · exact .inr z
        obtain⟨c',hc'⟩:=clH x (cO hcell nl)
        have:=clS x c' hc'
        rw [hcc] at this;cases this
        exact⟨nl,c,hc',o,old c o ho,hd⟩
    · obtain⟨v,o,ho,hd⟩:=I3.cell x c (clS x c e)
      exact⟨v,o,old c o ho,hd⟩
  have hst4:tn 0 h₁:=T.keep _ _ _ hst3 fun b _ o e=>old b o e
  have loop:codeAny (model X.prog X.w) X.A (.compLoop (.ListComp elt [⟨tg,iter,ifs,0⟩] scope pos) 0 (.ref it) (.ref D) (compEnvC scope (fQ X.env scope.names []) C X.env))
      (compPost (model X.prog X.w) X.A X.xe none (EP X pins σ Q) (.ref D) C) {s₃ with heap:=h₁,toks:=s₃.toks+([]:List (Str × Value)).length}:=by
    refine iy (fun n s'=>∃i σ' H',aA (aM X scope cp tgN C s₃ (aT H2 D (.lst [])) fp) [] σ' H' s'∧tn i s'.heap∧(∀b∈fp,H' b=none)∧W i n σ' H') ?_ (n0:=m0) ⟨0,_,_,I4,hst4,fun b hb=>(f3 b hb).1,w0⟩
    rintro n s5 ⟨i,σ5,H5,I5,st5,fr5,w5⟩
    have stat:∀{H':Hp},(∀b∈fp,H' b=none)→∀b∈fp,eI (aM X scope cp tgN C s₃ (aT H2 D (.lst [])) fp) [] H' b:=fun hn b hb=>
      ⟨hn b hb,(ok'.exf b hb).1,ok'.exfs b hb,.inl hb,(ok'.exf b hb).2,fun p hp=>by simp [aM] at hp⟩
    rcases turn i n σ5 H5 w5 with ⟨stop,qn⟩ | ⟨go,N,hN,step⟩
    · refine bO (T.done (aM X scope cp tgN C s₃ (aT H2 D (.lst [])) fp) rfl rfl rfl hc i [] s5 σ5 H5 (fun _ _=>False) I5 (stat fr5) st5 stop) fun r s6 ⟨hr,I6⟩=>?_
      subst hr
      refine⟨fun _=>?_,fun v z=>by cases z⟩
      obtain⟨m,hn,_⟩:=I6.loc
      refine⟨m,hn,fun h' sb=>⟨.ref D,H5,?_,rfl,qn⟩⟩
      have ub:=I6.base
      have kp:∀b u,b≠C→s6.heap.get? b=some u→h'.get? b=some u:=fun b u ne e=>sb.extBut b u ne e
      have nit:∀b u,H5 b=some u→b≠C:=fun b u e z=>by
        have:=I6.free
        rw [z] at e
        rw [show H5 C=none from this] at e;cases e
      refine I3.call' (s':={s6 with heap:=h'}) (ch:=fp) I6.os ⟨fun b o e n hb hx=>kp b o (nC b o e) (ub.keep b o e n hb hx),fun b o e n hb hx=>?_,ub.free,fun b o e hx=>?_,ub.tups,ub.frzs,ub.tbls⟩ (fun b u e=>?_) I6.bare (fun b hb=>?_)
      · obtain⟨sl,q⟩:=ub.slot b o e n hb hx
        exact⟨sl,kp b _ (nC b o e) q⟩
      · obtain⟨o',q⟩:=ub.there b o e hx
        exact⟨o',kp b _ (nC b o e) q⟩
      · refine(I6.hok b u e).stay (fun c v hc q=>kp c v ?_ q) (fun _ q=>q) fun _ _ q=>q
        rcases hc with z | z
        · rw [z];exact nit b u e
        · exact nit c _ z
      · obtain⟨f0,f1,f4,f5,f6,f7⟩:=f3 b hb
        exact⟨f5,f1,f6,f7⟩
    · refine bO (T.item (aM X scope cp tgN C s₃ (aT H2 D (.lst [])) fp) rfl rfl rfl hc i [] s5 σ5 H5 (fun _ _=>False) I5 (stat fr5) st5 go) fun r s6 ⟨u,hr,h6⟩=>?_
      subst hr
      refine⟨fun z=>(by cases z),fun v z=>?_⟩
      cases z
      refine bO h6 fun _ s7 ⟨x,H7,I7,r7,y7,st7,fr7⟩=>?_
      have I7':=I7.pinned (stat fr7) (T.obj _ _ st7)
      have again:∀{σ8:L2.St} {H8:Hp} {s8:Shared},aA (aM X scope cp tgN C s₃ (aT H2 D (.lst [])) fp) ([]++jj fp s7.heap) σ8 H8 s8→N σ8 H8→∃m,m < n∧∃i σ' H',aA (aM X scope cp tgN C s₃ (aT H2 D (.lst [])) fp) [] σ' H' s8∧tn i s8.heap∧(∀b∈fp,H' b=none)∧W i m σ' H':=fun{σ8 H8 s8} I8 n8=>by
        obtain⟨m',hm,w8⟩:=hN σ8 H8 n8
        refine⟨m',hm,i+1,σ8,H8,I8.unpinned,T.keep _ _ _ st7 fun b hb o e=>(I8.pin (b,o) (List.mem_append_right _ (List.mem_append_right _ (cZ hb e)))).1,fun b hb=>?_,w8⟩
        obtain⟨o,e,d⟩:=T.obj _ _ st7 b hb
        exact(I8.pin (b,o) (List.mem_append_right _ (List.mem_append_right _ (cZ hb e)))).2.1
      refine bO (hg C s₃ (aT H2 D (.lst [])) fp _ s7 σ5 H7 x u _ I7' r7 (step x H7 y7)) fun _ s8 ⟨σ8,H8,I8,q8⟩=>?_
      refine bO (ht C s₃ (aT H2 D (.lst [])) fp _ s8 σ8 H8 _ I8 q8) fun ok s9 ⟨H9,I9,q9⟩=>?_
      cases ok with
      | false=>
        rw [if_neg Bool.false_ne_true] at q9 ⊢
        exact again I9 q9
      | true=>
        rw [if_pos rfl] at q9 ⊢
        refine bO (he C s₃ (aT H2 D (.lst [])) fp _ s9 σ8 H9 _ I9 q9) fun v s10 ⟨xv,H10,I10,r10,ys,hl,hz,n10⟩=>?_
        refine bO (jh _ s10 σ8 H10 (.ref D) [xv] (.ref D) [v] (fun _ H=>N σ8 H) I10 rfl (.cons r10 .nil) ⟨D,ys,xv,rfl,rfl,hl,hz,n10⟩) fun _ s11 ⟨_,H11,I11,_,q11⟩=>?_
        exact again I11 q11
  exact codeAny_compStart_list loop (T.self X.A 0 _ _ _ hst4 loop)
end L2
namespace L2
open PySem PySem.Spec PyProof.Rows
section
variable{X:Cx}
def uU(K:PySem.W.Frag):R2:=fun x y H Q=>∃a b xs ys,x=.ref a∧y=.ref b∧bB K H a xs∧bB K H b ys∧xs.length+ys.length≤sizeLine∧∀p H',ax H H'→bB K H' p (xs++ys)→Q (.ref p) H'
theorem wz:eK X (binaryOp .Add) (uU X.K):=by
  intro pins s σ H x y v u Q I rx ry h
  obtain⟨a,b,xs,ys,rfl,rfl,ha,hb,hz,q⟩:=h
  cases rx;cases ry
  by_cases hx:xs=[]
  · obtain⟨i1,r1,p1,_⟩:=I.tuple ha
    obtain⟨i2,r2,p2,_⟩:=I.tuple hb
    obtain⟨m,F⟩:=I.fr
    have e1:i1=[]:=by subst hx;cases r1;rfl
    refine add_tuples F (ue (g:=X.base)) p1 p2 (fun _=>?_) (fun z1 _=>absurd e1 z1) (fun z1 _ _ _ _=>absurd e1 z1) (by rw [←r1.length,←r2.length];exact hz)
    exact⟨.ref b,H,I,rfl,q b H (ax.refl H) (by rw [hx];exact hb)⟩
  · exact wA pins s σ H (.ref a) (.ref b) _ _ Q I rfl rfl ⟨a,b,xs,ys,rfl,rfl,ha,hb,hx,hz,fun z=>q a H (ax.refl H) (by rw [z,List.append_nil];exact ha),fun _ p hp=>q p _ (ax.new hp) (bB.of ay)⟩
theorem gq{x:V}{us:List Value}(r:aI [x] us):∃u,us=[u]∧bj x u:=by
  cases r with
  | cons p p'=>cases p';exact⟨_,rfl,p⟩
theorem sT{k:Nat}(hr:bU k X.A):ce X (.builtin "sum") (fun xs H Q=>∃(l:Addr) (ns:List Int),xs=[.ref l]∧bR X.K H l (ns.map V.int)∧Q (.int ns.sum) H):=by
  intro pins s σ H xs us Q I r h
  obtain⟨l,ns,rfl,hs,q⟩:=h
  obtain⟨u,rfl,ru⟩:=gq r
  cases ru
  obtain⟨its,rv,p,hz⟩:=I.list hs
  have hi:IntsAre its ns:=hV rv
  obtain⟨ys,ey⟩:=hi.allInts.items
  have hl:=p.isList
  rw [ey] at hl
  refine PySem.sum_intListG hr.hd hl fun h' tk t' hk=>?_
  have e:preSum (numAt ys) ys.size=ns.sum:=by
    have e2:=nums_intItems (xs:=ys)
    rw [←ey] at e2
    have e3:=hi.numsOf
    rw [preSum_eq,List.take_of_length_le (by simp)]
    rw [show its.toArray.toList=its from rfl,e3] at e2
    rw [e2]
  exact⟨.int ns.sum,H,I.kept hk,⟨t',by rw [e]⟩,q⟩
theorem nH{prog:Program}{w:World}{A:Around}{E:Value→Shared→Prop}{s:Shared}{t:Addr}{vs:List Value}{Q:List Value→Shared→Prop}(ht:IsTup s.heap t vs.toArray)
    (h:Q vs {s with heap:=(s.heap.push (seqObj "list" #[] 0)).update s.heap.objs.size (Obj.mapSeq (· ++vs.toArray))})(hsz:vs.length≤sizeLine):wpAny (model prog w) A (collect (.ref t)) Q E s:=by
  obtain⟨o,ho,hc,n,hd⟩:=id ht;unfold collect;refine wpAny_bind (wpAny_runValue (codeAny_builtin entry_proto_collect' ?_))
  show wpAny _ _ (do again (.builtin "list.__iadd__" ⟨[←newList [],.ref t],[]⟩)) _ _ s
  refine wpAny_bind (wpAny_newList (wpAny_pure ⟨Code.quiet_builtin _ (by decide+kernel),?_⟩));refine codeAny_builtin entry_list_iadd' ?_
  show wpAny _ _ (Builtin.List.listExtendWith (.ref s.heap.objs.size) (.ref t) (.ref s.heap.objs.size)) _ _ {s with heap:=s.heap.push (seqObj "list" #[] 0)}
  unfold Builtin.List.listExtendWith;have ho':(s.heap.push (seqObj "list" #[] 0)).get? t=some o:=Heap.get?_push_of_some _ ho
  refine wpAny_bind (wpAny_typeOf (T:="tuple") ⟨o,ho',hc⟩ ?_)
  rw [if_pos (by rw [show(Value.type "tuple"==Value.type "tuple")=true from rfl,Bool.or_true])]
  refine wpAny_bind (listItems_at ho' hd ?_);refine wpAny_bind (listItems_at (xs:=#[]) (n:=0) (Heap.get?_push_size _ rfl) rfl ?_)
  rw [if_neg (by simp)];refine wpAny_bind (listUpdate_at (xs:=#[]) (n:=0) (Heap.get?_push_size _ rfl) rfl ?_ (Nat.zero_le _) (by show(#[]++vs.toArray).size≤sizeLine+1;simp only [Array.size_append,List.size_toArray,List.length_nil];lia))
  refine wpAny_pure ?_
  show wpAny (model prog w) A (load s.heap.objs.size >>= fun o=>match o.data with | .seq xs _=>pure xs.toList | _=>unsupported "internal:collect") Q E {s with heap:=(s.heap.push (seqObj "list" #[] 0)).update s.heap.objs.size (Obj.mapSeq (· ++vs.toArray))}
  refine wpAny_bind (wpAny_load (get?_update_seq (Heap.get?_push_size _ rfl) _) ?_);show wpAny _ _ (pure ((#[]:Array Value)++vs.toArray).toList) Q E _;rw [show((#[]:Array Value)++vs.toArray).toList=vs by simp];exact wpAny_pure h
theorem pY{prog:Program}{w:World}{A:Around}{E:Value→Shared→Prop}{s:Shared}{t:Addr}{vs:List Value}{ns:List Int}{Q:Value→Shared→Prop}(ht:IsTup s.heap t vs.toArray)(hI:IntsAre vs ns)(h64:vs.length < 64)
    (h:∀(out:Array Value) (ns':List Int),IntsAre out.toList ns'→ns'.Perm ns→ns'.Pairwise (· ≤·)→Q (.ref (s.heap.objs.size+1)) {s with heap:=sortedAll s.heap vs out}):wpAny (model prog w) A (call (.builtin "sorted") [.ref t]) Q E s:=by
  refine Calls.call_function_entry kind_sorted plain_sorted entry_sorted (args_sorted1 _) ?_;unfold Builtin.«sorted»
  refine wpAny_bind (m:=checkCount "sorted" 1 1 _) (wpAny_pure ?_);refine wpAny_bind (nH ht ?_ (Nat.le_trans (Nat.le_of_lt h64) (by decide)))
  have z:((s.heap.push (seqObj "list" #[] 0)).update s.heap.objs.size (Obj.mapSeq (· ++vs.toArray))).objs.size=s.heap.objs.size+1:=by rw [Heap.size_update,size_push']
  have o:(((s.heap.push (seqObj "list" #[] 0)).update s.heap.objs.size (Obj.mapSeq (· ++vs.toArray))).push (seqObj "list" vs.toArray 0)).get? (s.heap.objs.size+1)=some (seqObj "list" vs.toArray 0):=by rw [←z];exact Heap.get?_push_size _ rfl
  refine wpAny_bind (wpAny_newList ?_);show wpAny _ _ _ _ _ {s with heap:=((s.heap.push (seqObj "list" #[] 0)).update s.heap.objs.size (Obj.mapSeq (· ++vs.toArray))).push (seqObj "list" vs.toArray 0)}
  rw [z];refine wpAny_bind (wpAny_holding (wpAny_call_entry slot_list_sort ⟨_,o,rfl⟩ entry_list_sort (list_sort_tree o hI h64 fun out ns' b1 b2 b3=>⟨_,rfl,?_⟩) (args_list_sort _)))
  exact wpAny_pure ⟨_,rfl,h out ns' b1 b2 b3⟩
theorem jx:ce X (.builtin "sorted") (fun xs H Q=>∃(a:Addr) (ns:List Int),xs=[.ref a]∧bB X.K H a (ns.map V.int)∧ns.length < 64∧∀(l:Addr) (ns':List Int) (H':Hp),ax H H'→H l=none→H' l=some (.lst (ns'.map V.int))→ns'.Perm ns→ns'.Pairwise (· ≤·)→Q (.ref l) H'):=by
  intro pins s σ H xs us Q I r h
  obtain⟨a,ns,rfl,hs,h64,q⟩:=h
  obtain⟨u,rfl,ru⟩:=gq r
  cases ru
  obtain⟨its,rv,p,hz⟩:=I.tuple hs
  have hl:=rv.length
  rw [List.length_map] at hl
  refine pY p (hV rv) (by lia) fun out ns' a1 a2 a3=>?_
  obtain⟨e,he⟩:=sortedAll_at s.heap its out
  have hf:H (s.heap.objs.size+1)=none:=I.hok.fresh (Nat.le_succ _)
  refine⟨.ref (s.heap.objs.size+1),aT H (s.heap.objs.size+1) (.lst (ns'.map V.int)),I.laid (t':=s.toks) (fun _ _=>sortedAll_old) (Nat.le_succ _) ⟨?_,out.toList,e,gX a1,?_⟩,rfl,q _ ns' _ (ax.new hf) hf ay a2 a3⟩
  · rw [List.length_map,a2.length_eq]
    exact Nat.le_trans (Nat.le_of_lt h64) (by decide)
  · simpa [seqObj] using he
end
end L2
namespace L2
open PySem PySem.Spec PyProof.Rows
section
variable{X:Cx}
end
theorem rS{e:Expr}{es:List Expr}{env:Env}(h:PySem.W.isStarred e=false):starEach (e::es) env=(false,eval e env)::starEach es env:=by
  cases e<;>first | rfl | cases h
theorem Dq{X:Cx}{e:Expr}{es:List Expr}{te:TE}{t:TA}(ha:PE X e te)(hr:PA X es t)(h:PySem.W.isStarred e=false:=by rfl):PA X (e::es) (oS te t):=mX ha hr (rS h)
def qT:List (Int × Int)→TA
  | []=>As
  | p::r=>oS (Cw (oS (tC (.int p.1)) (oS (tC (.int p.2)) As))) (qT r)
@[irreducible] def DD(ps:List (Int × Int)):TA:=qT ps
structure mn where
  one:Int
  other:Int
  top:Int
  bot:Int
  worth:Int
structure bf where
  things:Int
  ties:List mn
  pat:List Int
  asks:Int
structure mn.Ok (n:Int) (t:mn):Prop where
  o0:0≤t.one
  o1:t.one < t.other
  o2:t.other < n
  c0:0≤t.top
  c1:t.top≤t.bot
  b0:1≤t.bot
  b1:t.bot≤100
  w0:0≤t.worth
  w1:t.worth≤1000
  cop:Int.gcd t.top t.bot=1
structure bf.Ok (w:bf):Prop where
  t0:0≤w.things
  t1:w.things≤12
  ties:∀t∈w.ties,t.Ok w.things
  len:w.ties.length≤16
  pl:(w.pat.length:Int)=w.things
  pat:∀p∈w.pat,0≤p∧p≤20
  a0:0≤w.asks
  a1:w.asks≤40
def A7(K:PySem.W.Frag)(H:Hp)(v:V)(t:mn):Prop:=∃p q,v=.ref p∧bB K H p [.int t.one,.int t.other,.ref q,.int t.worth]∧bB K H q [.int t.top,.int t.bot]
inductive mq (K:PySem.W.Frag) (H:Hp):List V→List mn→Prop
  | nil:mq K H [] []
  | cons {v vs t ts}:A7 K H v t→mq K H vs ts→mq K H (v::vs) (t::ts)
structure DR (K:PySem.W.Frag) (H:Hp) (v:V) (w:bf):Prop where
  ex:∃a b c ts,v=.ref a∧bB K H a [.int w.things,.ref b,.ref c,.int w.asks]∧bB K H b ts∧mq K H ts w.ties∧bB K H c (w.pat.map V.int)
section
variable{K:PySem.W.Frag}{H H':Hp}
end
theorem pJ{t b:Int}(hb:0 < b)(h0:0≤t)(h1:t≤b)(h2:b≤100):0≤(dC t b).1∧(dC t b).1≤(dC t b).2∧1≤(dC t b).2∧(dC t b).2≤100:=by
  obtain⟨d,e1,e2,e3,e4,e5⟩:=lV (t:=t) (b:=b) (by lia)
  generalize (dC t b).1=x at*
  generalize (dC t b).2=y at*
  have dp:0 < d:=by
    rcases Int.lt_or_gt_of_ne e2 with z | z
    · exfalso
      have:y*d < 0:=Int.mul_neg_of_pos_of_neg e5 z
      lia
    · exact z
  have x0:0≤x:=by
    rcases Int.lt_or_le x 0 with z | z
    · have:x*d < 0:=Int.mul_neg_of_neg_of_pos z dp
      lia
    · exact z
  have xy:x≤y:=by
    rcases Int.lt_or_le y x with z | z
    · have:y*d < x*d:=Int.mul_lt_mul_of_pos_right z dp
      lia
    · exact z
  have yb:y≤y*d:=by
    have:=Int.mul_le_mul_of_nonneg_left (show(1:Int)≤d by lia) (show 0≤y by lia)
    lia
  exact⟨x0,xy,by lia,by lia⟩
end L2
namespace L2
open PySem PySem.Spec PyProof.Rows
inductive jI {α β:Type} (R:α→β→Prop):List α→List β→Prop
  | nil:jI R [] []
  | cons {a b as bs}:R a b→jI R as bs→jI R (a::as) (b::bs)
namespace jI
variable{α β:Type}{R S:α→β→Prop}
theorem mono(h:∀a b,R a b→S a b):∀{as:List α} {bs:List β},jI R as bs→jI S as bs
  | _,_,.nil=>.nil
  | _,_,.cons x r=>.cons (h _ _ x) (mono h r)
theorem len:∀{as:List α} {bs:List β},jI R as bs→as.length=bs.length
  | _,_,.nil=>rfl
  | _,_,.cons _ r=>by simp [len r]
theorem snoc{a:α}{b:β}(h:R a b):∀{as:List α} {bs:List β},jI R as bs→jI R (as++[a]) (bs++[b])
  | _,_,.nil=>.cons h .nil
  | _,_,.cons x r=>.cons x (snoc h r)
theorem get:∀{as:List α} {bs:List β} {i:Nat} {b:β},jI R as bs→bs[i]?=some b→∃a,as[i]?=some a∧R a b
  | _,_,_,_,.nil,e=>by simp at e
  | _,_,0,_,.cons x _,e=>by simp at e;subst e;exact⟨_,rfl,x⟩
  | _,_,i+1,b,.cons _ r,e=>by
    obtain⟨v,h1,h2⟩:=get (i:=i) (b:=b) r (by simpa using e)
    exact⟨v,by simpa using h1,h2⟩
end jI
section
variable{K:PySem.W.Frag}{a l:Addr}{xs:List V}{g:TG}{tc:TT}{te:TE}{Q:VK}{σ:L2.St}{H:Hp}{α β:Type}{us:List α}{cp:List (Nat × Str)}{nT:Nat}
def CO(aY:Hp→V→β→Prop)(SI:L2.St→Prop)(us:List α)(f:α→Option β)(H:Hp)(l:Addr)(i:Nat)(σ:L2.St)(H':Hp):Prop:=SI σ∧ax H H'∧∃vs,H' l=some (.lst vs)∧vs.length≤i∧jI (aY H') vs ((us.take i).filterMap f)
end
theorem jF:∀{a b:List Int},a.Perm b→a.Pairwise (· ≤·)→b.Pairwise (· ≤·)→a=b
  | [],b,p,_,_=>by
    have:=p.length_eq
    exact(List.length_eq_zero_iff.mp this.symm).symm
  | x::a,b,p,h1,h2=>by
    cases b with
    | nil=>have:=p.length_eq;simp at this
    | cons y b=>
      have h1':=List.pairwise_cons.mp h1
      have h2':=List.pairwise_cons.mp h2
      have e:x=y:=by
        have m1:y∈x::a:=p.mem_iff.mpr (by simp)
        have m2:x∈y::b:=p.mem_iff.mp (by simp)
        rcases List.mem_cons.mp m1 with z | z
        · exact z.symm
        · rcases List.mem_cons.mp m2 with z2 | z2
          · exact z2
          · have:=h1'.1 y z
            have:=h2'.1 x z2
            lia
      subst e
      rw [jF ((List.perm_cons x).mp p) h1'.2 h2'.2]
def eC(ns:List Int):List Int:=ns.mergeSort
theorem kU{ns ns':List Int}(p:ns'.Perm ns)(h:ns'.Pairwise (· ≤·)):ns'=eC ns:=by
  refine jF (p.trans (List.mergeSort_perm ns _).symm) h ?_
  have:=List.pairwise_mergeSort (le:=fun a b:Int=>decide (a≤b)) (fun a b c h1 h2=>by simp at*;lia) (fun a b=>by simp;lia) ns
  exact this.imp fun h=>by simpa using h
theorem ig(ns:List Int):(eC ns).Perm ns:=List.mergeSort_perm ns _
theorem AV{ns:List Int}{x:Int}:x∈eC ns↔ x∈ns:=(ig ns).mem_iff
theorem AU(ns:List Int):(eC ns).length=ns.length:=(ig ns).length_eq
section
variable{X:Cx}{K:PySem.W.Frag}{pos:Pos}
theorem wN{es:List Expr}{k:Nat}{t:vA}{n:Nat}(hK:X.K=K)(hc:X.calm=true)(h:r_ X es t)(hn:(assignEach es X.env).length=n:=by rfl)(hst:(assignEach es X.env).findIdx? (·.1)=none:=by rfl):PG X (.Tuple es k pos) (tR K n t):=hK ▸ zN hc h hn hst
theorem wR{tg l:Expr}{tl:TE}(h:X.K=K)(hl:PE X l tl):PI X tg l (Bq K tl):=h ▸ zO hl
theorem uC{tg l:Expr}{tl:TE}(h:X.K=K)(hl:PE X l tl):PI X tg l (yh K tl):=h ▸ wQ hl
end
instance:Inhabited mn:=⟨⟨0,1,1,1,0⟩⟩
def bf.tie(W:bf)(k:Int):mn:=W.ties.getD k.toNat default
def bf.has(W:bf)(k thing:Int):Bool:=(W.tie k).one==thing || (W.tie k).other==thing
def bf.many(W:bf)(asked:List Int)(thing:Int):Int:=((asked.filter fun k=>W.has k thing).length:Nat)
def bf.bears(W:bf)(asked taken:List Int)(thing:Int):Bool:= !taken.contains thing&&decide (W.many asked thing < W.pat.getD thing.toNat 0)
def bf.may(W:bf)(asked taken:List Int)(k:Int):Bool:= !(asked.contains k || decide (W.asks≤(asked.length:Int)))&&(W.bears asked taken (W.tie k).one&&W.bears asked taken (W.tie k).other)
def bf.askd(asked:List Int)(k:Int):List Int:=eC (asked++[k])
def bf.took(W:bf)(taken:List Int)(k:Int)(truth:Bool):List Int:=if truth then eC (taken++[(W.tie k).one,(W.tie k).other]) else taken
def bf.rng(W:bf):List Int:=(List.range W.ties.length).map Int.ofNat
def dG(W:bf)(k:Int):Prop:=0≤k∧k < (W.ties.length:Int)
theorem dG.get{W:bf}{k:Int}(h:dG W k):W.ties[k.toNat]?=some (W.tie k):=by
  have hk:k.toNat < W.ties.length:=by have:=h.1;have:=h.2;lia
  unfold bf.tie
  rw [List.getD_eq_getElem?_getD,List.getElem?_eq_getElem hk];rfl
theorem dG.ok{W:bf}{k:Int}(h:dG W k)(o:W.Ok):(W.tie k).Ok W.things:=o.ties _ (List.mem_of_getElem? h.get)
theorem CZ{W:bf}{k:Int}:k∈W.rng↔ dG W k:=by
  unfold bf.rng dG
  rw [List.mem_map]
  constructor
  · rintro⟨n,hn,rfl⟩
    have:=List.mem_range.mp hn
    exact⟨Int.natCast_nonneg n,by simp;lia⟩
  · rintro⟨h0,h1⟩
    exact⟨k.toNat,List.mem_range.mpr (by lia),by simp;lia⟩
def yz(K:PySem.W.Frag)(H:Hp)(v:V)(asked taken:List Int):Prop:=∃a b c,v=.ref a∧bB K H a [.ref b,.ref c]∧bB K H b (asked.map V.int)∧bB K H c (taken.map V.int)
theorem yz.ts{K:PySem.W.Frag}{H H':Hp}(s:jt H H'){v:V}{asked taken:List Int}(h:yz K H v asked taken):yz K H' v asked taken:=by
  obtain⟨a,b,c,e,h1,h2,h3⟩:=h
  exact⟨a,b,c,e,s.tup h1,s.tup h2,s.tup h3⟩
section
variable{K:PySem.W.Frag}{σ:L2.St}{H:Hp}{Q:VK}{i j:Nat}{vW:V}{W:bf}{k:Int}
end
def small(k:Int):Prop:= -1000000≤k∧k≤1000000
def Dk(n dep:Nat)(d:PyData):Prop:=d.showable=true∧kx d=true∧L2.cnt d≤n∧d.depth≤dep
theorem Dk.mono{n m dep e:Nat}{d:PyData}(h:Dk n dep d)(h1:n≤m)(h2:dep≤e):Dk m e d:=⟨h.1,h.2.1,Nat.le_trans h.2.2.1 h1,Nat.le_trans h.2.2.2 h2⟩
theorem Dk.int{k:Int}(h:small k):Dk 1 2 (.int k):=by
  refine⟨?_,rfl,Nat.le_refl _,by simp [PyData.depth]⟩
  show decide (k.natAbs.log2 < 1920)=true
  rw [decide_eq_true_eq]
  exact Nat.lt_trans ((show Bt 64 k by have:=h.1;have:=h.2;unfold Bt;lia).log (by decide)) (by decide)
theorem Dk.bool(b:Bool):Dk 1 2 (.bool b):=⟨rfl,rfl,Nat.le_refl _,by simp [PyData.depth]⟩
theorem Dk.none:Dk 1 2 .none:=⟨rfl,rfl,Nat.le_refl _,by simp [PyData.depth]⟩
theorem Dk.all{n dep:Nat}:∀{ds:List PyData},(∀d∈ds,Dk n dep d)→PyData.showableAll ds=true∧eX ds=true∧hG ds≤ds.length*n∧PyData.depthAll ds≤dep
  | [],_=>⟨rfl,rfl,by simp [hG],by simp [PyData.depthAll]⟩
  | d::r,h=>by
    obtain⟨a1,a2,a3,a4⟩:=h d (by simp)
    obtain⟨b1,b2,b3,b4⟩:=Dk.all (ds:=r) fun x hx=>h x (by simp [hx])
    refine⟨?_,?_,?_,?_⟩
    · simp only [PyData.showableAll,a1,b1,Bool.and_self]
    · simp only [eX,a2,b2,Bool.and_self]
    · simp only [hG,List.length_cons,Nat.succ_mul]
      lia
    · simp only [PyData.depthAll];lia
theorem Dk.tup{n dep m:Nat}{ds:List PyData}(h:∀d∈ds,Dk n dep d)(hl:ds.length≤m):Dk (1+m*n) (dep+2) (.tuple ds):=by
  obtain⟨b1,b2,b3,b4⟩:=Dk.all h
  refine⟨b1,b2,?_,?_⟩
  · simp only [L2.cnt]
    have:=Nat.mul_le_mul_right n hl
    lia
  · simp only [PyData.depth];lia
theorem Dk.ok{n dep:Nat}{d:PyData}(h:Dk n dep d)(h1:n≤8000)(h2:dep≤60):d.showable=true∧d.depth≤60∧d.shown.length≤sizeLine:=by
  have:=l_ h.2.1 h.1
  have sl:sizeLine=16777216:=sizeLine_eq
  have:=h.2.2.1
  exact⟨h.1,Nat.le_trans h.2.2.2 h2,by lia⟩
theorem Dk.ints{ns:List Int}{m:Nat}(hl:ns.length≤m)(h:∀r∈ns,small r):Dk (1+m) 4 (.tuple (ns.map .int)):=by
  have:=Dk.tup (n:=1) (dep:=2) (m:=m) (ds:=ns.map PyData.int) (fun d hd=>by
    obtain⟨x,hx,rfl⟩:=List.mem_map.mp hd
    exact Dk.int (h x hx)) (by rw [List.length_map];exact hl)
  simpa using this
section
variable{K:PySem.W.Frag}{H:Hp}
theorem Dk.bools{ns:List Bool}{m:Nat}(hl:ns.length≤m):Dk (1+m) 4 (.tuple (ns.map .bool)):=by
  have:=Dk.tup (n:=1) (dep:=2) (m:=m) (ds:=ns.map PyData.bool) (fun d hd=>by
    obtain⟨x,hx,rfl⟩:=List.mem_map.mp hd
    exact Dk.bool x) (by rw [List.length_map];exact hl)
  simpa using this
def dh(t:mn):PyData:=.tuple [.int t.one,.int t.other,.tuple [.int t.top,.int t.bot],.int t.worth]
def aD(W:bf):PyData:=.tuple [.int W.things,.tuple (W.ties.map dh),.tuple (W.pat.map .int),.int W.asks]
def Et(asked taken:List Int):PyData:=.tuple [.tuple (asked.map .int),.tuple (taken.map .int)]
end
end L2
namespace L2
open PySem PySem.Spec PyProof.Rows
theorem pj:∀{bs:List Bool} {us:List Value} {i:Nat} {v:Value},aI (bs.map V.bl) us→us[i]?=some v→∃b,bs[i]?=some b∧v=.bool b
  | [],us,i,v,r,e=>by cases r;simp at e
  | b::bs,us,i,v,r,e=>by
    cases r with
    | cons p q=>
      cases i with
      | zero=>simp at e;subst e;cases p;exact⟨b,rfl,rfl⟩
      | succ i=>
        obtain⟨c,h1,h2⟩:=pj (bs:=bs) (i:=i) (v:=v) q (by simpa using e)
        exact⟨c,by simpa using h1,h2⟩
theorem xm(bs:List Bool):((List.range bs.length).all fun i=>(bs[i]?).getD true)=bs.all id:=by
  rw [Bool.eq_iff_iff,List.all_eq_true,List.all_eq_true]
  constructor
  · intro h b hb
    obtain⟨i,hi,rfl⟩:=List.getElem_of_mem hb
    have:=h i (List.mem_range.mpr hi)
    rw [List.getElem?_eq_getElem hi] at this
    exact this
  · intro h i hi
    have hi':=List.mem_range.mp hi
    rw [List.getElem?_eq_getElem hi']
    exact h _ (List.getElem_mem hi')
theorem xn(bs:List Bool):((List.range bs.length).any fun i=>(bs[i]?).getD false)=bs.any id:=by
  rw [Bool.eq_iff_iff,List.any_eq_true,List.any_eq_true]
  constructor
  · rintro⟨i,hi,e⟩
    have hi':=List.mem_range.mp hi
    rw [List.getElem?_eq_getElem hi'] at e
    exact⟨_,List.getElem_mem hi',e⟩
  · rintro⟨b,hb,e⟩
    obtain⟨i,hi,rfl⟩:=List.getElem_of_mem hb
    refine⟨i,List.mem_range.mpr hi,?_⟩
    rw [List.getElem?_eq_getElem hi]
    exact e
section
variable{X:Cx}
theorem sQ{k:Nat}{K:PySem.W.Frag}(hr:bU k X.A)(hK:X.K=K):ce X (.builtin "all") (fun xs H Q=>∃(l:Addr) (bs:List Bool),xs=[.ref l]∧bR K H l (bs.map V.bl)∧Q (.bl (bs.all id)) H):=by
  intro pins s σ H xs us Q I r h
  subst hK
  obtain⟨l,bs,rfl,hs,q⟩:=h
  obtain⟨u,rfl,ru⟩:=gq r
  cases ru
  obtain⟨its,rv,p,hz⟩:=I.list hs
  have hl:=p.isList
  have lt:l < s.heap.objs.size:=by obtain⟨_,e,_⟩:=hl;exact Heap.lt_size e
  refine PySem.call_all_walk (wpAny_pyIter_list hl ?_)
  refine⟨s.heap.objs.size,[s.heap.objs.size,l],[s.heap.objs.size],its.toArray.size,_,_,fun i=>(bs[i]?).getD true,rfl,Walks.list (A:=X.A.in1) hr.hd _ l (Nat.ne_of_lt lt) its.toArray,⟨⟨_,Heap.get?_push_size _ rfl,rfl,rfl⟩,hl.push _⟩,fun i v s' Q' E' hP hQ=>?_,fun h' tk hk=>?_⟩
  · obtain⟨b,e,rfl⟩:=pj rv (by simpa using hP)
    simp only [e,Option.getD_some] at hQ
    exact wpAny_truthy_bool hQ
  · have e:its.toArray.size=bs.length:=by have:=rv.length;rw [List.length_map] at this;simpa using this.symm
    rw [e,xm]
    refine⟨.bl (bs.all id),H,I.kept fun b x e=>hk b x (fun hm=>?_) (Heap.get?_push_of_some _ e),rfl,q⟩
    rw [List.mem_singleton.mp hm] at e
    exact Nat.lt_irrefl _ (Heap.lt_size e)
theorem sR{k:Nat}{K:PySem.W.Frag}(hr:bU k X.A)(hK:X.K=K):ce X (.builtin "any") (fun xs H Q=>∃(l:Addr) (bs:List Bool),xs=[.ref l]∧bR K H l (bs.map V.bl)∧Q (.bl (bs.any id)) H):=by
  intro pins s σ H xs us Q I r h
  subst hK
  obtain⟨l,bs,rfl,hs,q⟩:=h
  obtain⟨u,rfl,ru⟩:=gq r
  cases ru
  obtain⟨its,rv,p,hz⟩:=I.list hs
  have hl:=p.isList
  have lt:l < s.heap.objs.size:=by obtain⟨_,e,_⟩:=hl;exact Heap.lt_size e
  refine PySem.call_any_walk (wpAny_pyIter_list hl ?_)
  refine⟨s.heap.objs.size,[s.heap.objs.size,l],[s.heap.objs.size],its.toArray.size,_,_,fun i=>(bs[i]?).getD false,rfl,Walks.list (A:=X.A.in1) hr.hd _ l (Nat.ne_of_lt lt) its.toArray,⟨⟨_,Heap.get?_push_size _ rfl,rfl,rfl⟩,hl.push _⟩,fun i v s' Q' E' hP hQ=>?_,fun h' tk hk=>?_⟩
  · obtain⟨b,e,rfl⟩:=pj rv (by simpa using hP)
    simp only [e,Option.getD_some] at hQ
    exact wpAny_truthy_bool hQ
  · have e:its.toArray.size=bs.length:=by have:=rv.length;rw [List.length_map] at this;simpa using this.symm
    rw [e,xn]
    refine⟨.bl (bs.any id),H,I.kept fun b x e=>hk b x (fun hm=>?_) (Heap.get?_push_of_some _ e),rfl,q⟩
    rw [List.mem_singleton.mp hm] at e
    exact Nat.lt_irrefl _ (Heap.lt_size e)
end
end L2
namespace L2
theorem sJ:PySem.bootBuiltins "all"=some (.builtin "all"):=by decide+kernel
theorem sL:PySem.bootBuiltins "any"=some (.builtin "any"):=by decide+kernel
end L2
namespace L2
open PySem PySem.Spec PyProof.Rows
section
variable{prog:Program}{w:World}{A:Around}{E:Value→Shared→Prop}{s:Shared}
theorem vt{it t:Addr}{i:Nat}{ys}{x:Value}{Q:Value→Shared→Prop}(hi:s.heap.IsTupleIter it t i)(ht:s.heap.IsTuple t ys)(hx:ys[i]?=some x)
    (q:∀g,g.IsTupleIter it t (i+1)→Heap.SameBut it s.heap g→Q x {s with heap:=g}):wpAny (model prog w) A (Builtin.SmallTypes.nextOf (.ref it)) Q E s:=by
  obtain⟨o,ho,hc,hd⟩:=id hi;obtain⟨p,hp,_,n,hpd⟩:=ht;unfold Builtin.SmallTypes.nextOf
  refine wpAny_bind (wpAny_callSpecial?_slot (name:=Str.ofString "__next__") hi.typeIs F.slot_tuple_iterator_next (wpAny_call_entry F.slot_tuple_iterator_next hi.typeIs F.entry_tuple_iterator_next ?_ (F.args_tuple_iterator_next_1 _)))
  show wpAny _ _ (field (.ref it) 0 >>= _) _ _ s;refine wpAny_bind (wpAny_field ho hd (x:=.ref t) rfl ?_)
  show wpAny _ _ (if (Value.ref t==Value.none)=true then _ else _) _ _ s;rw [if_neg (show ¬((Value.ref t==Value.none)=true) from Bool.false_ne_true)]
  show wpAny _ _ (field (.ref it) 1 >>= _) _ _ s;refine wpAny_bind (wpAny_field ho hd (x:=.int i 0) rfl ?_)
  show wpAny _ _ (seqItems? (.ref t) >>= _) _ _ s;refine wpAny_bind (wpAny_seqItems hp hpd ?_)
  simp only [Int.toNat_natCast,hx];refine wpAny_bind (wpAny_setField ho hd (by simp) (wpAny_pure ⟨x,rfl,wpAny_pure (q _ ?_ (Heap.SameBut.update ..))⟩))
  refine⟨_,Heap.get?_update_self _ ho (Obj.isFreed_of_fields (Obj.data_mapFields hd _)),(Obj.cls_mapFields ..).trans hc,?_⟩;rw [Obj.data_mapFields hd];simp [rawInt]
theorem vq{it t:Addr}{i:Nat}{ys}{Q:Value→Shared→Prop}(hh:A.handled=none)(hi:s.heap.IsTupleIter it t i)(ht:s.heap.IsTuple t ys)(hx:ys[i]?=none)
    (q:∀g e,Heap.ExtBut it s.heap g→(∃o,g.get? e=some o∧o.cls=.type "StopIteration")→E (.ref e) {s with heap:=g}):wpAny (model prog w) A (Builtin.SmallTypes.nextOf (.ref it)) Q E s:=by
  obtain⟨o,ho,hc,hd⟩:=id hi;obtain⟨p,hp,_,n,hpd⟩:=ht;unfold Builtin.SmallTypes.nextOf
  refine wpAny_bind (wpAny_callSpecial?_slot (name:=Str.ofString "__next__") hi.typeIs F.slot_tuple_iterator_next (wpAny_call_entry F.slot_tuple_iterator_next hi.typeIs F.entry_tuple_iterator_next ?_ (F.args_tuple_iterator_next_1 _)))
  show wpAny _ _ (field (.ref it) 0 >>= _) _ _ s;refine wpAny_bind (wpAny_field ho hd (x:=.ref t) rfl ?_)
  show wpAny _ _ (if (Value.ref t==Value.none)=true then _ else _) _ _ s;rw [if_neg (show ¬((Value.ref t==Value.none)=true) from Bool.false_ne_true)]
  show wpAny _ _ (field (.ref it) 1 >>= _) _ _ s;refine wpAny_bind (wpAny_field ho hd (x:=.int i 0) rfl ?_)
  show wpAny _ _ (seqItems? (.ref t) >>= _) _ _ s;refine wpAny_bind (wpAny_seqItems hp hpd ?_)
  simp only [Int.toNat_natCast,hx];refine wpAny_bind (wpAny_rule (wpAny_bind (wpAny_setField ho hd (by simp) ?_)))
  show wpAny _ _ (newExc (.type "StopIteration") [] >>= _) _ _ _;refine wpAny_bind ?_;simp only [newExc,newTuple]
  refine wpAny_bind (wpAny_newObj_type ?_ (by size_fits));refine wpAny_bind (m:=firstArgMember _ _) (wpAny_of_eq (a:=Value.none) (by first | rfl | (simp only [firstArgMember];rfl)) ?_)
  refine wpAny_newObj_type ?_ (by size_fits);simp only [raiseNew];refine wpAny_bind (wpAny_handled ?_);first | rw [show A.in1.handled=none from hh] | rw [hh]
  refine wpAny_bind (wpAny_pure (wpAny_throw ?_));exact q _ _ (((Heap.SameBut.update ..).extBut.push _).push _) ⟨_,Heap.get?_push_size _ rfl,rfl⟩
end
structure Sc (prog:Program) (w:World) (it l:Addr) (St:Nat→Heap→Prop) (Sq:Heap→Array Value→Prop):Prop where
  stay:∀{k h h'},St k h→(∀o,h.get? it=some o→h'.get? it=some o)→St k h'
  live:∀{k h},St k h→∃o,h.get? it=some o∧∀v,o.data≠.cell v
  row:∀{h h' xs},Sq h xs→(∀o,h.get? l=some o→h'.get? l=some o)→Sq h' xs
  next:∀{A:Around} {s:Shared} {E:Value→Shared→Prop} {Q:Value→Shared→Prop} {k:Nat} {xs:Array Value} {x:Value},St k s.heap→Sq s.heap xs→xs[k]?=some x→(∀g,St (k+1) g→Heap.SameBut it s.heap g→Q x {s with heap:=g})→wpAny (model prog w) A (Builtin.SmallTypes.nextOf (.ref it)) Q E s
  last:∀{A:Around} {s:Shared} {E:Value→Shared→Prop} {Q:Value→Shared→Prop} {k:Nat} {xs:Array Value},A.handled=none→St k s.heap→Sq s.heap xs→xs[k]?=none→(∀g e,Heap.ExtBut it s.heap g→(∃o,g.get? e=some o∧o.cls=.type "StopIteration")→E (.ref e) {s with heap:=g})→wpAny (model prog w) A (Builtin.SmallTypes.nextOf (.ref it)) Q E s
theorem eH{prog:Program}{w:World}(it l:Addr):Sc prog w it l (fun k h=>h.IsTupleIter it l k) (fun h xs=>h.IsTuple l xs) where
  stay:=fun st k=>st.at fun o e=>k o e
  live:=fun st=>by
    obtain⟨o,e,c,d⟩:=st
    exact⟨o,e,fun v z=>by rw [d] at z;cases z⟩
  row:=fun q k=>by
    obtain⟨o,e,r⟩:=q
    exact⟨o,k o e,r⟩
  next:=fun st sq hx q=>vt st sq hx q
  last:=fun hh st sq hx q=>vq hh st sq hx q
theorem df{prog:Program}{w:World}(it l:Addr):Sc prog w it l (fun k h=>h.IsListIter it l k) (fun h xs=>h.IsList l xs) where
  stay:=fun st k=>st.at fun o e=>k o e
  live:=fun st=>by
    obtain⟨o,e,c,d⟩:=st
    exact⟨o,e,fun v z=>by rw [d] at z;cases z⟩
  row:=fun q k=>by
    obtain⟨o,e,r⟩:=q
    exact⟨o,k o e,r⟩
  next:=fun st sq hx q=>wpAny_nextOf_list_item st sq hx q
  last:=fun hh st sq hx q=>wpAny_nextOf_list_end hh st sq hx q
structure fM (z TI TO i1 i2 l1 l2:Addr):Prop where
  a1:TO≠z
  a2:i1≠z
  a3:i2≠z
  a4:TO≠i1
  a5:TO≠i2
  a6:i1≠i2
  b1:l1≠z
  b2:l1≠TO
  b3:l1≠i1
  b4:l1≠i2
  c1:l2≠z
  c2:l2≠TO
  c3:l2≠i1
  c4:l2≠i2
section
variable{prog:Program}{w:World}{A:Around}{E:Value→Shared→Prop}{s:Shared}{z TI TO i1 i2 l1 l2:Addr}{k:Nat}{xs ys:Array Value}{a b:Value}{S1 S2:Nat→Heap→Prop}{R1 R2:Heap→Array Value→Prop}
theorem AJ{x y:Value}{Q:Value→Shared→Prop}(P1:Sc prog w i1 l1 S1 R1)(P2:Sc prog w i2 l2 S2 R2)(D:fM z TI TO i1 i2 l1 l2)(hz:IsZip s.heap z TI TO .none)(hI:IsPair s.heap TI (.ref i1) (.ref i2))(hO:IsPair s.heap TO a b)(u1:S1 k s.heap)(u2:S2 k s.heap)(r1:R1 s.heap xs)(r2:R2 s.heap ys)(hx:xs[k]?=some x)(hy:ys[k]?=some y)
    (q:∀g,IsZip g z TI TO (rawInt s.heap.objs.size)→IsPair g TO x y→S1 (k+1) g→S2 (k+1) g→IsPair g s.heap.objs.size x y→g.objs.size=s.heap.objs.size+1→(∀c o,c≠z→c≠TO→c≠i1→c≠i2→s.heap.get? c=some o→g.get? c=some o)→Q (.ref s.heap.objs.size) {s with heap:=g}):
    wpAny (model prog w) A (Builtin.«zip.__next__» ⟨[.ref z],[]⟩) (fun f s'=>∃v,f=.done (.ret v)∧Q v s') E s:=by
  show wpAny _ _ (field (.ref z) 2 >>= _) _ _ _;refine wpAny_bind (wpAny_field hz rfl (x:=.bool false) rfl ?_)
  show wpAny _ _ (field (.ref z) 3 >>= _) _ _ _;refine wpAny_bind (wpAny_field hz rfl (x:=.ref TI) rfl ?_);refine wpAny_bind (wpAny_seqItems hI rfl ?_)
  show wpAny _ _ (Builtin.SmallTypes.ownedTupleIsFree (.ref z) >>= _) _ _ _;refine wpAny_bind ?_;unfold Builtin.SmallTypes.ownedTupleIsFree
  refine wpAny_bind (wpAny_field hz rfl (x:=.none) rfl (wpAny_pure ?_));simp only [if_true];refine wpAny_bind (wpAny_rule ?_)
  refine wpAny_bind (wpAny_field hz rfl (x:=.ref TO) rfl ?_);refine wpAny_bind (wpAny_setField_rec hz (by simp) fun g1 z1 e1=>?_)
  replace z1:IsZip g1 z TI TO .ellipsis:=z1;refine wpAny_bind ?_;simp only [List.zipIdx_cons,List.zipIdx_nil,List.forIn_cons,List.forIn_nil]
  refine wpAny_bind (wpAny_bind (wpAny_onRaise ?_));show wpAny _ _ (Builtin.SmallTypes.nextOf (.ref i1) >>= _) _ _ _
  refine wpAny_bind (P1.next (P1.stay u1 fun o e=>e1.extBut _ _ D.a2 e) (P1.row r1 fun o e=>e1.extBut _ _ D.b1 e) hx fun g2 v1 e2=>wpAny_pure ?_)
  have O2:IsPair g2 TO a b:=e2.extBut _ _ D.a4 (e1.extBut _ _ D.a1 hO)
  refine wpAny_bind (wpAny_seqItems O2 rfl ?_);refine wpAny_bind (wpAny_updateSeq_pair O2 fun g3 O3 e3=>?_);replace O3:IsPair g3 TO x b:=O3;refine wpAny_bind (wpAny_letGo (wpAny_pure ?_))
  refine wpAny_bind (wpAny_bind (wpAny_onRaise ?_));show wpAny _ _ (Builtin.SmallTypes.nextOf (.ref i2) >>= _) _ _ _
  have up3:∀c o,c≠z→c≠i1→c≠TO→s.heap.get? c=some o→g3.get? c=some o:=fun c o n1 n2 n3 e=>e3.extBut _ _ n3 (e2.extBut _ _ n2 (e1.extBut _ _ n1 e))
  refine wpAny_bind (P2.next (P2.stay u2 fun o e=>up3 _ _ D.a3 D.a6.symm D.a5.symm e) (P2.row r2 fun o e=>up3 _ _ D.c1 D.c3 D.c2 e) hy fun g4 v2 e4=>wpAny_pure ?_)
  have O4:IsPair g4 TO x b:=e4.extBut _ _ D.a5 O3
  refine wpAny_bind (wpAny_seqItems O4 rfl ?_);refine wpAny_bind (wpAny_updateSeq_pair O4 fun g5 O5 e5=>?_);replace O5:IsPair g5 TO x y:=O5;refine wpAny_bind (wpAny_letGo (wpAny_pure (wpAny_pure ?_)))
  refine wpAny_bind (wpAny_seqItems O5 rfl ?_);refine wpAny_bind (wpAny_newTuple ?_)
  have sz:g5.objs.size=s.heap.objs.size:=by rw [e5.1,e4.1,e3.1,e2.1,e1.1]
  have z5:IsZip g5 z TI TO .ellipsis:=e5.extBut _ _ D.a1.symm (e4.extBut _ _ D.a3.symm (e3.extBut _ _ D.a1.symm (e2.extBut _ _ D.a2.symm z1)))
  have k5:∀c o,c≠z→c≠TO→c≠i1→c≠i2→s.heap.get? c=some o→g5.get? c=some o:=fun c o n1 n2 n3 n4 e=>e5.extBut _ _ n2 (e4.extBut _ _ n4 (up3 c o n1 n3 n2 e))
  have w1:S1 (k+1) g5:=P1.stay v1 fun o e=>e5.extBut _ _ D.a4.symm (e4.extBut _ _ D.a6 (e3.extBut _ _ D.a4.symm e))
  have w2:S2 (k+1) g5:=P2.stay v2 fun o e=>e5.extBut _ _ D.a5.symm e
  have lz:z < g5.objs.size:=Heap.lt_size z5
  show wpAny _ _ (Builtin.SmallTypes.ownedTupleHandOut (.ref z) (.ref g5.objs.size) >>= _) _ _ _;refine wpAny_bind ?_;unfold Builtin.SmallTypes.ownedTupleHandOut
  have z6:IsZip (g5.push {cls:=.type "tuple",data:=.seq #[x,y]}) z TI TO .ellipsis:=Heap.get?_push_of_some _ z5
  refine wpAny_bind (wpAny_setField_rec z6 (by simp) fun g7 z7 e7=>?_);replace z7:IsZip g7 z TI TO (rawInt g5.objs.size):=z7
  refine wpAny_setField_rec z7 (by simp) fun g8 z8 e8=>?_;replace z8:IsZip g8 z TI TO (rawInt g5.objs.size):=z8
  have up:∀c o,c≠z→g5.get? c=some o→g8.get? c=some o:=fun c o n e=>e8.extBut _ _ n (e7.extBut _ _ n (Heap.get?_push_of_some _ e))
  have T8:IsPair g8 g5.objs.size x y:=e8.extBut _ _ (Nat.ne_of_gt lz) (e7.extBut _ _ (Nat.ne_of_gt lz) (Heap.get?_push_size _ rfl))
  have n8:g8.objs.size=g5.objs.size+1:=by rw [e8.1,e7.1,Heap.size_push]
  rw [sz] at z8 T8 n8;refine wpAny_pure ⟨_,rfl,?_⟩;show Q (.ref g5.objs.size) _;rw [sz]
  exact q g8 z8 (up _ _ D.a1 O5) (P1.stay w1 fun o e=>up _ o D.a2 e) (P2.stay w2 fun o e=>up _ o D.a3 e) T8 n8 fun c o n1 n2 n3 n4 e=>up c o n1 (k5 c o n1 n2 n3 n4 e)
theorem xG{Q:Fin→Shared→Prop}(hh:A.handled=none)(P1:Sc prog w i1 l1 S1 R1)(P2:Sc prog w i2 l2 S2 R2)(D:fM z TI TO i1 i2 l1 l2)(hz:IsZip s.heap z TI TO .none)(hI:IsPair s.heap TI (.ref i1) (.ref i2))(hO:IsPair s.heap TO a b)(u1:S1 k s.heap)(u2:S2 k s.heap)(r1:R1 s.heap xs)(r2:R2 s.heap ys)(hn:xs[k]?=none∨ys[k]?=none)
    (q:∀g e,(∀c o,c≠z→c≠TO→c≠i1→c≠i2→s.heap.get? c=some o→g.get? c=some o)→(∃o,g.get? e=some o∧o.cls=.type "StopIteration")→E (.ref e) {s with heap:=g}):
    wpAny (model prog w) A (Builtin.«zip.__next__» ⟨[.ref z],[]⟩) Q E s:=by
  show wpAny _ _ (field (.ref z) 2 >>= _) _ _ _;refine wpAny_bind (wpAny_field hz rfl (x:=.bool false) rfl ?_)
  show wpAny _ _ (field (.ref z) 3 >>= _) _ _ _;refine wpAny_bind (wpAny_field hz rfl (x:=.ref TI) rfl ?_);refine wpAny_bind (wpAny_seqItems hI rfl ?_)
  show wpAny _ _ (Builtin.SmallTypes.ownedTupleIsFree (.ref z) >>= _) _ _ _;refine wpAny_bind ?_;unfold Builtin.SmallTypes.ownedTupleIsFree
  refine wpAny_bind (wpAny_field hz rfl (x:=.none) rfl (wpAny_pure ?_));simp only [if_true];refine wpAny_bind (wpAny_rule ?_)
  refine wpAny_bind (wpAny_field hz rfl (x:=.ref TO) rfl ?_);refine wpAny_bind (wpAny_setField_rec hz (by simp) fun g1 z1 e1=>?_)
  replace z1:IsZip g1 z TI TO .ellipsis:=z1;refine wpAny_bind ?_;simp only [List.zipIdx_cons,List.zipIdx_nil,List.forIn_cons,List.forIn_nil]
  refine wpAny_bind (wpAny_bind (wpAny_onRaise ?_));show wpAny _ _ (Builtin.SmallTypes.nextOf (.ref i1) >>= _) _ _ _
  cases hx:xs[k]? with
  | none=>
    refine wpAny_bind (P1.last hh (P1.stay u1 fun o e=>e1.extBut _ _ D.a2 e) (P1.row r1 fun o e=>e1.extBut _ _ D.b1 e) hx fun g2 e e2 he=>?_)
    obtain⟨oe,h1,h2⟩:=he;have z2:IsZip g2 z TI TO .ellipsis:=e2 _ _ D.a2.symm z1
    have nz:e≠z:=fun x=>by subst x;rw [z2] at h1;cases h1;simp at h2
    refine wpAny_setField_rec z2 (by simp) fun g3 _ e3=>q g3 e (fun c o n1 _ n3 _ x=>e3.extBut _ _ n1 (e2 _ _ n3 (e1.extBut _ _ n1 x))) ⟨oe,e3.extBut _ _ nz h1,h2⟩
  | some x=>
    have hy:ys[k]?=none:=by
      rcases hn with h | h
      · rw [hx] at h;cases h
      · exact h
    refine wpAny_bind (P1.next (P1.stay u1 fun o e=>e1.extBut _ _ D.a2 e) (P1.row r1 fun o e=>e1.extBut _ _ D.b1 e) hx fun g2 v1 e2=>wpAny_pure ?_)
    have O2:IsPair g2 TO a b:=e2.extBut _ _ D.a4 (e1.extBut _ _ D.a1 hO)
    refine wpAny_bind (wpAny_seqItems O2 rfl ?_);refine wpAny_bind (wpAny_updateSeq_pair O2 fun g3 O3 e3=>?_);refine wpAny_bind (wpAny_letGo (wpAny_pure ?_))
    refine wpAny_bind (wpAny_bind (wpAny_onRaise ?_));show wpAny _ _ (Builtin.SmallTypes.nextOf (.ref i2) >>= _) _ _ _
    have up3:∀c o,c≠z→c≠i1→c≠TO→s.heap.get? c=some o→g3.get? c=some o:=fun c o n1 n2 n3 e=>e3.extBut _ _ n3 (e2.extBut _ _ n2 (e1.extBut _ _ n1 e))
    refine wpAny_bind (P2.last hh (P2.stay u2 fun o e=>up3 _ _ D.a3 D.a6.symm D.a5.symm e) (P2.row r2 fun o e=>up3 _ _ D.c1 D.c3 D.c2 e) hy fun g4 e e4 he=>?_)
    obtain⟨oe,h1,h2⟩:=he;have z4:IsZip g4 z TI TO .ellipsis:=e4 _ _ D.a3.symm (e3.extBut _ _ D.a1.symm (e2.extBut _ _ D.a2.symm z1))
    have nz:e≠z:=fun x=>by subst x;rw [z4] at h1;cases h1;simp at h2
    refine wpAny_setField_rec z4 (by simp) fun g5 _ e5=>q g5 e (fun c o n1 n2 n3 n4 x=>e5.extBut _ _ n1 (e4 _ _ n4 (up3 c o n1 n3 n2 x))) ⟨oe,e5.extBut _ _ nz h1,h2⟩
theorem i0{x y:Value}{Q:Option Value→Shared→Prop}(P1:Sc prog w i1 l1 S1 R1)(P2:Sc prog w i2 l2 S2 R2)(D:fM z TI TO i1 i2 l1 l2)(hz:IsZip s.heap z TI TO .none)(hI:IsPair s.heap TI (.ref i1) (.ref i2))(hO:IsPair s.heap TO a b)(u1:S1 k s.heap)(u2:S2 k s.heap)(r1:R1 s.heap xs)(r2:R2 s.heap ys)(hx:xs[k]?=some x)(hy:ys[k]?=some y)
    (q:∀g,IsZip g z TI TO (rawInt s.heap.objs.size)→IsPair g TO x y→S1 (k+1) g→S2 (k+1) g→IsPair g s.heap.objs.size x y→g.objs.size=s.heap.objs.size+1→(∀c o,c≠z→c≠TO→c≠i1→c≠i2→s.heap.get? c=some o→g.get? c=some o)→Q (some (.ref s.heap.objs.size)) {s with heap:=g}):
    wpAny (model prog w) A (pyNext (.ref z)) Q E s:=by
  have hT:s.TypeIs (.ref z) "zip":=⟨_,hz,rfl⟩;unfold pyNext
  refine wpAny_bind (wpAny_attempt (wpAny_callSpecial?_slot (name:=Str.ofString "__next__") hT F.slot_zip_next (wpAny_call_entry F.slot_zip_next hT F.entry_zip_next ?_ (F.args_zip_next_1 _))))
  exact AJ P1 P2 D hz hI hO u1 u2 r1 r2 hx hy fun g b1 b2 b3 b4 b5 b6 b7=>wpAny_pure (q g b1 b2 b3 b4 b5 b6 b7)
theorem i7{Q:Option Value→Shared→Prop}(hh:A.handled=none)(P1:Sc prog w i1 l1 S1 R1)(P2:Sc prog w i2 l2 S2 R2)(D:fM z TI TO i1 i2 l1 l2)(hz:IsZip s.heap z TI TO .none)(hI:IsPair s.heap TI (.ref i1) (.ref i2))(hO:IsPair s.heap TO a b)(u1:S1 k s.heap)(u2:S2 k s.heap)(r1:R1 s.heap xs)(r2:R2 s.heap ys)(hn:xs[k]?=none∨ys[k]?=none)
    (q:∀g,(∀c o,c≠z→c≠TO→c≠i1→c≠i2→s.heap.get? c=some o→g.get? c=some o)→Q none {s with heap:=g}):wpAny (model prog w) A (pyNext (.ref z)) Q E s:=by
  have hT:s.TypeIs (.ref z) "zip":=⟨_,hz,rfl⟩;unfold pyNext
  refine wpAny_bind (wpAny_attempt (wpAny_callSpecial?_slot (name:=Str.ofString "__next__") hT F.slot_zip_next (wpAny_call_entry F.slot_zip_next hT F.entry_zip_next (xG hh P1 P2 D hz hI hO u1 u2 r1 r2 hn fun g e hk he=>?_) (F.args_zip_next_1 _))))
  obtain⟨o,ho,hc⟩:=he;refine wpAny_bind (wpAny_isInstance (T:="StopIteration") (b:=true) ⟨o,ho,hc⟩ isSubtype_stop ?_);exact wpAny_pure (q _ hk)
end
end L2
namespace L2
open PySem PySem.Spec PyProof.Rows
section
variable{X:Cx}{pins:List (Addr × Obj)}{σ:L2.St}{H:Hp}{s:Shared}{h':Heap}
theorem aA.turnedL{t':Nat}{fp:List Addr}(I:aA X pins σ H s)(hf:∀b∈fp,eI X pins H b)(k:∀b o,b∉fp→s.heap.get? b=some o→h'.get? b=some o):aA X pins σ H {s with heap:=h',toks:=t'}:=by
  have hL:X.env.locals∉fp:=fun z=>(hf _ z).2.1 rfl
  have nit:∀b u,H b=some u→b∉fp:=fun b u e z=>by have:=(hf b z).1;rw [this] at e;cases e
  refine I.step (g':=s.gens) (d':=s.drawn) (ch:=fp) (fun b hb=>?_) (fun b o _ _ hc e _=>k b o hc e) (fun b o _ _ hc e _=>⟨o.slots,k b o hc e⟩) (fun _ _ _ _ n=>n) (fun b o hc e=>⟨o,k b o hc e⟩) (fun _ _ e=>e) (fun _ _ _ e=>e) (fun b ps e=>⟨#[],by rw [e];simp⟩) (fun m hm=>?_) (fun b u e=>?_) I.bare
  · obtain⟨f0,f1,f2,f3,f4,f5⟩:=hf b hb
    exact⟨f3,f1,f4,f5⟩
  · obtain⟨o,es,ep,ho,r⟩:=hm
    exact⟨o,es,ep,k _ o hL ho,r⟩
  · refine(I.hok b u e).stay (fun c v hc q=>k c v ?_ q) (fun _ q=>q) fun _ _ q=>q
    rcases hc with z | z
    · rw [z];exact nit b u e
    · exact nit c _ z
theorem az(I:aA X pins σ H s){b l:Addr}{xs:List V}(f:eI X pins H b)(q:bB X.K H l xs):l≠b:=by
  intro z
  subst z
  rcases q with (q | ⟨o,q⟩) | ⟨o,its,n,hk,_⟩
  · rw [f.1] at q;cases q
  · rw [f.1] at q;cases q
  · have hb:X.base.get? l=some o:=I.ok.mod.kin l o hk
    rcases f.2.2.2.1 with z | z
    · exact I.ok.noex l o hb z
    · exact absurd (Nat.lt_of_lt_of_le (Heap.lt_size (I.ok.bs l o hb).1) z) (Nat.lt_irrefl _)
end
def DK(K:PySem.W.Frag)(l1 l2:Addr):It:=
  ⟨fun i H=>∃xs ys x y,bB K H l1 xs∧bB K H l2 ys∧xs[i]?=some x∧ys[i]?=some y,
   fun i H v H'=>∃p x y,v=.ref p∧H p=none∧H'=aT H p (.tup [x,y])∧∀xs ys,bB K H l1 xs→bB K H l2 ys→xs[i]?=some x∧ys[i]?=some y,
   fun i H=>∃xs ys,bB K H l1 xs∧bB K H l2 ys∧(xs.length≤i∨ys.length≤i)⟩
def yu(z TI TO i1 i2 l1 l2:Addr)(i:Nat)(h:Heap):Prop:=IsZip h z TI TO .none∧IsPair h TI (.ref i1) (.ref i2)∧(∃a b,IsPair h TO a b)∧h.IsTupleIter i1 l1 i∧h.IsTupleIter i2 l2 i
theorem vw{P:Program}{w:World}{K:PySem.W.Frag}{es:List Expr}{k0:Nat}{pos:Pos}{z TI TO i1 i2:Addr}(l1 l2:Addr)(n1:TO≠z)(n2:i1≠z)(n3:i2≠z)(n4:TO≠i1)(n5:TO≠i2)(n6:i1≠i2)(n7:TI≠z)(n8:TI≠TO)(n9:TI≠i1)(n10:TI≠i2):
    lb P w K (.Tuple es k0 pos) (DK K l1 l2) [z,TI,TO,i1,i2] z (yu z TI TO i1 i2 l1 l2) where
  mem:=by simp
  obj:=fun i h st b hb=>by
    obtain⟨hz,hI,⟨a,c,hO⟩,u1,u2⟩:=st
    simp only [List.mem_cons,List.not_mem_nil,or_false] at hb
    rcases hb with rfl | rfl | rfl | rfl | rfl
    · exact⟨_,hz,fun v z=>by cases z⟩
    · exact⟨_,hI,fun v z=>by cases z⟩
    · exact⟨_,hO,fun v z=>by cases z⟩
    · obtain⟨o,e,c,d⟩:=u1
      exact⟨o,e,fun v z=>by rw [d] at z;cases z⟩
    · obtain⟨o,e,c,d⟩:=u2
      exact⟨o,e,fun v z=>by rw [d] at z;cases z⟩
  keep:=fun i h h' st k=>by
    obtain⟨hz,hI,⟨a,c,hO⟩,u1,u2⟩:=st
    exact⟨k _ (by simp) _ hz,k _ (by simp) _ hI,⟨a,c,k _ (by simp) _ hO⟩,u1.at fun o e=>k _ (by simp) o e,u2.at fun o e=>k _ (by simp) o e⟩
  item:=by
    intro X hP hw hK hc i pins s σ H E I hf st hg
    subst hP hw hK
    obtain⟨xs,ys,x,y,q1,q2,hx,hy⟩:=hg
    obtain⟨hz,hI,⟨a,b,hO⟩,u1,u2⟩:=id st
    obtain⟨its1,rv1,p1,z1⟩:=I.tuple q1
    obtain⟨its2,rv2,p2,z2⟩:=I.tuple q2
    obtain⟨ux,hux,rux⟩:=rv1.get hx
    obtain⟨uy,huy,ruy⟩:=rv2.get hy
    have fz:=hf z (by simp);have fO:=hf TO (by simp);have f1:=hf i1 (by simp);have f2:=hf i2 (by simp)
    have D:fM z TI TO i1 i2 l1 l2:=⟨n1,n2,n3,n4,n5,n6,az I fz q1,az I fO q1,az I f1 q1,az I f2 q1,az I fz q2,az I fO q2,az I f1 q2,az I f2 q2⟩
    refine i0 (xs:=its1.toArray) (ys:=its2.toArray) (eH i1 l1) (eH i2 l2) D hz hI hO u1 u2 p1 p2 (by simpa using hux) (by simpa using huy) fun g gz gO g1 g2 gT gs gk=>?_
    refine⟨_,rfl,wpAny_letOwnedTupleGo_zip gz fun g' gz' ge=>?_⟩
    have lt:∀b∈[z,TI,TO,i1,i2],b < s.heap.objs.size:=fun b hb=>by
      simp only [List.mem_cons,List.not_mem_nil,or_false] at hb
      rcases hb with rfl | rfl | rfl | rfl | rfl
      · exact Heap.lt_size hz
      · exact Heap.lt_size hI
      · exact Heap.lt_size hO
      · obtain⟨o,e,_⟩:=u1;exact Heap.lt_size e
      · obtain⟨o,e,_⟩:=u2;exact Heap.lt_size e
    have hT:H s.heap.objs.size=none:=I.hok.fresh (Nat.le_refl _)
    have vv:aI [x,y] [ux,uy]:=.cons rux (.cons ruy .nil)
    have I1:aA X pins σ (aT H s.heap.objs.size (.tup [x,y])) {s with heap:=s.heap.push {cls:=.type "tuple",data:=.seq #[ux,uy]},toks:=s.toks}:=
      I.laid (t':=s.toks) (fun b u e=>Heap.get?_push_of_some _ e) (Nat.le_refl _) ⟨(by show 2≤sizeLine;decide),[ux,uy],vv,gY.new _ _⟩
    have hf1:∀b∈[z,TI,TO,i1,i2],eI X pins (aT H s.heap.objs.size (.tup [x,y])) b:=fun b hb=>by
      obtain⟨f0,fr⟩:=hf b hb
      exact⟨by rw [aE (Nat.ne_of_lt (lt b hb))];exact f0,fr⟩
    have nzT:s.heap.objs.size≠z:=Nat.ne_of_gt (lt z (by simp))
    have I2:aA X pins σ (aT H s.heap.objs.size (.tup [x,y])) {s with heap:=g',toks:=s.toks}:=by
      refine I1.turnedL (t':=s.toks) hf1 fun b o nb e=>?_
      have nb':b≠z∧b≠TI∧b≠TO∧b≠i1∧b≠i2:=by simpa using nb
      refine ge.extBut _ _ nb'.1 ?_
      rcases Heap.get?_push_cases e with ⟨rfl,rfl⟩ | e
      · exact gT
      · exact gk b o nb'.1 nb'.2.2.1 nb'.2.2.2.1 nb'.2.2.2.2 e
    refine⟨.ref s.heap.objs.size,_,I2,rfl,⟨_,x,y,rfl,hT,rfl,fun xs' ys' w1 w2=>?_⟩,⟨gz',ge.extBut _ _ n7 (gk _ _ n7 n8 n9 n10 hI),⟨ux,uy,ge.extBut _ _ n1 gO⟩,g1.at fun o e=>ge.extBut _ _ n2 e,g2.at fun o e=>ge.extBut _ _ n3 e⟩,fun b hb=>(hf1 b hb).1⟩
    rw [I.tuple_inj w1 q1,I.tuple_inj w2 q2]
    exact⟨hx,hy⟩
  done:=by
    intro X hP hw hK hc i pins s σ H E I hf st hg
    subst hP hw hK
    obtain⟨xs,ys,q1,q2,hn⟩:=hg
    obtain⟨hz,hI,⟨a,b,hO⟩,u1,u2⟩:=id st
    obtain⟨its1,rv1,p1,z1⟩:=I.tuple q1
    obtain⟨its2,rv2,p2,z2⟩:=I.tuple q2
    have fz:=hf z (by simp);have fO:=hf TO (by simp);have f1:=hf i1 (by simp);have f2:=hf i2 (by simp)
    have D:fM z TI TO i1 i2 l1 l2:=⟨n1,n2,n3,n4,n5,n6,az I fz q1,az I fO q1,az I f1 q1,az I f2 q1,az I fz q2,az I fO q2,az I f1 q2,az I f2 q2⟩
    have e1:=rv1.length
    have e2:=rv2.length
    refine i7 (xs:=its1.toArray) (ys:=its2.toArray) (I.ok.hd hc) (eH i1 l1) (eH i2 l2) D hz hI hO u1 u2 p1 p2 ?_ fun g gk=>⟨rfl,I.turnedL (t':=s.toks) hf fun b o nb e=>?_⟩
    · rcases hn with hn | hn
      · exact .inl (by simp;lia)
      · exact .inr (by simp;lia)
    · have nb':b≠z∧b≠TI∧b≠TO∧b≠i1∧b≠i2:=by simpa using nb
      exact gk b o nb'.1 nb'.2.2.1 nb'.2.2.2.1 nb'.2.2.2.2 e
  self:=fun A i s Q E st h=>wpAny_pyIter_zip st.1 h
theorem xH(l1 l2:Addr)(xs ys:Array Value):
    Meets (Builtin.«zip.__new__» ⟨[.type "zip",.ref l1,.ref l2],[]⟩) (fun _ R s=>s.heap.IsTuple l1 xs∧s.heap.IsTuple l2 ys∧
      R (.ok (.ret (.ref (s.heap.objs.size+4)))) {s with heap:=((((s.heap.push {cls:=.type "tuple_iterator",data:=.fields #[.ref l1,.int 0 0]}).push {cls:=.type "tuple_iterator",data:=.fields #[.ref l2,.int 0 0]}).push {cls:=.type "tuple",data:=.seq #[.ref s.heap.objs.size,.ref (s.heap.objs.size+1)]}).push {cls:=.type "tuple",data:=.seq #[.none,.none]}).push {cls:=.type "zip",data:=.fields #[.none,.bool false,.bool false,.ref (s.heap.objs.size+2),.ref (s.heap.objs.size+3)]}}):=
  .of_wp fun prog w A R s h=>by
    obtain⟨hp,g,d,tk,os⟩:=s;obtain⟨t1,t2,h⟩:=h;have sz:=PySem.sub_zip
    have T1:Heap.IsTuple (Shared.heap ⟨hp,g,d,tk,os⟩) l1 xs:=t1
    have T2:Heap.IsTuple (Shared.heap ⟨hp.push {cls:=.type "tuple_iterator",data:=.fields #[.ref l1,.int 0 0]},g,d,tk,os⟩) l2 ys:=Heap.IsTuple.push t2 _
    wp_walk using wpAny_pyIter_tuple T1,wpAny_pyIter_tuple T2
    refine⟨_,rfl,?_⟩
    simp only [Heap.size_push]
    exact h
section
variable{prog:Program}{w:World}{A:Around}{E:Value→Shared→Prop}{s:Shared}
theorem vz{l1 l2:Addr}{xs ys:Array Value}{Q:Value→Shared→Prop}(t1:s.heap.IsTuple l1 xs)(t2:s.heap.IsTuple l2 ys)
    (h:∀g,yu (s.heap.objs.size+4) (s.heap.objs.size+2) (s.heap.objs.size+3) s.heap.objs.size (s.heap.objs.size+1) l1 l2 0 g→(∀c o,s.heap.get? c=some o→g.get? c=some o)→Q (.ref (s.heap.objs.size+4)) {s with heap:=g}):
    wpAny (model prog w) A (call (.type "zip") [.ref l1,.ref l2]) Q E s:=by
  refine callType_new F.called_zip (by decide) (F.typeCall_zip_2 _ _) (F.newCall_zip_2 _ _) (fun obj=>F.args_object_init_3 obj _ _) F.entry_zip_new (xH l1 l2 xs ys) ⟨t1,t2,?_⟩
  have at5:∀(g:Heap) (o:Obj) (a:Addr),o.isFreed=false→a=g.objs.size→(g.push o).get? a=some o:=fun g o a hf e=>by rw [e];exact Heap.get?_push_size _ hf
  have g5:=at5 ((((s.heap.push {cls:=.type "tuple_iterator",data:=.fields #[.ref l1,.int 0 0]}).push {cls:=.type "tuple_iterator",data:=.fields #[.ref l2,.int 0 0]}).push {cls:=.type "tuple",data:=.seq #[.ref s.heap.objs.size,.ref (s.heap.objs.size+1)]}).push {cls:=.type "tuple",data:=.seq #[.none,.none]}) {cls:=.type "zip",data:=.fields #[.none,.bool false,.bool false,.ref (s.heap.objs.size+2),.ref (s.heap.objs.size+3)]} (s.heap.objs.size+4) rfl (by simp only [Heap.size_push])
  have g4:=at5 (((s.heap.push {cls:=.type "tuple_iterator",data:=.fields #[.ref l1,.int 0 0]}).push {cls:=.type "tuple_iterator",data:=.fields #[.ref l2,.int 0 0]}).push {cls:=.type "tuple",data:=.seq #[.ref s.heap.objs.size,.ref (s.heap.objs.size+1)]}) {cls:=.type "tuple",data:=.seq #[.none,.none]} (s.heap.objs.size+3) rfl (by simp only [Heap.size_push])
  have g3:=at5 ((s.heap.push {cls:=.type "tuple_iterator",data:=.fields #[.ref l1,.int 0 0]}).push {cls:=.type "tuple_iterator",data:=.fields #[.ref l2,.int 0 0]}) {cls:=.type "tuple",data:=.seq #[.ref s.heap.objs.size,.ref (s.heap.objs.size+1)]} (s.heap.objs.size+2) rfl (by simp only [Heap.size_push])
  have g2:=at5 (s.heap.push {cls:=.type "tuple_iterator",data:=.fields #[.ref l1,.int 0 0]}) {cls:=.type "tuple_iterator",data:=.fields #[.ref l2,.int 0 0]} (s.heap.objs.size+1) rfl (by simp only [Heap.size_push])
  have g1:=at5 s.heap {cls:=.type "tuple_iterator",data:=.fields #[.ref l1,.int 0 0]} s.heap.objs.size rfl rfl
  have up:∀{g:Heap} {a:Addr} {u:Obj} (o:Obj),g.get? a=some u→(g.push o).get? a=some u:=fun o e=>Heap.get?_push_of_some o e
  refine⟨⟨_,g5,rfl⟩,h _ ⟨g5,up _ (up _ g3),⟨_,_,up _ g4⟩,⟨_,up _ (up _ (up _ (up _ g1))),rfl,rfl⟩,⟨_,up _ (up _ (up _ g2)),rfl,rfl⟩⟩ fun c o x=>up _ (up _ (up _ (up _ (up _ x))))⟩
end
theorem iq:PySem.bootBuiltins "zip"=some (.type "zip"):=by decide+kernel
def Di(K:PySem.W.Frag)(ta:TA):TI:=fun σ H R=>ta σ H fun vs H1=>∃a b,vs=[.ref a,.ref b]∧(∃xs,bB K H1 a xs)∧(∃ys,bB K H1 b ys)∧R (DK K a b) H1
theorem zP{X:Cx}{K:PySem.W.Frag}{es:List Expr}{k0:Nat}{tp:Pos}{a b:Expr}{ta:TA}{p pos:Pos}(hK:X.K=K)(hg:Gl X "zip")(hm:X.mg "zip"=none)(ha:PA X [a,b] ta)(hs:starEach [a,b] X.env=[(false,eval a X.env),(false,eval b X.env)]:=by rfl)(hs2:starEach [b] X.env=[(false,eval b X.env)]:=by rfl):
    PI X (.Tuple es k0 tp) (.Call (.Name "zip" p) [a,b] [] pos) (Di K ta):=by
  intro pins s σ H R I h
  subst hK
  refine Call_ (dB I hg hm iq (PyProof.Rows.callWith_type1 (bO (ha pos pins s σ H _ I h) fun us s1 ⟨vs,H1,I1,r1,q1⟩=>?_) (by rw [hs,hs2]) (by rw [hs2];rfl)))
  obtain⟨a,b,e,⟨xs,qx⟩,⟨ys,qy⟩,q⟩:=q1
  subst e
  cases r1 with
  | cons r rr=>
    cases rr with
    | cons r' rr=>
      cases rr
      cases r
      cases r'
      obtain⟨i1,v1,p1,_⟩:=I1.tuple qx
      obtain⟨i2,v2,p2,_⟩:=I1.tuple qy
      refine vz p1 p2 fun g st hk=>wpAny_pyIter_zip st.1 ?_
      have I2:aA X pins σ H1 {s1 with heap:=g,toks:=s1.toks}:=I1.kept (t':=s1.toks) fun b o e=>hk b o e
      refine⟨s1.heap.objs.size+4,[s1.heap.objs.size+4,s1.heap.objs.size+2,s1.heap.objs.size+3,s1.heap.objs.size,s1.heap.objs.size+1],_,_,H1,rfl,I2,vw a b (show((s1.heap.objs.size+3:Nat)≠s1.heap.objs.size+4) by lia) (show((s1.heap.objs.size:Nat)≠s1.heap.objs.size+4) by lia) (show((s1.heap.objs.size+1:Nat)≠s1.heap.objs.size+4) by lia) (show((s1.heap.objs.size+3:Nat)≠s1.heap.objs.size) by lia) (show((s1.heap.objs.size+3:Nat)≠s1.heap.objs.size+1) by lia) (show((s1.heap.objs.size:Nat)≠s1.heap.objs.size+1) by lia) (show((s1.heap.objs.size+2:Nat)≠s1.heap.objs.size+4) by lia) (show((s1.heap.objs.size+2:Nat)≠s1.heap.objs.size+3) by lia) (show((s1.heap.objs.size+2:Nat)≠s1.heap.objs.size) by lia) (show((s1.heap.objs.size+2:Nat)≠s1.heap.objs.size+1) by lia),st,fun c hc=>?_,q⟩
      have le:s1.heap.objs.size≤c:=by
        simp only [List.mem_cons,List.not_mem_nil,or_false] at hc
        rcases hc with rfl | rfl | rfl | rfl | rfl
        · exact Nat.le_add_right _ 4
        · exact Nat.le_add_right _ 2
        · exact Nat.le_add_right _ 3
        · exact Nat.le_refl _
        · exact Nat.le_add_right _ 1
      have f:=I1.fpOk (H':=H1) le (I1.hok.fresh le)
      exact f
end L2
namespace L2
open PySem PySem.Spec PyProof.Rows
section
variable{prog:Program}{w:World}{A:Around}{E:Value→Shared→Prop}{s:Shared}{e it l:Addr}{k:Nat}{xs:Array Value}{S:Nat→Heap→Prop}{R:Heap→Array Value→Prop}
theorem oQ(P1:Sc prog w it l S R)(hh:A.handled=none)(hne:l≠it)(xs:Array Value):Draws prog w A it [it,l] xs.size (fun i v=>xs[i]?=some v) (fun i h=>S i h∧R h xs) where
  live:=fun _ _ st=>let ⟨o,ho,_⟩:=P1.live st.1;⟨o,ho⟩
  frame:=fun _ _ _ st hk=>⟨P1.stay st.1 fun o e=>hk it (by simp) o e,P1.row st.2 fun o e=>hk l (by simp) o e⟩
  item:=fun i s Q E hi st hQ=>P1.next st.1 st.2 (x:=xs[i]) (by simp [hi]) fun g h1 h2=>hQ _ g s.toks (by simp [hi]) ⟨h1,P1.row st.2 fun o e=>h2.extBut _ _ hne e⟩ h2
  done:=fun s Q E st hE=>P1.last hh st.1 st.2 (by simp) hE
theorem lH{i:Int}{old:Value}{Q:Option Value→Shared→Prop}(P1:Sc prog w it l S R)(hh:A.handled=none)(he:IsEnum s.heap e it i old)(st:S k s.heap)(sq:R s.heap xs)(hx:xs[k]?=none)(q:∀g,Heap.ExtBut it s.heap g→Q none {s with heap:=g}):wpAny (model prog w) A (pyNext (.ref e)) Q E s:=by
  have hT:s.TypeIs (.ref e) "enumerate":=⟨_,he,rfl⟩;unfold pyNext
  refine wpAny_bind (wpAny_attempt (wpAny_callSpecial?_slot (name:=Str.ofString "__next__") hT F.slot_enumerate_next (wpAny_call_entry F.slot_enumerate_next hT F.entry_enumerate_next ?_ (F.args_enumerate_next_1 _))))
  show wpAny _ _ (field (.ref e) 2 >>= _) _ _ _;refine wpAny_bind (wpAny_field he rfl (x:=.ref it) rfl ?_)
  refine wpAny_bind (P1.last hh st sq hx fun g x hk hx'=>?_);obtain⟨o,ho,hc⟩:=hx'
  refine wpAny_bind (wpAny_isInstance (T:="StopIteration") (b:=true) ⟨o,ho,hc⟩ isSubtype_stop ?_);exact wpAny_pure (q _ hk)
theorem gH{i:Int}{old:Value}{Q:Value→Shared→Prop}(he:IsEnum s.heap e it i old)(h:Q (.ref e) s):wpAny (model prog w) A (pyIter (.ref e)) Q E s:=by
  have hT:s.TypeIs (.ref e) "enumerate":=⟨_,he,rfl⟩
  refine wpAny_pyIter_slot hT F.slot_enumerate_iter (wpAny_call_entry F.slot_enumerate_iter hT F.entry_enumerate_iter ?_ (F.args_enumerate_iter_1 _))
  show wpAny _ _ (ret (.ref e)) _ _ s;exact wpAny_pure ⟨_,rfl,"enumerate",_,hT,F.slot_enumerate_next.lookup,h⟩
end
section
variable{X:Cx}{pins:List (Addr × Obj)}{σ:L2.St}{H:Hp}{s:Shared}
theorem ar(I:aA X pins σ H s){b l:Addr}{xs:List V}(f:eI X pins H b)(q:bR X.K H l xs):l≠b:=by
  intro z
  subst z
  rcases q with (q | ⟨o,q⟩) | ⟨o,its,n,hk,_⟩
  · rw [f.1] at q;cases q
  · rw [f.1] at q;cases q
  · have hb:X.base.get? l=some o:=I.ok.mod.kin l o hk
    rcases f.2.2.2.1 with z | z
    · exact I.ok.noex l o hb z
    · exact absurd (Nat.lt_of_lt_of_le (Heap.lt_size (I.ok.bs l o hb).1) z) (Nat.lt_irrefl _)
end
def yx(K:PySem.W.Frag)(l:Addr):It:=
  ⟨fun i H=>∃xs x,bB K H l xs∧xs[i]?=some x,fun i H v H'=>∃p x,v=.ref p∧H p=none∧H'=aT H p (.tup [.int i,x])∧∀xs,bB K H l xs→xs[i]?=some x,fun i H=>∃xs,bB K H l xs∧xs.length≤i⟩
def qq(e it l:Addr)(i:Nat)(h:Heap):Prop:=(∃old,IsEnum h e it i old)∧h.IsTupleIter it l i
theorem p6{P:Program}{w:World}{K:PySem.W.Frag}{es:List Expr}{k0:Nat}{pos:Pos}{e it:Addr}(l:Addr)(ne:e≠it):lb P w K (.Tuple es k0 pos) (yx K l) [e,it] e (qq e it l) where
  mem:=by simp
  obj:=fun i h st b hb=>by
    obtain⟨⟨old,he⟩,u⟩:=st
    simp only [List.mem_cons,List.not_mem_nil,or_false] at hb
    rcases hb with rfl | rfl
    · exact⟨_,he,fun v z=>by cases z⟩
    · obtain⟨o,e,c,d⟩:=u
      exact⟨o,e,fun v z=>by rw [d] at z;cases z⟩
  keep:=fun i h h' st k=>by
    obtain⟨⟨old,he⟩,u⟩:=st
    exact⟨⟨old,k _ (by simp) _ he⟩,u.at fun o e=>k _ (by simp) o e⟩
  item:=by
    intro X hP hw hK hc i pins s σ H E I hf st hg
    subst hP hw hK
    obtain⟨xs,x,q1,hx⟩:=hg
    obtain⟨⟨old,he⟩,u⟩:=id st
    obtain⟨its,rv,p,hz⟩:=I.tuple q1
    obtain⟨ux,hux,rux⟩:=rv.get hx
    have fe:=hf e (by simp);have ft:=hf it (by simp)
    have n1:l≠e:=az I fe q1
    have n2:l≠it:=az I ft q1
    have hi:i < its.toArray.size:=by have:=(List.getElem?_eq_some_iff.mp hux).1;simpa using this
    refine wpAny_pyNext_enum_itemD (oQ (A:=X.A.in1) (eH it l) (show X.A.in1.handled=none from I.ok.hd hc) n2 its.toArray) he ⟨u,p⟩ hi ne (by simpa using ⟨ne,fun z=>n1 z.symm⟩) fun x' g tk hP ho hs hT hsz hk=>?_
    have ex:x'=ux:=by
      have:its[i]?=some x':=by simpa using hP
      rw [hux] at this;exact(Option.some.inj this).symm
    subst ex
    refine⟨_,rfl,wpAny_letOwnedTupleGo_enum ho fun g' he' ge=>?_⟩
    have lt:∀b∈[e,it],b < s.heap.objs.size:=fun b hb=>by
      simp only [List.mem_cons,List.not_mem_nil,or_false] at hb
      rcases hb with rfl | rfl
      · exact Heap.lt_size he
      · obtain⟨o,e,_⟩:=u;exact Heap.lt_size e
    have hTn:H s.heap.objs.size=none:=I.hok.fresh (Nat.le_refl _)
    have vv:aI [.int i,x] [.int i tk,x']:=.cons ⟨tk,rfl⟩ (.cons rux .nil)
    have I1:aA X pins σ (aT H s.heap.objs.size (.tup [.int i,x])) {s with heap:=s.heap.push {cls:=.type "tuple",data:=.seq #[.int i tk,x']},toks:=s.toks}:=
      I.laid (t':=s.toks) (fun b u e=>Heap.get?_push_of_some _ e) (Nat.le_refl _) ⟨(by show 2≤sizeLine;decide),[.int i tk,x'],vv,gY.new _ _⟩
    have hf1:∀b∈[e,it],eI X pins (aT H s.heap.objs.size (.tup [.int i,x])) b:=fun b hb=>by
      obtain⟨f0,fr⟩:=hf b hb
      exact⟨by rw [aE (Nat.ne_of_lt (lt b hb))];exact f0,fr⟩
    have I2:aA X pins σ (aT H s.heap.objs.size (.tup [.int i,x])) {s with heap:=g',toks:=tk+1}:=by
      refine I1.turnedL (t':=tk+1) hf1 fun b o nb eb=>?_
      have nb':b≠e∧b≠it:=by simpa using nb
      refine ge.extBut _ _ nb'.1 ?_
      rcases Heap.get?_push_cases eb with ⟨rfl,rfl⟩ | eb
      · exact hT
      · exact hk b o nb'.1 nb'.2 eb
    refine⟨.ref s.heap.objs.size,_,I2,rfl,⟨_,x,rfl,hTn,rfl,fun xs' w1=>by rw [I.tuple_inj w1 q1];exact hx⟩,⟨⟨_,by simpa using he'⟩,hs.1.at fun o e=>ge.extBut _ _ (fun z=>ne z.symm) e⟩,fun b hb=>(hf1 b hb).1⟩
  done:=by
    intro X hP hw hK hc i pins s σ H E I hf st hg
    subst hP hw hK
    obtain⟨xs,q1,hn⟩:=hg
    obtain⟨⟨old,he⟩,u⟩:=id st
    obtain⟨its,rv,p,hz⟩:=I.tuple q1
    have e1:=rv.length
    refine lH (xs:=its.toArray) (eH it l) (I.ok.hd hc) he u p (by simp;lia) fun g gk=>⟨rfl,I.turnedL (t':=s.toks) hf fun b o nb eb=>?_⟩
    have nb':b≠e∧b≠it:=by simpa using nb
    exact gk b o nb'.2 eb
  self:=fun A i s Q E st h=>by
    obtain⟨⟨old,he⟩,u⟩:=st
    exact gH he h
def yw(K:PySem.W.Frag)(l:Addr):It:=
  ⟨fun i H=>∃xs x,bR K H l xs∧xs[i]?=some x,fun i H v H'=>∃p x,v=.ref p∧H p=none∧H'=aT H p (.tup [.int i,x])∧∀xs,bR K H l xs→xs[i]?=some x,fun i H=>∃xs,bR K H l xs∧xs.length≤i⟩
def vS(e it l:Addr)(i:Nat)(h:Heap):Prop:=(∃old,IsEnum h e it i old)∧h.IsListIter it l i
theorem p5{P:Program}{w:World}{K:PySem.W.Frag}{es:List Expr}{k0:Nat}{pos:Pos}{e it:Addr}(l:Addr)(ne:e≠it):lb P w K (.Tuple es k0 pos) (yw K l) [e,it] e (vS e it l) where
  mem:=by simp
  obj:=fun i h st b hb=>by
    obtain⟨⟨old,he⟩,u⟩:=st
    simp only [List.mem_cons,List.not_mem_nil,or_false] at hb
    rcases hb with rfl | rfl
    · exact⟨_,he,fun v z=>by cases z⟩
    · obtain⟨o,e,c,d⟩:=u
      exact⟨o,e,fun v z=>by rw [d] at z;cases z⟩
  keep:=fun i h h' st k=>by
    obtain⟨⟨old,he⟩,u⟩:=st
    exact⟨⟨old,k _ (by simp) _ he⟩,u.at fun o e=>k _ (by simp) o e⟩
  item:=by
    intro X hP hw hK hc i pins s σ H E I hf st hg
    subst hP hw hK
    obtain⟨xs,x,q1,hx⟩:=hg
    obtain⟨⟨old,he⟩,u⟩:=id st
    obtain⟨its,rv,p,hz⟩:=I.list q1
    obtain⟨ux,hux,rux⟩:=rv.get hx
    have fe:=hf e (by simp);have ft:=hf it (by simp)
    have n1:l≠e:=ar I fe q1
    have n2:l≠it:=ar I ft q1
    have hi:i < its.toArray.size:=by have:=(List.getElem?_eq_some_iff.mp hux).1;simpa using this
    refine wpAny_pyNext_enum_itemD (oQ (A:=X.A.in1) (df it l) (show X.A.in1.handled=none from I.ok.hd hc) n2 its.toArray) he ⟨u,p.isList⟩ hi ne (by simpa using ⟨ne,fun z=>n1 z.symm⟩) fun x' g tk hP ho hs hT hsz hk=>?_
    have ex:x'=ux:=by
      have:its[i]?=some x':=by simpa using hP
      rw [hux] at this;exact(Option.some.inj this).symm
    subst ex
    refine⟨_,rfl,wpAny_letOwnedTupleGo_enum ho fun g' he' ge=>?_⟩
    have lt:∀b∈[e,it],b < s.heap.objs.size:=fun b hb=>by
      simp only [List.mem_cons,List.not_mem_nil,or_false] at hb
      rcases hb with rfl | rfl
      · exact Heap.lt_size he
      · obtain⟨o,e,_⟩:=u;exact Heap.lt_size e
    have hTn:H s.heap.objs.size=none:=I.hok.fresh (Nat.le_refl _)
    have vv:aI [.int i,x] [.int i tk,x']:=.cons ⟨tk,rfl⟩ (.cons rux .nil)
    have I1:aA X pins σ (aT H s.heap.objs.size (.tup [.int i,x])) {s with heap:=s.heap.push {cls:=.type "tuple",data:=.seq #[.int i tk,x']},toks:=s.toks}:=
      I.laid (t':=s.toks) (fun b u e=>Heap.get?_push_of_some _ e) (Nat.le_refl _) ⟨(by show 2≤sizeLine;decide),[.int i tk,x'],vv,gY.new _ _⟩
    have hf1:∀b∈[e,it],eI X pins (aT H s.heap.objs.size (.tup [.int i,x])) b:=fun b hb=>by
      obtain⟨f0,fr⟩:=hf b hb
      exact⟨by rw [aE (Nat.ne_of_lt (lt b hb))];exact f0,fr⟩
    have I2:aA X pins σ (aT H s.heap.objs.size (.tup [.int i,x])) {s with heap:=g',toks:=tk+1}:=by
      refine I1.turnedL (t':=tk+1) hf1 fun b o nb eb=>?_
      have nb':b≠e∧b≠it:=by simpa using nb
      refine ge.extBut _ _ nb'.1 ?_
      rcases Heap.get?_push_cases eb with ⟨rfl,rfl⟩ | eb
      · exact hT
      · exact hk b o nb'.1 nb'.2 eb
    refine⟨.ref s.heap.objs.size,_,I2,rfl,⟨_,x,rfl,hTn,rfl,fun xs' w1=>by rw [I.list_inj w1 q1];exact hx⟩,⟨⟨_,by simpa using he'⟩,hs.1.at fun o e=>ge.extBut _ _ (fun z=>ne z.symm) e⟩,fun b hb=>(hf1 b hb).1⟩
  done:=by
    intro X hP hw hK hc i pins s σ H E I hf st hg
    subst hP hw hK
    obtain⟨xs,q1,hn⟩:=hg
    obtain⟨⟨old,he⟩,u⟩:=id st
    obtain⟨its,rv,p,hz⟩:=I.list q1
    have e1:=rv.length
    refine lH (xs:=its.toArray) (df it l) (I.ok.hd hc) he u p.isList (by simp;lia) fun g gk=>⟨rfl,I.turnedL (t':=s.toks) hf fun b o nb eb=>?_⟩
    have nb':b≠e∧b≠it:=by simpa using nb
    exact gk b o nb'.2 eb
  self:=fun A i s Q E st h=>by
    obtain⟨⟨old,he⟩,u⟩:=st
    exact gH he h
end L2
namespace L2
open PySem PySem.Spec PyProof.Rows
theorem qW:∀(us:List Value) (f:Nat→Int),(∀(j:Nat) (v:Value),us[j]?=some v→∃t,v=Value.int (f j) t)→aI ((List.range us.length).map fun j=>V.int (f j)) us
  | [],_,_=>.nil
  | u::us,f,h=>by
    rw [List.length_cons,List.range_succ_eq_map,List.map_cons,List.map_map]
    refine .cons (h 0 u rfl) (qW us (fun j=>f (j+1)) fun j v e=>h (j+1) v (by simpa using e))
def iO(n:Nat):List Int:=(List.range n).map Int.ofNat
theorem oE(n:Nat):(iO n).length=n:=by simp [iO]
section
variable{X:Cx}{a:Expr}{ta:TA}{p p2 pos pos2:Pos}
theorem sZ(hg:Gl X "range")(hm:X.mg "range"=none)(ha:PA X [a] ta)(hs:starEach [a] X.env=[(false,eval a X.env)]){pins:List (Addr × Obj)}{s:Shared}{σ:L2.St}{H:Hp}{R:Int→Hp→Prop}(I:aA X pins σ H s)(h:ta σ H fun vs H1=>∃j:Int,vs=[.int j]∧R j H1):
    wpAny (model X.prog X.w) X.A (eval (.Call (.Name "range" p) [a] [] pos) X.env) (fun v s1=>∃(r:Addr) (j:Int) (H1:Hp) (t u w:Tok),v=.ref r∧IsRange s1.heap r 0 j 1 t u w∧r < s1.heap.objs.size∧aA X pins σ H1 s1∧R j H1) X.xe s:=by
  refine Call_ (dB I hg hm boot_range (PyProof.Rows.callWith_type1 (bO (ha pos pins s σ H _ I h) fun us s1 ⟨vs,H1,I1,r1,q1⟩=>?_) hs rfl))
  obtain⟨j,e,q⟩:=q1
  subst e
  cases r1 with
  | cons r rr=>
    cases rr
    obtain⟨t,rfl⟩:=r
    exact call_range_1 ⟨_,j,H1,_,_,_,rfl,IsRange.new ..,by simp [Heap.size_push],I1.kept fun b o e=>Heap.get?_push_of_some _ e,q⟩
def Ej(ta:TA):TE:=fun σ H Q=>ta σ H fun vs H1=>∃j:Int,vs=[.int j]∧(0≤j∧j≤100000∧∀l,H1 l=none→Q (.ref l) (aT H1 l (.lst ((iO j.toNat).map V.int))))
theorem mY(hc:X.calm=true)(hgl:Gl X "list")(hml:X.mg "list"=none)(hg:Gl X "range")(hm:X.mg "range"=none)(ha:PA X [a] ta)(hs:starEach [a] X.env=[(false,eval a X.env)]:=by rfl)
    (he:starEach [.Call (.Name "range" p) [a] [] pos] X.env=(false,eval (.Call (.Name "range" p) [a] [] pos) X.env)::starEach [] X.env:=by rfl):PE X (.Call (.Name "list" p2) [.Call (.Name "range" p) [a] [] pos] [] pos2) (Ej ta):=by
  intro pins s σ H Q I h
  refine wpAny_Call_Name_kw (dB I hgl hml PyProof.Rows.boot_list ?_ (by decide) (by decide))
  refine PyProof.Rows.callWith_type1 ?_ he rfl
  rw [he]
  refine Calls.spliced_cons (bO (sZ hg hm ha hs I h) fun u s1 ⟨r,j,H1,t,u1,w,e,hr,lt,I1,j0,j1,q⟩=>?_)
  subst e
  refine wpAny_pure ?_
  have hsm:Builtin.Range.small 0 j 1=true:=small_one (by decide) (by decide) (by lia) (by lia)
  refine call_list_range (n:=j.toNat) (I1.ok.hd hc) hr hsm (by rw [rangeSize_one];split<;>lia) (Nat.le_trans (show j.toNat≤100000 by lia) (by decide)) fun h' tk acc c hk hD hI=>?_
  have hf:H1 s1.heap.objs.size=none:=I1.hok.fresh (Nat.le_refl _)
  have vv:aI ((iO j.toNat).map V.int) acc.toList:=by
    have z:=qW acc.toList (fun k=>(k:Int)) fun k v e=>by
      obtain⟨t,ht⟩:=hI.2 k v (by simpa using e)
      exact⟨t,by rw [ht];simp⟩
    rw [Array.length_toList,hI.1] at z
    rw [iO,List.map_map]
    exact z
  refine⟨.ref s1.heap.objs.size,_,I1.laid (o:=.lst ((iO j.toNat).map V.int)) hk (Nat.le_refl _) ⟨?_,acc.toList,c,vv,by simpa using hD⟩,rfl,q _ hf⟩
  rw [List.length_map,oE,sizeLine_eq];lia
end
end L2
namespace L2
open PySem PySem.Spec PyProof.Rows
theorem rG:fillsNumberSlot (.type "tuple") "mul"=pure false:=
  PySem.fillsNumberSlot_seq (id:="tuple.__mul__") (r:=some (.builtin "tuple.__rmul__")) F.slot_tuple_mul.lookup (by decide+kernel) F.slot_tuple_rmul.lookup (by decide+kernel)
theorem Ag:seqRepeat? (.type "tuple")=pure (some (.builtin "tuple.__mul__")):=by
  unfold seqRepeat?;rw [PySem.seqSlot_of (T:="tuple") (name:="__mul__") (id:="tuple.__mul__") F.slot_tuple_mul.lookup (by decide+kernel),PySem.seqSlot_of (T:="tuple") (name:="__rmul__") (id:="tuple.__rmul__") F.slot_tuple_rmul.lookup (by decide+kernel)];rfl
theorem xk(a:Int)(t:Tok)(l:Addr)(items:Array Value)(n:Nat)(dd:Option Addr)(sl:Array (Option Value)):
    Meets (Builtin.«int.__rmul__» ⟨[.int a t,.ref l],[]⟩) (fun _ R s=>s.heap.get? l=some {cls:=.type "tuple",dict:=dd,data:=.seq items n,slots:=sl}∧R (.ok (.ret Value.notImplemented)) s):=
  .of_wp fun prog w A R s h=>by obtain⟨hp,g,d,tk,os⟩:=s;obtain⟨hl,h⟩:=h;wp_walk;exact⟨_,rfl,h⟩
theorem y_(l:Addr)(x:Value)(n:Nat)(k:Int)(u:Tok)(dd:Option Addr)(sl:Array (Option Value))(h0:2≤k)(h1:k≤100000):
    Meets (Builtin.«tuple.__mul__» ⟨[.ref l,.int k u],[]⟩) (fun _ R s=>s.heap.get? l=some {cls:=.type "tuple",dict:=dd,data:=.seq #[x] n,slots:=sl}∧
      R (.ok (.ret (.ref s.heap.objs.size))) {s with heap:=s.heap.push {cls:=.type "tuple",data:=.seq (List.replicate k.toNat x).toArray}}):=
  .of_wp fun prog w A R s h=>by
    obtain⟨hp,g,d,tk,os⟩:=s;obtain⟨hl,h⟩:=h
    have f1:=AutoSeq1.idx_int
    have c1:¬(decide (k < -(2 ^ 63)) || decide (k≥2 ^ 63))=true:=by simp;lia
    have c2:¬((#[x]:Array Value).isEmpty || k==1)=true:=by simp;lia
    have c3:¬(decide (k≤0) || (#[x]:Array Value).isEmpty)=true:=by simp;lia
    have c4:¬(((#[x]:Array Value).size:Int)*k > (2 ^ 63 - 1) / 8):=by simp;lia
    have c5:¬Builtin.Tuple.tupleTooMany (((#[x]:Array Value).size:Int)*k)=true:=by
      unfold Builtin.Tuple.tupleTooMany;rw [sizeLine_eq];simp;lia
    wp_walk using wpAny_loadPart' hl
    rw [if_neg c1]
    wp_walk using wpAny_loadPart' hl
    rw [if_neg c2]
    wp_walk using wpAny_loadPart' hl
    rw [if_neg c3]
    wp_walk using wpAny_loadPart' hl
    rw [if_neg c4]
    show wpAny _ _ (if Builtin.Tuple.tupleTooMany (((#[x]:Array Value).size:Int)*k)=true then _ else _) _ _ _
    rw [if_neg c5]
    have f0:∀(m:Nat) (acc:Array Value),List.foldl (fun x1 x2=>x1++x2) acc (List.replicate m #[x])=acc++(List.replicate m x).toArray:=by
      intro m
      induction m with
      | zero=>intro acc;simp
      | succ m ih=>intro acc;rw [List.replicate_succ,List.foldl_cons,ih,List.replicate_succ];apply Array.toList_inj.mp;simp
    have e:List.foldl (fun x1 x2=>x1++x2) #[] (List.replicate k.toNat #[x])=(List.replicate k.toNat x).toArray:=by rw [f0];simp
    show wpAny _ _ (Builtin.Tuple.tupleExact (List.foldl (fun x1 x2=>x1++x2) #[] (List.replicate k.toNat #[x])) >>= fun v=>ret v) _ _ _
    rw [e]
    unfold Builtin.Tuple.tupleExact
    refine wpAny_bind (wpAny_newObj_type ?_ (by show(List.replicate k.toNat x).toArray.size≤sizeLine;rw [List.size_toArray,List.length_replicate,sizeLine_eq];lia))
    exact wpAny_pure ⟨_,rfl,h⟩
theorem we(l:Addr)(x:Value)(n:Nat)(u:Tok)(dd:Option Addr)(sl:Array (Option Value)):
    Meets (Builtin.«tuple.__mul__» ⟨[.ref l,.int 0 u],[]⟩) (fun _ R s=>s.heap.get? l=some {cls:=.type "tuple",dict:=dd,data:=.seq #[x] n,slots:=sl}∧R (.ok (.ret (.ref s.heap.objs.size))) {s with heap:=s.heap.push {cls:=.type "tuple",data:=.seq #[]}}):=
  .of_wp fun prog w A R s h=>by
    obtain⟨hp,g,d,tk,os⟩:=s;obtain⟨hl,h⟩:=h;have f1:=AutoSeq1.idx_int
    have c2:¬((#[x]:Array Value).isEmpty || (0:Int)==1)=true:=by simp
    wp_walk using wpAny_loadPart' hl
    first | rw [if_neg c2] | skip
    wp_walk using wpAny_loadPart' hl
    exact⟨_,rfl,h⟩
theorem wf(l:Addr)(x:Value)(n:Nat)(u:Tok)(dd:Option Addr)(sl:Array (Option Value)):
    Meets (Builtin.«tuple.__mul__» ⟨[.ref l,.int 1 u],[]⟩) (fun _ R s=>s.heap.get? l=some {cls:=.type "tuple",dict:=dd,data:=.seq #[x] n,slots:=sl}∧R (.ok (.ret (.ref l))) s):=
  .of_wp fun prog w A R s h=>by
    obtain⟨hp,g,d,tk,os⟩:=s;obtain⟨hl,h⟩:=h;have f1:=AutoSeq1.idx_int
    wp_walk using wpAny_loadPart' hl
    exact⟨_,rfl,h⟩
section
variable{X:Cx}
def uW(K:PySem.W.Frag):R2:=fun x y H Q=>∃a k v,x=.ref a∧y=.int k∧bB K H a [v]∧0≤k∧k≤100000∧∀p H',ax H H'→bB K H' p (List.replicate k.toNat v)→Q (.ref p) H'
theorem wG:eK X (binaryOp .Mult) (uW X.K):=by
  intro pins s σ H x y v u Q I rx ry h
  obtain⟨a,k,z,rfl,rfl,ha,k0,k1,q⟩:=h
  cases rx
  obtain⟨t,rfl⟩:=ry
  obtain⟨its,r,p,hz⟩:=I.tuple ha
  obtain⟨uz,rfl,rz⟩:=gq r
  obtain⟨⟨cls,dd,data,sl⟩,ho,hc,n,hd⟩:=id p
  simp only at hc hd
  subst hc hd
  refine wpAny_binaryOp_repeat_ref (T:="tuple") (U:="int") (by decide) ⟨_,ho,rfl⟩ (fun s'=>PySem.typeIs_int s' k t) rG F.fills_int_mul F.slot_int_rmul Ag F.slot_int_index.lookup (call_meets F.slot_int_rmul (PySem.typeIs_int s k t) F.entry_int_rmul (F.args_int_rmul_2 _ _) (xk k t a #[uz] n dd sl) ⟨ho,rfl,⟨_,ho,rfl⟩,?_⟩)
  have new:∀m:Nat,m=k.toNat→EP X pins σ Q (.ref s.heap.objs.size) {s with heap:=s.heap.push {cls:=.type "tuple",data:=.seq (List.replicate m uz).toArray},toks:=s.toks}:=fun m hm=>by
    have hf:H s.heap.objs.size=none:=I.hok.fresh (Nat.le_refl _)
    have vv:∀j:Nat,aI (List.replicate j z) (List.replicate j uz):=fun j=>by
      induction j with
      | zero=>exact .nil
      | succ j ih=>exact .cons rz ih
    refine⟨.ref s.heap.objs.size,_,I.laid (t':=s.toks) (o:=.tup (List.replicate m z)) (fun b ob q=>Heap.get?_push_of_some _ q) (Nat.le_refl _) ⟨by rw [List.length_replicate,sizeLine_eq];lia,_,vv m,gY.new _ _⟩,rfl,q _ _ (ax.new hf) (bB.of (by rw [ay,hm]))⟩
  rcases(by lia:k=0∨k=1∨2≤k) with e | e | e
  · subst e
    exact call_meets F.slot_tuple_mul ⟨_,ho,rfl⟩ F.entry_tuple_mul (F.args_tuple_mul_2 _ _) (we a uz n t dd sl) ⟨ho,new 0 rfl⟩
  · subst e
    exact call_meets F.slot_tuple_mul ⟨_,ho,rfl⟩ F.entry_tuple_mul (F.args_tuple_mul_2 _ _) (wf a uz n t dd sl) ⟨ho,⟨.ref a,H,I,rfl,q a H (ax.refl H) ha⟩⟩
  · exact call_meets F.slot_tuple_mul ⟨_,ho,rfl⟩ F.entry_tuple_mul (F.args_tuple_mul_2 _ _) (y_ a uz n k t dd sl e k1) ⟨ho,new _ rfl⟩
end
end L2
namespace L2
open PySem PySem.Spec PyProof.Rows
section
variable{prog:Program}{w:World}{A:Around}{E:Value→Shared→Prop}{s:Shared}
end
section
variable{X:Cx}{a:Expr}{ta:TA}{p p2 p3 pos pos2 pos3:Pos}
end
end L2
namespace L2
open PySem PySem.Spec PyProof.Rows
theorem rm(l:Addr)(xs:Array Value):
    Meets (Builtin.«enumerate.__new__» ⟨[.type "enumerate",.ref l],[]⟩) (fun _ R s=>s.heap.IsTuple l xs∧R (.ok (.ret (.ref (s.heap.objs.size+1)))) {s with heap:=(s.heap.push {cls:=.type "tuple_iterator",data:=.fields #[.ref l,.int 0 0]}).push {cls:=.type "enumerate",data:=.fields #[.none,.bool false,.ref s.heap.objs.size,rawInt 0,.none,.none]}}):=
  .of_wp fun prog w A R s h=>by
    obtain⟨hp,g,d,tk,os⟩:=s;obtain⟨ht,h⟩:=h;have a1:=sub_enumerate
    have T1:Heap.IsTuple (Shared.heap ⟨hp,g,d,tk,os⟩) l xs:=ht
    obtain⟨⟨cls,dd,data,sl⟩,ho,hc,n,hd⟩:=id ht
    simp only at hc hd
    subst hc hd
    wp_walk using wpAny_loadPart' ho
    refine wpAny_stack_any fun st=>wpAny_pure ?_
    split
    · rename_i c _ _ _ _ _
      cases (c==Value.type "enumerate")
      · wp_walk using wpAny_loadPart' ho,wpAny_pyIter_tuple T1
        refine⟨_,rfl,?_⟩
        simp only [Heap.size_push]
        exact h
      · wp_walk using wpAny_loadPart' ho,wpAny_pyIter_tuple T1
        refine⟨_,rfl,?_⟩
        simp only [Heap.size_push]
        exact h
    · wp_walk using wpAny_loadPart' ho,wpAny_pyIter_tuple T1
      refine⟨_,rfl,?_⟩
      simp only [Heap.size_push]
      exact h
section
variable{prog:Program}{w:World}{A:Around}{E:Value→Shared→Prop}{s:Shared}
theorem pB{l:Addr}{xs:Array Value}{Q:Value→Shared→Prop}(t1:s.heap.IsTuple l xs)(h:∀g,qq (s.heap.objs.size+1) s.heap.objs.size l 0 g→(∀c o,s.heap.get? c=some o→g.get? c=some o)→Q (.ref (s.heap.objs.size+1)) {s with heap:=g}):wpAny (model prog w) A (call (.type "enumerate") [.ref l]) Q E s:=by
  refine callType_new F.called_enumerate (by decide) (F.typeCall_enumerate_1 _) (F.newCall_enumerate_1 _) (fun obj=>F.args_object_init_2 obj _) F.entry_enumerate_new (rm l xs) ⟨t1,?_⟩
  have g2:((s.heap.push {cls:=.type "tuple_iterator",data:=.fields #[.ref l,.int 0 0]}).push {cls:=.type "enumerate",data:=.fields #[.none,.bool false,.ref s.heap.objs.size,rawInt 0,.none,.none]}).get? (s.heap.objs.size+1)=some {cls:=.type "enumerate",data:=.fields #[.none,.bool false,.ref s.heap.objs.size,rawInt 0,.none,.none]}:=by
    have e:s.heap.objs.size+1=(s.heap.push {cls:=.type "tuple_iterator",data:=.fields #[.ref l,.int 0 0]}).objs.size:=by simp only [Heap.size_push]
    rw [e];exact Heap.get?_push_size _ rfl
  exact⟨⟨_,g2,rfl⟩,h _ ⟨⟨.none,g2⟩,⟨_,Heap.get?_push_of_some _ (Heap.get?_push_size _ rfl),rfl,rfl⟩⟩ fun c o x=>Heap.get?_push_of_some _ (Heap.get?_push_of_some _ x)⟩
end
theorem fY:PySem.bootBuiltins "enumerate"=some (.type "enumerate"):=by decide+kernel
def Dh(K:PySem.W.Frag)(ta:TA):TI:=fun σ H R=>ta σ H fun vs H1=>∃a,vs=[.ref a]∧(∃xs,bB K H1 a xs)∧R (yx K a) H1
def Dg(K:PySem.W.Frag)(ta:TA):TI:=fun σ H R=>ta σ H fun vs H1=>∃a,vs=[.ref a]∧(∃xs,bR K H1 a xs)∧R (yw K a) H1
section
variable{X:Cx}{K:PySem.W.Frag}{es:List Expr}{k0:Nat}{tp:Pos}{a:Expr}{ta:TA}{p pos:Pos}
theorem uB(hK:X.K=K)(hg:Gl X "enumerate")(hm:X.mg "enumerate"=none)(ha:PA X [a] ta)(hs:starEach [a] X.env=[(false,eval a X.env)]:=by rfl):PI X (.Tuple es k0 tp) (.Call (.Name "enumerate" p) [a] [] pos) (Dh K ta):=by
  intro pins s σ H R I h
  subst hK
  refine Call_ (dB I hg hm fY (PyProof.Rows.callWith_type1 (bO (ha pos pins s σ H _ I h) fun us s1 ⟨vs,H1,I1,r1,q1⟩=>?_) hs rfl))
  obtain⟨a,e,⟨xs,qx⟩,q⟩:=q1
  subst e
  obtain⟨u,rfl,ru⟩:=gq r1
  cases ru
  obtain⟨i1,v1,p1,_⟩:=I1.tuple qx
  refine pB p1 fun g st hk=>?_
  obtain⟨⟨old,he⟩,hit⟩:=id st
  refine gH he ?_
  have I2:aA X pins σ H1 {s1 with heap:=g,toks:=s1.toks}:=I1.kept (t':=s1.toks) fun b o e=>hk b o e
  refine⟨s1.heap.objs.size+1,[s1.heap.objs.size+1,s1.heap.objs.size],_,_,H1,rfl,I2,p6 a (show((s1.heap.objs.size+1:Nat)≠s1.heap.objs.size) by lia),st,fun c hc=>?_,q⟩
  have le:s1.heap.objs.size≤c:=by
    simp only [List.mem_cons,List.not_mem_nil,or_false] at hc
    rcases hc with rfl | rfl
    · exact Nat.le_add_right _ 1
    · exact Nat.le_refl _
  exact I1.fpOk (H':=H1) le (I1.hok.fresh le)
theorem uA(hK:X.K=K)(hg:Gl X "enumerate")(hm:X.mg "enumerate"=none)(ha:PA X [a] ta)(hs:starEach [a] X.env=[(false,eval a X.env)]:=by rfl):PI X (.Tuple es k0 tp) (.Call (.Name "enumerate" p) [a] [] pos) (Dg K ta):=by
  intro pins s σ H R I h
  subst hK
  refine Call_ (dB I hg hm fY (PyProof.Rows.callWith_type1 (bO (ha pos pins s σ H _ I h) fun us s1 ⟨vs,H1,I1,r1,q1⟩=>?_) hs rfl))
  obtain⟨a,e,⟨xs,qx⟩,q⟩:=q1
  subst e
  obtain⟨u,rfl,ru⟩:=gq r1
  cases ru
  obtain⟨i1,v1,p1,_⟩:=I1.list qx
  refine call_enumerate_list p1.isList fun g he hit hsz hk=>?_
  refine gH he ?_
  have I2:aA X pins σ H1 {s1 with heap:=g,toks:=s1.toks}:=I1.kept (t':=s1.toks) fun b o e=>hk b o e
  refine⟨s1.heap.objs.size+1,[s1.heap.objs.size+1,s1.heap.objs.size],_,_,H1,rfl,I2,p5 a (show((s1.heap.objs.size+1:Nat)≠s1.heap.objs.size) by lia),⟨⟨_,he⟩,hit⟩,fun c hc=>?_,q⟩
  have le:s1.heap.objs.size≤c:=by
    simp only [List.mem_cons,List.not_mem_nil,or_false] at hc
    rcases hc with rfl | rfl
    · exact Nat.le_add_right _ 1
    · exact Nat.le_refl _
  exact I1.fpOk (H':=H1) le (I1.hok.fresh le)
end
end L2
namespace L2
open PySem PySem.Spec PyProof.Rows
def xN(K:PySem.W.Frag)(l1 l2:Addr):It:=
  ⟨fun i H=>∃xs ys x y,bR K H l1 xs∧bB K H l2 ys∧xs[i]?=some x∧ys[i]?=some y,
   fun i H v H'=>∃p x y,v=.ref p∧H p=none∧H'=aT H p (.tup [x,y])∧∀xs ys,bR K H l1 xs→bB K H l2 ys→xs[i]?=some x∧ys[i]?=some y,
   fun i H=>∃xs ys,bR K H l1 xs∧bB K H l2 ys∧(xs.length≤i∨ys.length≤i)⟩
def qY(z TI TO i1 i2 l1 l2:Addr)(i:Nat)(h:Heap):Prop:=IsZip h z TI TO .none∧IsPair h TI (.ref i1) (.ref i2)∧(∃a b,IsPair h TO a b)∧h.IsListIter i1 l1 i∧h.IsTupleIter i2 l2 i
theorem p_{P:Program}{w:World}{K:PySem.W.Frag}{es:List Expr}{k0:Nat}{pos:Pos}{z TI TO i1 i2:Addr}(l1 l2:Addr)(n1:TO≠z)(n2:i1≠z)(n3:i2≠z)(n4:TO≠i1)(n5:TO≠i2)(n6:i1≠i2)(n7:TI≠z)(n8:TI≠TO)(n9:TI≠i1)(n10:TI≠i2):
    lb P w K (.Tuple es k0 pos) (xN K l1 l2) [z,TI,TO,i1,i2] z (qY z TI TO i1 i2 l1 l2) where
  mem:=by simp
  obj:=fun i h st b hb=>by
    obtain⟨hz,hI,⟨a,c,hO⟩,u1,u2⟩:=st
    simp only [List.mem_cons,List.not_mem_nil,or_false] at hb
    rcases hb with rfl | rfl | rfl | rfl | rfl
    · exact⟨_,hz,fun v z=>by cases z⟩
    · exact⟨_,hI,fun v z=>by cases z⟩
    · exact⟨_,hO,fun v z=>by cases z⟩
    · obtain⟨o,e,c,d⟩:=u1
      exact⟨o,e,fun v z=>by rw [d] at z;cases z⟩
    · obtain⟨o,e,c,d⟩:=u2
      exact⟨o,e,fun v z=>by rw [d] at z;cases z⟩
  keep:=fun i h h' st k=>by
    obtain⟨hz,hI,⟨a,c,hO⟩,u1,u2⟩:=st
    exact⟨k _ (by simp) _ hz,k _ (by simp) _ hI,⟨a,c,k _ (by simp) _ hO⟩,u1.at fun o e=>k _ (by simp) o e,u2.at fun o e=>k _ (by simp) o e⟩
  item:=by
    intro X hP hw hK hc i pins s σ H E I hf st hg
    subst hP hw hK
    obtain⟨xs,ys,x,y,q1,q2,hx,hy⟩:=hg
    obtain⟨hz,hI,⟨a,b,hO⟩,u1,u2⟩:=id st
    obtain⟨its1,rv1,p1,z1⟩:=I.list q1
    obtain⟨its2,rv2,p2,z2⟩:=I.tuple q2
    obtain⟨ux,hux,rux⟩:=rv1.get hx
    obtain⟨uy,huy,ruy⟩:=rv2.get hy
    have fz:=hf z (by simp);have fO:=hf TO (by simp);have f1:=hf i1 (by simp);have f2:=hf i2 (by simp)
    have D:fM z TI TO i1 i2 l1 l2:=⟨n1,n2,n3,n4,n5,n6,ar I fz q1,ar I fO q1,ar I f1 q1,ar I f2 q1,az I fz q2,az I fO q2,az I f1 q2,az I f2 q2⟩
    refine i0 (xs:=its1.toArray) (ys:=its2.toArray) (df i1 l1) (eH i2 l2) D hz hI hO u1 u2 p1.isList p2 (by simpa using hux) (by simpa using huy) fun g gz gO g1 g2 gT gs gk=>?_
    refine⟨_,rfl,wpAny_letOwnedTupleGo_zip gz fun g' gz' ge=>?_⟩
    have lt:∀b∈[z,TI,TO,i1,i2],b < s.heap.objs.size:=fun b hb=>by
      simp only [List.mem_cons,List.not_mem_nil,or_false] at hb
      rcases hb with rfl | rfl | rfl | rfl | rfl
      · exact Heap.lt_size hz
      · exact Heap.lt_size hI
      · exact Heap.lt_size hO
      · obtain⟨o,e,_⟩:=u1;exact Heap.lt_size e
      · obtain⟨o,e,_⟩:=u2;exact Heap.lt_size e
    have hT:H s.heap.objs.size=none:=I.hok.fresh (Nat.le_refl _)
    have vv:aI [x,y] [ux,uy]:=.cons rux (.cons ruy .nil)
    have I1:aA X pins σ (aT H s.heap.objs.size (.tup [x,y])) {s with heap:=s.heap.push {cls:=.type "tuple",data:=.seq #[ux,uy]},toks:=s.toks}:=
      I.laid (t':=s.toks) (fun b u e=>Heap.get?_push_of_some _ e) (Nat.le_refl _) ⟨(by show 2≤sizeLine;decide),[ux,uy],vv,gY.new _ _⟩
    have hf1:∀b∈[z,TI,TO,i1,i2],eI X pins (aT H s.heap.objs.size (.tup [x,y])) b:=fun b hb=>by
      obtain⟨f0,fr⟩:=hf b hb
      exact⟨by rw [aE (Nat.ne_of_lt (lt b hb))];exact f0,fr⟩
    have nzT:s.heap.objs.size≠z:=Nat.ne_of_gt (lt z (by simp))
    have I2:aA X pins σ (aT H s.heap.objs.size (.tup [x,y])) {s with heap:=g',toks:=s.toks}:=by
      refine I1.turnedL (t':=s.toks) hf1 fun b o nb e=>?_
      have nb':b≠z∧b≠TI∧b≠TO∧b≠i1∧b≠i2:=by simpa using nb
      refine ge.extBut _ _ nb'.1 ?_
      rcases Heap.get?_push_cases e with ⟨rfl,rfl⟩ | e
      · exact gT
      · exact gk b o nb'.1 nb'.2.2.1 nb'.2.2.2.1 nb'.2.2.2.2 e
    refine⟨.ref s.heap.objs.size,_,I2,rfl,⟨_,x,y,rfl,hT,rfl,fun xs' ys' w1 w2=>?_⟩,⟨gz',ge.extBut _ _ n7 (gk _ _ n7 n8 n9 n10 hI),⟨ux,uy,ge.extBut _ _ n1 gO⟩,g1.at fun o e=>ge.extBut _ _ n2 e,g2.at fun o e=>ge.extBut _ _ n3 e⟩,fun b hb=>(hf1 b hb).1⟩
    rw [I.list_inj w1 q1,I.tuple_inj w2 q2]
    exact⟨hx,hy⟩
  done:=by
    intro X hP hw hK hc i pins s σ H E I hf st hg
    subst hP hw hK
    obtain⟨xs,ys,q1,q2,hn⟩:=hg
    obtain⟨hz,hI,⟨a,b,hO⟩,u1,u2⟩:=id st
    obtain⟨its1,rv1,p1,z1⟩:=I.list q1
    obtain⟨its2,rv2,p2,z2⟩:=I.tuple q2
    have fz:=hf z (by simp);have fO:=hf TO (by simp);have f1:=hf i1 (by simp);have f2:=hf i2 (by simp)
    have D:fM z TI TO i1 i2 l1 l2:=⟨n1,n2,n3,n4,n5,n6,ar I fz q1,ar I fO q1,ar I f1 q1,ar I f2 q1,az I fz q2,az I fO q2,az I f1 q2,az I f2 q2⟩
    have e1:=rv1.length
    have e2:=rv2.length
    refine i7 (xs:=its1.toArray) (ys:=its2.toArray) (I.ok.hd hc) (df i1 l1) (eH i2 l2) D hz hI hO u1 u2 p1.isList p2 ?_ fun g gk=>⟨rfl,I.turnedL (t':=s.toks) hf fun b o nb e=>?_⟩
    · rcases hn with hn | hn
      · exact .inl (by simp;lia)
      · exact .inr (by simp;lia)
    · have nb':b≠z∧b≠TI∧b≠TO∧b≠i1∧b≠i2:=by simpa using nb
      exact gk b o nb'.1 nb'.2.2.1 nb'.2.2.2.1 nb'.2.2.2.2 e
  self:=fun A i s Q E st h=>wpAny_pyIter_zip st.1 h
theorem r8(l1 l2:Addr)(xs ys:Array Value):
    Meets (Builtin.«zip.__new__» ⟨[.type "zip",.ref l1,.ref l2],[]⟩) (fun _ R s=>s.heap.IsList l1 xs∧s.heap.IsTuple l2 ys∧
      R (.ok (.ret (.ref (s.heap.objs.size+4)))) {s with heap:=((((s.heap.push {cls:=.type "list_iterator",data:=.fields #[.ref l1,.int 0 0]}).push {cls:=.type "tuple_iterator",data:=.fields #[.ref l2,.int 0 0]}).push {cls:=.type "tuple",data:=.seq #[.ref s.heap.objs.size,.ref (s.heap.objs.size+1)]}).push {cls:=.type "tuple",data:=.seq #[.none,.none]}).push {cls:=.type "zip",data:=.fields #[.none,.bool false,.bool false,.ref (s.heap.objs.size+2),.ref (s.heap.objs.size+3)]}}):=
  .of_wp fun prog w A R s h=>by
    obtain⟨hp,g,d,tk,os⟩:=s;obtain⟨t1,t2,h⟩:=h;have sz:=PySem.sub_zip
    have T1:Heap.IsList (Shared.heap ⟨hp,g,d,tk,os⟩) l1 xs:=t1
    have T2:Heap.IsTuple (Shared.heap ⟨hp.push {cls:=.type "list_iterator",data:=.fields #[.ref l1,.int 0 0]},g,d,tk,os⟩) l2 ys:=Heap.IsTuple.push t2 _
    wp_walk using wpAny_pyIter_list T1,wpAny_pyIter_tuple T2
    refine⟨_,rfl,?_⟩
    simp only [Heap.size_push]
    exact h
section
variable{prog:Program}{w:World}{A:Around}{E:Value→Shared→Prop}{s:Shared}
theorem qd{l1 l2:Addr}{xs ys:Array Value}{Q:Value→Shared→Prop}(t1:s.heap.IsList l1 xs)(t2:s.heap.IsTuple l2 ys)
    (h:∀g,qY (s.heap.objs.size+4) (s.heap.objs.size+2) (s.heap.objs.size+3) s.heap.objs.size (s.heap.objs.size+1) l1 l2 0 g→(∀c o,s.heap.get? c=some o→g.get? c=some o)→Q (.ref (s.heap.objs.size+4)) {s with heap:=g}):
    wpAny (model prog w) A (call (.type "zip") [.ref l1,.ref l2]) Q E s:=by
  refine callType_new F.called_zip (by decide) (F.typeCall_zip_2 _ _) (F.newCall_zip_2 _ _) (fun obj=>F.args_object_init_3 obj _ _) F.entry_zip_new (r8 l1 l2 xs ys) ⟨t1,t2,?_⟩
  have at5:∀(g:Heap) (o:Obj) (a:Addr),o.isFreed=false→a=g.objs.size→(g.push o).get? a=some o:=fun g o a hf e=>by rw [e];exact Heap.get?_push_size _ hf
  have g5:=at5 ((((s.heap.push {cls:=.type "list_iterator",data:=.fields #[.ref l1,.int 0 0]}).push {cls:=.type "tuple_iterator",data:=.fields #[.ref l2,.int 0 0]}).push {cls:=.type "tuple",data:=.seq #[.ref s.heap.objs.size,.ref (s.heap.objs.size+1)]}).push {cls:=.type "tuple",data:=.seq #[.none,.none]}) {cls:=.type "zip",data:=.fields #[.none,.bool false,.bool false,.ref (s.heap.objs.size+2),.ref (s.heap.objs.size+3)]} (s.heap.objs.size+4) rfl (by simp only [Heap.size_push])
  have g4:=at5 (((s.heap.push {cls:=.type "list_iterator",data:=.fields #[.ref l1,.int 0 0]}).push {cls:=.type "tuple_iterator",data:=.fields #[.ref l2,.int 0 0]}).push {cls:=.type "tuple",data:=.seq #[.ref s.heap.objs.size,.ref (s.heap.objs.size+1)]}) {cls:=.type "tuple",data:=.seq #[.none,.none]} (s.heap.objs.size+3) rfl (by simp only [Heap.size_push])
  have g3:=at5 ((s.heap.push {cls:=.type "list_iterator",data:=.fields #[.ref l1,.int 0 0]}).push {cls:=.type "tuple_iterator",data:=.fields #[.ref l2,.int 0 0]}) {cls:=.type "tuple",data:=.seq #[.ref s.heap.objs.size,.ref (s.heap.objs.size+1)]} (s.heap.objs.size+2) rfl (by simp only [Heap.size_push])
  have g2:=at5 (s.heap.push {cls:=.type "list_iterator",data:=.fields #[.ref l1,.int 0 0]}) {cls:=.type "tuple_iterator",data:=.fields #[.ref l2,.int 0 0]} (s.heap.objs.size+1) rfl (by simp only [Heap.size_push])
  have g1:=at5 s.heap {cls:=.type "list_iterator",data:=.fields #[.ref l1,.int 0 0]} s.heap.objs.size rfl rfl
  have up:∀{g:Heap} {a:Addr} {u:Obj} (o:Obj),g.get? a=some u→(g.push o).get? a=some u:=fun o e=>Heap.get?_push_of_some o e
  refine⟨⟨_,g5,rfl⟩,h _ ⟨g5,up _ (up _ g3),⟨_,_,up _ g4⟩,⟨_,up _ (up _ (up _ (up _ g1))),rfl,rfl⟩,⟨_,up _ (up _ (up _ g2)),rfl,rfl⟩⟩ fun c o x=>up _ (up _ (up _ (up _ (up _ x))))⟩
end
def yW(K:PySem.W.Frag)(ta:TA):TI:=fun σ H R=>ta σ H fun vs H1=>∃a b,vs=[.ref a,.ref b]∧(∃xs,bR K H1 a xs)∧(∃ys,bB K H1 b ys)∧R (xN K a b) H1
theorem uE{X:Cx}{K:PySem.W.Frag}{es:List Expr}{k0:Nat}{tp:Pos}{a b:Expr}{ta:TA}{p pos:Pos}(hK:X.K=K)(hg:Gl X "zip")(hm:X.mg "zip"=none)(ha:PA X [a,b] ta)(hs:starEach [a,b] X.env=[(false,eval a X.env),(false,eval b X.env)]:=by rfl)(hs2:starEach [b] X.env=[(false,eval b X.env)]:=by rfl):
    PI X (.Tuple es k0 tp) (.Call (.Name "zip" p) [a,b] [] pos) (yW K ta):=by
  intro pins s σ H R I h
  subst hK
  refine Call_ (dB I hg hm iq (PyProof.Rows.callWith_type1 (bO (ha pos pins s σ H _ I h) fun us s1 ⟨vs,H1,I1,r1,q1⟩=>?_) (by rw [hs,hs2]) (by rw [hs2];rfl)))
  obtain⟨a,b,e,⟨xs,qx⟩,⟨ys,qy⟩,q⟩:=q1
  subst e
  cases r1 with
  | cons r rr=>
    cases rr with
    | cons r' rr=>
      cases rr
      cases r
      cases r'
      obtain⟨i1,v1,p1,_⟩:=I1.list qx
      obtain⟨i2,v2,p2,_⟩:=I1.tuple qy
      refine qd p1.isList p2 fun g st hk=>wpAny_pyIter_zip st.1 ?_
      have I2:aA X pins σ H1 {s1 with heap:=g,toks:=s1.toks}:=I1.kept (t':=s1.toks) fun b o e=>hk b o e
      refine⟨s1.heap.objs.size+4,[s1.heap.objs.size+4,s1.heap.objs.size+2,s1.heap.objs.size+3,s1.heap.objs.size,s1.heap.objs.size+1],_,_,H1,rfl,I2,p_ a b (show((s1.heap.objs.size+3:Nat)≠s1.heap.objs.size+4) by lia) (show((s1.heap.objs.size:Nat)≠s1.heap.objs.size+4) by lia) (show((s1.heap.objs.size+1:Nat)≠s1.heap.objs.size+4) by lia) (show((s1.heap.objs.size+3:Nat)≠s1.heap.objs.size) by lia) (show((s1.heap.objs.size+3:Nat)≠s1.heap.objs.size+1) by lia) (show((s1.heap.objs.size:Nat)≠s1.heap.objs.size+1) by lia) (show((s1.heap.objs.size+2:Nat)≠s1.heap.objs.size+4) by lia) (show((s1.heap.objs.size+2:Nat)≠s1.heap.objs.size+3) by lia) (show((s1.heap.objs.size+2:Nat)≠s1.heap.objs.size) by lia) (show((s1.heap.objs.size+2:Nat)≠s1.heap.objs.size+1) by lia),st,fun c hc=>?_,q⟩
      have le:s1.heap.objs.size≤c:=by
        simp only [List.mem_cons,List.not_mem_nil,or_false] at hc
        rcases hc with rfl | rfl | rfl | rfl | rfl
        · exact Nat.le_add_right _ 4
        · exact Nat.le_add_right _ 2
        · exact Nat.le_add_right _ 3
        · exact Nat.le_refl _
        · exact Nat.le_add_right _ 1
      have f:=I1.fpOk (H':=H1) le (I1.hok.fresh le)
      exact f
def xO(K:PySem.W.Frag)(l1 l2:Addr):It:=
  ⟨fun i H=>∃xs ys x y,bB K H l1 xs∧bR K H l2 ys∧xs[i]?=some x∧ys[i]?=some y,
   fun i H v H'=>∃p x y,v=.ref p∧H p=none∧H'=aT H p (.tup [x,y])∧∀xs ys,bB K H l1 xs→bR K H l2 ys→xs[i]?=some x∧ys[i]?=some y,
   fun i H=>∃xs ys,bB K H l1 xs∧bR K H l2 ys∧(xs.length≤i∨ys.length≤i)⟩
def qZ(z TI TO i1 i2 l1 l2:Addr)(i:Nat)(h:Heap):Prop:=IsZip h z TI TO .none∧IsPair h TI (.ref i1) (.ref i2)∧(∃a b,IsPair h TO a b)∧h.IsTupleIter i1 l1 i∧h.IsListIter i2 l2 i
theorem qa{P:Program}{w:World}{K:PySem.W.Frag}{es:List Expr}{k0:Nat}{pos:Pos}{z TI TO i1 i2:Addr}(l1 l2:Addr)(n1:TO≠z)(n2:i1≠z)(n3:i2≠z)(n4:TO≠i1)(n5:TO≠i2)(n6:i1≠i2)(n7:TI≠z)(n8:TI≠TO)(n9:TI≠i1)(n10:TI≠i2):
    lb P w K (.Tuple es k0 pos) (xO K l1 l2) [z,TI,TO,i1,i2] z (qZ z TI TO i1 i2 l1 l2) where
  mem:=by simp
  obj:=fun i h st b hb=>by
    obtain⟨hz,hI,⟨a,c,hO⟩,u1,u2⟩:=st
    simp only [List.mem_cons,List.not_mem_nil,or_false] at hb
    rcases hb with rfl | rfl | rfl | rfl | rfl
    · exact⟨_,hz,fun v z=>by cases z⟩
    · exact⟨_,hI,fun v z=>by cases z⟩
    · exact⟨_,hO,fun v z=>by cases z⟩
    · obtain⟨o,e,c,d⟩:=u1
      exact⟨o,e,fun v z=>by rw [d] at z;cases z⟩
    · obtain⟨o,e,c,d⟩:=u2
      exact⟨o,e,fun v z=>by rw [d] at z;cases z⟩
  keep:=fun i h h' st k=>by
    obtain⟨hz,hI,⟨a,c,hO⟩,u1,u2⟩:=st
    exact⟨k _ (by simp) _ hz,k _ (by simp) _ hI,⟨a,c,k _ (by simp) _ hO⟩,u1.at fun o e=>k _ (by simp) o e,u2.at fun o e=>k _ (by simp) o e⟩
  item:=by
    intro X hP hw hK hc i pins s σ H E I hf st hg
    subst hP hw hK
    obtain⟨xs,ys,x,y,q1,q2,hx,hy⟩:=hg
    obtain⟨hz,hI,⟨a,b,hO⟩,u1,u2⟩:=id st
    obtain⟨its1,rv1,p1,z1⟩:=I.tuple q1
    obtain⟨its2,rv2,p2,z2⟩:=I.list q2
    obtain⟨ux,hux,rux⟩:=rv1.get hx
    obtain⟨uy,huy,ruy⟩:=rv2.get hy
    have fz:=hf z (by simp);have fO:=hf TO (by simp);have f1:=hf i1 (by simp);have f2:=hf i2 (by simp)
    have D:fM z TI TO i1 i2 l1 l2:=⟨n1,n2,n3,n4,n5,n6,az I fz q1,az I fO q1,az I f1 q1,az I f2 q1,ar I fz q2,ar I fO q2,ar I f1 q2,ar I f2 q2⟩
    refine i0 (xs:=its1.toArray) (ys:=its2.toArray) (eH i1 l1) (df i2 l2) D hz hI hO u1 u2 p1 p2.isList (by simpa using hux) (by simpa using huy) fun g gz gO g1 g2 gT gs gk=>?_
    refine⟨_,rfl,wpAny_letOwnedTupleGo_zip gz fun g' gz' ge=>?_⟩
    have lt:∀b∈[z,TI,TO,i1,i2],b < s.heap.objs.size:=fun b hb=>by
      simp only [List.mem_cons,List.not_mem_nil,or_false] at hb
      rcases hb with rfl | rfl | rfl | rfl | rfl
      · exact Heap.lt_size hz
      · exact Heap.lt_size hI
      · exact Heap.lt_size hO
      · obtain⟨o,e,_⟩:=u1;exact Heap.lt_size e
      · obtain⟨o,e,_⟩:=u2;exact Heap.lt_size e
    have hT:H s.heap.objs.size=none:=I.hok.fresh (Nat.le_refl _)
    have vv:aI [x,y] [ux,uy]:=.cons rux (.cons ruy .nil)
    have I1:aA X pins σ (aT H s.heap.objs.size (.tup [x,y])) {s with heap:=s.heap.push {cls:=.type "tuple",data:=.seq #[ux,uy]},toks:=s.toks}:=
      I.laid (t':=s.toks) (fun b u e=>Heap.get?_push_of_some _ e) (Nat.le_refl _) ⟨(by show 2≤sizeLine;decide),[ux,uy],vv,gY.new _ _⟩
    have hf1:∀b∈[z,TI,TO,i1,i2],eI X pins (aT H s.heap.objs.size (.tup [x,y])) b:=fun b hb=>by
      obtain⟨f0,fr⟩:=hf b hb
      exact⟨by rw [aE (Nat.ne_of_lt (lt b hb))];exact f0,fr⟩
    have nzT:s.heap.objs.size≠z:=Nat.ne_of_gt (lt z (by simp))
    have I2:aA X pins σ (aT H s.heap.objs.size (.tup [x,y])) {s with heap:=g',toks:=s.toks}:=by
      refine I1.turnedL (t':=s.toks) hf1 fun b o nb e=>?_
      have nb':b≠z∧b≠TI∧b≠TO∧b≠i1∧b≠i2:=by simpa using nb
      refine ge.extBut _ _ nb'.1 ?_
      rcases Heap.get?_push_cases e with ⟨rfl,rfl⟩ | e
      · exact gT
      · exact gk b o nb'.1 nb'.2.2.1 nb'.2.2.2.1 nb'.2.2.2.2 e
    refine⟨.ref s.heap.objs.size,_,I2,rfl,⟨_,x,y,rfl,hT,rfl,fun xs' ys' w1 w2=>?_⟩,⟨gz',ge.extBut _ _ n7 (gk _ _ n7 n8 n9 n10 hI),⟨ux,uy,ge.extBut _ _ n1 gO⟩,g1.at fun o e=>ge.extBut _ _ n2 e,g2.at fun o e=>ge.extBut _ _ n3 e⟩,fun b hb=>(hf1 b hb).1⟩
    rw [I.tuple_inj w1 q1,I.list_inj w2 q2]
    exact⟨hx,hy⟩
  done:=by
    intro X hP hw hK hc i pins s σ H E I hf st hg
    subst hP hw hK
    obtain⟨xs,ys,q1,q2,hn⟩:=hg
    obtain⟨hz,hI,⟨a,b,hO⟩,u1,u2⟩:=id st
    obtain⟨its1,rv1,p1,z1⟩:=I.tuple q1
    obtain⟨its2,rv2,p2,z2⟩:=I.list q2
    have fz:=hf z (by simp);have fO:=hf TO (by simp);have f1:=hf i1 (by simp);have f2:=hf i2 (by simp)
    have D:fM z TI TO i1 i2 l1 l2:=⟨n1,n2,n3,n4,n5,n6,az I fz q1,az I fO q1,az I f1 q1,az I f2 q1,ar I fz q2,ar I fO q2,ar I f1 q2,ar I f2 q2⟩
    have e1:=rv1.length
    have e2:=rv2.length
    refine i7 (xs:=its1.toArray) (ys:=its2.toArray) (I.ok.hd hc) (eH i1 l1) (df i2 l2) D hz hI hO u1 u2 p1 p2.isList ?_ fun g gk=>⟨rfl,I.turnedL (t':=s.toks) hf fun b o nb e=>?_⟩
    · rcases hn with hn | hn
      · exact .inl (by simp;lia)
      · exact .inr (by simp;lia)
    · have nb':b≠z∧b≠TI∧b≠TO∧b≠i1∧b≠i2:=by simpa using nb
      exact gk b o nb'.1 nb'.2.2.1 nb'.2.2.2.1 nb'.2.2.2.2 e
  self:=fun A i s Q E st h=>wpAny_pyIter_zip st.1 h
theorem r9(l1 l2:Addr)(xs ys:Array Value):
    Meets (Builtin.«zip.__new__» ⟨[.type "zip",.ref l1,.ref l2],[]⟩) (fun _ R s=>s.heap.IsTuple l1 xs∧s.heap.IsList l2 ys∧
      R (.ok (.ret (.ref (s.heap.objs.size+4)))) {s with heap:=((((s.heap.push {cls:=.type "tuple_iterator",data:=.fields #[.ref l1,.int 0 0]}).push {cls:=.type "list_iterator",data:=.fields #[.ref l2,.int 0 0]}).push {cls:=.type "tuple",data:=.seq #[.ref s.heap.objs.size,.ref (s.heap.objs.size+1)]}).push {cls:=.type "tuple",data:=.seq #[.none,.none]}).push {cls:=.type "zip",data:=.fields #[.none,.bool false,.bool false,.ref (s.heap.objs.size+2),.ref (s.heap.objs.size+3)]}}):=
  .of_wp fun prog w A R s h=>by
    obtain⟨hp,g,d,tk,os⟩:=s;obtain⟨t1,t2,h⟩:=h;have sz:=PySem.sub_zip
    have T1:Heap.IsTuple (Shared.heap ⟨hp,g,d,tk,os⟩) l1 xs:=t1
    have T2:Heap.IsList (Shared.heap ⟨hp.push {cls:=.type "tuple_iterator",data:=.fields #[.ref l1,.int 0 0]},g,d,tk,os⟩) l2 ys:=Heap.IsList.push t2 _
    wp_walk using wpAny_pyIter_tuple T1,wpAny_pyIter_list T2
    refine⟨_,rfl,?_⟩
    simp only [Heap.size_push]
    exact h
section
variable{prog:Program}{w:World}{A:Around}{E:Value→Shared→Prop}{s:Shared}
theorem qe{l1 l2:Addr}{xs ys:Array Value}{Q:Value→Shared→Prop}(t1:s.heap.IsTuple l1 xs)(t2:s.heap.IsList l2 ys)
    (h:∀g,qZ (s.heap.objs.size+4) (s.heap.objs.size+2) (s.heap.objs.size+3) s.heap.objs.size (s.heap.objs.size+1) l1 l2 0 g→(∀c o,s.heap.get? c=some o→g.get? c=some o)→Q (.ref (s.heap.objs.size+4)) {s with heap:=g}):
    wpAny (model prog w) A (call (.type "zip") [.ref l1,.ref l2]) Q E s:=by
  refine callType_new F.called_zip (by decide) (F.typeCall_zip_2 _ _) (F.newCall_zip_2 _ _) (fun obj=>F.args_object_init_3 obj _ _) F.entry_zip_new (r9 l1 l2 xs ys) ⟨t1,t2,?_⟩
  have at5:∀(g:Heap) (o:Obj) (a:Addr),o.isFreed=false→a=g.objs.size→(g.push o).get? a=some o:=fun g o a hf e=>by rw [e];exact Heap.get?_push_size _ hf
  have g5:=at5 ((((s.heap.push {cls:=.type "tuple_iterator",data:=.fields #[.ref l1,.int 0 0]}).push {cls:=.type "list_iterator",data:=.fields #[.ref l2,.int 0 0]}).push {cls:=.type "tuple",data:=.seq #[.ref s.heap.objs.size,.ref (s.heap.objs.size+1)]}).push {cls:=.type "tuple",data:=.seq #[.none,.none]}) {cls:=.type "zip",data:=.fields #[.none,.bool false,.bool false,.ref (s.heap.objs.size+2),.ref (s.heap.objs.size+3)]} (s.heap.objs.size+4) rfl (by simp only [Heap.size_push])
  have g4:=at5 (((s.heap.push {cls:=.type "tuple_iterator",data:=.fields #[.ref l1,.int 0 0]}).push {cls:=.type "list_iterator",data:=.fields #[.ref l2,.int 0 0]}).push {cls:=.type "tuple",data:=.seq #[.ref s.heap.objs.size,.ref (s.heap.objs.size+1)]}) {cls:=.type "tuple",data:=.seq #[.none,.none]} (s.heap.objs.size+3) rfl (by simp only [Heap.size_push])
  have g3:=at5 ((s.heap.push {cls:=.type "tuple_iterator",data:=.fields #[.ref l1,.int 0 0]}).push {cls:=.type "list_iterator",data:=.fields #[.ref l2,.int 0 0]}) {cls:=.type "tuple",data:=.seq #[.ref s.heap.objs.size,.ref (s.heap.objs.size+1)]} (s.heap.objs.size+2) rfl (by simp only [Heap.size_push])
  have g2:=at5 (s.heap.push {cls:=.type "tuple_iterator",data:=.fields #[.ref l1,.int 0 0]}) {cls:=.type "list_iterator",data:=.fields #[.ref l2,.int 0 0]} (s.heap.objs.size+1) rfl (by simp only [Heap.size_push])
  have g1:=at5 s.heap {cls:=.type "tuple_iterator",data:=.fields #[.ref l1,.int 0 0]} s.heap.objs.size rfl rfl
  have up:∀{g:Heap} {a:Addr} {u:Obj} (o:Obj),g.get? a=some u→(g.push o).get? a=some u:=fun o e=>Heap.get?_push_of_some o e
  refine⟨⟨_,g5,rfl⟩,h _ ⟨g5,up _ (up _ g3),⟨_,_,up _ g4⟩,⟨_,up _ (up _ (up _ (up _ g1))),rfl,rfl⟩,⟨_,up _ (up _ (up _ g2)),rfl,rfl⟩⟩ fun c o x=>up _ (up _ (up _ (up _ (up _ x))))⟩
end
def yX(K:PySem.W.Frag)(ta:TA):TI:=fun σ H R=>ta σ H fun vs H1=>∃a b,vs=[.ref a,.ref b]∧(∃xs,bB K H1 a xs)∧(∃ys,bR K H1 b ys)∧R (xO K a b) H1
theorem uF{X:Cx}{K:PySem.W.Frag}{es:List Expr}{k0:Nat}{tp:Pos}{a b:Expr}{ta:TA}{p pos:Pos}(hK:X.K=K)(hg:Gl X "zip")(hm:X.mg "zip"=none)(ha:PA X [a,b] ta)(hs:starEach [a,b] X.env=[(false,eval a X.env),(false,eval b X.env)]:=by rfl)(hs2:starEach [b] X.env=[(false,eval b X.env)]:=by rfl):
    PI X (.Tuple es k0 tp) (.Call (.Name "zip" p) [a,b] [] pos) (yX K ta):=by
  intro pins s σ H R I h
  subst hK
  refine Call_ (dB I hg hm iq (PyProof.Rows.callWith_type1 (bO (ha pos pins s σ H _ I h) fun us s1 ⟨vs,H1,I1,r1,q1⟩=>?_) (by rw [hs,hs2]) (by rw [hs2];rfl)))
  obtain⟨a,b,e,⟨xs,qx⟩,⟨ys,qy⟩,q⟩:=q1
  subst e
  cases r1 with
  | cons r rr=>
    cases rr with
    | cons r' rr=>
      cases rr
      cases r
      cases r'
      obtain⟨i1,v1,p1,_⟩:=I1.tuple qx
      obtain⟨i2,v2,p2,_⟩:=I1.list qy
      refine qe p1 p2.isList fun g st hk=>wpAny_pyIter_zip st.1 ?_
      have I2:aA X pins σ H1 {s1 with heap:=g,toks:=s1.toks}:=I1.kept (t':=s1.toks) fun b o e=>hk b o e
      refine⟨s1.heap.objs.size+4,[s1.heap.objs.size+4,s1.heap.objs.size+2,s1.heap.objs.size+3,s1.heap.objs.size,s1.heap.objs.size+1],_,_,H1,rfl,I2,qa a b (show((s1.heap.objs.size+3:Nat)≠s1.heap.objs.size+4) by lia) (show((s1.heap.objs.size:Nat)≠s1.heap.objs.size+4) by lia) (show((s1.heap.objs.size+1:Nat)≠s1.heap.objs.size+4) by lia) (show((s1.heap.objs.size+3:Nat)≠s1.heap.objs.size) by lia) (show((s1.heap.objs.size+3:Nat)≠s1.heap.objs.size+1) by lia) (show((s1.heap.objs.size:Nat)≠s1.heap.objs.size+1) by lia) (show((s1.heap.objs.size+2:Nat)≠s1.heap.objs.size+4) by lia) (show((s1.heap.objs.size+2:Nat)≠s1.heap.objs.size+3) by lia) (show((s1.heap.objs.size+2:Nat)≠s1.heap.objs.size) by lia) (show((s1.heap.objs.size+2:Nat)≠s1.heap.objs.size+1) by lia),st,fun c hc=>?_,q⟩
      have le:s1.heap.objs.size≤c:=by
        simp only [List.mem_cons,List.not_mem_nil,or_false] at hc
        rcases hc with rfl | rfl | rfl | rfl | rfl
        · exact Nat.le_add_right _ 4
        · exact Nat.le_add_right _ 2
        · exact Nat.le_add_right _ 3
        · exact Nat.le_refl _
        · exact Nat.le_add_right _ 1
      have f:=I1.fpOk (H':=H1) le (I1.hok.fresh le)
      exact f
def xM(K:PySem.W.Frag)(l1 l2:Addr):It:=
  ⟨fun i H=>∃xs ys x y,bR K H l1 xs∧bR K H l2 ys∧xs[i]?=some x∧ys[i]?=some y,
   fun i H v H'=>∃p x y,v=.ref p∧H p=none∧H'=aT H p (.tup [x,y])∧∀xs ys,bR K H l1 xs→bR K H l2 ys→xs[i]?=some x∧ys[i]?=some y,
   fun i H=>∃xs ys,bR K H l1 xs∧bR K H l2 ys∧(xs.length≤i∨ys.length≤i)⟩
def qX(z TI TO i1 i2 l1 l2:Addr)(i:Nat)(h:Heap):Prop:=IsZip h z TI TO .none∧IsPair h TI (.ref i1) (.ref i2)∧(∃a b,IsPair h TO a b)∧h.IsListIter i1 l1 i∧h.IsListIter i2 l2 i
theorem p9{P:Program}{w:World}{K:PySem.W.Frag}{es:List Expr}{k0:Nat}{pos:Pos}{z TI TO i1 i2:Addr}(l1 l2:Addr)(n1:TO≠z)(n2:i1≠z)(n3:i2≠z)(n4:TO≠i1)(n5:TO≠i2)(n6:i1≠i2)(n7:TI≠z)(n8:TI≠TO)(n9:TI≠i1)(n10:TI≠i2):
    lb P w K (.Tuple es k0 pos) (xM K l1 l2) [z,TI,TO,i1,i2] z (qX z TI TO i1 i2 l1 l2) where
  mem:=by simp
  obj:=fun i h st b hb=>by
    obtain⟨hz,hI,⟨a,c,hO⟩,u1,u2⟩:=st
    simp only [List.mem_cons,List.not_mem_nil,or_false] at hb
    rcases hb with rfl | rfl | rfl | rfl | rfl
    · exact⟨_,hz,fun v z=>by cases z⟩
    · exact⟨_,hI,fun v z=>by cases z⟩
    · exact⟨_,hO,fun v z=>by cases z⟩
    · obtain⟨o,e,c,d⟩:=u1
      exact⟨o,e,fun v z=>by rw [d] at z;cases z⟩
    · obtain⟨o,e,c,d⟩:=u2
      exact⟨o,e,fun v z=>by rw [d] at z;cases z⟩
  keep:=fun i h h' st k=>by
    obtain⟨hz,hI,⟨a,c,hO⟩,u1,u2⟩:=st
    exact⟨k _ (by simp) _ hz,k _ (by simp) _ hI,⟨a,c,k _ (by simp) _ hO⟩,u1.at fun o e=>k _ (by simp) o e,u2.at fun o e=>k _ (by simp) o e⟩
  item:=by
    intro X hP hw hK hc i pins s σ H E I hf st hg
    subst hP hw hK
    obtain⟨xs,ys,x,y,q1,q2,hx,hy⟩:=hg
    obtain⟨hz,hI,⟨a,b,hO⟩,u1,u2⟩:=id st
    obtain⟨its1,rv1,p1,z1⟩:=I.list q1
    obtain⟨its2,rv2,p2,z2⟩:=I.list q2
    obtain⟨ux,hux,rux⟩:=rv1.get hx
    obtain⟨uy,huy,ruy⟩:=rv2.get hy
    have fz:=hf z (by simp);have fO:=hf TO (by simp);have f1:=hf i1 (by simp);have f2:=hf i2 (by simp)
    have D:fM z TI TO i1 i2 l1 l2:=⟨n1,n2,n3,n4,n5,n6,ar I fz q1,ar I fO q1,ar I f1 q1,ar I f2 q1,ar I fz q2,ar I fO q2,ar I f1 q2,ar I f2 q2⟩
    refine i0 (xs:=its1.toArray) (ys:=its2.toArray) (df i1 l1) (df i2 l2) D hz hI hO u1 u2 p1.isList p2.isList (by simpa using hux) (by simpa using huy) fun g gz gO g1 g2 gT gs gk=>?_
    refine⟨_,rfl,wpAny_letOwnedTupleGo_zip gz fun g' gz' ge=>?_⟩
    have lt:∀b∈[z,TI,TO,i1,i2],b < s.heap.objs.size:=fun b hb=>by
      simp only [List.mem_cons,List.not_mem_nil,or_false] at hb
      rcases hb with rfl | rfl | rfl | rfl | rfl
      · exact Heap.lt_size hz
      · exact Heap.lt_size hI
      · exact Heap.lt_size hO
      · obtain⟨o,e,_⟩:=u1;exact Heap.lt_size e
      · obtain⟨o,e,_⟩:=u2;exact Heap.lt_size e
    have hT:H s.heap.objs.size=none:=I.hok.fresh (Nat.le_refl _)
    have vv:aI [x,y] [ux,uy]:=.cons rux (.cons ruy .nil)
    have I1:aA X pins σ (aT H s.heap.objs.size (.tup [x,y])) {s with heap:=s.heap.push {cls:=.type "tuple",data:=.seq #[ux,uy]},toks:=s.toks}:=
      I.laid (t':=s.toks) (fun b u e=>Heap.get?_push_of_some _ e) (Nat.le_refl _) ⟨(by show 2≤sizeLine;decide),[ux,uy],vv,gY.new _ _⟩
    have hf1:∀b∈[z,TI,TO,i1,i2],eI X pins (aT H s.heap.objs.size (.tup [x,y])) b:=fun b hb=>by
      obtain⟨f0,fr⟩:=hf b hb
      exact⟨by rw [aE (Nat.ne_of_lt (lt b hb))];exact f0,fr⟩
    have nzT:s.heap.objs.size≠z:=Nat.ne_of_gt (lt z (by simp))
    have I2:aA X pins σ (aT H s.heap.objs.size (.tup [x,y])) {s with heap:=g',toks:=s.toks}:=by
      refine I1.turnedL (t':=s.toks) hf1 fun b o nb e=>?_
      have nb':b≠z∧b≠TI∧b≠TO∧b≠i1∧b≠i2:=by simpa using nb
      refine ge.extBut _ _ nb'.1 ?_
      rcases Heap.get?_push_cases e with ⟨rfl,rfl⟩ | e
      · exact gT
      · exact gk b o nb'.1 nb'.2.2.1 nb'.2.2.2.1 nb'.2.2.2.2 e
    refine⟨.ref s.heap.objs.size,_,I2,rfl,⟨_,x,y,rfl,hT,rfl,fun xs' ys' w1 w2=>?_⟩,⟨gz',ge.extBut _ _ n7 (gk _ _ n7 n8 n9 n10 hI),⟨ux,uy,ge.extBut _ _ n1 gO⟩,g1.at fun o e=>ge.extBut _ _ n2 e,g2.at fun o e=>ge.extBut _ _ n3 e⟩,fun b hb=>(hf1 b hb).1⟩
    rw [I.list_inj w1 q1,I.list_inj w2 q2]
    exact⟨hx,hy⟩
  done:=by
    intro X hP hw hK hc i pins s σ H E I hf st hg
    subst hP hw hK
    obtain⟨xs,ys,q1,q2,hn⟩:=hg
    obtain⟨hz,hI,⟨a,b,hO⟩,u1,u2⟩:=id st
    obtain⟨its1,rv1,p1,z1⟩:=I.list q1
    obtain⟨its2,rv2,p2,z2⟩:=I.list q2
    have fz:=hf z (by simp);have fO:=hf TO (by simp);have f1:=hf i1 (by simp);have f2:=hf i2 (by simp)
    have D:fM z TI TO i1 i2 l1 l2:=⟨n1,n2,n3,n4,n5,n6,ar I fz q1,ar I fO q1,ar I f1 q1,ar I f2 q1,ar I fz q2,ar I fO q2,ar I f1 q2,ar I f2 q2⟩
    have e1:=rv1.length
    have e2:=rv2.length
    refine i7 (xs:=its1.toArray) (ys:=its2.toArray) (I.ok.hd hc) (df i1 l1) (df i2 l2) D hz hI hO u1 u2 p1.isList p2.isList ?_ fun g gk=>⟨rfl,I.turnedL (t':=s.toks) hf fun b o nb e=>?_⟩
    · rcases hn with hn | hn
      · exact .inl (by simp;lia)
      · exact .inr (by simp;lia)
    · have nb':b≠z∧b≠TI∧b≠TO∧b≠i1∧b≠i2:=by simpa using nb
      exact gk b o nb'.1 nb'.2.2.1 nb'.2.2.2.1 nb'.2.2.2.2 e
  self:=fun A i s Q E st h=>wpAny_pyIter_zip st.1 h
theorem r6(l1 l2:Addr)(xs ys:Array Value):
    Meets (Builtin.«zip.__new__» ⟨[.type "zip",.ref l1,.ref l2],[]⟩) (fun _ R s=>s.heap.IsList l1 xs∧s.heap.IsList l2 ys∧
      R (.ok (.ret (.ref (s.heap.objs.size+4)))) {s with heap:=((((s.heap.push {cls:=.type "list_iterator",data:=.fields #[.ref l1,.int 0 0]}).push {cls:=.type "list_iterator",data:=.fields #[.ref l2,.int 0 0]}).push {cls:=.type "tuple",data:=.seq #[.ref s.heap.objs.size,.ref (s.heap.objs.size+1)]}).push {cls:=.type "tuple",data:=.seq #[.none,.none]}).push {cls:=.type "zip",data:=.fields #[.none,.bool false,.bool false,.ref (s.heap.objs.size+2),.ref (s.heap.objs.size+3)]}}):=
  .of_wp fun prog w A R s h=>by
    obtain⟨hp,g,d,tk,os⟩:=s;obtain⟨t1,t2,h⟩:=h;have sz:=PySem.sub_zip
    have T1:Heap.IsList (Shared.heap ⟨hp,g,d,tk,os⟩) l1 xs:=t1
    have T2:Heap.IsList (Shared.heap ⟨hp.push {cls:=.type "list_iterator",data:=.fields #[.ref l1,.int 0 0]},g,d,tk,os⟩) l2 ys:=Heap.IsList.push t2 _
    wp_walk using wpAny_pyIter_list T1,wpAny_pyIter_list T2
    refine⟨_,rfl,?_⟩
    simp only [Heap.size_push]
    exact h
section
variable{prog:Program}{w:World}{A:Around}{E:Value→Shared→Prop}{s:Shared}
theorem qc{l1 l2:Addr}{xs ys:Array Value}{Q:Value→Shared→Prop}(t1:s.heap.IsList l1 xs)(t2:s.heap.IsList l2 ys)
    (h:∀g,qX (s.heap.objs.size+4) (s.heap.objs.size+2) (s.heap.objs.size+3) s.heap.objs.size (s.heap.objs.size+1) l1 l2 0 g→(∀c o,s.heap.get? c=some o→g.get? c=some o)→Q (.ref (s.heap.objs.size+4)) {s with heap:=g}):
    wpAny (model prog w) A (call (.type "zip") [.ref l1,.ref l2]) Q E s:=by
  refine callType_new F.called_zip (by decide) (F.typeCall_zip_2 _ _) (F.newCall_zip_2 _ _) (fun obj=>F.args_object_init_3 obj _ _) F.entry_zip_new (r6 l1 l2 xs ys) ⟨t1,t2,?_⟩
  have at5:∀(g:Heap) (o:Obj) (a:Addr),o.isFreed=false→a=g.objs.size→(g.push o).get? a=some o:=fun g o a hf e=>by rw [e];exact Heap.get?_push_size _ hf
  have g5:=at5 ((((s.heap.push {cls:=.type "list_iterator",data:=.fields #[.ref l1,.int 0 0]}).push {cls:=.type "list_iterator",data:=.fields #[.ref l2,.int 0 0]}).push {cls:=.type "tuple",data:=.seq #[.ref s.heap.objs.size,.ref (s.heap.objs.size+1)]}).push {cls:=.type "tuple",data:=.seq #[.none,.none]}) {cls:=.type "zip",data:=.fields #[.none,.bool false,.bool false,.ref (s.heap.objs.size+2),.ref (s.heap.objs.size+3)]} (s.heap.objs.size+4) rfl (by simp only [Heap.size_push])
  have g4:=at5 (((s.heap.push {cls:=.type "list_iterator",data:=.fields #[.ref l1,.int 0 0]}).push {cls:=.type "list_iterator",data:=.fields #[.ref l2,.int 0 0]}).push {cls:=.type "tuple",data:=.seq #[.ref s.heap.objs.size,.ref (s.heap.objs.size+1)]}) {cls:=.type "tuple",data:=.seq #[.none,.none]} (s.heap.objs.size+3) rfl (by simp only [Heap.size_push])
  have g3:=at5 ((s.heap.push {cls:=.type "list_iterator",data:=.fields #[.ref l1,.int 0 0]}).push {cls:=.type "list_iterator",data:=.fields #[.ref l2,.int 0 0]}) {cls:=.type "tuple",data:=.seq #[.ref s.heap.objs.size,.ref (s.heap.objs.size+1)]} (s.heap.objs.size+2) rfl (by simp only [Heap.size_push])
  have g2:=at5 (s.heap.push {cls:=.type "list_iterator",data:=.fields #[.ref l1,.int 0 0]}) {cls:=.type "list_iterator",data:=.fields #[.ref l2,.int 0 0]} (s.heap.objs.size+1) rfl (by simp only [Heap.size_push])
  have g1:=at5 s.heap {cls:=.type "list_iterator",data:=.fields #[.ref l1,.int 0 0]} s.heap.objs.size rfl rfl
  have up:∀{g:Heap} {a:Addr} {u:Obj} (o:Obj),g.get? a=some u→(g.push o).get? a=some u:=fun o e=>Heap.get?_push_of_some o e
  refine⟨⟨_,g5,rfl⟩,h _ ⟨g5,up _ (up _ g3),⟨_,_,up _ g4⟩,⟨_,up _ (up _ (up _ (up _ g1))),rfl,rfl⟩,⟨_,up _ (up _ (up _ g2)),rfl,rfl⟩⟩ fun c o x=>up _ (up _ (up _ (up _ (up _ x))))⟩
end
def yV(K:PySem.W.Frag)(ta:TA):TI:=fun σ H R=>ta σ H fun vs H1=>∃a b,vs=[.ref a,.ref b]∧(∃xs,bR K H1 a xs)∧(∃ys,bR K H1 b ys)∧R (xM K a b) H1
theorem uD{X:Cx}{K:PySem.W.Frag}{es:List Expr}{k0:Nat}{tp:Pos}{a b:Expr}{ta:TA}{p pos:Pos}(hK:X.K=K)(hg:Gl X "zip")(hm:X.mg "zip"=none)(ha:PA X [a,b] ta)(hs:starEach [a,b] X.env=[(false,eval a X.env),(false,eval b X.env)]:=by rfl)(hs2:starEach [b] X.env=[(false,eval b X.env)]:=by rfl):
    PI X (.Tuple es k0 tp) (.Call (.Name "zip" p) [a,b] [] pos) (yV K ta):=by
  intro pins s σ H R I h
  subst hK
  refine Call_ (dB I hg hm iq (PyProof.Rows.callWith_type1 (bO (ha pos pins s σ H _ I h) fun us s1 ⟨vs,H1,I1,r1,q1⟩=>?_) (by rw [hs,hs2]) (by rw [hs2];rfl)))
  obtain⟨a,b,e,⟨xs,qx⟩,⟨ys,qy⟩,q⟩:=q1
  subst e
  cases r1 with
  | cons r rr=>
    cases rr with
    | cons r' rr=>
      cases rr
      cases r
      cases r'
      obtain⟨i1,v1,p1,_⟩:=I1.list qx
      obtain⟨i2,v2,p2,_⟩:=I1.list qy
      refine qc p1.isList p2.isList fun g st hk=>wpAny_pyIter_zip st.1 ?_
      have I2:aA X pins σ H1 {s1 with heap:=g,toks:=s1.toks}:=I1.kept (t':=s1.toks) fun b o e=>hk b o e
      refine⟨s1.heap.objs.size+4,[s1.heap.objs.size+4,s1.heap.objs.size+2,s1.heap.objs.size+3,s1.heap.objs.size,s1.heap.objs.size+1],_,_,H1,rfl,I2,p9 a b (show((s1.heap.objs.size+3:Nat)≠s1.heap.objs.size+4) by lia) (show((s1.heap.objs.size:Nat)≠s1.heap.objs.size+4) by lia) (show((s1.heap.objs.size+1:Nat)≠s1.heap.objs.size+4) by lia) (show((s1.heap.objs.size+3:Nat)≠s1.heap.objs.size) by lia) (show((s1.heap.objs.size+3:Nat)≠s1.heap.objs.size+1) by lia) (show((s1.heap.objs.size:Nat)≠s1.heap.objs.size+1) by lia) (show((s1.heap.objs.size+2:Nat)≠s1.heap.objs.size+4) by lia) (show((s1.heap.objs.size+2:Nat)≠s1.heap.objs.size+3) by lia) (show((s1.heap.objs.size+2:Nat)≠s1.heap.objs.size) by lia) (show((s1.heap.objs.size+2:Nat)≠s1.heap.objs.size+1) by lia),st,fun c hc=>?_,q⟩
      have le:s1.heap.objs.size≤c:=by
        simp only [List.mem_cons,List.not_mem_nil,or_false] at hc
        rcases hc with rfl | rfl | rfl | rfl | rfl
        · exact Nat.le_add_right _ 4
        · exact Nat.le_add_right _ 2
        · exact Nat.le_add_right _ 3
        · exact Nat.le_refl _
        · exact Nat.le_add_right _ 1
      have f:=I1.fpOk (H':=H1) le (I1.hok.fresh le)
      exact f
end L2
namespace L2
open PySem PySem.Spec PyProof.Rows
theorem pS{X:Cx}{ix:Nat}{nm:Str}{posn poss:Pos}{elt iter tg:Expr}{ifs:List Expr}{scope:Scope}{pos:Pos}{wi:TI}{g:TG}{tc:TT}{te:TE}(sc0:Scope)(N0:List Str)(cp:List (Nat × Str))(tgN:List Str)
    (hc:X.calm=true)(hsc:X.env.scope=sc0)(hN0:X.N=N0)(hi:PI X tg iter wi)
    (hg:∀C s0 H0 fp,PG (aM X scope cp tgN C s0 H0 fp) tg g)
    (ht:∀C s0 H0 fp,sr (aM X scope cp tgN C s0 H0 fp) ifs tc)
    (he:∀C s0 H0 fp,PE (aM X scope cp tgN C s0 H0 fp) elt te)
    (hk:scope.kind=.function)(hcell:∀y∈scope.names,y.2≠.cell)(hnames:∀y∈scope.names,y.2=.local→scope.names.lookup y.1=some .local)
    (hfr:∀y∈scope.names,y.2=.free→scope.names.lookup y.1=some .free∧sc0.names.lookup y.1=some .cell)
    (hcp:∀p∈cp,N0[p.1]?=some p.2)(hcq:∀p∈cp,sc0.names.lookup p.2=some .cell∧scope.names.lookup p.2=some .free)
    (hNd:X.N.Nodup)(hix:X.N[ix]?=some nm)(hlc:X.env.scope.names.lookup nm=some .local)(hsw:swapsWith (.ListComp elt [⟨tg,iter,ifs,0⟩] scope pos) (some (.Name nm posn)) poss.line X.env=pure true)
    (hs:∀x,foldedSetIterable iter X.env x=pure x:=by intro _;rfl):
    PS X (.Assign [.Name nm posn] (.ListComp elt [⟨tg,iter,ifs,0⟩] scope pos) poss) (Ap (qS cp tgN.length wi g tc te) (tP ix)):=by
  intro pins s σ H D0 I h
  let Q:VK:=fun x H1=>D0.nx (σ.set ix (some x)) H1
  have h:qS cp tgN.length wi g tc te σ H Q:=h
  have hkind:∀x,X.env.kindOf x=sc0.names.lookup x:=fun x=>by unfold Env.kindOf;rw [hsc]
  have hfree:∀y∈scope.names,y.2=.free→∃c,X.env.cells.lookup y.1=some c:=fun y hy e=>I.ok.has y.1 (.inl (by rw [hkind];exact(hfr y hy e).2))
  rw [exec_Assign_Name_used _ _ _ _ hsw]
  refine wpAny_bind (wpAny_standAt (wpAny_bind ?_))
  unfold evalThenUse
  refine wpAny_bind ?_
  refine wpAny_comprehension_free (use:=some (assign (.Name nm posn) X.env)) rfl hs (j8 hfree) hk hnames (wpAny_mono (hi pins s σ H _ I h.go) (fun xv s₁ h₁=>wpAny_mono h₁ (fun itv s₂ h₂=>?_) fun _ _ e=>e) fun _ _ e=>e)
  obtain⟨it,fp,tn,J,H2,rfl,I2,T,st2,f2,hq⟩:=h₂
  refine wpAny_newObj_type ?_
  have hlF:H2 s₂.heap.objs.size=none:=I2.hok.fresh (Nat.le_refl _)
  have I3:aA X pins σ (aT H2 s₂.heap.objs.size (.lst [])) {s₂ with heap:=s₂.heap.push {cls:=.type "list",data:=.seq ([]:List Value).toArray}}:=I2.lnew (t':=s₂.toks) .nil (Nat.zero_le _)
  obtain⟨W,⟨m0,w0⟩,turn⟩:=hq _ hlF
  have f3:∀b∈fp,eI X pins (aT H2 s₂.heap.objs.size (.lst [])) b:=fun b hb=>by
    obtain⟨f0,fr⟩:=f2 b hb
    obtain⟨o,ho,_⟩:=T.obj _ _ st2 b hb
    exact⟨by rw [aE (Nat.ne_of_lt (Heap.lt_size ho))];exact f0,fr⟩
  have st3:tn 0 (s₂.heap.push {cls:=.type "list",data:=.seq ([]:List Value).toArray}):=T.keep _ _ _ st2 fun b _ o e=>Heap.get?_push_of_some _ e
  generalize hD:s₂.heap.objs.size=D at*
  generalize hs3:({s₂ with heap:=s₂.heap.push {cls:=.type "list",data:=.seq ([]:List Value).toArray}}:Shared)=s₃ at*
  have hst3:tn 0 s₃.heap:=by rw [←hs3];exact st3
  refine wpAny_newFunctionEnv hcell (by intro y hy;simp at hy) (fun h₁ hns₁ hsb₁=>?_) hk
  generalize hC:s₃.heap.objs.size=C at*
  have old:∀b o,s₃.heap.get? b=some o→h₁.get? b=some o:=fun b o e=>hsb₁.extBut b o (by rw [←hC];exact Nat.ne_of_lt (Heap.lt_size e)) (Heap.get?_push_of_some _ e)
  have nC:∀b o,s₃.heap.get? b=some o→b≠C:=fun b o e=>by rw [←hC];exact Nat.ne_of_lt (Heap.lt_size e)
  have hHC:(aT H2 D (.lst [])) C=none:=I3.hok.fresh (by rw [hC];exact Nat.le_refl _)
  have clS:∀x c,(fQ X.env scope.names []).lookup x=some c→X.env.cells.lookup x=some c:=fun x c e=>g_ _ _ x c hfree (fun _ _ z=>by simp at z) e
  have clH:∀x,(∃y∈scope.names,y.1=x∧y.2=.free)→∃c,(fQ X.env scope.names []).lookup x=some c:=fun x e=>j7 _ _ x (.inl e)
  have ok':(aM X scope cp tgN C s₃ (aT H2 D (.lst [])) fp).Ok:=by
    refine⟨I.ok.mod,hk,I.ok.glob,I.ok.blt,by rw [←hC];exact Nat.le_refl _,fun x y c e1 e2=>I.ok.inj x y c (clS _ _ e1) (clS _ _ e2),fun x e=>clH x (cO hcell e),fun x c e1 e2=>?_,I.ok.hd,I.ok.frames,.inl rfl,fun b hb=>?_,fun b o e=>I3.bs b o e,?_,fun b o e hb=>?_,fun b hb z=>?_,I3.stack,fun b hb=>I3.stkFree b hb⟩
    · exfalso
      have e1':scope.names.lookup x=some .local:=by simpa [aM] using e1
      have e2':=clS x c e2
      obtain⟨c',hc'⟩:∃y∈scope.names,y.1=x∧y.2=.free:=by
        by_cases q:∃y∈scope.names,y.1=x∧y.2=.free
        · exact q
        · exfalso
          have:∀(names:List (Str × NameKind)) (cs:List (Str × Addr)),(¬∃y∈names,y.1=x∧y.2=.free)→cs.lookup x=none→(fQ X.env names cs).lookup x=none:=by
            intro names
            induction names with
            | nil=>intro cs _ h;exact h
            | cons y r ih=>
              intro cs hn hcs
              obtain⟨n,k⟩:=y
              refine ih _ (fun⟨y,hy,z⟩=>hn ⟨y,List.mem_cons_of_mem _ hy,z⟩) ?_
              by_cases hk:(k==NameKind.free)=true
              · rw [if_pos hk,List.lookup_cons]
                cases hx:x==n with
                | true=>exact absurd ⟨(n,k),List.mem_cons_self,(by simpa using hx:x=n).symm,by simpa using hk⟩ hn
                | false=>exact hcs
              · rw [if_neg hk];exact hcs
          have z:=this scope.names [] q rfl
          have e2'':(fQ X.env scope.names []).lookup x=some c:=e2
          rw [z] at e2'';cases e2''
      have z:=(hfr c' hc'.1 hc'.2.2).1
      rw [hc'.2.1,e1'] at z;cases z
    · obtain⟨f0,f1,f4,f5,f6,f7⟩:=f3 b hb
      obtain⟨o,ho,_⟩:=T.obj _ _ hst3 b hb
      exact⟨nC b o ho,fun x c e=>f6 x c (clS x c e)⟩
    · exact Nat.le_trans I.ok.bsz I3.sz
    · obtain⟨f0,f1,f4,f5,f6,f7⟩:=f3 b hb
      rcases f5 with z | z
      · exact I.ok.noex b o e z
      · have:=(I.ok.bs b o e).1
        exact absurd (Nat.lt_of_lt_of_le (Heap.lt_size this) z) (Nat.lt_irrefl _)
    · obtain⟨f0,f1,f4,f5,f6,f7⟩:=f3 b hb
      rcases List.mem_cons.mp (I3.stkSub b z) with z | z
      · exact f1 z
      · exact f4 z
  have I4:aA (aM X scope cp tgN C s₃ (aT H2 D (.lst [])) fp) [] (fg cp tgN.length σ) (aT H2 D (.lst [])) {s₃ with heap:=h₁,toks:=s₃.toks+([]:List (Str × Value)).length}:=by
    refine⟨ok',rfl,I3.bare,Un.kept old,⟨_,hns₁,fun i x v e1 e2 e3=>?_⟩,fun x c e=>?_,hHC,fun x c e=>I3.freeC x c (clS x c e),fun p hp=>by simp [aM] at hp,I3.hok.kept old,by simp [fg,aM]⟩
    · have hlt:i < cp.length:=by
        by_cases q:i < cp.length
        · exact q
        · exfalso
          unfold fg at e2
          rw [List.getElem?_append_right (by simp;lia)] at e2
          rw [List.getElem?_replicate] at e2
          split at e2<;>cases e2
      have e1':(cp.map (·.2))[i]?=some x:=by
        have e1'':(cp.map (·.2)++tgN)[i]?=some x:=e1
        rwa [List.getElem?_append_left (by simp;exact hlt)] at e1''
      have e2':(cp.map (fun p=>(σ[p.1]?).join))[i]?=some (some v):=by
        unfold fg at e2
        rwa [List.getElem?_append_left (by simp;exact hlt)] at e2
      rw [List.getElem?_map,List.getElem?_eq_getElem hlt] at e1' e2'
      have ex:(cp[i]).2=x:=by simpa using e1'
      have ev:(σ[(cp[i]).1]?).join=some v:=by simpa using e2'
      have ev':σ[(cp[i]).1]?=some (some v):=by
        cases q:σ[(cp[i]).1]? with
        | none=>rw [q] at ev;cases ev
        | some z=>rw [q] at ev;simp only [Option.join_some] at ev;rw [ev]
      have hN:=hcp cp[i] (List.getElem_mem hlt)
      rw [←hN0] at hN
      obtain⟨hcl,hcf⟩:=hcq cp[i] (List.getElem_mem hlt)
      rw [ex] at hN hcl hcf
      obtain⟨m,hn,hl⟩:=I3.loc
      obtain⟨u,r,l⟩:=hl _ x v hN ev' (.inr (.inl (by rw [hsc];exact hcl)))
      refine⟨u,r,.inr ?_⟩
      rcases l with ⟨k1,_⟩ | ⟨k1,c,hcc,o,ho,hd⟩
      · rw [hkind,hcl] at k1;cases k1
      · have e3':(relabel scope X.env).names.lookup x=some .local∨(relabel scope X.env).names.lookup x=some .cell∨(relabel scope X.env).names.lookup x=some .free:=e3
        have nl:(relabel scope X.env).names.lookup x=some .cell∨(relabel scope X.env).names.lookup x=some .free:=by
          rcases e3' with z | z | z
          · exact absurd z (dF hcf)
          · exact .inl z
          · exact .inr z
        obtain⟨c',hc'⟩:=clH x (cO hcell nl)
        have:=clS x c' hc'
        rw [hcc] at this;cases this
        exact⟨nl,c,hc',o,old c o ho,hd⟩
    · obtain⟨v,o,ho,hd⟩:=I3.cell x c (clS x c e)
      exact⟨v,o,old c o ho,hd⟩
  have hst4:tn 0 h₁:=T.keep _ _ _ hst3 fun b _ o e=>old b o e
  have loop:codeAny (model X.prog X.w) X.A (.compLoop (.ListComp elt [⟨tg,iter,ifs,0⟩] scope pos) 0 (.ref it) (.ref D) (compEnvC scope (fQ X.env scope.names []) C X.env))
      (compPost (model X.prog X.w) X.A X.xe (some (assign (.Name nm posn) X.env)) (fun _ s'=>wpAny (model X.prog X.w) X.A (pure ()) (fun _ s''=>wpAny (model X.prog X.w) X.A (pure Flow.next) (SP X pins D0) X.xe s'') X.xe s') (.ref D) C) {s₃ with heap:=h₁,toks:=s₃.toks+([]:List (Str × Value)).length}:=by
    refine iy (fun n s'=>∃i σ' H',aA (aM X scope cp tgN C s₃ (aT H2 D (.lst [])) fp) [] σ' H' s'∧tn i s'.heap∧(∀b∈fp,H' b=none)∧W i n σ' H') ?_ (n0:=m0) ⟨0,_,_,I4,hst4,fun b hb=>(f3 b hb).1,w0⟩
    rintro n s5 ⟨i,σ5,H5,I5,st5,fr5,w5⟩
    have stat:∀{H':Hp},(∀b∈fp,H' b=none)→∀b∈fp,eI (aM X scope cp tgN C s₃ (aT H2 D (.lst [])) fp) [] H' b:=fun hn b hb=>
      ⟨hn b hb,(ok'.exf b hb).1,ok'.exfs b hb,.inl hb,(ok'.exf b hb).2,fun p hp=>by simp [aM] at hp⟩
    rcases turn i n σ5 H5 w5 with ⟨stop,qn⟩ | ⟨go,N,hN,step⟩
    · refine bO (T.done (aM X scope cp tgN C s₃ (aT H2 D (.lst [])) fp) rfl rfl rfl hc i [] s5 σ5 H5 (fun _ _=>False) I5 (stat fr5) st5 stop) fun r s6 ⟨hr,I6⟩=>?_
      subst hr
      refine⟨fun _=>?_,fun v z=>by cases z⟩
      obtain⟨m,hn,_⟩:=I6.loc
      have I7:aA X pins σ H5 s6:=by
        have key:∀h':Heap,Heap.SameBut C s6.heap h'→aA X pins σ H5 {s6 with heap:=h'}:=fun h' sb=>by
          have ub:=I6.base
          have kp:∀b u,b≠C→s6.heap.get? b=some u→h'.get? b=some u:=fun b u ne e=>sb.extBut b u ne e
          have nit:∀b u,H5 b=some u→b≠C:=fun b u e z=>by
            have:=I6.free
            rw [z] at e
            rw [show H5 C=none from this] at e;cases e
          refine I3.call' (s':={s6 with heap:=h'}) (ch:=fp) I6.os ⟨fun b o e n hb hx=>kp b o (nC b o e) (ub.keep b o e n hb hx),fun b o e n hb hx=>?_,ub.free,fun b o e hx=>?_,ub.tups,ub.frzs,ub.tbls⟩ (fun b u e=>?_) I6.bare (fun b hb=>?_)
          · obtain⟨sl,q⟩:=ub.slot b o e n hb hx
            exact⟨sl,kp b _ (nC b o e) q⟩
          · obtain⟨o',q⟩:=ub.there b o e hx
            exact⟨o',kp b _ (nC b o e) q⟩
          · refine(I6.hok b u e).stay (fun c v hc q=>kp c v ?_ q) (fun _ q=>q) fun _ _ q=>q
            rcases hc with z | z
            · rw [z];exact nit b u e
            · exact nit c _ z
          · obtain⟨f0,f1,f4,f5,f6,f7⟩:=f3 b hb
            exact⟨f5,f1,f6,f7⟩
        exact key s6.heap ⟨rfl,fun _ _=>rfl⟩
      have fC:eI X pins H5 C:=I3.fpOk (by rw [hC];exact Nat.le_refl _) I6.free
      show wpAny (model X.prog X.w) X.A (assign (.Name nm posn) X.env (.ref D)) _ X.xe s6
      refine wpAny_assign_Name (md (v:=.ref D) I7 hNd hix (Or.inl hlc) rfl (fun s' I' hsb=>?_) (Or.inr hlc))
      obtain⟨a,sb,ha⟩:=hsb
      have nCa:C≠a:=by
        rcases ha with z | z
        · rw [z];exact fC.2.1
        · exact fun e=>fC.2.2.2.2.1 _ _ z e.symm
      obtain⟨oN,esN,epN,hoN,rN⟩:=hn
      refine⟨m,⟨oN,esN,epN,(sb.2 C nCa).trans hoN,rN⟩,fun h' sb'=>wpAny_pure (wpAny_pure ?_)⟩
      have I8:aA X pins (σ.set ix (some (.ref D))) H5 {s' with heap:=h',toks:=s'.toks}:=I'.turnedL (t':=s'.toks) (fp:=[C]) (fun b hb=>by rw [List.mem_singleton.mp hb];exact fC) fun b o nb e=>sb'.extBut b o (by simpa using nb) e
      exact⟨_,H5,I8,qn⟩
    · refine bO (T.item (aM X scope cp tgN C s₃ (aT H2 D (.lst [])) fp) rfl rfl rfl hc i [] s5 σ5 H5 (fun _ _=>False) I5 (stat fr5) st5 go) fun r s6 ⟨u,hr,h6⟩=>?_
      subst hr
      refine⟨fun z=>(by cases z),fun v z=>?_⟩
      cases z
      refine bO h6 fun _ s7 ⟨x,H7,I7,r7,y7,st7,fr7⟩=>?_
      have I7':=I7.pinned (stat fr7) (T.obj _ _ st7)
      have again:∀{σ8:L2.St} {H8:Hp} {s8:Shared},aA (aM X scope cp tgN C s₃ (aT H2 D (.lst [])) fp) ([]++jj fp s7.heap) σ8 H8 s8→N σ8 H8→∃m,m < n∧∃i σ' H',aA (aM X scope cp tgN C s₃ (aT H2 D (.lst [])) fp) [] σ' H' s8∧tn i s8.heap∧(∀b∈fp,H' b=none)∧W i m σ' H':=fun{σ8 H8 s8} I8 n8=>by
        obtain⟨m',hm,w8⟩:=hN σ8 H8 n8
        refine⟨m',hm,i+1,σ8,H8,I8.unpinned,T.keep _ _ _ st7 fun b hb o e=>(I8.pin (b,o) (List.mem_append_right _ (List.mem_append_right _ (cZ hb e)))).1,fun b hb=>?_,w8⟩
        obtain⟨o,e,d⟩:=T.obj _ _ st7 b hb
        exact(I8.pin (b,o) (List.mem_append_right _ (List.mem_append_right _ (cZ hb e)))).2.1
      refine bO (hg C s₃ (aT H2 D (.lst [])) fp _ s7 σ5 H7 x u _ I7' r7 (step x H7 y7)) fun _ s8 ⟨σ8,H8,I8,q8⟩=>?_
      refine bO (ht C s₃ (aT H2 D (.lst [])) fp _ s8 σ8 H8 _ I8 q8) fun ok s9 ⟨H9,I9,q9⟩=>?_
      cases ok with
      | false=>
        rw [if_neg Bool.false_ne_true] at q9 ⊢
        exact again I9 q9
      | true=>
        rw [if_pos rfl] at q9 ⊢
        refine bO (he C s₃ (aT H2 D (.lst [])) fp _ s9 σ8 H9 _ I9 q9) fun v s10 ⟨xv,H10,I10,r10,ys,hl,hz,n10⟩=>?_
        refine bO (jh _ s10 σ8 H10 (.ref D) [xv] (.ref D) [v] (fun _ H=>N σ8 H) I10 rfl (.cons r10 .nil) ⟨D,ys,xv,rfl,rfl,hl,hz,n10⟩) fun _ s11 ⟨_,H11,I11,_,q11⟩=>?_
        exact again I11 q11
  exact codeAny_compStart_list loop (T.self X.A 0 _ _ _ hst4 loop)
end L2
namespace L2
open PySem PySem.Spec PyProof.Rows
mutual
def DA(K:PySem.W.Frag)(F:Hp):PyData→V→Prop
  | .none,v=>v=.non
  | .bool b,v=>v=.bl b
  | .int i,v=>v=.int i
  | .str x,v=>v=.str x
  | .tuple ds,v=>∃a xs,v=.ref a∧bB K F a xs∧aG K F ds xs
  | .list ds,v=>∃a xs,v=.ref a∧bR K F a xs∧aG K F ds xs
  | .dict kvs,v=>∃(a:Addr) (m:List (Int × Int)),v=.ref a∧F a=some (.dK (m.map fun p=>(Sum.inl p.1,V.int p.2)))∧kvs=m.map fun p=>(PyData.int p.1,PyData.int p.2)
def aG(K:PySem.W.Frag)(F:Hp):List PyData→List V→Prop
  | [],xs=>xs=[]
  | d::ds,xs=>∃x r,xs=x::r∧DA K F d x∧aG K F ds r
end
mutual
theorem DA.mono{K:PySem.W.Frag}{F F':Hp}(h:ax F F'):∀{d:PyData} {v:V},DA K F d v→DA K F' d v
  | .none,_,q=>by simp only [DA] at q ⊢;exact q
  | .bool b,_,q=>by simp only [DA] at q ⊢;exact q
  | .int i,_,q=>by simp only [DA] at q ⊢;exact q
  | .str x,_,q=>by simp only [DA] at q ⊢;exact q
  | .tuple ds,_,q=>by
    simp only [DA] at q ⊢
    obtain⟨a,xs,e,s,r⟩:=q
    exact⟨a,xs,e,h.tup s,aG.mono h r⟩
  | .list ds,_,q=>by
    simp only [DA] at q ⊢
    obtain⟨a,xs,e,s,r⟩:=q
    exact⟨a,xs,e,h.seq s,aG.mono h r⟩
  | .dict _,_,q=>by
    simp only [DA] at q ⊢
    obtain⟨a,m,e,s,k⟩:=q
    exact⟨a,m,e,h _ _ s,k⟩
theorem aG.mono{K:PySem.W.Frag}{F F':Hp}(h:ax F F'):∀{ds:List PyData} {xs:List V},aG K F ds xs→aG K F' ds xs
  | [],_,q=>by simp only [aG] at q ⊢;exact q
  | d::ds,_,q=>by
    simp only [aG] at q ⊢
    obtain⟨x,r,e,a,b⟩:=q
    exact⟨x,r,e,DA.mono h a,aG.mono h b⟩
end
section
variable{K:PySem.W.Frag}{F:Hp}
theorem aG.len:∀{ds:List PyData} {xs:List V},aG K F ds xs→ds.length=xs.length
  | [],_,q=>by simp only [aG] at q;subst q;rfl
  | d::ds,_,q=>by
    simp only [aG] at q
    obtain⟨x,r,e,a,b⟩:=q
    subst e
    simp [aG.len b]
theorem aG.get:∀{ds:List PyData} {xs:List V} {i:Nat} {d:PyData},aG K F ds xs→ds[i]?=some d→∃v,xs[i]?=some v∧DA K F d v
  | [],_,_,_,_,h=>by simp at h
  | d::ds,_,i,d',q,h=>by
    simp only [aG] at q
    obtain⟨x,r,e,a,b⟩:=q
    subst e
    cases i with
    | zero=>simp at h;subst h;exact⟨x,rfl,a⟩
    | succ i=>
      obtain⟨v,h1,h2⟩:=aG.get (i:=i) b (by simpa using h)
      exact⟨v,by simpa using h1,h2⟩
theorem aG.append:∀{ds es:List PyData} {xs ys:List V},aG K F ds xs→aG K F es ys→aG K F (ds++es) (xs++ys)
  | [],_,_,_,q,s=>by simp only [aG] at q;subst q;simpa using s
  | d::ds,es,_,ys,q,s=>by
    simp only [aG] at q
    obtain⟨x,r,e,a,b⟩:=q
    subst e
    simp only [List.cons_append,aG]
    exact⟨x,_,rfl,a,aG.append b s⟩
theorem aG.one{d:PyData}{v:V}(h:DA K F d v):aG K F [d] [v]:=by simp only [aG];exact⟨_,_,rfl,h,rfl⟩
theorem aG.nil:aG K F [] []:=by simp only [aG]
theorem aG.cons{d:PyData}{v:V}{ds:List PyData}{vs:List V}(h:DA K F d v)(r:aG K F ds vs):aG K F (d::ds) (v::vs):=by simp only [aG];exact⟨_,_,rfl,h,r⟩
theorem aG.drop:∀{ds:List PyData} {xs:List V} (n:Nat),aG K F ds xs→aG K F (ds.drop n) (xs.drop n)
  | _,_,0,q=>q
  | [],_,n+1,q=>by simp only [aG] at q;subst q;exact aG.nil
  | d::ds,_,n+1,q=>by
    simp only [aG] at q
    obtain⟨x,r,e,a,b⟩:=q
    subst e
    simpa using aG.drop n b
theorem aG.take:∀{ds:List PyData} {xs:List V} (n:Nat),aG K F ds xs→aG K F (ds.take n) (xs.take n)
  | _,_,0,q=>by simpa using aG.nil
  | [],_,n+1,q=>by simp only [aG] at q;subst q;exact aG.nil
  | d::ds,_,n+1,q=>by
    simp only [aG] at q
    obtain⟨x,r,e,a,b⟩:=q
    subst e
    simpa using aG.cons a (aG.take n b)
theorem aG.erase:∀{ds:List PyData} {xs:List V} (n:Nat),aG K F ds xs→aG K F (ds.eraseIdx n) (xs.eraseIdx n)
  | [],_,_,q=>by simp only [aG] at q;subst q;exact aG.nil
  | e::ds,_,n,q=>by
    simp only [aG] at q
    obtain⟨x,r,e,a,b⟩:=q
    subst e
    cases n with
    | zero=>exact b
    | succ n=>exact aG.cons a (aG.erase n b)
theorem aG.ints:∀{ns:List Int} {xs:List V},aG K F (ns.map .int) xs↔ xs=ns.map V.int
  | [],xs=>by simp [aG]
  | n::ns,xs=>by
    simp only [List.map_cons,aG,DA]
    constructor
    · rintro⟨x,r,e,rfl,q⟩;rw [e,aG.ints.mp q]
    · rintro rfl;exact⟨_,_,rfl,rfl,aG.ints.mpr rfl⟩
theorem aG.bools:∀{ns:List Bool} {xs:List V},aG K F (ns.map .bool) xs↔ xs=ns.map V.bl
  | [],xs=>by simp [aG]
  | n::ns,xs=>by
    simp only [List.map_cons,aG,DA]
    constructor
    · rintro⟨x,r,e,rfl,q⟩;rw [e,aG.bools.mp q]
    · rintro rfl;exact⟨_,_,rfl,rfl,aG.bools.mpr rfl⟩
theorem bC{i:Int}{v:V}:DA K F (.int i) v↔ v=.int i:=by simp only [DA]
theorem cx{b:Bool}{v:V}:DA K F (.bool b) v↔ v=.bl b:=by simp only [DA]
theorem gF{v:V}:DA K F .none v↔ v=.non:=by simp only [DA]
theorem mG{x:Str}{v:V}:DA K F (.str x) v↔ v=.str x:=by simp only [DA]
theorem ci{ds:List PyData}{v:V}:DA K F (.tuple ds) v↔ ∃a xs,v=.ref a∧bB K F a xs∧aG K F ds xs:=by simp only [DA]
theorem cz{ds:List PyData}{v:V}:DA K F (.list ds) v↔ ∃a xs,v=.ref a∧bR K F a xs∧aG K F ds xs:=by simp only [DA]
end
inductive Sv where
  | d (x:PyData)
  | l (xs:List PyData)
  /-- a list of lists that nobody else holds -/
  | n (xss:List (List PyData))
abbrev En:=List (Option Sv)
inductive Rv where
  | d (x:PyData)
  | l (xs:List PyData)
  | s (i:Nat)
def Fp(σ:L2.St)(e:En)(H:Hp)(i:Nat)(a:Addr):Prop:=(∃xs:List PyData,e[i]?=some (some (Sv.l xs))∧σ[i]?=some (some (.ref a)))∨
  ∃(xss:List (List PyData)) (l:Addr) (bs:List Addr),e[i]?=some (some (Sv.n xss))∧σ[i]?=some (some (.ref l))∧H l=some (.lst (bs.map V.ref))∧(a=l∨a∈bs)
def cU(σ:L2.St)(e:En)(H:Hp)(a:Addr):Prop:=∃i,Fp σ e H i a
structure aY (K:PySem.W.Frag) (F H:Hp) (σ:L2.St) (e:En):Prop where
  sm:ax F H
  len:σ.length=e.length
  dat:∀(i:Nat) (x:PyData),e[i]?=some (some (.d x))→∃v,σ[i]?=some (some v)∧DA K F x v
  own:∀(i:Nat) (xs:List PyData),e[i]?=some (some (.l xs))→∃l vs,σ[i]?=some (some (.ref l))∧F l=none∧H l=some (.lst vs)∧aG K F xs vs
  nst:∀(i:Nat) (xss:List (List PyData)),e[i]?=some (some (.n xss))→∃(l:Addr) (bs:List Addr),σ[i]?=some (some (.ref l))∧F l=none∧H l=some (.lst (bs.map V.ref))∧bs.length=xss.length∧bs.Nodup∧l∉bs∧
    ∀(k:Nat) (b:Addr) (ys:List PyData),bs[k]?=some b→xss[k]?=some ys→F b=none∧∃us,H b=some (.lst us)∧aG K F ys us
  fp:∀(i j:Nat) (a:Addr),Fp σ e H i a→Fp σ e H j a→i=j
theorem aY.inj{K:PySem.W.Frag}{F H:Hp}{σ:L2.St}{e:En}(R:aY K F H σ e)(i j:Nat)(xs ys:List PyData)(l:Addr)(h1:e[i]?=some (some (.l xs)))(h2:e[j]?=some (some (.l ys)))(h3:σ[i]?=some (some (.ref l)))(h4:σ[j]?=some (some (.ref l))):i=j:=R.fp i j l (.inl ⟨xs,h1,h3⟩) (.inl ⟨ys,h2,h4⟩)
theorem aY.fpAt{K:PySem.W.Frag}{F H:Hp}{σ:L2.St}{e:En}(R:aY K F H σ e){i:Nat}{a:Addr}(h:Fp σ e H i a):F a=none∧∃vs,H a=some (.lst vs):=by
  rcases h with ⟨xs,h1,h2⟩ | ⟨xss,l,bs,h1,h2,h3,h4⟩
  · obtain⟨l,vs,g1,g2,g3,_⟩:=R.own i xs h1
    rw [h2] at g1;cases g1
    exact⟨g2,vs,g3⟩
  · obtain⟨l',bs',g1,g2,g3,g4,g5,g6,g7⟩:=R.nst i xss h1
    rw [h2] at g1;cases g1
    rw [h3] at g3
    have e1:bs=bs':=by
      have:=HO.lst.inj (Option.some.inj g3)
      exact List.map_inj_right (fun _ _ z=>V.ref.inj z) |>.mp this
    subst e1
    rcases h4 with rfl | h4
    · exact⟨g2,_,h3⟩
    · obtain⟨k,hk⟩:=List.getElem?_of_mem h4
      have hk2:k < xss.length:=by rw [←g4];exact(List.getElem?_eq_some_iff.mp hk).1
      obtain⟨c1,us,c2,_⟩:=g7 k a xss[k] hk (List.getElem?_eq_getElem hk2)
      exact⟨c1,us,c2⟩
structure cT (σ:L2.St) (F H:Hp) (e:En) (F' H':Hp) (e':En):Prop where
  sf:ax F F'
  dom:∀a,H' a=none→H a=none
  fr:∀a vs,F a=none→H a=some (.lst vs)→¬cU σ e H a→F' a=none
  lst:∀a vs,H a=some (.lst vs)→∃vs',H' a=some (.lst vs')
  tmp:∀a o,H a=some o→¬cU σ e H a→H' a=some o
  shp:∀i:Nat,(∃xs,e'[i]?=some (some (.l xs)))↔ (∃xs,e[i]?=some (some (.l xs)))
  ow:∀a,cU σ e' H' a→cU σ e H a∨H a=none
theorem cT.refl(σ:L2.St)(F H:Hp)(e:En):cT σ F H e F H e:=⟨ax.refl _,fun _ h=>h,fun _ _ h _ _=>h,fun _ vs h=>⟨vs,h⟩,fun _ _ h _=>h,fun _=>Iff.rfl,fun _ h=>.inl h⟩
theorem cT.trans{σ:L2.St}{F H F1 H1 F2 H2:Hp}{e e1 e2:En}(x:cT σ F H e F1 H1 e1)(y:cT σ F1 H1 e1 F2 H2 e2):cT σ F H e F2 H2 e2:=
  ⟨x.sf.trans y.sf,fun a h=>x.dom a (y.dom a h),fun a vs h n no=>let ⟨vs',q⟩:=x.lst a vs n;y.fr a vs' (x.fr a vs h n no) q (fun z=>(x.ow a z).elim no fun z=>by rw [n] at z;cases z),fun a vs h=>let ⟨vs',q⟩:=x.lst a vs h;y.lst a vs' q,
    fun a o h n=>y.tmp a o (x.tmp a o h n) (fun z=>(x.ow a z).elim n fun z=>by rw [h] at z;cases z),fun i=>(y.shp i).trans (x.shp i),fun a h=>(y.ow a h).elim (x.ow a) fun z=>.inr (x.dom a z)⟩
def bM(K:PySem.W.Frag)(σ:L2.St)(H0 F H:Hp)(e:En):Rv→V→Prop
  | .d x,v=>DA K F x v
  | .l xs,v=>∃l vs,v=.ref l∧H0 l=none∧F l=none∧H l=some (.lst vs)∧aG K F xs vs∧¬cU σ e H l
  | .s i,v=>σ[i]?=some (some v)∧∃xs,e[i]?=some (some (.l xs))
section
variable{K:PySem.W.Frag}{σ:L2.St}{H0 F H F' H':Hp}{e e':En}{r:Rv}{v:V}
theorem bM.ext(h:bM K σ H0 F H e r v)(x:cT σ F H e F' H' e'):bM K σ H0 F' H' e' r v:=by
  cases r with
  | d y=>exact DA.mono x.sf h
  | l xs=>
    obtain⟨l,vs,e1,h1,h2,h3,h4,h5⟩:=h
    exact⟨l,vs,e1,h1,x.fr l _ h2 h3 h5,x.tmp l _ h3 h5,aG.mono x.sf h4,fun z=>(x.ow l z).elim h5 fun z=>by rw [h3] at z;cases z⟩
  | s i=>exact⟨h.1,(x.shp i).mpr h.2⟩
theorem bM.weak{H1:Hp}(h:bM K σ H1 F H e r v)(d:∀a,H1 a=none→H0 a=none):bM K σ H0 F H e r v:=by
  cases r with
  | d y=>exact h
  | l xs=>
    obtain⟨l,vs,e1,h1,r⟩:=h
    exact⟨l,vs,e1,d l h1,r⟩
  | s i=>exact h
theorem aY.ownH(R:aY K F H σ e)(a:Addr)(h:cU σ e H a):H a≠none:=by
  obtain⟨i,h⟩:=h
  obtain⟨_,vs,h2⟩:=R.fpAt h
  rw [h2];simp
theorem aY.freeF(R:aY K F H σ e){p:Addr}(hp:H p=none):F p=none:=R.sm.free hp
theorem vU(R:aY K F H σ e)(h:∀l bs,H l=some (.lst bs)→cU σ e H l→H' l=some (.lst bs)){i:Nat}{a:Addr}:Fp σ e H' i a↔ Fp σ e H i a:=by
  have key:∀xss l,e[i]?=some (some (.n xss))→σ[i]?=some (some (.ref l))→H' l=H l:=fun xss l h1 h2=>by
    obtain⟨l',bs,g1,g2,g3,_⟩:=R.nst i xss h1
    rw [h2] at g1;cases g1
    rw [g3]
    exact h l _ g3 ⟨i,.inr ⟨xss,l,bs,h1,h2,g3,.inl rfl⟩⟩
  constructor
  · rintro(h1 | ⟨xss,l,bs,h1,h2,h3,h4⟩)
    · exact .inl h1
    · exact .inr ⟨xss,l,bs,h1,h2,by rw [←key xss l h1 h2];exact h3,h4⟩
  · rintro(h1 | ⟨xss,l,bs,h1,h2,h3,h4⟩)
    · exact .inl h1
    · exact .inr ⟨xss,l,bs,h1,h2,by rw [key xss l h1 h2];exact h3,h4⟩
theorem aY.keep(R:aY K F H σ e)(sF:ax F F')(sm:ax F' H')(hf:∀a,cU σ e H a→F' a=none)(hh:∀a o,cU σ e H a→H a=some o→H' a=some o):aY K F' H' σ e∧∀a,cU σ e H' a↔ cU σ e H a:=by
  have fs:∀{i a},Fp σ e H' i a↔ Fp σ e H i a:=fun{i a}=>vU R fun l bs h1 h2=>hh l _ h2 h1
  refine⟨⟨sm,R.len,fun i x h=>let ⟨v,h1,h2⟩:=R.dat i x h;⟨v,h1,DA.mono sF h2⟩,fun i xs h=>?_,fun i xss h=>?_,fun i j a h1 h2=>R.fp i j a (fs.mp h1) (fs.mp h2)⟩,fun a=>⟨fun⟨i,h⟩=>⟨i,fs.mp h⟩,fun⟨i,h⟩=>⟨i,fs.mpr h⟩⟩⟩
  · obtain⟨l,vs,h1,h2,h3,h4⟩:=R.own i xs h
    have o:cU σ e H l:=⟨i,.inl ⟨xs,h,h1⟩⟩
    exact⟨l,vs,h1,hf l o,hh l _ o h3,h4.mono sF⟩
  · obtain⟨l,bs,h1,h2,h3,h4,h5,h6,h7⟩:=R.nst i xss h
    have o:cU σ e H l:=⟨i,.inr ⟨xss,l,bs,h,h1,h3,.inl rfl⟩⟩
    refine⟨l,bs,h1,hf l o,hh l _ o h3,h4,h5,h6,fun k b ys g1 g2=>?_⟩
    obtain⟨c1,us,c2,c3⟩:=h7 k b ys g1 g2
    have ob:cU σ e H b:=⟨i,.inr ⟨xss,l,bs,h,h1,h3,.inr (List.mem_of_getElem? g1)⟩⟩
    exact⟨hf b ob,us,hh b _ ob c2,c3.mono sF⟩
theorem aY.same(R:aY K F H σ e)(s:ax H H'):aY K F H' σ e∧cT σ F H e F H' e:=by
  obtain⟨R',o'⟩:=R.keep (ax.refl F) (R.sm.trans s) (fun a ⟨i,h⟩=>(R.fpAt h).1) fun a o _ h=>s a o h
  exact⟨R',⟨ax.refl _,fun a h=>s.free h,fun _ _ h _ _=>h,fun a vs h=>⟨vs,s _ _ h⟩,fun a o h _=>s a o h,fun _=>Iff.rfl,fun a h=>.inl ((o' a).mp h)⟩⟩
theorem aY.freeze(R:aY K F H σ e){p:Addr}{o:HO}(hF:F p=none)(hp:H p=some o)(hn:¬cU σ e H p):aY K (aT F p o) H σ e∧ax F (aT F p o):=by
  have sF:ax F (aT F p o):=ax.new hF
  refine⟨(R.keep sF (fun b u q=>?_) (fun a ha=>?_) fun _ _ _ h=>h).1,sF⟩
  · by_cases z:b=p
    · subst z;rw [ay] at q;cases q;exact hp
    · rw [aE z] at q;exact R.sm _ _ q
  · obtain⟨i,hi⟩:=ha
    have z:a≠p:=fun z=>hn ⟨i,by rw [←z];exact hi⟩
    rw [aE z];exact(R.fpAt hi).1
theorem aY.notOwn(R:aY K F H σ e){p:Addr}{o:HO}(hp:H p=some o)(hl:∀vs,o≠.lst vs):¬cU σ e H p:=fun⟨i,h⟩=>by
  obtain⟨_,vs,g⟩:=R.fpAt h
  rw [hp] at g;cases g
  exact hl _ rfl
theorem aY.newT(R:aY K F H σ e){p:Addr}{vs:List V}(hp:H p=none):aY K (aT F p (.tup vs)) (aT H p (.tup vs)) σ e∧cT σ F H e (aT F p (.tup vs)) (aT H p (.tup vs)) e:=by
  have hF:=R.freeF hp
  obtain⟨R1,X1⟩:=R.same (ax.new hp (o:=.tup vs))
  obtain⟨R2,s2⟩:=R1.freeze (p:=p) hF ay (R1.notOwn ay (fun _ z=>nomatch z))
  refine⟨R2,⟨s2,X1.dom,fun a ws h n _=>?_,X1.lst,X1.tmp,X1.shp,X1.ow⟩⟩
  have z:a≠p:=fun z=>by rw [z,hp] at n;cases n
  rw [aE z];exact h
theorem aY.sameOwn(R:aY K F H σ e)(s:ax H H')(a:Addr):cU σ e H' a↔ cU σ e H a:=(R.keep (ax.refl F) (R.sm.trans s) (fun a ⟨i,h⟩=>(R.fpAt h).1) fun a o _ h=>s a o h).2 a
theorem aY.newL(R:aY K F H σ e){p:Addr}{vs:List V}(hp:H p=none):aY K F (aT H p (.lst vs)) σ e∧cT σ F H e F (aT H p (.lst vs)) e∧F p=none∧¬cU σ e (aT H p (.lst vs)) p:=
  ⟨(R.same (ax.new hp)).1,(R.same (ax.new hp)).2,R.freeF hp,fun z=>R.ownH p ((R.sameOwn (ax.new hp) p).mp z) hp⟩
theorem aY.growT(R:aY K F H σ e){p:Addr}{xs:List V}(s:ax H H')(hp:bB K H' p xs):∃F',aY K F' H' σ e∧cT σ F H e F' H' e∧bB K F' p xs:=by
  obtain⟨R1,X1⟩:=R.same s
  rcases hp with hp | hp
  · have key:∀o,H' p=some o→(∀vs,o≠.lst vs)→(∀G:Hp,G p=some o→Rd G p (.tup xs))→∃F',aY K F' H' σ e∧cT σ F H e F' H' e∧bB K F' p xs:=by
      intro o ho hl hr
      cases q:F p with
      | some u=>
        have:=R1.sm _ _ q
        rw [ho] at this;cases this
        exact⟨F,R1,X1,.inl (hr F q)⟩
      | none=>
        obtain⟨R2,s2⟩:=R1.freeze q ho (R1.notOwn ho hl)
        refine⟨_,R2,⟨s2,X1.dom,fun a ws h n _=>?_,X1.lst,X1.tmp,X1.shp,X1.ow⟩,.inl (hr _ ay)⟩
        have z:a≠p:=fun z=>by rw [z] at n;rw [s _ _ n] at ho;cases ho;exact hl _ rfl
        rw [aE z];exact h
    rcases hp with hp | ⟨ob,hp⟩
    · exact key _ hp (fun _ z=>nomatch z) fun G g=>.inl g
    · exact key _ hp (fun _ z=>nomatch z) fun G g=>.inr ⟨ob,g⟩
  · exact⟨F,R1,X1,.inr hp⟩
theorem bM.frozen(R:aY K F H σ e){xs:List PyData}(h:bM K σ H0 F H e (.l xs) v):∃F',aY K F' H σ e∧ax F F'∧DA K F' (.list xs) v∧(∀a,F a=none→H0 a≠none→F' a=none):=by
  obtain⟨l,vs,rfl,h1,h2,h3,h4,h5⟩:=h
  obtain⟨R2,s2⟩:=R.freeze h2 h3 h5
  refine⟨_,R2,s2,?_,fun a ha hn=>?_⟩
  · rw [cz]
    exact⟨l,vs,rfl,.inl (.inl ay),aG.mono s2 h4⟩
  · have z:a≠l:=fun z=>hn (by rw [z];exact h1)
    rw [aE z];exact ha
def cw(e:En):Rv→Option (Bool × List PyData)
  | .d (.tuple xs)=>some (false,xs)
  | .d (.list xs)=>some (true,xs)
  | .l xs=>some (true,xs)
  | .s i=>match e[i]? with
    | some (some (.l xs))=>some (true,xs)
    | _=>none
  | _=>none
theorem bT(R:aY K F H σ e)(h:bM K σ H0 F H e r v){b:Bool}{xs:List PyData}(q:cw e r=some (b,xs)):
    ∃p vs,v=.ref p∧aG K F xs vs∧(if b=true then bR K H p vs else bB K H p vs):=by
  cases r with
  | d x=>
    cases x with
    | tuple ds=>
      cases q
      obtain⟨a,ys,e1,e2,e3⟩:=ci.mp h
      exact⟨a,ys,e1,e3,R.sm.tup e2⟩
    | list ds=>
      cases q
      obtain⟨a,ys,e1,e2,e3⟩:=cz.mp h
      exact⟨a,ys,e1,e3,R.sm.seq e2⟩
    | _=>cases q
  | l ys=>
    cases q
    obtain⟨l,vs,e1,h1,h2,h3,h4,_⟩:=h
    exact⟨l,vs,e1,h4,.inl (.inl h3)⟩
  | s i=>
    obtain⟨h1,ys,h2⟩:=h
    simp only [cw,h2] at q
    cases q
    obtain⟨l,vs,e1,e2,e3,e4⟩:=R.own i _ h2
    rw [h1] at e1;cases e1
    exact⟨l,vs,rfl,e4,.inl (.inl e3)⟩
end
end L2
namespace L2
open PySem PySem.Spec PyProof.Rows
abbrev FE:=En→Option (Rv × En)
abbrev FT:=En→Option (Bool × En)
abbrev FA:=En→Option (List Rv × En)
def cE(K:PySem.W.Frag)(σ:L2.St)(H0 F H:Hp)(e:En):List Rv→List V→Prop
  | [],vs=>vs=[]
  | r::rs,vs=>∃v ws,vs=v::ws∧bM K σ H0 F H e r v∧cE K σ H0 F H e rs ws
def fE(K:PySem.W.Frag)(f:FE):TE:=fun σ H Q=>∃F e r e',aY K F H σ e∧f e=some (r,e')∧∀F' H' v,cT σ F H e F' H' e'→aY K F' H' σ e'→bM K σ H F' H' e' r v→Q v H'
def fT(K:PySem.W.Frag)(f:FT):TT:=fun σ H Q=>∃F e b e',aY K F H σ e∧f e=some (b,e')∧∀F' H',cT σ F H e F' H' e'→aY K F' H' σ e'→Q b H'
def fA(K:PySem.W.Frag)(f:FA):TA:=fun σ H Q=>∃F e rs e',aY K F H σ e∧f e=some (rs,e')∧∀F' H' vs,cT σ F H e F' H' e'→aY K F' H' σ e'→cE K σ H F' H' e' rs vs→Q vs H'
theorem PE.mono{X:Cx}{e:Expr}{t t':TE}(h:PE X e t)(m:∀σ H Q,t' σ H Q→t σ H Q):PE X e t':=fun pins s σ H Q I q=>h pins s σ H Q I (m σ H Q q)
theorem PT.mono{X:Cx}{e:Expr}{t t':TT}(h:PT X e t)(m:∀σ H Q,t' σ H Q→t σ H Q):PT X e t':=fun pins s σ H Q I q=>h pins s σ H Q I (m σ H Q q)
theorem PW.mono{X:Cx}{e:Expr}{t t':TT}(h:PW X e t)(m:∀σ H Q,t' σ H Q→t σ H Q):PW X e t':=fun wh pins s σ H Q I q=>h wh pins s σ H Q I (m σ H Q q)
theorem PA.mono{X:Cx}{es:List Expr}{t t':TA}(h:PA X es t)(m:∀σ H Q,t' σ H Q→t σ H Q):PA X es t':=fun pos pins s σ H Q I q=>h pos pins s σ H Q I (m σ H Q q)
section
variable{K:PySem.W.Frag}{σ:L2.St}{H0 F H F' H':Hp}{e e':En}
theorem cE.weak{H1:Hp}(d:∀a,H1 a=none→H0 a=none):∀{rs:List Rv} {vs:List V},cE K σ H1 F H e rs vs→cE K σ H0 F H e rs vs
  | [],_,h=>h
  | r::rs,_,h=>by
    obtain⟨v,ws,rfl,h1,h2⟩:=h
    exact⟨v,ws,rfl,h1.weak d,cE.weak d h2⟩
theorem cT.frz{F'':Hp}(x:cT σ F H e F' H' e')(s:ax F' F'')(h:∀a,F' a=none→H a≠none→F'' a=none):cT σ F H e F'' H' e':=
  ⟨x.sf.trans s,x.dom,fun a vs h1 h2 h3=>h a (x.fr a vs h1 h2 h3) (by rw [h2];simp),x.lst,x.tmp,x.shp,x.ow⟩
def iA:List Rv→Option (List PyData)
  | []=>some []
  | .d x::rs=>(iA rs).map (x::·)
  | .l xs::rs=>(iA rs).map (.list xs::·)
  | .s _::_=>none
theorem cE.frozen:∀{rs:List Rv} {vs:List V} {ds:List PyData} {F:Hp},aY K F H σ e→cE K σ H0 F H e rs vs→iA rs=some ds→
    ∃F',aY K F' H σ e∧ax F F'∧aG K F' ds vs∧(∀a,F a=none→H0 a≠none→F' a=none)
  | [],_,_,F,R,h,q=>by
    cases q
    have h':_=[]:=h
    subst h'
    exact⟨F,R,ax.refl _,aG.nil,fun _ h _=>h⟩
  | .d x::rs,_,ds,F,R,h,q=>by
    obtain⟨v,ws,rfl,h1,h2⟩:=h
    obtain⟨ds',q1,rfl⟩:=Option.map_eq_some_iff.mp q
    obtain⟨F',R',s',d',f'⟩:=cE.frozen R h2 q1
    exact⟨F',R',s',.cons (DA.mono s' h1) d',f'⟩
  | .l xs::rs,_,ds,F,R,h,q=>by
    obtain⟨v,ws,rfl,h1,h2⟩:=h
    obtain⟨ds',q1,rfl⟩:=Option.map_eq_some_iff.mp q
    obtain⟨F',R',s',d',f'⟩:=cE.frozen R h2 q1
    obtain⟨l,us,rfl,g1,g2,g3,g4,g5⟩:=h1
    cases hl:F' l with
    | none=>
      have h1':bM K σ H0 F' H e (.l xs) (.ref l):=⟨l,us,rfl,g1,hl,g3,aG.mono s' g4,g5⟩
      obtain⟨F2,R2,s2,d2,f2⟩:=h1'.frozen R'
      exact⟨F2,R2,s'.trans s2,.cons d2 (aG.mono s2 d'),fun a ha hn=>f2 a (f' a ha hn) hn⟩
    | some o=>
      have:=R'.sm _ _ hl
      rw [g3] at this;cases this
      exact⟨F',R',s',.cons (cz.mpr ⟨l,us,rfl,.inl (.inl hl),aG.mono s' g4⟩) d',f'⟩
end
section
variable{X:Cx}{K:PySem.W.Frag}{a b c:Expr}{fa fb:FE}{ft fu:FT}{pos:Pos}{es:List Expr}{fs:FA}
def ag(i:Nat):FE:=fun e=>match e[i]? with
  | some (some (.d x))=>some (.d x,e)
  | some (some (.l _))=>some (.s i,e)
  | _=>none
def vC(x:PyData):FE:=fun e=>some (.d x,e)
theorem xE{i:Nat}{σ:L2.St}{H:Hp}{Q:VK}(h:fE K (ag i) σ H Q):Cy i σ H Q:=by
  obtain⟨F,e,r,e',R,hf,q⟩:=h
  unfold ag at hf
  match h1:e[i]?,hf with
  | some (some (.d x)),hf=>
    cases hf
    obtain⟨v,h2,h3⟩:=R.dat i x h1
    exact⟨v,h2,q F H v (cT.refl _ _ _ _) R h3⟩
  | some (some (.n _)),hf=>cases hf
  | some (some (.l xs)),hf=>
    cases hf
    obtain⟨l,vs,h2,h3⟩:=R.own i xs h1
    exact⟨_,h2,q F H _ (cT.refl _ _ _ _) R ⟨h2,xs,h1⟩⟩
  | some none,hf=>cases hf
  | none,hf=>cases hf
theorem qv(i:Nat){x:Str}{pos:Pos}(hN:X.N[i]?=some x)(hv:A9 X.env.scope x)(hd:(x==("__debug__":Str))=false)(hcd:(x==("__classdict__":Str))=false):PE X (.Name x pos) (fE K (ag i)):=(zM hN hv hd hcd).mono fun _ _ _ h=>xE h
theorem qV{x:PyData}{v:V}{σ:L2.St}{H:Hp}{Q:VK}(hx:∀F,DA K F x v)(h:fE K (vC x) σ H Q):tC v σ H Q:=by
  obtain⟨F,e,r,e',R,hf,q⟩:=h
  cases hf
  exact q F H v (cT.refl _ _ _ _) R (hx F)
theorem af{i j pos}:PE X (.Constant (.int i) j pos) (fE K (vC (.int i))):=pP.mono fun _ _ _ h=>qV (fun _=>bC.mpr rfl) h
theorem cv{b j pos}:PE X (.Constant (.bool b) j pos) (fE K (vC (.bool b))):=BR.mono fun _ _ _ h=>qV (fun _=>cx.mpr rfl) h
theorem uR{j pos}:PE X (.Constant .none j pos) (fE K (vC .none)):=zH.mono fun _ _ _ h=>qV (fun _=>gF.mpr rfl) h
theorem m4{x j pos}:PE X (.Constant (.str x) j pos) (fE K (vC (.str x))):=zK.mono fun _ _ _ h=>qV (fun _=>mG.mpr rfl) h
def fq(K:PySem.W.Frag)(r:R2)(g:En→Rv→Rv→Option Rv):Prop:=
  ∀(σ:L2.St) (H0 F H:Hp) (e:En) (x y z:Rv) (v u:V) (Q:VK),aY K F H σ e→bM K σ H0 F H e x v→bM K σ H0 F H e y u→g e x y=some z→
    (∀F' H' w,cT σ F H e F' H' e→aY K F' H' σ e→bM K σ H F' H' e z w→Q w H')→r v u H Q
def au(g:En→Rv→Rv→Option Rv)(fa fb:FE):FE:=fun e=>(fa e).bind fun p=>(fb p.2).bind fun q=>(g q.2 p.1 q.1).map fun z=>(z,q.2)
theorem nj{r:R2}{g:En→Rv→Rv→Option Rv}(ho:fq K r g){σ:L2.St}{H:Hp}{Q:VK}(h:fE K (au g fa fb) σ H Q):Ct r (fE K fa) (fE K fb) σ H Q:=by
  obtain⟨F,e,z,e2,R,hf,q⟩:=h
  unfold au at hf
  obtain⟨⟨x,e1⟩,h1,hf⟩:=Option.bind_eq_some_iff.mp hf
  obtain⟨⟨y,e2'⟩,h2,hf⟩:=Option.bind_eq_some_iff.mp hf
  obtain⟨z',h3,hf⟩:=Option.map_eq_some_iff.mp hf
  cases hf
  refine⟨F,e,x,e1,R,h1,fun F1 H1 v X1 R1 A1=>⟨F1,e1,y,_,R1,h2,fun F2 H2 u X2 R2 A2=>?_⟩⟩
  have X12:=X1.trans X2
  refine ho σ H F2 H2 _ x y _ v u Q R2 (A1.ext X2) (A2.weak X1.dom) h3 fun F3 H3 w X3 R3 A3=>?_
  exact q F3 H3 w (X12.trans X3) R3 (A3.weak X12.dom)
theorem jD{op:Operator}{r:R2}{g:En→Rv→Rv→Option Rv}(hr:eK X (binaryOp op) r)(ho:fq K r g)(ha:PE X a (fE K fa))(hb:PE X b (fE K fb)):PE X (.BinOp a op b pos) (fE K (au g fa fb)):=(BV hr ha hb).mono fun _ _ _ h=>nj ho h
theorem zZ{op:CmpOp}{r:R2}{g:En→Rv→Rv→Option Rv}(hr:eK X (compareOp op) r)(ho:fq K r g)(ha:PE X a (fE K fa))(hb:PE X b (fE K fb))(hm:behindInMarks op b=false):PE X (.Compare a [op] [b] pos) (fE K (au g fa fb)):=(wJ hr ha hb hm).mono fun _ _ _ h=>nj ho h
theorem B4{r:R2}{g:En→Rv→Rv→Option Rv}(hr:vG X r)(ho:fq K r g)(ha:PE X a (fE K fa))(hb:PE X b (fE K fb))(hs:mj b):PE X (.Subscript a b pos) (fE K (au g fa fb)):=(BU hr ha hb hs).mono fun _ _ _ h=>nj ho h
def oZ(g:En→Rv→Option Rv)(fa:FE):FE:=fun e=>(fa e).bind fun p=>(g p.2 p.1).map fun z=>(z,p.2)
def A8(K:PySem.W.Frag)(r:V→Hp→VK→Prop)(g:En→Rv→Option Rv):Prop:=
  ∀(σ:L2.St) (H0 F H:Hp) (e:En) (x z:Rv) (v:V) (Q:VK),aY K F H σ e→bM K σ H0 F H e x v→g e x=some z→
    (∀F' H' w,cT σ F H e F' H' e→aY K F' H' σ e→bM K σ H F' H' e z w→Q w H')→r v H Q
theorem vy{r:V→Hp→VK→Prop}{g:En→Rv→Option Rv}(ho:A8 K r g){σ:L2.St}{H:Hp}{Q:VK}(h:fE K (oZ g fa) σ H Q):DZ r (fE K fa) σ H Q:=by
  obtain⟨F,e,z,e2,R,hf,q⟩:=h
  unfold oZ at hf
  obtain⟨⟨x,e1⟩,h1,hf⟩:=Option.bind_eq_some_iff.mp hf
  obtain⟨z',h3,hf⟩:=Option.map_eq_some_iff.mp hf
  cases hf
  refine⟨F,e,x,_,R,h1,fun F1 H1 v X1 R1 A1=>?_⟩
  refine ho σ H F1 H1 _ x _ v Q R1 A1 h3 fun F3 H3 w X3 R3 A3=>?_
  exact q F3 H3 w (X1.trans X3) R3 (A3.weak X1.dom)
theorem B6{op:UnaryOp}{r:V→Hp→VK→Prop}{g:En→Rv→Option Rv}(hr:CQ X (unaryOp op) r)(ho:A8 K r g)(ha:PE X a (fE K fa)):PE X (.UnaryOp op a pos) (fE K (oZ g fa)):=(BY hr ha).mono fun _ _ _ h=>vy ho h
def eD:Rv→Option Bool
  | .d (.bool b)=>some b
  | _=>none
theorem dS{σ:L2.St}{H0 F H:Hp}{e:En}{r:Rv}{v:V}{b:Bool}(h:bM K σ H0 F H e r v)(q:eD r=some b):v=.bl b:=by
  unfold eD at q
  split at q
  · cases q;exact cx.mp (show DA K F (.bool _) v from h)
  · cases q
theorem de{σ:L2.St}{H0 F H:Hp}{e:En}{b:Bool}:bM K σ H0 F H e (.d (.bool b)) (.bl b):=(cx (K:=K) (F:=F)).mpr rfl
def aQ(f:FE):FT:=fun e=>(f e).bind fun p=>(eD p.1).map fun b=>(b,p.2)
theorem oY{σ:L2.St}{H:Hp}{Q:Bool→Hp→Prop}(h:fT K (aQ fa) σ H Q):fE K fa σ H fun x H'=>∃k,x=.bl k∧Q k H':=by
  obtain⟨F,e,b,e1,R,hf,q⟩:=h
  unfold aQ at hf
  obtain⟨⟨x,e1'⟩,h1,hf⟩:=Option.bind_eq_some_iff.mp hf
  obtain⟨b',h3,hf⟩:=Option.map_eq_some_iff.mp hf
  cases hf
  exact⟨F,e,x,_,R,h1,fun F1 H1 v X1 R1 A1=>⟨_,dS A1 h3,q F1 H1 X1 R1⟩⟩
theorem z_{op:CmpOp}{r:R2}{g:En→Rv→Rv→Option Rv}(hr:eK X (compareOp op) r)(ho:fq K r g)(ha:PE X a (fE K fa))(hb:PE X b (fE K fb))(hm:behindInMarks op b=false):PT X (.Compare a [op] [b] pos) (fT K (aQ (au g fa fb))):=
  (xb hr ha hb hm).mono fun σ H Q h=>by
    obtain⟨F,e,z,e2,R,hf,q⟩:=oY h
    exact nj ho ⟨F,e,z,e2,R,hf,q⟩
theorem cN{e:Expr}(h:PE X e (fE K fa))(he:∀whole,isTrue e X.env whole=(do let v ←whole;standAt e.pos;holding [v] (truthy v))):PT X e (fT K (aQ fa)):=(zW h he).mono fun _ _ _ h=>oY h
def lr(f g:FT):FT:=fun e=>(f e).bind fun p=>if p.1=true then g p.2 else some (false,p.2)
def sj(f g:FT):FT:=fun e=>(f e).bind fun p=>if p.1=true then some (true,p.2) else g p.2
def gC(f:FT):FT:=fun e=>(f e).map fun p=>(!p.1,p.2)
theorem xC{σ:L2.St}{H:Hp}{Q:Bool→Hp→Prop}(h:fT K (lr ft fu) σ H Q):Cm (fT K ft) (fT K fu) σ H Q:=by
  obtain⟨F,e,b,e1,R,hf,q⟩:=h
  unfold lr at hf
  obtain⟨⟨x,e1'⟩,h1,hf⟩:=Option.bind_eq_some_iff.mp hf
  refine⟨F,e,x,e1',R,h1,fun F1 H1 X1 R1=>?_⟩
  cases x with
  | true=>exact⟨F1,e1',b,e1,R1,hf,fun F2 H2 X2 R2=>q F2 H2 (X1.trans X2) R2⟩
  | false=>cases hf;exact q F1 H1 X1 R1
theorem AG{σ:L2.St}{H:Hp}{Q:Bool→Hp→Prop}(h:fT K (sj ft fu) σ H Q):DY (fT K ft) (fT K fu) σ H Q:=by
  obtain⟨F,e,b,e1,R,hf,q⟩:=h
  unfold sj at hf
  obtain⟨⟨x,e1'⟩,h1,hf⟩:=Option.bind_eq_some_iff.mp hf
  refine⟨F,e,x,e1',R,h1,fun F1 H1 X1 R1=>?_⟩
  cases x with
  | false=>exact⟨F1,e1',b,e1,R1,hf,fun F2 H2 X2 R2=>q F2 H2 (X1.trans X2) R2⟩
  | true=>cases hf;exact q F1 H1 X1 R1
theorem xD{σ:L2.St}{H:Hp}{Q:Bool→Hp→Prop}(h:fT K (gC ft) σ H Q):Cr (fT K ft) σ H Q:=by
  obtain⟨F,e,b,e1,R,hf,q⟩:=h
  unfold gC at hf
  obtain⟨⟨x,e1'⟩,h1,hf⟩:=Option.map_eq_some_iff.mp hf
  cases hf
  exact⟨F,e,x,_,R,h1,fun F1 H1 X1 R1=>q F1 H1 X1 R1⟩
variable{dr:List Expr}
theorem jW(ha:PT X a (fT K ft)):PW X (.BoolOp .And [a] pos) (fT K ft):=xh ha
theorem m6(ha:PT X a (fT K ft)):PW X (.BoolOp .Or [a] pos) (fT K ft):=zY ha
theorem kG(ha:PT X a (fT K ft))(hb:PW X (.BoolOp .And (b::dr) pos) (fT K fu)):PW X (.BoolOp .And (a::b::dr) pos) (fT K (lr ft fu)):=(zX ha hb).mono fun _ _ _ h=>xC h
theorem l0(ha:PT X a (fT K ft))(hb:PW X (.BoolOp .Or (b::dr) pos) (fT K fu)):PW X (.BoolOp .Or (a::b::dr) pos) (fT K (sj ft fu)):=(B2 ha hb).mono fun _ _ _ h=>AG h
theorem eG(ha:PT X a (fT K ft)):PT X (.UnaryOp .Not a pos) (fT K (gC ft)):=(zV ha).mono fun _ _ _ h=>xD h
theorem oB{e:Expr}(h:PW X e (fT K ft)):PT X e (fT K ft):=h.pt
def iZ(f g:FE):FE:=fun e=>(f e).bind fun p=>(eD p.1).bind fun b=>if b=true then g p.2 else some (.d (.bool false),p.2)
def rZ(f g:FE):FE:=fun e=>(f e).bind fun p=>(eD p.1).bind fun b=>if b=true then some (.d (.bool true),p.2) else g p.2
def oX(f:FE):FE:=fun e=>(f e).bind fun p=>(eD p.1).map fun b=>(.d (.bool (!b)),p.2)
theorem kB(ha:PE X a (fE K fa))(hb:PE X (.BoolOp .And (b::dr) pos) (fE K fb)):PE X (.BoolOp .And (a::b::dr) pos) (fE K (iZ fa fb)):=(zF ha hb).mono fun σ H Q h=>by
  obtain⟨F,e,z,e2,R,hf,q⟩:=h
  unfold iZ at hf
  obtain⟨⟨x,e1⟩,h1,hf⟩:=Option.bind_eq_some_iff.mp hf
  obtain⟨b,h2,hf⟩:=Option.bind_eq_some_iff.mp hf
  refine⟨F,e,x,e1,R,h1,fun F1 H1 v X1 R1 A1=>⟨b,dS A1 h2,?_⟩⟩
  cases b with
  | true=>exact⟨F1,e1,z,e2,R1,hf,fun F2 H2 w X2 R2 A2=>q F2 H2 w (X1.trans X2) R2 (A2.weak X1.dom)⟩
  | false=>cases hf;exact q F1 H1 _ X1 R1 de
theorem yn(ha:PE X a (fE K fa))(hb:PE X (.BoolOp .Or (b::dr) pos) (fE K fb)):PE X (.BoolOp .Or (a::b::dr) pos) (fE K (rZ fa fb)):=(BW ha hb).mono fun σ H Q h=>by
  obtain⟨F,e,z,e2,R,hf,q⟩:=h
  unfold rZ at hf
  obtain⟨⟨x,e1⟩,h1,hf⟩:=Option.bind_eq_some_iff.mp hf
  obtain⟨b,h2,hf⟩:=Option.bind_eq_some_iff.mp hf
  refine⟨F,e,x,e1,R,h1,fun F1 H1 v X1 R1 A1=>⟨b,dS A1 h2,?_⟩⟩
  cases b with
  | false=>exact⟨F1,e1,z,e2,R1,hf,fun F2 H2 w X2 R2 A2=>q F2 H2 w (X1.trans X2) R2 (A2.weak X1.dom)⟩
  | true=>cases hf;exact q F1 H1 _ X1 R1 de
theorem jn{op}(h:PE X a (fE K fa)):PE X (.BoolOp op [a] pos) (fE K fa):=zJ h
theorem z0(ha:PE X a (fE K fa)):PE X (.UnaryOp .Not a pos) (fE K (oX fa)):=(zI ha).mono fun σ H Q h=>by
  obtain⟨F,e,z,e2,R,hf,q⟩:=h
  unfold oX at hf
  obtain⟨⟨x,e1⟩,h1,hf⟩:=Option.bind_eq_some_iff.mp hf
  obtain⟨b,h2,hf⟩:=Option.map_eq_some_iff.mp hf
  cases hf
  exact⟨F,e,x,_,R,h1,fun F1 H1 v X1 R1 A1=>⟨b,dS A1 h2,q F1 H1 _ X1 R1 de⟩⟩
def D2(t:FT)(f g:FE):FE:=fun e=>(t e).bind fun p=>if p.1=true then f p.2 else g p.2
def aj:FA:=fun e=>some ([],e)
def ac(fa:FE)(fs:FA):FA:=fun e=>(fa e).bind fun p=>(fs p.2).map fun q=>(p.1::q.1,q.2)
theorem ae:PA X [] (fA K aj):=uq.mono fun σ H Q h=>by
  obtain⟨F,e,r,e',R,hf,q⟩:=h
  cases hf
  exact q F H [] (cT.refl _ _ _ _) R rfl
theorem Dt(ha:PE X a (fE K fa))(hr:PA X es (fA K fs))(h:PySem.W.isStarred a=false):PA X (a::es) (fA K (ac fa fs)):=(Dq ha hr h).mono fun σ H Q h=>by
  obtain⟨F,e,z,e2,R,hf,q⟩:=h
  unfold ac at hf
  obtain⟨⟨x,e1⟩,h1,hf⟩:=Option.bind_eq_some_iff.mp hf
  obtain⟨⟨xs,e2'⟩,h2,hf⟩:=Option.map_eq_some_iff.mp hf
  cases hf
  refine⟨F,e,x,e1,R,h1,fun F1 H1 v X1 R1 A1=>⟨F1,e1,xs,_,R1,h2,fun F2 H2 vs X2 R2 A2=>?_⟩⟩
  exact q F2 H2 (v::vs) (X1.trans X2) R2 ⟨v,vs,rfl,A1.ext X2,A2.weak X1.dom⟩
def aW(fs:FA):FE:=fun e=>(fs e).bind fun p=>(iA p.1).bind fun ds=>if ds.length≤1000 then some (.d (.tuple ds),p.2) else none
def bV(fs:FA):FE:=fun e=>(fs e).bind fun p=>(iA p.1).bind fun ds=>if ds.length≤1000 then some (.l ds,p.2) else none
theorem av{x1}(h:PA X es (fA K fs)):PE X (.Tuple es x1 pos) (fE K (aW fs)):=(zL h).mono fun σ H Q h=>by
  obtain⟨F,e,z,e2,R,hf,q⟩:=h
  unfold aW at hf
  obtain⟨⟨rs,e1⟩,h1,hf⟩:=Option.bind_eq_some_iff.mp hf
  obtain⟨ds,h2,hf⟩:=Option.bind_eq_some_iff.mp hf
  split at hf
  case isFalse=>cases hf
  case isTrue hl=>
  cases hf
  refine⟨F,e,rs,_,R,h1,fun F1 H1 vs X1 R1 A1=>?_⟩
  obtain⟨F2,R2,s2,d2,f2⟩:=cE.frozen R1 A1 h2
  have hlen:=d2.len
  refine⟨Nat.le_of_lt (ma (by lia)),fun p hp=>?_⟩
  obtain⟨R3,X3⟩:=R2.newT (vs:=vs) hp
  exact q _ _ _ ((X1.frz s2 f2).trans X3) R3 (ci.mpr ⟨p,vs,rfl,.inl (.inl ay),aG.mono X3.sf d2⟩)
theorem aS(h:PA X es (fA K fs)):PE X (.List es pos) (fE K (bV fs)):=(zG h).mono fun σ H Q h=>by
  obtain⟨F,e,z,e2,R,hf,q⟩:=h
  unfold bV at hf
  obtain⟨⟨rs,e1⟩,h1,hf⟩:=Option.bind_eq_some_iff.mp hf
  obtain⟨ds,h2,hf⟩:=Option.bind_eq_some_iff.mp hf
  split at hf
  case isFalse=>cases hf
  case isTrue hl=>
  cases hf
  refine⟨F,e,rs,_,R,h1,fun F1 H1 vs X1 R1 A1=>?_⟩
  obtain⟨F2,R2,s2,d2,f2⟩:=cE.frozen R1 A1 h2
  have hlen:=d2.len
  refine⟨Nat.le_of_lt (ma (by lia)),fun p hp=>?_⟩
  obtain⟨R3,X3,hF,no⟩:=R2.newL (vs:=vs) hp
  exact q _ _ _ ((X1.frz s2 f2).trans X3) R3 ⟨p,vs,rfl,X1.dom p hp,hF,ay,d2,no⟩
def ck(K:PySem.W.Frag)(r:List V→Hp→VK→Prop)(g:En→List Rv→Option Rv):Prop:=
  ∀(σ:L2.St) (H0 F H:Hp) (e:En) (xs:List Rv) (z:Rv) (vs:List V) (Q:VK),aY K F H σ e→cE K σ H0 F H e xs vs→g e xs=some z→
    (∀F' H' w,cT σ F H e F' H' e→aY K F' H' σ e→bM K σ H F' H' e z w→Q w H')→r vs H Q
def aL(g:En→List Rv→Option Rv)(fs:FA):FE:=fun e=>(fs e).bind fun p=>(g p.2 p.1).map fun z=>(z,p.2)
theorem oV{r:List V→Hp→VK→Prop}{g:En→List Rv→Option Rv}(ho:ck K r g){σ:L2.St}{H:Hp}{Q:VK}(h:fE K (aL g fs) σ H Q):Dw r (fA K fs) σ H Q:=by
  obtain⟨F,e,z,e2,R,hf,q⟩:=h
  unfold aL at hf
  obtain⟨⟨x,e1⟩,h1,hf⟩:=Option.bind_eq_some_iff.mp hf
  obtain⟨z',h3,hf⟩:=Option.map_eq_some_iff.mp hf
  cases hf
  refine⟨F,e,x,_,R,h1,fun F1 H1 vs X1 R1 A1=>?_⟩
  refine ho σ H F1 H1 _ x _ vs Q R1 A1 h3 fun F3 H3 w X3 R3 A3=>?_
  exact q F3 H3 w (X1.trans X3) R3 (A3.weak X1.dom)
theorem uQ{x:Str}{p pos:Pos}{id:String}{r:List V→Hp→VK→Prop}{g:En→List Rv→Option Rv}(hc:ce X (.builtin id) r)(ho:ck K r g)(hg:Gl X x)(hm:X.mg x=none)(hv:bootBuiltins x=some (.builtin id))(ha:PA X (a::es) (fA K fs))(hn:x≠"__name__")(hdb:(x==("__debug__":Str))=false)
    (he:starEach (a::es) X.env=(false,eval a X.env)::starEach es X.env)(hpl:(backTo pos (starEach es X.env)).any (·.1)=false):PE X (.Call (.Name x p) (a::es) [] pos) (fE K (aL g fs)):=(ou hc hg hm hv ha hn hdb he hpl).mono fun _ _ _ h=>oV ho h
theorem rQ{x:Str}{p pos:Pos}{T:String}{r:List V→Hp→VK→Prop}{g:En→List Rv→Option Rv}(hc:ce X (.type T) r)(ho:ck K r g)(hg:Gl X x)(hm:X.mg x=none)(hv:bootBuiltins x=some (.type T))(ha:PA X (a::es) (fA K fs))(hn:x≠"__name__")(hdb:(x==("__debug__":Str))=false)
    (he:starEach (a::es) X.env=(false,eval a X.env)::starEach es X.env)(hpl:(backTo pos (starEach es X.env)).any (·.1)=false):PE X (.Call (.Name x p) (a::es) [] pos) (fE K (aL g fs)):=(rM hc hg hm hv ha hn hdb he hpl).mono fun _ _ _ h=>oV ho h
end
end L2
namespace L2
open PySem PySem.Spec PyProof.Rows
mutual
theorem DA.reads{X:Cx}{pins:List (Addr × Obj)}{σ:L2.St}{H:Hp}{s:Shared}(I:aA X pins σ H s):∀{d:PyData} {v:V} {u:Value},d.canLay0=true→DA X.K H d v→bj v u→∃as,Reads s.heap u d as
  | .none,_,_,_,q,r=>by
    simp only [DA] at q;subst q;cases r;exact⟨_,.none⟩
  | .bool b,_,_,_,q,r=>by
    simp only [DA] at q;subst q;cases r;exact⟨_,.bool b⟩
  | .int i,_,_,_,q,r=>by
    simp only [DA] at q;subst q;obtain⟨t,rfl⟩:=r;exact⟨_,.int i t⟩
  | .str x,_,_,_,q,r=>by
    simp only [DA] at q;subst q;obtain⟨t,rfl⟩:=r;exact⟨_,.str x t⟩
  | .tuple ds,_,_,c,q,r=>by
    simp only [DA] at q
    obtain⟨a,xs,e,hs,rr⟩:=q
    subst e;cases r
    obtain⟨its,rv,⟨o,ho,hc,n,hd⟩,hz⟩:=I.tuple hs
    obtain⟨as,q⟩:=aG.reads I (by simpa [PyData.canLay0] using c) rr rv
    exact⟨_,.tuple ho hc hd q⟩
  | .list ds,_,_,c,q,r=>by
    simp only [DA] at q
    obtain⟨a,xs,e,hs,rr⟩:=q
    subst e;cases r
    obtain⟨its,rv,ht,hz⟩:=I.list hs
    obtain⟨o,ho,hc,n,hd⟩:=ht.isList
    obtain⟨as,q⟩:=aG.reads I (by simpa [PyData.canLay0] using c) rr rv
    exact⟨_,.list ho hc hd q⟩
  | .dict _,_,_,c,_,_=>by simp [PyData.canLay0] at c
theorem aG.reads{X:Cx}{pins:List (Addr × Obj)}{σ:L2.St}{H:Hp}{s:Shared}(I:aA X pins σ H s):∀{ds:List PyData} {xs:List V} {us:List Value},PyData.canLayAll0 ds=true→aG X.K H ds xs→aI xs us→∃as,ReadsAll s.heap us ds as
  | [],_,_,_,q,r=>by
    simp only [aG] at q;subst q;cases r;exact⟨_,.nil⟩
  | d::ds,_,_,c,q,r=>by
    simp only [aG] at q
    simp only [PyData.canLayAll0,Bool.and_eq_true] at c
    obtain⟨x,rr,e,a,b⟩:=q
    subst e
    cases r with
    | cons p p'=>
      obtain⟨as,q1⟩:=DA.reads I c.1 a p
      obtain⟨bs,q2⟩:=aG.reads I c.2 b p'
      exact⟨_,.cons q1 q2⟩
end
def fZ(e:En):Rv→Option PyData
  | .d x=>some x
  | .l xs=>some (.list xs)
  | .s i=>match e[i]? with
    | some (some (.l xs))=>some (.list xs)
    | _=>none
theorem iz{K:PySem.W.Frag}{σ:L2.St}{H0 F H:Hp}{e:En}{r:Rv}{v:V}{d:PyData}(R:aY K F H σ e)(h:bM K σ H0 F H e r v)(q:fZ e r=some d):DA K H d v:=by
  cases r with
  | d x=>cases q;exact DA.mono R.sm h
  | l xs=>
    cases q
    obtain⟨l,vs,rfl,h1,h2,h3,h4,_⟩:=h
    exact cz.mpr ⟨l,vs,rfl,.inl (.inl h3),aG.mono R.sm h4⟩
  | s i=>
    obtain⟨h1,ys,h2⟩:=h
    simp only [fZ,h2] at q
    cases q
    obtain⟨l,vs,e1,e2,e3,e4⟩:=R.own i _ h2
    rw [h1] at e1;cases e1
    exact cz.mpr ⟨l,vs,rfl,.inl (.inl e3),aG.mono R.sm e4⟩
section
variable{X:Cx}{K:PySem.W.Frag}
def bS:Rv→Option Int
  | .d (.int i)=>some i
  | _=>none
theorem bX{σ:L2.St}{H0 F H:Hp}{e:En}{r:Rv}{v:V}{i:Int}(h:bM K σ H0 F H e r v)(q:bS r=some i):v=.int i:=by
  unfold bS at q
  split at q
  · cases q;exact bC.mp (show DA K F (.int _) v from h)
  · cases q
theorem kL{σ:L2.St}{H0 F H:Hp}{e:En}{i:Int}:bM K σ H0 F H e (.d (.int i)) (.int i):=(bC (K:=K) (F:=F)).mpr rfl
def gI(C:Int→Int→Bool)(f:Int→Int→PyData):En→Rv→Rv→Option Rv:=fun _ x y=>(bS x).bind fun i=>(bS y).bind fun j=>if C i j=true then some (.d (f i j)) else none
theorem lX{C:Int→Int→Prop}{c:Int→Int→Bool}{g:Int→Int→V}{f:Int→Int→PyData}(hc:∀i j,c i j=true→C i j)(hf:∀F i j,DA K F (f i j) (g i j)):fq K (rI C g) (gI c f):=by
  intro σ H0 F H e x y z v u Q R A B hg q
  unfold gI at hg
  obtain⟨i,h1,hg⟩:=Option.bind_eq_some_iff.mp hg
  obtain⟨j,h2,hg⟩:=Option.bind_eq_some_iff.mp hg
  split at hg
  case isFalse=>cases hg
  case isTrue hh=>
  cases hg
  exact⟨i,j,bX A h1,bX B h2,hc i j hh,q F H _ (cT.refl _ _ _ _) R (hf F i j)⟩
theorem gu{g:Int→Int→V}{f:Int→Int→PyData}(hf:∀F i j,DA K F (f i j) (g i j)):fq K (pT g) (gI (fun _ _=>true) f):=by
  intro σ H0 F H e x y z v u Q R A B hg q
  obtain⟨i,j,h1,h2,h3,h4⟩:=lX (K:=K) (C:=fun _ _=>True) (c:=fun _ _=>true) (g:=g) (f:=f) (fun _ _ _=>trivial) hf σ H0 F H e x y z v u Q R A B hg q
  exact⟨i,j,h1,h2,h4⟩
def se(g g':En→Rv→Rv→Option Rv):En→Rv→Rv→Option Rv:=fun e x y=>(g e x y).or (g' e x y)
theorem fq.or{r r':R2}{g g':En→Rv→Rv→Option Rv}(h:fq K r g)(h':fq K r' g'):fq K (fun x y H Q=>r x y H Q∨r' x y H Q) (se g g'):=by
  intro σ H0 F H e x y z v u Q R A B hg q
  unfold se at hg
  cases e1:g e x y with
  | some w=>
    rw [e1] at hg
    cases hg
    exact .inl (h σ H0 F H e x y _ v u Q R A B e1 q)
  | none=>
    rw [e1] at hg
    exact .inr (h' σ H0 F H e x y _ v u Q R A B hg q)
def tj:=gI (fun _ _=>true) fun i j=>.int (i+j)
def f_:=gI (fun _ _=>true) fun i j=>.int (i - j)
def fK(i:Int):Bool:=decide (-(2 ^ 64) < i)&&decide (i < 2 ^ 64)
def Bf(n:Nat)(i:Int):Bool:=decide (i.natAbs < 2 ^ n)
theorem ir{n:Nat}{i:Int}:Bf n i=true↔ Bt n i:=by unfold Bf Bt;exact decide_eq_true_iff
def ji(i j:Int):Bool:=fK i || fK j || (Bf 4000 i&&Bf 4000 j)
def lP:=gI ji fun i j=>.int (i*j)
def bD:=gI (fun _ j=>j != 0&&Bf 8000 j) fun i j=>.int (i.fdiv j)
def aN:=gI (fun _ j=>j != 0) fun i j=>.int (i.fmod j)
def uJ(i j:Int):Bool:=decide (0≤j)&&decide (j≤1000000)&&fK i
def mL:=gI uJ fun i j=>.int (i ^ j.toNat)
theorem ie{i:Int}(h:fK i=true): -(2 ^ 64) < i∧i < 2 ^ 64:=by
  unfold fK at h
  rw [Bool.and_eq_true,decide_eq_true_iff,decide_eq_true_iff] at h
  exact h
theorem wX{i j:Int}(h:uJ i j=true):yv i j:=by
  unfold uJ at h
  rw [Bool.and_eq_true,Bool.and_eq_true,decide_eq_true_iff,decide_eq_true_iff] at h
  have:=ie h.2
  exact⟨h.1.1,h.1.2,by lia⟩
def qg(i j:Int):Prop:=vE i j∨xJ i j
theorem wD:eK X (binaryOp .Mult) (rI qg fun i j=>.int (i*j)):=by
  intro pins s σ H x y v u Q I rx ry h
  obtain⟨i,j,e1,e2,h1,q⟩:=h
  rcases h1 with h1 | h1
  · exact zz pins s σ H x y v u Q I rx ry ⟨i,j,e1,e2,h1,q⟩
  · exact wF pins s σ H x y v u Q I rx ry ⟨i,j,e1,e2,h1,q⟩
theorem wj{i j:Int}(h:ji i j=true):qg i j:=by
  unfold ji at h
  rw [Bool.or_eq_true,Bool.or_eq_true,Bool.and_eq_true] at h
  rcases h with (h | h) | h
  · exact .inl (.inl (ie h))
  · exact .inl (.inr (ie h))
  · exact .inr ⟨ir.mp h.1,ir.mp h.2⟩
theorem y9:fq K (rI qg fun i j=>.int (i*j)) lP:=lX (fun _ _ h=>wj h) fun _ _ _=>bC.mpr rfl
theorem Cj:fq K (pT fun i j=>.int (i - j)) f_:=gu fun _ _ _=>bC.mpr rfl
theorem yI:fq K (rI xI fun i j=>.int (i.fdiv j)) bD:=lX (fun i j h=>by
  rw [Bool.and_eq_true] at h
  exact⟨by simpa using h.1,ir.mp h.2⟩) fun _ _ _=>bC.mpr rfl
theorem BK:fq K (rI (fun _ j=>j≠0) fun i j=>.int (i.fmod j)) aN:=lX (fun i j h=>by simpa using h) fun _ _ _=>bC.mpr rfl
theorem B0:fq K (rI yv fun i j=>.int (i ^ j.toNat)) mL:=lX (fun _ _ h=>wX h) fun _ _ _=>bC.mpr rfl
def nO:En→Rv→Rv→Option Rv:=fun e x y=>match cw e x,cw e y with
  | some (false,xs),some (false,ys)=>if xs.length+ys.length≤1000000 then some (.d (.tuple (xs++ys))) else none
  | _,_=>none
theorem yF:fq K (uU K) nO:=by
  intro σ H0 F H e x y z v u Q R A B hg q
  unfold nO at hg
  match h1:cw e x,h2:cw e y,hg with
  | some (false,xs),some (false,ys),hg=>
    obtain⟨p,vs,rfl,d1,s1⟩:=bT R A h1
    obtain⟨p',us,rfl,d2,s2⟩:=bT R B h2
    dsimp only at hg
    split at hg
    case isFalse=>cases hg
    case isTrue hl=>
    cases hg
    have l1:=d1.len
    have l2:=d2.len
    have sl:sizeLine=16777216:=sizeLine_eq
    refine⟨p,p',vs,us,rfl,rfl,s1,s2,by lia,fun t H' sm hT=>?_⟩
    obtain⟨F',R',X',hF⟩:=R.growT sm hT
    exact q F' H' _ X' R' (ci.mpr ⟨t,_,rfl,hF,(d1.append d2).mono X'.sf⟩)
def pK(e:En):Rv→Option (List PyData)
  | .l xs=>some xs
  | .s i=>match e[i]? with
    | some (some (.l xs))=>some xs
    | _=>none
  | _=>none
theorem mR{σ:L2.St}{H0 F H:Hp}{e:En}{r:Rv}{v:V}(R:aY K F H σ e)(h:bM K σ H0 F H e r v){xs:List PyData}(q:pK e r=some xs):∃p vs,v=.ref p∧F p=none∧H p=some (.lst vs)∧aG K F xs vs:=by
  cases r with
  | d x=>cases q
  | l ys=>
    cases q
    obtain⟨l,vs,e1,h1,h2,h3,h4,_⟩:=h
    exact⟨l,vs,e1,h2,h3,h4⟩
  | s i=>
    obtain⟨h1,ys,h2⟩:=h
    simp only [pK,h2] at q
    cases q
    obtain⟨l,vs,e1,e2,e3,e4⟩:=R.own i _ h2
    rw [h1] at e1;cases e1
    exact⟨l,vs,rfl,e2,e3,e4⟩
def qr:En→Rv→Rv→Option Rv:=fun e x y=>(pK e x).bind fun xs=>(pK e y).bind fun ys=>if xs.length+ys.length≤1000000 then some (.l (xs++ys)) else none
theorem yE:fq K Aa qr:=by
  intro σ H0 F H e x y z v u Q R A B hg q
  unfold qr at hg
  obtain⟨xs,h1,hg⟩:=Option.bind_eq_some_iff.mp hg
  obtain⟨ys,h2,hg⟩:=Option.bind_eq_some_iff.mp hg
  split at hg
  case isFalse=>cases hg
  case isTrue hl=>
  cases hg
  obtain⟨p,vs,rfl,f1,s1,d1⟩:=mR R A h1
  obtain⟨p',us,rfl,f2,s2,d2⟩:=mR R B h2
  have l1:=d1.len
  have l2:=d2.len
  have sl:sizeLine=16777216:=sizeLine_eq
  refine⟨p,p',vs,us,rfl,rfl,s1,s2,by lia,fun t ht=>?_⟩
  obtain⟨R3,X3,hF,no⟩:=R.newL (vs:=vs++us) ht
  exact q _ _ _ X3 R3 ⟨t,_,rfl,ht,hF,ay,d1.append d2,no⟩
def a':En→Rv→Rv→Option Rv:=se tj (se nO qr)
def yo(K:PySem.W.Frag):R2:=fun x y H Q=>pT (fun i j=>.int (i+j)) x y H Q∨(uU K x y H Q∨Aa x y H Q)
theorem wy:eK X (binaryOp .Add) (yo X.K):=zq.or (wz.or zt)
theorem Ba:fq K (yo K) a':=fq.or (gu fun _ _ _=>bC.mpr rfl) (fq.or yF yE)
def lQ:En→Rv→Rv→Option Rv:=fun e x y=>match cw e x,bS y with
  | some (false,[d]),some k=>if 0≤k∧k≤100000 then some (.d (.tuple (List.replicate k.toNat d))) else none
  | _,_=>none
theorem aG.rep{F:Hp}{d:PyData}{v:V}(h:DA K F d v):∀n,aG K F (List.replicate n d) (List.replicate n v)
  | 0=>aG.nil
  | n+1=>aG.cons h (aG.rep h n)
theorem Af:fq K (uW K) lQ:=by
  intro σ H0 F H e x y z v u Q R A B hg q
  unfold lQ at hg
  match h1:cw e x,h2:bS y,hg with
  | some (false,[d]),some k,hg=>
    obtain⟨p,vs,rfl,d1,s1⟩:=bT R A h1
    dsimp only at hg
    split at hg
    case isFalse=>cases hg
    case isTrue hl=>
    cases hg
    have hd:=d1
    simp only [aG] at hd
    obtain⟨w,r,e1,hw,e2⟩:=hd
    subst e2 e1
    refine⟨p,k,w,rfl,bX B h2,s1,hl.1,hl.2,fun t H' sm hT=>?_⟩
    obtain⟨F',R',X',hF⟩:=R.growT sm hT
    exact q F' H' _ X' R' (ci.mpr ⟨t,_,rfl,hF,(aG.rep hw _).mono X'.sf⟩)
def qC:En→Rv→Rv→Option Rv:=fun e x y=>(pK e x).bind fun xs=>(bS y).bind fun k=>if -100000≤k∧k≤100000∧xs.length*k.toNat≤1000000 then some (.l (List.replicate k.toNat xs).flatten) else none
theorem aG.reps{F:Hp}{ds:List PyData}{vs:List V}(h:aG K F ds vs):∀n,aG K F (List.replicate n ds).flatten (List.replicate n vs).flatten
  | 0=>aG.nil
  | n+1=>by simpa [List.replicate_succ] using aG.append h (aG.reps h n)
theorem Ae:fq K Ad qC:=by
  intro σ H0 F H e x y z v u Q R A B hg q
  unfold qC at hg
  obtain⟨xs,h1,hg⟩:=Option.bind_eq_some_iff.mp hg
  obtain⟨k,h2,hg⟩:=Option.bind_eq_some_iff.mp hg
  split at hg
  case isFalse=>cases hg
  case isTrue hl=>
  cases hg
  obtain⟨p,vs,rfl,f1,s1,d1⟩:=mR R A h1
  have l1:=d1.len
  have sl:sizeLine=16777216:=sizeLine_eq
  refine⟨p,k,vs,rfl,bX B h2,s1,by lia,by lia,by rw [←l1];lia,fun t ht=>?_⟩
  obtain⟨R3,X3,hF,no⟩:=R.newL (vs:=(List.replicate k.toNat vs).flatten) ht
  exact q _ _ _ X3 R3 ⟨t,_,rfl,ht,hF,ay,aG.reps d1 _,no⟩
def eF:En→Rv→Rv→Option Rv:=se lP (se lQ qC)
def yp(K:PySem.W.Frag):R2:=fun x y H Q=>rI qg (fun i j=>.int (i*j)) x y H Q∨(uW K x y H Q∨Ad x y H Q)
theorem wC:eK X (binaryOp .Mult) (yp X.K):=wD.or (wG.or zC)
theorem BL:fq K (yp K) eF:=fq.or y9 (fq.or Af Ae)
def tN:=gI (fun _ _=>true) fun i j=>.bool (decide (i < j))
def Ec:=gI (fun _ _=>true) fun i j=>.bool (decide (i≤j))
def vY:=gI (fun _ _=>true) fun i j=>.bool (decide (j < i))
def yK:=gI (fun _ _=>true) fun i j=>.bool (decide (j≤i))
theorem Dp:fq K (pT fun i j=>.bl (decide (i < j))) tN:=gu fun _ _ _=>cx.mpr rfl
theorem Df:fq K (pT fun i j=>.bl (decide (j < i))) vY:=gu fun _ _ _=>cx.mpr rfl
theorem De:fq K (pT fun i j=>.bl (decide (j≤i))) yK:=gu fun _ _ _=>cx.mpr rfl
def Ab(K:PySem.W.Frag)(neg:Bool):R2:=fun x y H Q=>∃a b,DA K H a x∧DA K H b y∧SeqAt.shaped a=true∧SeqAt.shaped b=true∧Q (.bl (if neg then !PyData.eqv a b else PyData.eqv a b)) H
theorem zu{k:Nat}(hr:bU k X.A):eK X (compareOp .Eq) (Ab X.K false):=by
  intro pins s σ H x y v u Q I rx ry h
  obtain⟨a,b,ha,hb,s1,s2,q⟩:=h
  obtain⟨as,ra⟩:=DA.reads I (SeqAt.canLay_of_shaped s1) ha rx
  obtain⟨bs,rb⟩:=DA.reads I (SeqAt.canLay_of_shaped s2) hb ry
  exact SeqAt.compareEq_shaped ra rb s1 s2 hr.units ⟨.bl _,H,I,rfl,q⟩
theorem zA{k:Nat}(hr:bU k X.A):eK X (compareOp .NotEq) (Ab X.K true):=by
  intro pins s σ H x y v u Q I rx ry h
  obtain⟨a,b,ha,hb,s1,s2,q⟩:=h
  obtain⟨as,ra⟩:=DA.reads I (SeqAt.canLay_of_shaped s1) ha rx
  obtain⟨bs,rb⟩:=DA.reads I (SeqAt.canLay_of_shaped s2) hb ry
  exact SeqAt.compareNe_shaped ra rb s1 s2 hr.units ⟨.bl _,H,I,rfl,q⟩
def cD(neg:Bool):En→Rv→Rv→Option Rv:=fun e x y=>(fZ e x).bind fun a=>(fZ e y).bind fun b=>if (SeqAt.shaped a&&SeqAt.shaped b)=true then some (.d (.bool (if neg then !PyData.eqv a b else PyData.eqv a b))) else none
theorem xY{neg:Bool}:fq K (Ab K neg) (cD neg):=by
  intro σ H0 F H e x y z v u Q R A B hg q
  unfold cD at hg
  obtain⟨a,h1,hg⟩:=Option.bind_eq_some_iff.mp hg
  obtain⟨b,h2,hg⟩:=Option.bind_eq_some_iff.mp hg
  split at hg
  case isFalse=>cases hg
  case isTrue hl=>
  cases hg
  rw [Bool.and_eq_true] at hl
  exact⟨a,b,iz R A h1,iz R B h2,hl.1,hl.2,q F H _ (cT.refl _ _ _ _) R de⟩
def Ac(K:PySem.W.Frag)(neg:Bool):R2:=fun x y H Q=>∃a xs,DA K H a x∧(DA K H (.list xs) y∨DA K H (.tuple xs) y)∧a.canLay0=true∧a.depth≤60∧PyData.canLayAll0 xs=true∧Q (.bl (if neg then !(xs.any fun y=>PyData.eqv y a) else xs.any fun y=>PyData.eqv y a)) H
theorem zv{k:Nat}(hr:bU k X.A):eK X (compareOp .In) (Ac X.K false):=by
  intro pins s σ H x y v u Q I rx ry h
  obtain⟨a,xs,ha,hb,s1,s2,s3,q⟩:=h
  obtain⟨as,ra⟩:=DA.reads I s1 ha rx
  have hu:=hr.units
  rcases hb with hb | hb
  · obtain⟨bs,rb⟩:=DA.reads I (by simpa [PyData.canLay0] using s3) hb ry
    exact PySem.SeqAt.in_list_reads rb ra s3 s1 (by lia) ⟨.bl _,H,I,rfl,q⟩
  · obtain⟨bs,rb⟩:=DA.reads I (by simpa [PyData.canLay0] using s3) hb ry
    exact PySem.SeqAt.in_tuple_reads rb ra s3 s1 (by lia) ⟨.bl _,H,I,rfl,q⟩
theorem rL{k:Nat}(hr:bU k X.A):eK X (compareOp .NotIn) (Ac X.K true):=by
  intro pins s σ H x y v u Q I rx ry h
  obtain⟨a,xs,ha,hb,s1,s2,s3,q⟩:=h
  obtain⟨as,ra⟩:=DA.reads I s1 ha rx
  have hu:=hr.units
  rcases hb with hb | hb
  · obtain⟨bs,rb⟩:=DA.reads I (by simpa [PyData.canLay0] using s3) hb ry
    exact PySem.SeqAt.notIn_list_reads rb ra s3 s1 (by lia) ⟨.bl _,H,I,rfl,q⟩
  · obtain⟨bs,rb⟩:=DA.reads I (by simpa [PyData.canLay0] using s3) hb ry
    exact PySem.SeqAt.notIn_tuple_reads rb ra s3 s1 (by lia) ⟨.bl _,H,I,rfl,q⟩
def k9(neg:Bool):En→Rv→Rv→Option Rv:=fun e x y=>(fZ e x).bind fun a=>(cw e y).bind fun p=>if (a.canLay0&&decide (a.depth≤60)&&PyData.canLayAll0 p.2)=true then some (.d (.bool (if neg then !(p.2.any fun y=>PyData.eqv y a) else p.2.any fun y=>PyData.eqv y a))) else none
theorem Br{neg:Bool}:fq K (Ac K neg) (k9 neg):=by
  intro σ H0 F H e x y z v u Q R A B hg q
  unfold k9 at hg
  obtain⟨a,h1,hg⟩:=Option.bind_eq_some_iff.mp hg
  obtain⟨⟨b,xs⟩,h2,hg⟩:=Option.bind_eq_some_iff.mp hg
  split at hg
  case isFalse=>cases hg
  case isTrue hl=>
  cases hg
  rw [Bool.and_eq_true,Bool.and_eq_true,decide_eq_true_iff] at hl
  obtain⟨p,vs,rfl,d1,s1⟩:=bT R B h2
  refine⟨a,xs,iz R A h1,?_,hl.1.1,hl.1.2,hl.2,q F H _ (cT.refl _ _ _ _) R de⟩
  cases b with
  | true=>exact .inl (cz.mpr ⟨p,vs,rfl,s1,d1.mono R.sm⟩)
  | false=>exact .inr (ci.mpr ⟨p,vs,rfl,s1,d1.mono R.sm⟩)
def mQ:PyData→Bool
  | .none=>true
  | _=>false
theorem rh{F:Hp}{d:PyData}{v:V}(h:DA K F d v):decide (v=.non)=mQ d:=by
  cases d with
  | none=>rw [gF.mp h];rfl
  | bool b=>rw [cx.mp h];rfl
  | int b=>rw [bC.mp h];rfl
  | str b=>rw [mG.mp h];rfl
  | tuple b=>obtain⟨a,_,e,_⟩:=ci.mp h;rw [e];rfl
  | list b=>obtain⟨a,_,e,_⟩:=cz.mp h;rw [e];rfl
  | dict b=>simp only [DA] at h;obtain⟨a,m,rfl,_⟩:=h;rfl
def yN(neg:Bool):En→Rv→Rv→Option Rv:=fun e x y=>(fZ e x).bind fun a=>match y with
  | .d .none=>some (.d (.bool (if neg then !mQ a else mQ a)))
  | _=>none
def yM(neg:Bool):En→Rv→Rv→Option Rv:=fun e x y=>(eD x).bind fun a=>(eD y).bind fun b=>some (.d (.bool (if neg then !(a==b) else a==b)))
theorem Bw:fq K (fun x y H Q=>y=.non∧Q (.bl (decide (x=.non))) H) (yN false):=by
  intro σ H0 F H e x y z v u Q R A B hg q
  unfold yN at hg
  obtain⟨a,h1,hg⟩:=Option.bind_eq_some_iff.mp hg
  split at hg
  · cases hg
    refine⟨gF.mp (show DA K F .none u from B),?_⟩
    rw [rh (iz R A h1)]
    exact q F H _ (cT.refl _ _ _ _) R de
  · cases hg
theorem Bv:fq K (fun x y H Q=>∃b c,x=.bl b∧y=.bl c∧Q (.bl (b==c)) H) (yM false):=by
  intro σ H0 F H e x y z v u Q R A B hg q
  unfold yM at hg
  obtain⟨a,h1,hg⟩:=Option.bind_eq_some_iff.mp hg
  obtain⟨b,h2,hg⟩:=Option.bind_eq_some_iff.mp hg
  cases hg
  exact⟨a,b,dS A h1,dS B h2,q F H _ (cT.refl _ _ _ _) R de⟩
def yd:En→Rv→Rv→Option Rv:=se (yN false) (yM false)
def B8:R2:=fun x y H Q=>(y=.non∧Q (.bl (decide (x=.non))) H)∨∃b c,x=.bl b∧y=.bl c∧Q (.bl (b==c)) H
theorem zw:eK X (compareOp .Is) B8:=zy.or zx
theorem Dl:fq K B8 yd:=fq.or Bw Bv
def cg:En→Rv→Rv→Option Rv:=fun e x y=>(cw e x).bind fun p=>(bS y).bind fun i=>(atI p.2 i).map .d
def B9(K:PySem.W.Frag):R2:=fun x y H Q=>B_ K x y H Q∨B' K x y H Q
theorem Dm:vG X (B9 X.K):=wb.or yZ
theorem aG.atI{F:Hp}{ds:List PyData}{vs:List V}(h:aG K F ds vs){i:Int}{d:PyData}(q:atI ds i=some d):∃v,L2.atI vs i=some v∧DA K F d v:=by
  unfold L2.atI at q ⊢
  obtain⟨j,h1,h2⟩:=Option.bind_eq_some_iff.mp q
  obtain⟨v,h3,h4⟩:=h.get h2
  exact⟨v,by rw [←h.len,h1];exact h3,h4⟩
theorem Dn:fq K (B9 K) cg:=by
  intro σ H0 F H e x y z v u Q R A B hg q
  unfold cg at hg
  obtain⟨⟨b,xs⟩,h1,hg⟩:=Option.bind_eq_some_iff.mp hg
  obtain⟨i,h2,hg⟩:=Option.bind_eq_some_iff.mp hg
  obtain⟨d,h3,hg⟩:=Option.map_eq_some_iff.mp hg
  cases hg
  obtain⟨p,vs,rfl,d1,s1⟩:=bT R A h1
  obtain⟨w,h4,h5⟩:=d1.atI h3
  have fin:=q F H w (cT.refl _ _ _ _) R h5
  cases b with
  | true=>exact .inl ⟨p,vs,i,w,rfl,bX B h2,s1,h4,fin⟩
  | false=>exact .inr ⟨p,vs,i,w,rfl,bX B h2,s1,h4,fin⟩
end
end L2
namespace HT
open PySem PySem.Spec PyProof.Rows
section
variable{prog:Program}{w:World}{A:Around}{E:Value→Shared→Prop}{s:Shared}
theorem getItem_tuple_all{t sl:Addr}{items:Array Value}{vl vu:Value}{lo hi:Option Int}{Q:Value→Shared→Prop}(ht:IsTup s.heap t items)(hs:s.heap.IsSliceOf sl vl vu .none)(pl:IsPart vl lo)(pu:IsPart vu hi)
    (hw:sIx items.size 0 lo=0∧sIx items.size items.size hi=items.size)
    (h:Q (.ref t) s):wpAny (model prog w) A (getItem (.ref t) (.ref sl)) Q E s:=by
  obtain⟨os,hos,hcs,hds⟩:=id hs
  have hTs:s.TypeIs (.ref sl) "slice":=⟨os,hos,hcs⟩
  unfold getItem
  try with_reducible refine wpAny_holding ?_
  first | refine wpAny_bind (wpAny_pure ?_) | skip
  refine wpAny_bind (wpAny_sequenceKey ht.typeIs (by decide) ?_)
  refine wpAny_bind (wpAny_callSpecial?_slot (name:=Str.ofString "__getitem__") ht.typeIs PyProof.Rows.slot_tuple_getitem
    (wpAny_call_entry PyProof.Rows.slot_tuple_getitem ht.typeIs entry_tuple_getitem ?_ (args_tuple_getitem _ _)))
  show wpAny _ _ (Builtin.Tuple.tupleItemsOf (.ref t) >>= _) _ _ s
  refine wpAny_bind (tupleItemsOf_ ht ?_)
  refine wpAny_bind (wpAny_typeOf hTs ?_)
  rw [if_pos (by decide)]
  refine wpAny_bind (fj hs pl pu ?_)
  have hno:(((sIx items.size 0 lo:Nat):Int)==0&&(1:Int)==1&&(sIx items.size items.size hi - sIx items.size 0 lo)==items.size)=true:=by
    rw [hw.1,hw.2];simp
  show wpAny _ _ (if (((sIx items.size 0 lo:Nat):Int)==0&&(1:Int)==1&&(sIx items.size items.size hi - sIx items.size 0 lo)==items.size)=true then _ else _) _ _ s
  rw [if_pos hno]
  unfold Builtin.Tuple.tupleIsExact
  refine wpAny_bind (wpAny_bind (wpAny_typeOf ht.typeIs (wpAny_pure ?_)))
  rw [if_pos (by decide)]
  exact wpAny_bind (wpAny_rule (wpAny_pure ⟨_,rfl,wpAny_pure h⟩))
end
end HT
namespace L2
open PySem PySem.Spec PyProof.Rows
section
variable{X:Cx}{K:PySem.W.Frag}{a:Expr}{fa:FE}{lo hi:Option Expr}{pos p2:Pos}
def cutD(xs:List PyData)(lo hi:Option Int):List PyData:=(xs.drop (HT.sIx xs.length 0 lo)).take (HT.sIx xs.length xs.length hi - HT.sIx xs.length 0 lo)
def Cc(K:PySem.W.Frag):V→Option Int→Option Int→Hp→VK→Prop:=fun x lo hi H Q=>∃a xs,x=.ref a∧bB K H a xs∧
  (HT.sIx xs.length 0 lo=0∧HT.sIx xs.length xs.length hi=xs.length)∧Q (.ref a) H
theorem xq:vH X (Cc X.K):=by
  intro pins s σ H x v vl vu lo hi sl Q I rx hs pl pu h
  obtain⟨a,xs,rfl,hx,hw,q⟩:=h
  cases rx
  obtain⟨its,r,ht,hz⟩:=I.tuple hx
  have hlen:its.toArray.size=xs.length:=by rw [List.size_toArray];exact r.length.symm
  refine⟨"tuple",_,PyProof.Rows.slot_tuple_getitem.lookup,ht.typeIs,?_⟩
  exact HT.getItem_tuple_all ht hs pl pu (by rw [hlen];exact hw) ⟨.ref a,H,I,rfl,q⟩
def Du(K:PySem.W.Frag):V→Option Int→Option Int→Hp→VK→Prop:=fun x lo hi H Q=>Cb K x lo hi H Q∨(Cc K x lo hi H Q∨Ca K x lo hi H Q)
theorem Dv:vH X (Du X.K):=Am.or (xq.or xo)
abbrev FO:=En→Option (Option Int × En)
def fO(K:PySem.W.Frag)(f:FO):TO:=fun σ H Q=>∃F e o e',aY K F H σ e∧f e=some (o,e')∧∀F' H',cT σ F H e F' H' e'→aY K F' H' σ e'→Q o H'
theorem PO.mono{e:Option Expr}{t t':TO}(h:PO X e t)(m:∀σ H Q,t' σ H Q→t σ H Q):PO X e t':=fun pins s σ H Q I q=>h pins s σ H Q I (m σ H Q q)
def cK:FO:=fun e=>some (none,e)
def cC(f:FE):FO:=fun e=>(f e).bind fun p=>(bS p.1).map fun i=>(some i,p.2)
theorem bK:PO X none (fO K cK):=wU.mono fun σ H Q h=>by
  obtain⟨F,e,o,e',R,hf,q⟩:=h
  cases hf
  exact q F H (cT.refl _ _ _ _) R
theorem bL(h:PE X a (fE K fa)):PO X (some a) (fO K (cC fa)):=(wV h).mono fun σ H Q h=>by
  obtain⟨F,e,o,e',R,hf,q⟩:=h
  unfold cC at hf
  obtain⟨⟨x,e1⟩,h1,hf⟩:=Option.bind_eq_some_iff.mp hf
  obtain⟨i,h2,hf⟩:=Option.map_eq_some_iff.mp hf
  cases hf
  exact⟨F,e,x,_,R,h1,fun F1 H1 v X1 R1 A1=>⟨i,bX A1 h2,q F1 H1 X1 R1⟩⟩
def Bn(e:En)(x:Rv)(lo hi:Option Int):Option Rv:=(cw e x).map fun p=>if p.1=true then .l (cutD p.2 lo hi) else .d (.tuple (cutD p.2 lo hi))
def ls(fa:FE)(fl fh:FO):FE:=fun e=>(fa e).bind fun p=>(fl p.2).bind fun l=>(fh l.2).bind fun h=>(Bn h.2 p.1 l.1 h.1).map fun z=>(z,h.2)
theorem sX{F:Hp}{ds:List PyData}{vs:List V}(h:aG K F ds vs)(lo hi:Option Int):aG K F (cutD ds lo hi) (li vs lo hi):=by
  unfold cutD li
  rw [h.len]
  exact(h.drop _).take _
theorem vP{α:Type}{xs:List α}{lo hi:Option Int}(h:HT.sIx xs.length 0 lo=0∧HT.sIx xs.length xs.length hi=xs.length):(xs.drop (HT.sIx xs.length 0 lo)).take (HT.sIx xs.length xs.length hi - HT.sIx xs.length 0 lo)=xs:=by
  rw [h.1,h.2];simp
theorem uS{fl fh:FO}(he:PE X a (fE X.K fa))(hl:PO X lo (fO X.K fl))(hh:PO X hi (fO X.K fh)):PE X (.Subscript a (.Slice lo hi none p2) pos) (fE X.K (ls fa fl fh)):=(ut Dv he hl hh).mono fun σ H Q h=>by
  obtain⟨F,e,z,e',R,hf,q⟩:=h
  unfold ls at hf
  obtain⟨⟨x,e1⟩,h1,hf⟩:=Option.bind_eq_some_iff.mp hf
  obtain⟨⟨l,e2⟩,h2,hf⟩:=Option.bind_eq_some_iff.mp hf
  obtain⟨⟨u,e3⟩,h3,hf⟩:=Option.bind_eq_some_iff.mp hf
  obtain⟨z',h4,hf⟩:=Option.map_eq_some_iff.mp hf
  cases hf
  refine⟨F,e,x,e1,R,h1,fun F1 H1 v X1 R1 A1=>⟨F1,e1,l,e2,R1,h2,fun F2 H2 X2 R2=>⟨F2,e2,u,_,R2,h3,fun F3 H3 X3 R3=>?_⟩⟩⟩
  have X12:=X1.trans X2
  have X13:=X12.trans X3
  have A3:=(A1.ext X2).ext X3
  unfold Bn at h4
  obtain⟨⟨b,xs⟩,h5,h4⟩:=Option.map_eq_some_iff.mp h4
  obtain⟨p,vs,rfl,d1,s1⟩:=bT R3 A3 h5
  cases b with
  | true=>
    rw [if_pos rfl] at h4;cases h4
    refine .inr (.inr ⟨p,vs,rfl,s1,fun t ht=>?_⟩)
    obtain⟨R4,X4,hF,no⟩:=R3.newL (vs:=li vs l u) ht
    exact q _ _ _ (X13.trans X4) R4 ⟨t,_,rfl,X13.dom _ ht,hF,ay,sX d1 l u,no⟩
  | false=>
    rw [if_neg (by simp)] at h4;cases h4
    by_cases hw:HT.sIx vs.length 0 l=0∧HT.sIx vs.length vs.length u=vs.length
    · refine .inr (.inl ⟨p,vs,rfl,s1,hw,?_⟩)
      have e5:cutD xs l u=xs:=by unfold cutD;exact vP (by rw [d1.len];exact hw)
      rw [e5] at q
      obtain⟨F4,R4,X4,hF⟩:=R3.growT (ax.refl _) s1
      exact q _ _ _ (X13.trans X4) R4 (ci.mpr ⟨p,vs,rfl,hF,d1.mono X4.sf⟩)
    · refine .inl ⟨p,vs,rfl,s1,hw,fun t ht=>?_⟩
      obtain⟨R4,X4⟩:=R3.newT (vs:=li vs l u) ht
      exact q _ _ _ (X13.trans X4) R4 (ci.mpr ⟨t,_,rfl,.inl (.inl ay),(sX d1 l u).mono X4.sf⟩)
end
section
variable{X:Cx}{K:PySem.W.Frag}
theorem gR{σ:L2.St}{H0 F H:Hp}{e:En}{x:Rv}{vs:List V}(h:cE K σ H0 F H e [x] vs):∃v,vs=[v]∧bM K σ H0 F H e x v:=by
  obtain⟨v,ws,rfl,h1,h2⟩:=h
  have h2':ws=[]:=h2
  subst h2'
  exact⟨v,rfl,h1⟩
theorem m7{σ:L2.St}{H0 F H:Hp}{e:En}{x y:Rv}{vs:List V}(h:cE K σ H0 F H e [x,y] vs):∃v u,vs=[v,u]∧bM K σ H0 F H e x v∧bM K σ H0 F H e y u:=by
  obtain⟨v,ws,rfl,h1,h2⟩:=h
  obtain⟨u,rfl,h3⟩:=gR h2
  exact⟨v,u,rfl,h1,h3⟩
def g1(g:En→Rv→Option Rv):En→List Rv→Option Rv:=fun e xs=>match xs with
  | [x]=>g e x
  | _=>none
def g2(g:En→Rv→Rv→Option Rv):En→List Rv→Option Rv:=fun e xs=>match xs with
  | [x,y]=>g e x y
  | _=>none
theorem dN{r:List V→Hp→VK→Prop}{g:En→Rv→Option Rv}(h:A8 K (fun v H Q=>r [v] H Q) g):ck K r (g1 g):=by
  intro σ H0 F H e xs z vs Q R A hg q
  unfold g1 at hg
  match xs,hg with
  | [x],hg=>
    obtain⟨v,rfl,h1⟩:=gR A
    exact h σ H0 F H e x z v Q R h1 hg q
theorem qo{r:List V→Hp→VK→Prop}{g:En→Rv→Rv→Option Rv}(h:fq K (fun v u H Q=>r [v,u] H Q) g):ck K r (g2 g):=by
  intro σ H0 F H e xs z vs Q R A hg q
  unfold g2 at hg
  match xs,hg with
  | [x,y],hg=>
    obtain⟨v,u,rfl,h1,h2⟩:=m7 A
    exact h σ H0 F H e x y z v u Q R h1 h2 hg q
def eE:En→Rv→Option Rv:=fun e x=>(cw e x).map fun p=>.d (.int p.2.length)
theorem BE:ck K (fun xs H Q=>∃p ys,xs=[.ref p]∧(bR K H p ys∨bB K H p ys)∧Q (.int ys.length) H) (g1 eE):=dN fun σ H0 F H e x z v Q R A hg q=>by
  obtain⟨⟨b,xs⟩,h5,h4⟩:=Option.map_eq_some_iff.mp hg
  obtain⟨p,vs,rfl,d1,s1⟩:=bT R A h5
  cases h4
  refine⟨p,vs,rfl,?_,?_⟩
  · cases b with
    | true=>exact .inl s1
    | false=>exact .inr s1
  · rw [←d1.len]
    exact q F H _ (cT.refl _ _ _ _) R kL
def rp:En→Rv→Option Rv:=fun _ x=>(bS x).map fun i=>.d (.int (if i < 0 then -i else i))
theorem A_:ck K (fun xs H Q=>∃i,xs=[.int i]∧Q (.int (if i < 0 then -i else i)) H) (g1 rp):=dN fun σ H0 F H e x z v Q R A hg q=>by
  obtain⟨i,h5,h4⟩:=Option.map_eq_some_iff.mp hg
  cases h4
  exact⟨i,by rw [bX A h5],q F H _ (cT.refl _ _ _ _) R kL⟩
def lj:En→Rv→Option Rv:=fun _ x=>match x with
  | .d (.int i)=>some (.d (.int i))
  | .d (.bool k)=>some (.d (.int (if k then 1 else 0)))
  | _=>none
theorem Bu:ck K (fun xs H Q=>(∃i,xs=[.int i]∧Q (.int i) H)∨∃k,xs=[.bl k]∧Q (.int (if k then 1 else 0)) H) (g1 lj):=dN fun σ H0 F H e x z v Q R A hg q=>by
  unfold lj at hg
  split at hg
  · cases hg
    exact .inl ⟨_,by rw [bC.mp (show DA K F (.int _) v from A)],q F H _ (cT.refl _ _ _ _) R kL⟩
  · cases hg
    exact .inr ⟨_,by rw [cx.mp (show DA K F (.bool _) v from A)],q F H _ (cT.refl _ _ _ _) R kL⟩
  · cases hg
def tO:=gI (fun _ _=>true) fun i j=>.int (if j < i then j else i)
def nP:=gI (fun _ _=>true) fun i j=>.int (if j > i then j else i)
theorem BJ:ck K (fun xs H Q=>∃i j,xs=[.int i,.int j]∧Q (.int (if j < i then j else i)) H) (g2 tO):=qo fun σ H0 F H e x y z v u Q R A B hg q=>by
  obtain⟨i,j,h1,h2,h3⟩:=gu (K:=K) (g:=fun i j=>.int (if j < i then j else i)) (fun _ _ _=>bC.mpr rfl) σ H0 F H e x y z v u Q R A B hg q
  exact⟨i,j,by rw [h1,h2],h3⟩
theorem BI:ck K (fun xs H Q=>∃i j,xs=[.int i,.int j]∧Q (.int (if j > i then j else i)) H) (g2 nP):=qo fun σ H0 F H e x y z v u Q R A B hg q=>by
  obtain⟨i,j,h1,h2,h3⟩:=gu (K:=K) (g:=fun i j=>.int (if j > i then j else i)) (fun _ _ _=>bC.mpr rfl) σ H0 F H e x y z v u Q R A B hg q
  exact⟨i,j,by rw [h1,h2],h3⟩
def cX:En→Rv→Option Rv:=fun e x=>(cw e x).map fun p=>.d (.tuple p.2)
theorem xA:ck K (fun xs H Q=>∃p ys,xs=[.ref p]∧((bR K H p ys∧∀l,H l=none→Q (.ref l) (aT H l (.tup ys)))∨(bB K H p ys∧Q (.ref p) H))) (g1 cX):=dN fun σ H0 F H e x z v Q R A hg q=>by
  obtain⟨⟨b,xs⟩,h5,h4⟩:=Option.map_eq_some_iff.mp hg
  obtain⟨p,vs,rfl,d1,s1⟩:=bT R A h5
  cases h4
  refine⟨p,vs,rfl,?_⟩
  cases b with
  | true=>
    refine .inl ⟨s1,fun t ht=>?_⟩
    obtain⟨R4,X4⟩:=R.newT (vs:=vs) ht
    exact q _ _ _ X4 R4 (ci.mpr ⟨t,_,rfl,.inl (.inl ay),d1.mono X4.sf⟩)
  | false=>
    obtain⟨F4,R4,X4,hF⟩:=R.growT (ax.refl _) s1
    exact .inr ⟨s1,q _ _ _ X4 R4 (ci.mpr ⟨p,vs,rfl,hF,d1.mono X4.sf⟩)⟩
def jB:En→Rv→Option Rv:=fun e x=>(cw e x).map fun p=>.l p.2
theorem y8:ck K (fun xs H Q=>∃p ys,xs=[.ref p]∧(bR K H p ys∨bB K H p ys)∧∀l,H l=none→Q (.ref l) (aT H l (.lst ys))) (g1 jB):=dN fun σ H0 F H e x z v Q R A hg q=>by
  obtain⟨⟨b,xs⟩,h5,h4⟩:=Option.map_eq_some_iff.mp hg
  obtain⟨p,vs,rfl,d1,s1⟩:=bT R A h5
  cases h4
  refine⟨p,vs,rfl,?_,fun t ht=>?_⟩
  · cases b with
    | true=>exact .inl s1
    | false=>exact .inr s1
  · obtain⟨R4,X4,hF,no⟩:=R.newL (vs:=vs) ht
    exact q _ _ _ X4 R4 ⟨t,_,rfl,ht,hF,ay,d1,no⟩
def kh:List PyData→Option (List Int)
  | []=>some []
  | .int i::r=>(kh r).map (i::·)
  | _=>none
theorem iG:∀{ds:List PyData} {ns:List Int},kh ds=some ns→ds=ns.map .int
  | [],_,h=>by cases h;rfl
  | .int i::r,_,h=>by
    obtain⟨ns,h1,rfl⟩:=Option.map_eq_some_iff.mp h
    rw [iG h1];rfl
theorem jg:∀(ns:List Int),kh (ns.map .int)=some ns
  | []=>rfl
  | i::r=>by simp [kh,jg r]
def i9:List PyData→Option (List Bool)
  | []=>some []
  | .bool i::r=>(i9 r).map (i::·)
  | _=>none
theorem i_:∀{ds:List PyData} {ns:List Bool},i9 ds=some ns→ds=ns.map .bool
  | [],_,h=>by cases h;rfl
  | .bool i::r,_,h=>by
    obtain⟨ns,h1,rfl⟩:=Option.map_eq_some_iff.mp h
    rw [i_ h1];rfl
def cI(g:List PyData→Option PyData):En→Rv→Option Rv:=fun e x=>match cw e x with
  | some (true,xs)=>(g xs).map .d
  | _=>none
theorem pW{r:List V→Hp→VK→Prop}{g:List PyData→Option PyData}(h:∀(F H:Hp) (p:Addr) (xs:List PyData) (vs:List V) (d:PyData) (Q:VK),aG K F xs vs→bR K H p vs→g xs=some d→(∀v,(∀F,DA K F d v)→Q v H)→r [.ref p] H Q):ck K r (g1 (cI g)):=dN fun σ H0 F H e x z v Q R A hg q=>by
  unfold cI at hg
  split at hg
  case h_2=>cases hg
  case h_1 xs h5=>
  obtain⟨p,vs,rfl,d1,s1⟩:=bT R A h5
  obtain⟨d,h6,hg⟩:=Option.map_eq_some_iff.mp hg
  cases hg
  exact h F H p xs vs d Q d1 s1 h6 fun v hv=>q F H v (cT.refl _ _ _ _) R (hv F)
def lR:List PyData→Option PyData:=fun xs=>(kh xs).map fun ns=>.int ns.sum
theorem Ck:ck K (fun xs H Q=>∃(l:Addr) (ns:List Int),xs=[.ref l]∧bR K H l (ns.map V.int)∧Q (.int ns.sum) H) (g1 (cI lR)):=pW fun F H p xs vs d Q d1 s1 hg q=>by
  obtain⟨ns,h1,h2⟩:=Option.map_eq_some_iff.mp hg
  cases h2
  rw [iG h1] at d1
  rw [aG.ints.mp d1] at s1
  exact⟨p,ns,rfl,s1,q _ fun _=>bC.mpr rfl⟩
def nM:List PyData→Option PyData:=fun xs=>(i9 xs).map fun ns=>.bool (ns.all id)
def lL:List PyData→Option PyData:=fun xs=>(i9 xs).map fun ns=>.bool (ns.any id)
theorem Bb:ck K (fun xs H Q=>∃(l:Addr) (bs:List Bool),xs=[.ref l]∧bR K H l (bs.map V.bl)∧Q (.bl (bs.all id)) H) (g1 (cI nM)):=pW fun F H p xs vs d Q d1 s1 hg q=>by
  obtain⟨ns,h1,h2⟩:=Option.map_eq_some_iff.mp hg
  cases h2
  rw [i_ h1] at d1
  rw [aG.bools.mp d1] at s1
  exact⟨p,ns,rfl,s1,q _ fun _=>cx.mpr rfl⟩
theorem Bd:ck K (fun xs H Q=>∃(l:Addr) (bs:List Bool),xs=[.ref l]∧bR K H l (bs.map V.bl)∧Q (.bl (bs.any id)) H) (g1 (cI lL)):=pW fun F H p xs vs d Q d1 s1 hg q=>by
  obtain⟨ns,h1,h2⟩:=Option.map_eq_some_iff.mp hg
  cases h2
  rw [i_ h1] at d1
  rw [aG.bools.mp d1] at s1
  exact⟨p,ns,rfl,s1,q _ fun _=>cx.mpr rfl⟩
def pD:En→Rv→Option Rv:=fun e x=>match cw e x with
  | some (false,xs)=>(kh xs).bind fun ns=>if ns.length < 64 then some (.l ((eC ns).map .int)) else none
  | _=>none
def uY(K:PySem.W.Frag):List V→Hp→VK→Prop:=fun xs H Q=>∃(a:Addr) (ns:List Int),xs=[.ref a]∧bB K H a (ns.map V.int)∧ns.length < 64∧∀(l:Addr) (H':Hp),ax H H'→H l=none→H' l=some (.lst ((eC ns).map V.int))→Q (.ref l) H'
theorem pv:ce X (.builtin "sorted") (uY X.K):=by
  intro pins s σ H xs us Q I rv h
  obtain⟨a,ns,e1,e2,e3,q⟩:=h
  exact jx pins s σ H xs us Q I rv ⟨a,ns,e1,e2,e3,fun l ns' H' sm hn hl hp hs=>q l H' sm hn (by rw [←kU hp hs];exact hl)⟩
theorem xr:ck K (uY K) (g1 pD):=dN fun σ H0 F H e x z v Q R A hg q=>by
  unfold pD at hg
  split at hg
  case h_2=>cases hg
  case h_1 xs h5=>
  obtain⟨p,vs,rfl,d1,s1⟩:=bT R A h5
  obtain⟨ns,h6,hg⟩:=Option.bind_eq_some_iff.mp hg
  split at hg
  case isFalse=>cases hg
  case isTrue hl=>
  cases hg
  rw [iG h6] at d1
  have s1':bB K H p vs:=s1
  rw [aG.ints.mp d1] at s1'
  refine⟨p,ns,rfl,s1',hl,fun l H' sm hn hl'=>?_⟩
  obtain⟨R4,X4⟩:=R.same sm
  exact q F H' _ X4 R4 ⟨l,_,rfl,hn,R.freeF hn,hl',aG.ints.mpr rfl,fun z=>R.ownH l ((R.sameOwn sm l).mp z) hn⟩
mutual
def eU:PyData→Bool
  | .tuple ds=>gK ds
  | .list _=>false
  | .dict _=>false
  | _=>true
def gK:List PyData→Bool
  | []=>true
  | d::r=>eU d&&gK r
end
mutual
def ee:PyData→Bool
  | .list _=>false
  | .tuple ds=>dm ds
  | _=>true
def dm:List PyData→Bool
  | []=>true
  | d::r=>ee d&&dm r
end
theorem kJ{h:Heap}:∀{m:List (Int × Int)} {es:List DictEntry} {vs:List (eJ × Value)} {P:Program} {w:World},KV (m.map fun p=>((Sum.inl p.1:eJ),V.int p.2)) vs→Pairs (cJ P w) es vs→
    ReadsAll h (es.map (·.key)) (m.map fun p=>PyData.int p.1) []∧ReadsAll h (es.map (·.val)) (m.map fun p=>PyData.int p.2) []
  | [],es,vs,P,w,r,q=>by
    cases r
    cases q
    exact⟨.nil,.nil⟩
  | p::m,es,vs,P,w,r,q=>by
    rw [List.map_cons] at r
    cases r with
    | @cons a b as bs h1 t=>
      cases q with
      | @cons e kv es' kvs' h2 h3 h4=>
        obtain⟨z1,z2⟩:=h1
        obtain⟨c1,c2⟩:=kJ t h4
        obtain⟨tk,z2⟩:=z2
        have k1:ki (Sum.inl p.1) e.key=true:=by
          have:b.1=Sum.inl p.1:=z1.symm
          rw [←this];exact h2
        rcases bi k1 with ⟨i,t',e1,e2⟩ | ⟨x,t',e1,e2⟩
        · cases e1
          refine⟨?_,?_⟩
          · simp only [List.map_cons,e2]
            exact ReadsAll.cons (as:=[]) (bs:=[]) (.int p.1 t') c1
          · simp only [List.map_cons,h3,z2]
            exact ReadsAll.cons (as:=[]) (bs:=[]) (.int p.2 tk) c2
        · cases e1
mutual
theorem DA.readsR{X:Cx}{pins:List (Addr × Obj)}{σ:L2.St}{H:Hp}{s:Shared}(I:aA X pins σ H s):∀{d:PyData} {v:V} {u:Value},DA X.K H d v→bj v u→∃as,Reads s.heap u d as∧(ee d=true→sysModules∉as)
  | .none,_,_,q,r=>by
    simp only [DA] at q;subst q;cases r;exact⟨_,.none,fun _=>by simp⟩
  | .bool b,_,_,q,r=>by
    simp only [DA] at q;subst q;cases r;exact⟨_,.bool b,fun _=>by simp⟩
  | .int i,_,_,q,r=>by
    simp only [DA] at q;subst q;obtain⟨t,rfl⟩:=r;exact⟨_,.int i t,fun _=>by simp⟩
  | .str x,_,_,q,r=>by
    simp only [DA] at q;subst q;obtain⟨t,rfl⟩:=r;exact⟨_,.str x t,fun _=>by simp⟩
  | .tuple ds,_,_,q,r=>by
    simp only [DA] at q
    obtain⟨a,xs,e,hs,rr⟩:=q
    subst e;cases r
    obtain⟨its,rv,⟨o,ho,hc,n,hd⟩,hz⟩:=I.tuple hs
    obtain⟨as,q,z⟩:=aG.readsR I rr rv
    exact⟨_,.tuple ho hc hd q,fun c=>z (by simpa [ee] using c)⟩
  | .list ds,_,_,q,r=>by
    simp only [DA] at q
    obtain⟨a,xs,e,hs,rr⟩:=q
    subst e;cases r
    obtain⟨its,rv,ht,hz⟩:=I.list hs
    obtain⟨o,ho,hc,n,hd⟩:=ht.isList
    obtain⟨as,q,z⟩:=aG.readsR I rr rv
    exact⟨_,.list ho hc hd q,fun c=>by simp [ee] at c⟩
  | .dict kvs,_,_,q,r=>by
    simp only [DA] at q
    obtain⟨a,m,e,hs,rfl⟩:=q
    subst e;cases r
    obtain⟨_,hS,vs,kv,o,es,ep,ho,hx,hd,_,hp,_⟩:=(show cn X.prog X.w H s.heap a (.dK (m.map fun p=>(Sum.inl p.1,V.int p.2))) from I.hok a _ hs)
    obtain⟨c1,c2⟩:=kJ (h:=s.heap) kv hp
    refine⟨_,Reads.dict (as:=[]) (bs:=[]) ho hx.1 hd ?_ ?_,fun _=>?_⟩
    · rw [List.map_map];exact c1
    · rw [List.map_map];exact c2
    · have:a≠sysModules:=by simpa using hS
      simpa using this.symm
theorem aG.readsR{X:Cx}{pins:List (Addr × Obj)}{σ:L2.St}{H:Hp}{s:Shared}(I:aA X pins σ H s):∀{ds:List PyData} {xs:List V} {us:List Value},aG X.K H ds xs→aI xs us→∃as,ReadsAll s.heap us ds as∧(dm ds=true→sysModules∉as)
  | [],_,_,q,r=>by
    simp only [aG] at q;subst q;cases r;exact⟨_,.nil,fun _=>by simp⟩
  | d::ds,_,_,q,r=>by
    simp only [aG] at q
    obtain⟨x,rr,e,a,b⟩:=q
    subst e
    cases r with
    | cons p p'=>
      obtain⟨as,q1,z1⟩:=DA.readsR I a p
      obtain⟨bs,q2,z2⟩:=aG.readsR I b p'
      refine⟨_,.cons q1 q2,fun c=>?_⟩
      simp only [dm,Bool.and_eq_true] at c
      intro z
      rcases List.mem_append.mp z with z | z
      · exact z1 c.1 z
      · exact z2 c.2 z
end
def iW(d:PyData):Bool:=(eU d || (!d.hasDict || ee d))&&d.showable&&decide (d.depth≤60)&&decide (d.shown.length≤sizeLine)
def jC:En→Rv→Option Rv:=fun _ x=>match x with
  | .d d=>if iW d=true then some (.d (.str d.shown)) else none
  | _=>none
def uX(K:PySem.W.Frag):List V→Hp→VK→Prop:=fun xs H Q=>∃x d,xs=[x]∧DA K H d x∧(d.hasDict=true→ee d=true)∧d.showable=true∧d.depth≤60∧d.shown.length≤sizeLine∧Q (.str d.shown) H
mutual
theorem f9:∀(d:PyData),eU d=true→d.hasDict=false
  | .none,_=>rfl
  | .bool _,_=>rfl
  | .int _,_=>rfl
  | .str _,_=>rfl
  | .tuple ds,h=>by simp only [PyData.hasDict];exact iB ds (by simpa [eU] using h)
  | .list ds,h=>by simp [eU] at h
  | .dict _,h=>by simp [eU] at h
theorem iB:∀(ds:List PyData),gK ds=true→PyData.hasDictAll ds=false
  | [],_=>rfl
  | d::r,h=>by
    simp only [gK,Bool.and_eq_true] at h
    simp only [PyData.hasDictAll,f9 d h.1,iB r h.2,Bool.or_self]
end
theorem pq{X:Cx}{k:Nat}(hr:bU k X.A):ce X (.builtin "repr") (uX X.K):=by
  intro pins s σ H xs us Q I r h
  obtain⟨x,d,rfl,ha,hdl,hsh,hdp,hsz,q⟩:=h
  obtain⟨u,rfl,ru⟩:∃u,us=[u]∧bj x u:=by
    cases r with
    | cons p p'=>cases p';exact⟨_,rfl,p⟩
  have hun:=hr.un
  obtain⟨as,rd,hm⟩:=DA.readsR I ha ru
  have fin:∀a,u=.ref a→wpAny (model X.prog X.w) X.A (call (.builtin "repr") [u]) (EP X pins σ Q) X.xe s:=fun a e=>by
    subst e
    exact repr_of_reads' rd hsh (fun z=>hm (hdl z)) hr.gd (by lia) (fun _ _ e=>e) (fun h' u tk hk=>⟨.str _,H,I.kept hk,⟨_,rfl⟩,q⟩) hsz
  cases d with
  | none=>simp only [DA] at ha;subst ha;cases ru;exact P.repr_of_none ⟨.str _,H,I.tok _,⟨_,rfl⟩,q⟩
  | bool b=>simp only [DA] at ha;subst ha;cases ru;exact P.repr_of_bool ⟨.str _,H,I.tok _,⟨_,rfl⟩,q⟩
  | int i=>
    simp only [DA] at ha;subst ha;obtain⟨t,rfl⟩:=ru
    simp only [PyData.showable,decide_eq_true_eq] at hsh
    exact P.repr_of_int hsh ⟨.str _,H,I.tok _,⟨_,rfl⟩,q⟩
  | str y=>simp only [DA] at ha;subst ha;obtain⟨t,rfl⟩:=ru;exact P.repr_of_str ⟨.str _,H,I.tok _,⟨_,rfl⟩,q⟩ hsz
  | list ds=>obtain⟨a,_,e,_⟩:=cz.mp ha;subst e;exact fin a ru
  | dict ds=>simp only [DA] at ha;obtain⟨a,_,e,_⟩:=ha;subst e;exact fin a ru
  | tuple ds=>obtain⟨a,_,e,_⟩:=ci.mp ha;subst e;exact fin a ru
theorem Ah:ck K (uX K) (g1 jC):=dN fun σ H0 F H e x z v Q R A hg q=>by
  unfold jC at hg
  split at hg
  case h_2=>cases hg
  case h_1 d=>
  split at hg
  case isFalse=>cases hg
  case isTrue hl=>
  cases hg
  unfold iW at hl
  rw [Bool.and_eq_true,Bool.and_eq_true,Bool.and_eq_true,decide_eq_true_iff,decide_eq_true_iff] at hl
  refine⟨v,d,rfl,DA.mono R.sm A,fun z=>?_,hl.1.1.2,hl.1.2,hl.2,q F H _ (cT.refl _ _ _ _) R ((mG (K:=K) (F:=F)).mpr rfl)⟩
  have c:=hl.1.1.1
  cases hf:eU d with
  | true=>rw [f9 d hf] at z;cases z
  | false=>rw [hf,z] at c;simpa using c
end
end L2
namespace L2
open PySem PySem.Spec PyProof.Rows
section
variable{K:PySem.W.Frag}{σ:L2.St}{H0 F H F' H':Hp}{e e':En}
theorem aY.upd1(R:aY K F H σ e){σ':L2.St}(i:Nat)(hl:σ'.length=e'.length)(hσ:∀j,j≠i→σ'[j]?=σ[j]?)(he:∀j,j≠i→e'[j]?=e[j]?)(sF:ax F F')(sm:ax F' H')(hf:∀j a,j≠i→Fp σ e H j a→F' a=none)
    (hh:∀j a o,j≠i→Fp σ e H j a→H a=some o→H' a=some o)(hd:∀x,e'[i]?=some (some (.d x))→∃v,σ'[i]?=some (some v)∧DA K F' x v)
    (ho:∀xs,e'[i]?=some (some (.l xs))→∃l vs,σ'[i]?=some (some (.ref l))∧F' l=none∧H' l=some (.lst vs)∧aG K F' xs vs)
    (hn:∀xss,e'[i]?=some (some (.n xss))→∃(l:Addr) (bs:List Addr),σ'[i]?=some (some (.ref l))∧F' l=none∧H' l=some (.lst (bs.map V.ref))∧bs.length=xss.length∧bs.Nodup∧l∉bs∧
      ∀(k:Nat) (b:Addr) (ys:List PyData),bs[k]?=some b→xss[k]?=some ys→F' b=none∧∃us,H' b=some (.lst us)∧aG K F' ys us)
    (hi:∀a j,j≠i→Fp σ' e' H' i a→¬Fp σ e H j a):aY K F' H' σ' e'∧∀j a,j≠i→(Fp σ' e' H' j a↔ Fp σ e H j a):=by
  have fs:∀j a,j≠i→(Fp σ' e' H' j a↔ Fp σ e H j a):=by
    intro j a hj
    have key:∀xss l,e[j]?=some (some (.n xss))→σ[j]?=some (some (.ref l))→H' l=H l:=fun xss l h1 h2=>by
      obtain⟨l',bs,g1,g2,g3,_⟩:=R.nst j xss h1
      rw [h2] at g1;cases g1
      rw [g3]
      exact hh j l _ hj (.inr ⟨xss,l,bs,h1,h2,g3,.inl rfl⟩) g3
    unfold Fp
    rw [he j hj,hσ j hj]
    constructor
    · rintro(h1 | ⟨xss,l,bs,h1,h2,h3,h4⟩)
      · exact .inl h1
      · exact .inr ⟨xss,l,bs,h1,h2,by rw [←key xss l h1 h2];exact h3,h4⟩
    · rintro(h1 | ⟨xss,l,bs,h1,h2,h3,h4⟩)
      · exact .inl h1
      · exact .inr ⟨xss,l,bs,h1,h2,by rw [key xss l h1 h2];exact h3,h4⟩
  refine⟨⟨sm,hl,fun j x q=>?_,fun j xs q=>?_,fun j xss q=>?_,fun j k a q1 q2=>?_⟩,fs⟩
  · by_cases z:j=i
    · subst z;exact hd x q
    · rw [he j z] at q
      obtain⟨v,h1,h2⟩:=R.dat j x q
      exact⟨v,by rw [hσ j z];exact h1,DA.mono sF h2⟩
  · by_cases z:j=i
    · subst z;exact ho xs q
    · rw [he j z] at q
      obtain⟨l,vs,h1,h2,h3,h4⟩:=R.own j xs q
      have o:Fp σ e H j l:=.inl ⟨xs,q,h1⟩
      exact⟨l,vs,by rw [hσ j z];exact h1,hf j l z o,hh j l _ z o h3,h4.mono sF⟩
  · by_cases z:j=i
    · subst z;exact hn xss q
    · rw [he j z] at q
      obtain⟨l,bs,h1,h2,h3,h4,h5,h6,h7⟩:=R.nst j xss q
      have o:Fp σ e H j l:=.inr ⟨xss,l,bs,q,h1,h3,.inl rfl⟩
      refine⟨l,bs,by rw [hσ j z];exact h1,hf j l z o,hh j l _ z o h3,h4,h5,h6,fun k b ys g1 g2=>?_⟩
      obtain⟨c1,us,c2,c3⟩:=h7 k b ys g1 g2
      have ob:Fp σ e H j b:=.inr ⟨xss,l,bs,q,h1,h3,.inr (List.mem_of_getElem? g1)⟩
      exact⟨hf j b z ob,us,hh j b _ z ob c2,c3.mono sF⟩
  · by_cases zj:j=i
    · subst zj
      by_cases zk:k=j
      · exact zk.symm
      · exact absurd ((fs k a zk).mp q2) (hi a k zk q1)
    · by_cases zk:k=i
      · subst zk
        exact absurd ((fs j a zj).mp q1) (hi a j zj q2)
      · exact R.fp j k a ((fs j a zj).mp q1) ((fs k a zk).mp q2)
theorem aY.putL(R:aY K F H σ e){i:Nat}{xs ys:List PyData}{l:Addr}{vs:List V}(hi:e[i]?=some (some (.l xs)))(hl:σ[i]?=some (some (.ref l)))(hd:aG K F ys vs):
    aY K F (aT H l (.lst vs)) σ (e.set i (some (.l ys)))∧cT σ F H e F (aT H l (.lst vs)) (e.set i (some (.l ys))):=by
  obtain⟨l',vs',h1,h2,h3,h4⟩:=R.own i xs hi
  rw [hl] at h1;cases h1
  have hlt:i < e.length:=(List.getElem?_eq_some_iff.mp hi).1
  have fi:Fp σ e H i l:=.inl ⟨xs,hi,hl⟩
  have gi:(e.set i (some (Sv.l ys)))[i]?=some (some (.l ys)):=List.getElem?_set_self hlt
  obtain⟨R',fs⟩:=R.upd1 (F':=F) (H':=aT H l (.lst vs)) (e':=e.set i (some (.l ys))) i (by rw [List.length_set];exact R.len) (fun _ _=>rfl) (fun j hj=>List.getElem?_set_ne (Ne.symm hj)) (ax.refl F)
    (fun b o q=>by
      have z:b≠l:=fun z=>by rw [z,h2] at q;cases q
      rw [aE z];exact R.sm b o q)
    (fun j a _ q=>(R.fpAt q).1)
    (fun j a o hj q ha=>by
      have z:a≠l:=fun z=>hj (R.fp j i a q (by rw [z];exact fi))
      rw [aE z];exact ha)
    (fun x q=>by rw [gi] at q;cases q) (fun zs q=>by rw [gi] at q;cases q;exact⟨l,vs,hl,h2,ay,hd⟩) (fun xss q=>by rw [gi] at q;cases q)
    (fun a j hj q q2=>by
      rcases q with ⟨zs,_,q⟩ | ⟨xss,_,_,q,_⟩
      · rw [hl] at q;cases q
        exact hj (R.fp j i _ q2 fi)
      · rw [gi] at q;cases q)
  refine⟨R',⟨ax.refl _,fun a q=>?_,fun _ _ q _ _=>q,fun a ws q=>?_,fun a o q n=>?_,fun j=>?_,fun a ⟨j,q⟩=>?_⟩⟩
  · by_cases z:a=l
    · rw [z,ay] at q;cases q
    · rw [aE z] at q;exact q
  · by_cases z:a=l
    · rw [z];exact⟨vs,ay⟩
    · rw [aE z];exact⟨ws,q⟩
  · have z:a≠l:=fun z=>n ⟨i,by rw [z];exact fi⟩
    rw [aE z];exact q
  · by_cases z:j=i
    · subst z;rw [gi];exact⟨fun _=>⟨xs,hi⟩,fun _=>⟨ys,rfl⟩⟩
    · rw [List.getElem?_set_ne (Ne.symm z)]
  · by_cases z:j=i
    · subst z
      rcases q with ⟨zs,_,q⟩ | ⟨xss,_,_,q,_⟩
      · rw [hl] at q;cases q;exact .inl ⟨j,fi⟩
      · rw [gi] at q;cases q
    · exact .inl ⟨j,(fs j a z).mp q⟩
theorem aY.setD(R:aY K F H σ e)(i:Nat){x:PyData}{v:V}(h:DA K F x v):aY K F H (σ.set i (some v)) (e.set i (some (.d x)))∧∀a,cU (σ.set i (some v)) (e.set i (some (.d x))) H a→cU σ e H a:=by
  have gi:∀s,(e.set i (some (Sv.d x)))[i]?=some (some s)→s=.d x∧i < e.length:=fun s q=>by
    have hlt:i < e.length:=by have:=(List.getElem?_eq_some_iff.mp q).1;simpa using this
    rw [List.getElem?_set_self hlt] at q
    exact⟨(Option.some.inj (Option.some.inj q)).symm,hlt⟩
  have nofp:∀a,¬Fp (σ.set i (some v)) (e.set i (some (.d x))) H i a:=fun a q=>by
    rcases q with ⟨zs,q,_⟩ | ⟨xss,_,_,q,_⟩
    · cases (gi _ q).1
    · cases (gi _ q).1
  obtain⟨R',fs⟩:=R.upd1 (F':=F) (H':=H) (σ':=σ.set i (some v)) (e':=e.set i (some (.d x))) i (by rw [List.length_set,List.length_set];exact R.len) (fun j hj=>List.getElem?_set_ne (Ne.symm hj)) (fun j hj=>List.getElem?_set_ne (Ne.symm hj)) (ax.refl F) R.sm
    (fun j a _ q=>(R.fpAt q).1) (fun j a o _ _ ha=>ha)
    (fun y q=>by
      obtain⟨z,hlt⟩:=gi _ q
      cases z
      exact⟨v,List.getElem?_set_self (by rw [R.len];exact hlt),h⟩)
    (fun zs q=>by cases (gi _ q).1) (fun xss q=>by cases (gi _ q).1) (fun a j hj q=>absurd q (nofp a))
  refine⟨R',fun a ⟨j,q⟩=>?_⟩
  by_cases z:j=i
  · subst z;exact absurd q (nofp a)
  · exact⟨j,(fs j a z).mp q⟩
theorem aY.setL(R:aY K F H σ e)(i:Nat){xs:List PyData}{l:Addr}{vs:List V}(h1:F l=none)(h2:H l=some (.lst vs))(h3:aG K F xs vs)(h4:¬cU σ e H l):aY K F H (σ.set i (some (.ref l))) (e.set i (some (.l xs)))∧∀a,cU (σ.set i (some (.ref l))) (e.set i (some (.l xs))) H a→cU σ e H a∨a=l:=by
  have gi:∀s,(e.set i (some (Sv.l xs)))[i]?=some (some s)→s=.l xs∧i < e.length:=fun s q=>by
    have hlt:i < e.length:=by have:=(List.getElem?_eq_some_iff.mp q).1;simpa using this
    rw [List.getElem?_set_self hlt] at q
    exact⟨(Option.some.inj (Option.some.inj q)).symm,hlt⟩
  have onefp:∀a,Fp (σ.set i (some (.ref l))) (e.set i (some (.l xs))) H i a→a=l:=fun a q=>by
    rcases q with ⟨zs,q,q2⟩ | ⟨xss,_,_,q,_⟩
    · obtain⟨_,hlt⟩:=gi _ q
      rw [List.getElem?_set_self (by rw [R.len];exact hlt)] at q2
      cases q2;rfl
    · cases (gi _ q).1
  obtain⟨R',fs⟩:=R.upd1 (F':=F) (H':=H) (σ':=σ.set i (some (.ref l))) (e':=e.set i (some (.l xs))) i (by rw [List.length_set,List.length_set];exact R.len) (fun j hj=>List.getElem?_set_ne (Ne.symm hj)) (fun j hj=>List.getElem?_set_ne (Ne.symm hj)) (ax.refl F) R.sm
    (fun j a _ q=>(R.fpAt q).1) (fun j a o _ _ ha=>ha) (fun y q=>by cases (gi _ q).1)
    (fun zs q=>by
      obtain⟨z,hlt⟩:=gi _ q
      cases z
      exact⟨l,vs,List.getElem?_set_self (by rw [R.len];exact hlt),h1,h2,h3⟩)
    (fun xss q=>by cases (gi _ q).1) (fun a j hj q q2=>h4 ⟨j,by rw [onefp a q] at q2;exact q2⟩)
  refine⟨R',fun a ⟨j,q⟩=>?_⟩
  by_cases z:j=i
  · subst z;exact .inr (onefp a q)
  · exact .inl ⟨j,(fs j a z).mp q⟩
end
section
variable{X:Cx}{K:PySem.W.Frag}{o a:Expr}{es:List Expr}{fo:FE}{fs:FA}{name:Str}{apos cpos:Pos}{id:String}
def qh(K:PySem.W.Frag)(r:V→List V→Hp→VK→Prop)(g:List PyData→List PyData→Option (PyData × List PyData)):Prop:=
  ∀(F H:Hp) (l:Addr) (xs ys ds:List PyData) (z:PyData) (vs us:List V) (Q:VK),F l=none→ax F H→H l=some (.lst vs)→aG K F xs vs→aG K F ds us→g xs ds=some (z,ys)→
    (∀w ws,DA K F z w→aG K F ys ws→Q w (aT H l (.lst ws)))→r (.ref l) us H Q
def dz(g:List PyData→List PyData→Option (PyData × List PyData))(fo:FE)(fs:FA):FE:=fun e=>(fo e).bind fun p=>match p.1 with
  | .s i=>(fs p.2).bind fun q=>(iA q.1).bind fun ds=>match q.2[i]? with
    | some (some (.l xs))=>(g xs ds).map fun z=>(.d z.1,q.2.set i (some (.l z.2)))
    | _=>none
  | _=>none
theorem vx{r:V→List V→Hp→VK→Prop}{g:List PyData→List PyData→Option (PyData × List PyData)}(hm:qh K r g){σ:L2.St}{H:Hp}{Q:VK}(h:fE K (dz g fo fs) σ H Q):DX K "list" r (fE K fo) (fA K fs) σ H Q:=by
  obtain⟨F,e,z,e',R,hf,q⟩:=h
  unfold dz at hf
  obtain⟨⟨x,e1⟩,h1,hf⟩:=Option.bind_eq_some_iff.mp hf
  match x,h1,hf with
  | .s i,h1,hf=>
  dsimp only at hf
  obtain⟨⟨rs,e2⟩,h2,hf⟩:=Option.bind_eq_some_iff.mp hf
  obtain⟨ds,h3,hf⟩:=Option.bind_eq_some_iff.mp hf
  refine⟨F,e,_,e1,R,h1,fun F1 H1 v X1 R1 A1=>?_⟩
  obtain⟨g1,zs,g2⟩:=A1
  obtain⟨l,vs,c1,c2,c3,c4⟩:=R1.own i zs g2
  rw [g1] at c1;cases c1
  refine⟨.inl ⟨rfl,vs,.inl (.inl c3)⟩,F1,e1,rs,e2,R1,h2,fun F2 H2 us X2 R2 A2=>?_⟩
  match h4:e2[i]?,hf with
  | some (some (.l xs)),hf=>
  dsimp only at hf
  obtain⟨⟨zd,ys⟩,h5,hf⟩:=Option.map_eq_some_iff.mp hf
  cases hf
  obtain⟨F3,R3,s3,d3,f3⟩:=cE.frozen R2 A2 h3
  obtain⟨l',vs',k1,k2,k3,k4⟩:=R3.own i xs h4
  rw [g1] at k1;cases k1
  refine hm F3 H2 l xs ys ds zd vs' us Q k2 R3.sm k3 k4 d3 h5 fun w ws hw hws=>?_
  obtain⟨R4,X4⟩:=R3.putL h4 g1 hws
  exact q _ _ _ ((X1.trans (X2.frz s3 f3)).trans X4) R4 hw
theorem ym{r:V→List V→Hp→VK→Prop}{g:List PyData→List PyData→Option (PyData × List PyData)}(slot:Slot "list" name id)(hty:typeOf (.builtin id)=pure (.type "method_descriptor"))(hm:DM X id r)(hf:qh X.K r g)(ho:PE X o (fE X.K fo))(ha:PA X (a::es) (fA X.K fs))
    (hbase:attributeBase o name X.env (eval o X.env)=eval o X.env)
    (hfew:((backTo cpos (starEach (a::es) X.env)).all (fun x=> !x.1)&&(backToKw cpos (keywordEach [] X.env)).all (fun x=>x.1.isSome)
      &&decide ((a::es).length+([]:List Keyword).length+(if ([]:List Keyword).isEmpty then 0 else 1) < 30))=true)
    (hline:(apos.endLine==cpos.line)=true)(hs:starEach (a::es) X.env=(false,eval a X.env)::starEach es X.env)(hplain:(backTo cpos (starEach es X.env)).any (·.1)=false):
    PE X (.Call (.Attribute o name apos) (a::es) [] cpos) (fE X.K (dz g fo fs)):=(BS PySem.F.plainAttrs_list slot hty hm ho ha hbase hfew hline hs hplain).mono fun _ _ _ h=>vx hf h
def b_:List PyData→List PyData→Option (PyData × List PyData):=fun xs ds=>match ds with
  | [d]=>if xs.length < 1000000 then some (.none,xs++[d]) else none
  | _=>none
theorem su:qh K qK b_:=by
  intro F H l xs ys ds z vs us Q hF sm hl d1 d2 hg q
  unfold b_ at hg
  match ds,hg,d2 with
  | [d],hg,d2=>
    simp only [aG] at d2
    obtain⟨w,r,rfl,hw,rfl⟩:=d2
    dsimp only at hg
    split at hg
    case isFalse=>cases hg
    case isTrue hlt=>
    cases hg
    have:=d1.len
    have sl:sizeLine=16777216:=sizeLine_eq
    exact⟨l,vs,w,rfl,rfl,hl,by lia,q _ _ (gF.mpr rfl) (d1.append (aG.one hw))⟩
def BH:List PyData→List PyData→Option (PyData × List PyData):=fun xs ds=>match ds with
  | []=>(xs[xs.length - 1]?).map fun d=>(d,xs.dropLast)
  | _=>none
def h_:List PyData→List PyData→Option (PyData × List PyData):=fun xs ds=>match ds with
  | [.int i]=>if 0≤i∧i < 1000000000 then(xs[i.toNat]?).map fun d=>(d,xs.eraseIdx i.toNat) else none
  | _=>none
theorem wW:qh K uV h_:=by
  intro F H l xs ys ds z vs us Q hF sm hl d1 d2 hg q
  unfold h_ at hg
  match ds,hg,d2 with
  | [.int i],hg,d2=>
    simp only [aG,DA] at d2
    obtain⟨w,r,rfl,rfl,rfl⟩:=d2
    dsimp only at hg
    split at hg
    case isFalse=>cases hg
    case isTrue hlt=>
    obtain⟨d,h1,h2⟩:=Option.map_eq_some_iff.mp hg
    cases h2
    obtain⟨v,g1,g2⟩:=d1.get h1
    have hlt2:i.toNat < vs.length:=(List.getElem?_eq_some_iff.mp g1).1
    exact⟨l,vs,i,i.toNat,v,rfl,rfl,hl,by lia,by lia,seqIndex_of hlt.1 (by lia),g1,q _ _ g2 (d1.erase _)⟩
end
end L2
namespace L2
open PySem PySem.Spec PyProof.Rows
inductive Fl where
  | nx (e:En)
  | bk (e:En)
  | ct (e:En)
  | rt (r:Rv) (e:En)
abbrev FS:=En→Option Fl
structure cQ (W:List Nat) (σ:L2.St) (F H:Hp) (e:En) (σ':L2.St) (F' H':Hp) (e':En):Prop where
  sf:ax F F'
  dom:∀a,H' a=none→H a=none
  fr:∀a vs,F a=none→H a=some (.lst vs)→¬cU σ e H a→F' a=none
  lst:∀a vs,H a=some (.lst vs)→∃vs',H' a=some (.lst vs')
  tmp:∀a o,H a=some o→¬cU σ e H a→H' a=some o
  own:∀a,cU σ' e' H' a→cU σ e H a∨H a=none
  wr:∀j,j∉W→σ'[j]?=σ[j]?
section
variable{K:PySem.W.Frag}{W W1 W2:List Nat}{σ σ1 σ2 σ':L2.St}{H0 F H F1 H1 F2 H2 F' H':Hp}{e e1 e2 e':En}
theorem cQ.refl:cQ W σ F H e σ F H e:=⟨ax.refl _,fun _ h=>h,fun _ _ h _ _=>h,fun _ vs h=>⟨vs,h⟩,fun _ _ h _=>h,fun _ h=>.inl h,fun _ _=>rfl⟩
theorem cT.s(x:cT σ F H e F' H' e'):cQ W σ F H e σ F' H' e':=⟨x.sf,x.dom,x.fr,x.lst,x.tmp,x.ow,fun _ _=>rfl⟩
theorem cQ.trans(x:cQ W σ F H e σ1 F1 H1 e1)(y:cQ W σ1 F1 H1 e1 σ2 F2 H2 e2):cQ W σ F H e σ2 F2 H2 e2:=
  ⟨x.sf.trans y.sf,fun a h=>x.dom a (y.dom a h),fun a vs h n no=>let ⟨vs',q⟩:=x.lst a vs n;y.fr a vs' (x.fr a vs h n no) q (fun z=>(x.own a z).elim no fun z=>by rw [n] at z;cases z),fun a vs h=>let ⟨vs',q⟩:=x.lst a vs h;y.lst a vs' q,
    fun a o h n=>y.tmp a o (x.tmp a o h n) (fun z=>(x.own a z).elim n fun z=>by rw [h] at z;cases z),
    fun a h=>(y.own a h).elim (x.own a) (fun z=>.inr (x.dom a z)),
    fun j h=>(y.wr j h).trans (x.wr j h)⟩
theorem cQ.mono(x:cQ W1 σ F H e σ' F' H' e')(h:∀j,j∈W1→j∈W):cQ W σ F H e σ' F' H' e':=⟨x.sf,x.dom,x.fr,x.lst,x.tmp,x.own,fun j n=>x.wr j fun z=>n (h j z)⟩
end
def j'(K:PySem.W.Frag)(W:List Nat)(σ:L2.St)(F H:Hp)(e:En)(D:o8):Fl→Prop
  | .nx e'=>∀F' H' σ',cQ W σ F H e σ' F' H' e'→aY K F' H' σ' e'→D.nx σ' H'
  | .bk e'=>∀F' H' σ',cQ W σ F H e σ' F' H' e'→aY K F' H' σ' e'→D.bk σ' H'
  | .ct e'=>∀F' H' σ',cQ W σ F H e σ' F' H' e'→aY K F' H' σ' e'→D.ct σ' H'
  | .rt r e'=>∀F' H' σ' v,cQ W σ F H e σ' F' H' e'→aY K F' H' σ' e'→bM K σ' H F' H' e' r v→D.rt v H'
def fS(K:PySem.W.Frag)(f:FS)(W:List Nat):TS:=fun D σ H=>∃F e fl,aY K F H σ e∧f e=some fl∧j' K W σ F H e D fl
theorem PS.mono{X:Cx}{st:Stmt}{t t':TS}(h:PS X st t)(m:∀D σ H,t' D σ H→t D σ H):PS X st t':=fun pins s σ H D I q=>h pins s σ H D I (m D σ H q)
theorem jJ.mono{X:Cx}{st:List Stmt}{t t':TS}(h:jJ X st t)(m:∀D σ H,t' D σ H→t D σ H):jJ X st t':=fun pins s σ H D I q=>h pins s σ H D I (m D σ H q)
theorem j'.later{K:PySem.W.Frag}{W W1 W2:List Nat}{σ σ1:L2.St}{F H F1 H1:Hp}{e e1:En}{D:o8}{fl:Fl}(h:j' K W σ F H e D fl)(x:cQ W1 σ F H e σ1 F1 H1 e1)(h1:∀j,j∈W1→j∈W)(h2:∀j,j∈W2→j∈W):j' K W2 σ1 F1 H1 e1 D fl:=by
  cases fl with
  | nx e'=>exact fun F' H' σ' y R=>h F' H' σ' ((x.mono h1).trans (y.mono h2)) R
  | bk e'=>exact fun F' H' σ' y R=>h F' H' σ' ((x.mono h1).trans (y.mono h2)) R
  | ct e'=>exact fun F' H' σ' y R=>h F' H' σ' ((x.mono h1).trans (y.mono h2)) R
  | rt r e'=>exact fun F' H' σ' v y R A=>h F' H' σ' v ((x.mono h1).trans (y.mono h2)) R (A.weak x.dom)
section
variable{X:Cx}{K:PySem.W.Frag}{W W1 W2:List Nat}{st:Stmt}{dr:List Stmt}{f g:FS}{a b:Expr}{fa:FE}{ft:FT}{pos:Pos}
def dQ:FS:=fun e=>some (.nx e)
def aH(f g:FS):FS:=fun e=>(f e).bind fun fl=>match fl with
  | .nx e1=>g e1
  | fl=>some fl
theorem bh:jJ X [] (fS K dQ []):=w_.mono fun D σ H h=>by
  obtain⟨F,e,fl,R,hf,q⟩:=h
  cases hf
  exact q F H σ cQ.refl R
theorem ah(h1:PS X st (fS K f W1))(h2:jJ X dr (fS K g W2)):jJ X (st::dr) (fS K (aH f g) (W1++W2)):=(uM h1 h2).mono fun D σ H h=>by
  obtain⟨F,e,fl,R,hf,q⟩:=h
  unfold aH at hf
  obtain⟨fl1,h1,hf⟩:=Option.bind_eq_some_iff.mp hf
  have s1:∀j,j∈W1→j∈W1++W2:=fun j h=>List.mem_append.mpr (.inl h)
  have s2:∀j,j∈W2→j∈W1++W2:=fun j h=>List.mem_append.mpr (.inr h)
  refine⟨F,e,fl1,R,h1,?_⟩
  cases fl1 with
  | nx e1=>exact fun F' H' σ' x R'=>⟨F',e1,fl,R',hf,q.later x s1 s2⟩
  | bk e1=>cases hf;exact fun F' H' σ' x R'=>q F' H' σ' (x.mono s1) R'
  | ct e1=>cases hf;exact fun F' H' σ' x R'=>q F' H' σ' (x.mono s1) R'
  | rt r e1=>cases hf;exact fun F' H' σ' v x R' A=>q F' H' σ' v (x.mono s1) R' A
theorem am(h1:PS X st (fS K f W)):jJ X [st] (fS K f W):=xa h1
def gv(fa:FE):FS:=fun e=>(fa e).map fun p=>.nx p.2
theorem ez(he:PE X a (fE K fa))(hs:swapsWith a none pos.line X.env=pure false):PS X (.Expr a pos) (fS K (gv fa) []):=(wZ he hs).mono fun D σ H h=>by
  obtain⟨F,e,fl,R,hf,q⟩:=h
  obtain⟨⟨x,e1⟩,h1,hf⟩:=Option.map_eq_some_iff.mp hf
  cases hf
  exact⟨F,e,x,e1,R,h1,fun F1 H1 v X1 R1 A1=>q F1 H1 σ X1.s R1⟩
def bx(fa:FE):FS:=fun e=>(fa e).map fun p=>.rt p.1 p.2
theorem aF(he:PE X a (fE K fa)):PS X (.Return (some a) pos) (fS K (bx fa) []):=(zT he).mono fun D σ H h=>by
  obtain⟨F,e,fl,R,hf,q⟩:=h
  obtain⟨⟨x,e1⟩,h1,hf⟩:=Option.map_eq_some_iff.mp hf
  cases hf
  exact⟨F,e,x,e1,R,h1,fun F1 H1 v X1 R1 A1=>q F1 H1 σ v X1.s R1 A1⟩
def iP(ft:FT)(f g:FS):FS:=fun e=>(ft e).bind fun p=>if p.1=true then f p.2 else g p.2
theorem cM{c:Expr}{bs cs:List Stmt}(hc:PT X c (fT K ft))(ha:jJ X bs (fS K f W1))(hb:jJ X cs (fS K g W2)):PS X (.If c bs cs pos) (fS K (iP ft f g) (W1++W2)):=(B1 hc ha hb).mono fun D σ H h=>by
  obtain⟨F,e,fl,R,hf,q⟩:=h
  unfold iP at hf
  obtain⟨⟨x,e1⟩,h1,hf⟩:=Option.bind_eq_some_iff.mp hf
  refine⟨F,e,x,e1,R,h1,fun F1 H1 X1 R1=>?_⟩
  cases x with
  | true=>exact⟨F1,e1,fl,R1,hf,q.later (W1:=[]) X1.s (fun j h=>by cases h) fun j h=>List.mem_append.mpr (.inl h)⟩
  | false=>exact⟨F1,e1,fl,R1,hf,q.later (W1:=[]) X1.s (fun j h=>by cases h) fun j h=>List.mem_append.mpr (.inr h)⟩
def xg(i:Nat)(r:Rv)(e:En):Option En:=match r with
  | .d x=>some (e.set i (some (.d x)))
  | .l xs=>some (e.set i (some (.l xs)))
  | .s _=>none
theorem uO{σ:L2.St}{H F H1 F1:Hp}{e e1 e2:En}{i:Nat}{r:Rv}{v:V}(R:aY K F H σ e)(X1:cT σ F H e F1 H1 e1)(R1:aY K F1 H1 σ e1)(A1:bM K σ H F1 H1 e1 r v)(h:xg i r e1=some e2):
    cQ [i] σ F H e (σ.set i (some v)) F1 H1 e2∧aY K F1 H1 (σ.set i (some v)) e2:=by
  have wr:∀j,j∉[i]→(σ.set i (some v))[j]?=σ[j]?:=fun j n=>List.getElem?_set_ne (fun z=>n (by simp [z]))
  cases r with
  | d x=>
    cases h
    obtain⟨R2,o2⟩:=R1.setD i A1
    exact⟨⟨X1.sf,X1.dom,X1.fr,X1.lst,X1.tmp,fun a h=>X1.ow a (o2 a h),wr⟩,R2⟩
  | l xs=>
    cases h
    obtain⟨l,vs,rfl,h1,h2,h3,h4,h5⟩:=A1
    obtain⟨R2,o2⟩:=R1.setL i h2 h3 h4 h5
    refine⟨⟨X1.sf,X1.dom,X1.fr,X1.lst,X1.tmp,fun a h=>?_,wr⟩,R2⟩
    rcases o2 a h with z | z
    · exact X1.ow a z
    · exact .inr (by rw [z];exact h1)
  | s j=>cases h
def a8(i:Nat)(fa:FE):FS:=fun e=>(fa e).bind fun p=>(xg i p.1 p.2).map .nx
theorem aC{i:Nat}{x:Str}{pos':Pos}(hN:X.N.Nodup)(hi:X.N[i]?=some x)(hx:AM X.env.scope x)(he:PE X a (fE K fa))(hs:swapsWith a (some (.Name x pos')) pos.line X.env=pure false)(hf:X.fn x=true∨X.env.scope.names.lookup x=some .local):
    PS X (.Assign [.Name x pos'] a pos) (fS K (a8 i fa) [i]):=(zU hN hi hx he hs hf).mono fun D σ H h=>by
  obtain⟨F,e,fl,R,hf,q⟩:=h
  unfold a8 at hf
  obtain⟨⟨r,e1⟩,h1,hf⟩:=Option.bind_eq_some_iff.mp hf
  obtain⟨e2,h2,hf⟩:=Option.map_eq_some_iff.mp hf
  cases hf
  refine⟨F,e,r,e1,R,h1,fun F1 H1 v X1 R1 A1=>?_⟩
  obtain⟨x,R2⟩:=uO R X1 R1 A1 h2
  exact q F1 H1 _ x R2
abbrev FG:=PyData→En→Option En
def fG(K:PySem.W.Frag)(g:FG)(W:List Nat):TG:=fun v σ H Q=>∃F e x e',aY K F H σ e∧DA K F x v∧g x e=some e'∧∀σ',cQ W σ F H e σ' F H e'→aY K F H σ' e'→Q σ' H
abbrev xK:=List PyData→En→Option En
def CT(K:PySem.W.Frag)(g:xK)(W:List Nat):vA:=fun vs σ H Q=>∃F e xs e',aY K F H σ e∧aG K F xs vs∧g xs e=some e'∧∀σ',cQ W σ F H e σ' F H e'→aY K F H σ' e'→Q σ' H
theorem PG.mono{tg:Expr}{t t':TG}(h:PG X tg t)(m:∀v σ H Q,t' v σ H Q→t v σ H Q):PG X tg t':=fun pins s σ H v u Q I r q=>h pins s σ H v u Q I r (m v σ H Q q)
theorem r_.mono{tg:List Expr}{t t':vA}(h:r_ X tg t)(m:∀v σ H Q,t' v σ H Q→t v σ H Q):r_ X tg t':=fun pins s σ H v u Q I r q=>h pins s σ H v u Q I r (m v σ H Q q)
def aq(i:Nat):FG:=fun x e=>some (e.set i (some (.d x)))
def dI:xK:=fun xs e=>match xs with
  | []=>some e
  | _=>none
def be(g:FG)(gs:xK):xK:=fun xs e=>match xs with
  | x::r=>(g x e).bind fun e1=>gs r e1
  | _=>none
def er(gs:xK):FG:=fun x e=>match x with
  | .tuple xs=>gs xs e
  | _=>none
theorem aX{i:Nat}{x:Str}(hN:X.N.Nodup)(hi:X.N[i]?=some x)(hx:AM X.env.scope x)(hf:X.fn x=true∨X.env.scope.names.lookup x=some .local):PG X (.Name x pos) (fG K (aq i) [i]):=(wM hN hi hx hf).mono fun v σ H Q h=>by
  obtain⟨F,e,x,e',R,hx,hg,q⟩:=h
  cases hg
  obtain⟨R2,o2⟩:=R.setD i hx
  exact q _ ⟨ax.refl _,fun _ h=>h,fun _ _ h _ _=>h,fun _ vs h=>⟨vs,h⟩,fun _ _ h _=>h,fun a h=>.inl (o2 a h),fun j n=>List.getElem?_set_ne (fun z=>n (by simp [z]))⟩ R2
theorem jV:r_ X [] (CT K dI []):=wO.mono fun v σ H Q h=>by
  obtain⟨F,e,x,e',R,hx,hg,q⟩:=h
  unfold dI at hg
  split at hg
  · cases hg
    simp only [aG] at hx
    exact⟨hx,q σ cQ.refl R⟩
  · cases hg
theorem dq{es:List Expr}{g1:FG}{gs:xK}(h1:PG X a (fG K g1 W1))(h2:r_ X es (CT K gs W2))
    (hs:(assignEach (a::es) X.env).map (·.2)=assign a X.env::(assignEach es X.env).map (·.2)):r_ X (a::es) (CT K (be g1 gs) (W1++W2)):=(uw h1 h2 hs).mono fun v σ H Q h=>by
  obtain⟨F,e,xs,e',R,hx,hg,q⟩:=h
  unfold be at hg
  match xs,hg,hx with
  | x::r,hg,hx=>
    simp only [aG] at hx
    obtain⟨w,ws,e1,hw,hr⟩:=hx
    dsimp only at hg
    obtain⟨e1',h3,h4⟩:=Option.bind_eq_some_iff.mp hg
    refine⟨w,ws,e1,F,e,x,e1',R,hw,h3,fun σ1 x1 R1=>⟨F,e1',r,e',R1,hr,h4,fun σ2 x2 R2=>?_⟩⟩
    exact q σ2 ((x1.mono fun j h=>List.mem_append.mpr (.inl h)).trans (x2.mono fun j h=>List.mem_append.mpr (.inr h))) R2
theorem m5{es:List Expr}{k n:Nat}{gs:xK}(hK:X.K=K)(hc:X.calm=true)(h:r_ X es (CT K gs W))(hl:∀xs e e',gs xs e=some e'→xs.length=n)(hn:(assignEach es X.env).length=n)(hst:(assignEach es X.env).findIdx? (·.1)=none):PG X (.Tuple es k pos) (fG K (er gs) W):=(wN hK hc h hn hst).mono fun v σ H Q h=>by
  obtain⟨F,e,x,e',R,hx,hg,q⟩:=h
  unfold er at hg
  match x,hg,hx with
  | .tuple xs,hg,hx=>
    obtain⟨p,vs,e1,e2,e3⟩:=ci.mp hx
    exact⟨p,vs,e1,R.sm.tup e2,by rw [←e3.len];exact hl xs e e' hg,F,e,xs,e',R,e3,hg,q⟩
theorem mM(xs:List PyData)(e e':En)(h:dI xs e=some e'):xs.length=0:=by
  unfold dI at h
  split at h
  · rfl
  · cases h
theorem en{g:FG}{gs:xK}{n:Nat}(hl:∀xs e e',gs xs e=some e'→xs.length=n)(xs:List PyData)(e e':En)(h:be g gs xs e=some e'):xs.length=n+1:=by
  unfold be at h
  match xs,h with
  | x::r,h=>
    obtain⟨e1,h3,h4⟩:=Option.bind_eq_some_iff.mp h
    simp [hl r e1 e' h4]
def vc(fa:FE)(g:FG):FS:=fun e=>(fa e).bind fun p=>match p.1 with
  | .d x=>(g x p.2).map .nx
  | _=>none
theorem z3{tg:Expr}{g:FG}(he:PE X a (fE K fa))(hg:PG X tg (fG K g W))(hs:swapsWithSole [tg] a pos.line X.env=pure false)(hw:swappedStores [tg] a X.env=pure none)
    (h1:(assignEach [tg] X.env).map (·.2)=[assign tg X.env]):PS X (.Assign [tg] a pos) (fS K (vc fa g) W):=(zQ he hg hs hw h1).mono fun D σ H h=>by
  obtain⟨F,e,fl,R,hf,q⟩:=h
  unfold vc at hf
  obtain⟨⟨r,e1⟩,h1,hf⟩:=Option.bind_eq_some_iff.mp hf
  match r,h1,hf with
  | .d x,h1,hf=>
    obtain⟨e2,h2,hf⟩:=Option.map_eq_some_iff.mp hf
    cases hf
    exact⟨F,e,_,e1,R,h1,fun F1 H1 v X1 R1 A1=>⟨F1,e1,x,e2,R1,A1,h2,fun σ' x2 R2=>q F1 H1 σ' (X1.s.trans x2) R2⟩⟩
def vd(i j:Nat)(fs:FA):FS:=fun e=>(fs e).bind fun p=>match p.1 with
  | [.d x,.d y]=>some (.nx ((p.2.set i (some (.d x))).set j (some (.d y))))
  | _=>none
theorem z9{i j:Nat}{x y:Str}{fs:FA}{px py pt:Pos}{kt k2 pt2}(hc:X.calm=true)(hN:X.N.Nodup)(hi:X.N[i]?=some x)(hj:X.N[j]?=some y)(hij:i≠j)
    (hx:X.env.scope.names.lookup x=some .local)(hy:X.env.scope.names.lookup y=some .local)(ha:PA X [a,b] (fA K fs))
    (hw:swappedStores [.Tuple [.Name x px,.Name y py] kt pt] (.Tuple [a,b] k2 pt2) X.env=pure (some [x,y]))
    (hs:swapsWithSole [.Tuple [.Name x px,.Name y py] kt pt] (.Tuple [a,b] k2 pt2) pos.line X.env=pure false):
    PS X (.Assign [.Tuple [.Name x px,.Name y py] kt pt] (.Tuple [a,b] k2 pt2) pos) (fS K (vd i j fs) [i,j]):=(zS hc hN hi hj hij hx hy ha hw hs).mono fun D σ H h=>by
  obtain⟨F,e,fl,R,hf,q⟩:=h
  unfold vd at hf
  obtain⟨⟨rs,e1⟩,h1,hf⟩:=Option.bind_eq_some_iff.mp hf
  refine⟨F,e,rs,e1,R,h1,fun F1 H1 vs X1 R1 A1=>?_⟩
  match rs,hf,A1 with
  | [.d x,.d y],hf,A1=>
    cases hf
    obtain⟨v,u,rfl,a1,a2⟩:=m7 A1
    obtain⟨R2,o2⟩:=R1.setD i a1
    obtain⟨R3,o3⟩:=R2.setD j a2
    refine⟨v,u,rfl,q F1 H1 _ ⟨X1.sf,X1.dom,X1.fr,X1.lst,X1.tmp,fun a h=>X1.ow a (o2 a (o3 a h)),fun m n=>?_⟩ R3⟩
    rw [List.getElem?_set_ne (fun z=>n (by simp [z])),List.getElem?_set_ne (fun z=>n (by simp [z]))]
def pA:Rv→Option PyData
  | .d x=>some x
  | .l xs=>some (.list xs)
  | .s _=>none
theorem ri{r:Rv}{d:PyData}(h:pA r=some d):iA [r]=some [d]:=by
  cases r with
  | d x=>cases h;rfl
  | l xs=>cases h;rfl
  | s i=>cases h
def fL(ft:FT)(f:FS):Nat→FS
  | 0,_=>none
  | n+1,e=>(ft e).bind fun p=>if p.1=true then(f p.2).bind fun fl=>match fl with
      | .nx e1=>fL ft f n e1
      | .ct e1=>fL ft f n e1
      | .bk e1=>some (.nx e1)
      | .rt r e1=>some (.rt r e1)
    else some (.nx p.2)
def ic(n:Nat)(ft:FT)(f:FS):FS:=fL ft f n
theorem kD{n:Nat}{c:Expr}{body:List Stmt}(hp:PassesOwn (model X.prog X.w) X.A X.env X.xe)(hc:PT X c (fT K ft))(hb:jJ X body (fS K f W)):PS X (.While c body [] pos) (fS K (ic n ft f) W):=(uL hp hc hb).mono fun D σ H h=>by
  refine⟨fun m σ H=>∃F e fl,aY K F H σ e∧fL ft f m e=some fl∧j' K W σ F H e D fl,⟨n,h⟩,?_⟩
  rintro m σ H ⟨F,e,fl,R,hf,q⟩
  cases m with
  | zero=>cases hf
  | succ m=>
    unfold fL at hf
    obtain⟨⟨x,e1⟩,h1,hf⟩:=Option.bind_eq_some_iff.mp hf
    refine⟨F,e,x,e1,R,h1,fun F1 H1 X1 R1=>?_⟩
    have sub:∀j,j∈([]:List Nat)→j∈W:=fun j h=>by cases h
    cases x with
    | false=>
      rw [if_neg (by simp)] at hf
      cases hf
      exact Bz (q F1 H1 σ X1.s R1)
    | true=>
      rw [if_pos rfl] at hf
      refine BA ?_
      obtain⟨fl1,h2,hf⟩:=Option.bind_eq_some_iff.mp hf
      have q1:j' K W σ F1 H1 e1 D fl:=q.later (W1:=[]) X1.s sub fun j h=>h
      refine⟨fun σ' H'=>∃F' e',aY K F' H' σ' e'∧fL ft f m e'=some fl∧j' K W σ' F' H' e' D fl,fun σ' H' ⟨F',e',r1,r2,r3⟩=>⟨m,Nat.lt_succ_self m,F',e',fl,r1,r2,r3⟩,F1,e1,fl1,R1,h2,?_⟩
      cases fl1 with
      | nx e2=>exact fun F2 H2 σ2 x R2=>⟨F2,e2,R2,hf,q1.later x (fun j h=>h) fun j h=>h⟩
      | ct e2=>exact fun F2 H2 σ2 x R2=>⟨F2,e2,R2,hf,q1.later x (fun j h=>h) fun j h=>h⟩
      | bk e2=>cases hf;exact fun F2 H2 σ2 x R2=>q1 F2 H2 σ2 x R2
      | rt r e2=>cases hf;exact fun F2 H2 σ2 v x R2 A=>q1 F2 H2 σ2 v x R2 A
end
end L2
namespace L2
open PySem PySem.Spec PyProof.Rows
theorem PI.mono{X:Cx}{tg iter:Expr}{t t':TI}(h:PI X tg iter t)(m:∀σ H R,t' σ H R→t σ H R):PI X tg iter t':=fun pins s σ H R I q=>h pins s σ H R I (m σ H R q)
theorem PI.or{X:Cx}{tg iter:Expr}{t t':TI}(h:PI X tg iter t)(h':PI X tg iter t'):PI X tg iter (fun σ H R=>t σ H R∨t' σ H R):=fun pins s σ H R I q=>by
  rcases q with q | q
  · exact h pins s σ H R I q
  · exact h' pins s σ H R I q
abbrev eL:=List (Nat × List PyData)
def sk(K:PySem.W.Frag)(σ:L2.St)(F H:Hp)(own:eL):Prop:=∀p∈own,∃l vs,σ[p.1]?=some (some (.ref l))∧H l=some (.lst vs)∧aG K F p.2 vs
def o_(K:PySem.W.Frag)(σ:L2.St)(J:It)(items:List PyData)(own:eL)(F0:Hp):Prop:=∀F H,ax F0 F→ax F H→sk K σ F H own→
  (∀i,i < items.length→J.go i H)∧(∀i,items.length≤i→J.stop i H)∧∀i d x H',items[i]?=some d→J.yld i H x H'→∃F',ax H H'∧ax F F'∧ax F' H'∧(∀a,F a=none→H a≠none→F' a=none)∧DA K F' d x
abbrev FI:=En→Option (List PyData × eL × En)
def keeps(own:eL)(e:En):Prop:=∀p∈own,e[p.1]?=some (some (.l p.2))
def fI(K:PySem.W.Frag)(f:FI):TI:=fun σ H R=>∃F e items own e',aY K F H σ e∧f e=some (items,own,e')∧∀J F' H',cT σ F H e F' H' e'→aY K F' H' σ e'→keeps own e'→o_ K σ J items own F'→R J H'
section
variable{K:PySem.W.Frag}{σ:L2.St}{H0 F H F' H':Hp}{e e':En}
theorem aY.held(R:aY K F H σ e){own:eL}(h:keeps own e):sk K σ F H own:=fun p hp=>by
  obtain⟨l,vs,h1,h2,h3,h4⟩:=R.own p.1 p.2 (h p hp)
  exact⟨l,vs,h1,h3,h4⟩
theorem aY.step(R:aY K F H σ e)(s:ax H H')(sF:ax F F')(sm:ax F' H')(fz:∀a,F a=none→H a≠none→F' a=none):aY K F' H' σ e∧cT σ F H e F' H' e:=by
  obtain⟨R',o'⟩:=R.keep sF sm (fun a ⟨i,h⟩=>by
    obtain⟨h1,vs,h2⟩:=R.fpAt h
    exact fz a h1 (by rw [h2];simp)) fun a o _ h=>s a o h
  exact⟨R',⟨sF,fun a h=>s.free h,fun a vs h1 h2 _=>fz a h1 (by rw [h2];simp),fun a vs h=>⟨vs,s _ _ h⟩,fun a o h _=>s a o h,fun _=>Iff.rfl,fun a h=>.inl ((o' a).mp h)⟩⟩
inductive ml (K:PySem.W.Frag) (σ:L2.St) (F:Hp) (p:Addr):Bool→List PyData→eL→Prop
  | tup {xs vs}:bB K F p vs→aG K F xs vs→ml K σ F p false xs []
  | lst {xs vs}:bR K F p vs→aG K F xs vs→ml K σ F p true xs []
  | own {i xs}:σ[i]?=some (some (.ref p))→ml K σ F p true xs [(i,xs)]
theorem ml.at{p:Addr}{b:Bool}{xs:List PyData}{own:eL}{F0:Hp}(h:ml K σ F0 p b xs own)(s0:ax F0 F)(s1:ax F H){own':eL}(hh:sk K σ F H own')(hs:∀q∈own,q∈own'):∃vs,aG K F xs vs∧(if b=true then bR K H p vs else bB K H p vs):=by
  cases h with
  | tup h1 h2=>exact⟨_,h2.mono s0,(s0.trans s1).tup h1⟩
  | lst h1 h2=>exact⟨_,h2.mono s0,(s0.trans s1).seq h1⟩
  | @own i xs h1=>
    obtain⟨l,vs,g1,g2,g3⟩:=hh (i,xs) (hs (i,xs) (by simp))
    dsimp only at g1 g3
    rw [h1] at g1;cases g1
    exact⟨vs,g3,.inl (.inl g2)⟩
def m9(e:En):Rv→Option (Bool × List PyData × eL)
  | .d (.tuple xs)=>some (false,xs,[])
  | .d (.list xs)=>some (true,xs,[])
  | .l xs=>some (true,xs,[])
  | .s i=>match e[i]? with
    | some (some (.l xs))=>some (true,xs,[(i,xs)])
    | _=>none
  | _=>none
theorem gW{r:Rv}{v:V}{b:Bool}{xs:List PyData}{own:eL}(R:aY K F H σ e)(A:bM K σ H0 F H e r v)(h:m9 e r=some (b,xs,own)):
    ∃F' p,aY K F' H σ e∧ax F F'∧(∀a,F a=none→H0 a≠none→F' a=none)∧v=.ref p∧ml K σ F' p b xs own∧keeps own e:=by
  cases r with
  | d x=>
    cases x with
    | tuple ds=>
      cases h
      obtain⟨a,ys,e1,e2,e3⟩:=ci.mp A
      exact⟨F,a,R,ax.refl _,fun _ h _=>h,e1,.tup e2 e3,fun p hp=>by cases hp⟩
    | list ds=>
      cases h
      obtain⟨a,ys,e1,e2,e3⟩:=cz.mp A
      exact⟨F,a,R,ax.refl _,fun _ h _=>h,e1,.lst e2 e3,fun p hp=>by cases hp⟩
    | _=>cases h
  | l ys=>
    cases h
    obtain⟨F',R',s',d',f'⟩:=A.frozen R
    obtain⟨a,ys,e1,e2,e3⟩:=cz.mp d'
    exact⟨F',a,R',s',f',e1,.lst e2 e3,fun p hp=>by cases hp⟩
  | s i=>
    obtain⟨h1,ys,h2⟩:=A
    simp only [m9,h2] at h
    cases h
    obtain⟨l,vs,e1,e2,e3,e4⟩:=R.own i _ h2
    rw [h1] at e1;cases e1
    exact⟨F,l,R,ax.refl _,fun _ h _=>h,rfl,.own h1,fun p hp=>by simp only [List.mem_singleton] at hp;subst hp;exact h2⟩
theorem rD{p:Addr}{xs:List PyData}{own:eL}{F0:Hp}(h:ml K σ F0 p true xs own):o_ K σ (C2 K p) xs own F0:=by
  intro F H s0 s1 hh
  obtain⟨vs,d,q⟩:=h.at s0 s1 hh fun _ h=>h
  have q:bR K H p vs:=q
  refine⟨fun i hi=>⟨vs,vs[i]'(by rw [←d.len];exact hi),q,List.getElem?_eq_getElem _⟩,fun i hi=>⟨vs,q,by rw [←d.len];exact hi⟩,fun i x v H' hx hy=>?_⟩
  obtain⟨rfl,hy⟩:=hy
  obtain⟨w,g1,g2⟩:=d.get hx
  have e:=hy vs q
  rw [g1] at e;cases e
  exact⟨F,ax.refl _,ax.refl _,s1,fun _ h _=>h,g2⟩
theorem tX{p:Addr}{xs:List PyData}{own:eL}{F0:Hp}(h:ml K σ F0 p false xs own):o_ K σ (C3 K p) xs own F0:=by
  intro F H s0 s1 hh
  obtain⟨vs,d,q⟩:=h.at s0 s1 hh fun _ h=>h
  have q:bB K H p vs:=q
  refine⟨fun i hi=>⟨vs,vs[i]'(by rw [←d.len];exact hi),q,List.getElem?_eq_getElem _⟩,fun i hi=>⟨vs,q,by rw [←d.len];exact hi⟩,fun i x v H' hx hy=>?_⟩
  obtain⟨rfl,hy⟩:=hy
  obtain⟨w,g1,g2⟩:=d.get hx
  have e:=hy vs q
  rw [g1] at e;cases e
  exact⟨F,ax.refl _,ax.refl _,s1,fun _ h _=>h,g2⟩
theorem ku{p:Addr}{x y:V}{a b:PyData}(s1:ax F H)(hp:H p=none)(hx:DA K F a x)(hy:DA K F b y):∃F',ax H (aT H p (.tup [x,y]))∧ax F F'∧ax F' (aT H p (.tup [x,y]))∧(∀c,F c=none→H c≠none→F' c=none)∧DA K F' (.tuple [a,b]) (.ref p):=by
  have hF:F p=none:=s1.free hp
  have sF:ax F (aT F p (.tup [x,y])):=ax.new hF
  refine⟨aT F p (.tup [x,y]),ax.new hp,sF,fun b o q=>?_,fun c h n=>?_,ci.mpr ⟨p,_,rfl,.inl (.inl ay),.cons (DA.mono sF hx) (.one (DA.mono sF hy))⟩⟩
  · by_cases z:b=p
    · subst z;rw [ay] at q ⊢;exact q
    · rw [aE z] at q ⊢;exact s1 _ _ q
  · have z:c≠p:=fun z=>n (by rw [z];exact hp)
    rw [aE z];exact h
def em:Nat→List PyData→List PyData
  | _,[]=>[]
  | n,x::r=>.tuple [.int n,x]::em (n+1) r
theorem gG:∀{xs:List PyData} {n i:Nat},(em n xs)[i]?=(xs[i]?).map fun x=>.tuple [.int ((n+i:Nat):Int),x]
  | [],n,i=>by simp [em]
  | x::r,n,0=>by simp [em]
  | x::r,n,i+1=>by
    simp only [em,List.getElem?_cons_succ]
    rw [gG (xs:=r) (n:=n+1) (i:=i)]
    congr 1
    funext y
    rw [show n+1+i=n+(i+1) by lia]
theorem jc:∀(xs:List PyData) (n:Nat),(em n xs).length=xs.length
  | [],_=>rfl
  | x::r,n=>by simp [em,jc r (n+1)]
theorem pF{p:Addr}{xs:List PyData}{own:eL}{F0:Hp}(h:ml K σ F0 p true xs own):o_ K σ (yw K p) (em 0 xs) own F0:=by
  intro F H s0 s1 hh
  obtain⟨vs,d,q⟩:=h.at s0 s1 hh fun _ h=>h
  have q:bR K H p vs:=q
  rw [jc]
  refine⟨fun i hi=>⟨vs,vs[i]'(by rw [←d.len];exact hi),q,List.getElem?_eq_getElem _⟩,fun i hi=>⟨vs,q,by rw [←d.len];exact hi⟩,fun i x v H' hx hy=>?_⟩
  obtain⟨t,y,rfl,ht,rfl,hy⟩:=hy
  rw [gG] at hx
  obtain⟨x',hx2,rfl⟩:=Option.map_eq_some_iff.mp hx
  obtain⟨w,g1,g2⟩:=d.get hx2
  have e:=hy vs q
  rw [g1] at e;cases e
  exact ku s1 ht (bC.mpr (by simp)) g2
theorem pG{p:Addr}{xs:List PyData}{own:eL}{F0:Hp}(h:ml K σ F0 p false xs own):o_ K σ (yx K p) (em 0 xs) own F0:=by
  intro F H s0 s1 hh
  obtain⟨vs,d,q⟩:=h.at s0 s1 hh fun _ h=>h
  have q:bB K H p vs:=q
  rw [jc]
  refine⟨fun i hi=>⟨vs,vs[i]'(by rw [←d.len];exact hi),q,List.getElem?_eq_getElem _⟩,fun i hi=>⟨vs,q,by rw [←d.len];exact hi⟩,fun i x v H' hx hy=>?_⟩
  obtain⟨t,y,rfl,ht,rfl,hy⟩:=hy
  rw [gG] at hx
  obtain⟨x',hx2,rfl⟩:=Option.map_eq_some_iff.mp hx
  obtain⟨w,g1,g2⟩:=d.get hx2
  have e:=hy vs q
  rw [g1] at e;cases e
  exact ku s1 ht (bC.mpr (by simp)) g2
def cS:List PyData→List PyData→List PyData
  | x::r,y::s=>.tuple [x,y]::cS r s
  | _,_=>[]
theorem k8:∀{xs ys:List PyData} {i:Nat} {d:PyData},(cS xs ys)[i]?=some d→∃x y,xs[i]?=some x∧ys[i]?=some y∧d=.tuple [x,y]
  | [],ys,i,d,h=>by simp [cS] at h
  | x::r,[],i,d,h=>by simp [cS] at h
  | x::r,y::s,0,d,h=>by
    simp only [cS,List.getElem?_cons_zero] at h
    cases h;exact⟨x,y,rfl,rfl,rfl⟩
  | x::r,y::s,i+1,d,h=>by
    simp only [cS,List.getElem?_cons_succ] at h
    obtain⟨a,b,h1,h2,h3⟩:=k8 h
    exact⟨a,b,by simpa using h1,by simpa using h2,h3⟩
theorem zipD_len:∀(xs ys:List PyData),(cS xs ys).length=min xs.length ys.length
  | [],ys=>by simp [cS]
  | x::r,[]=>by simp [cS]
  | x::r,y::s=>by simp [cS,zipD_len r s]
theorem iH{P Q:Hp→Addr→List V→Prop}{J:It}{l1 l2:Addr}{b1 b2:Bool}{xs ys:List PyData}{own1 own2:eL}{F0:Hp}(h1:ml K σ F0 l1 b1 xs own1)(h2:ml K σ F0 l2 b2 ys own2)
    (hP:∀H vs,(if b1=true then bR K H l1 vs else bB K H l1 vs)→P H l1 vs)(hQ:∀H vs,(if b2=true then bR K H l2 vs else bB K H l2 vs)→Q H l2 vs)
    (go:∀i H vs us x y,P H l1 vs→Q H l2 us→vs[i]?=some x→us[i]?=some y→J.go i H)(stop:∀i H vs us,P H l1 vs→Q H l2 us→(vs.length≤i∨us.length≤i)→J.stop i H)
    (yld:∀i H v H',J.yld i H v H'→∃p x y,v=.ref p∧H p=none∧H'=aT H p (.tup [x,y])∧∀xs ys,P H l1 xs→Q H l2 ys→xs[i]?=some x∧ys[i]?=some y):
    o_ K σ J (cS xs ys) (own1++own2) F0:=by
  intro F H s0 s1 hh
  obtain⟨vs,d1,q1⟩:=h1.at s0 s1 hh fun _ h=>List.mem_append.mpr (.inl h)
  obtain⟨us,d2,q2⟩:=h2.at s0 s1 hh fun _ h=>List.mem_append.mpr (.inr h)
  have q1:=hP H vs q1
  have q2:=hQ H us q2
  have l1':=d1.len
  have l2':=d2.len
  rw [zipD_len]
  refine⟨fun i hi=>go i H vs us (vs[i]'(by lia)) (us[i]'(by lia)) q1 q2 (List.getElem?_eq_getElem _) (List.getElem?_eq_getElem _),fun i hi=>stop i H vs us q1 q2 (by lia),fun i x v H' hx hy=>?_⟩
  obtain⟨t,a,b,rfl,ht,rfl,hy3⟩:=yld i H v H' hy
  obtain⟨x',y',hx2,hy',rfl⟩:=k8 hx
  obtain⟨w,g1,g2⟩:=d1.get hx2
  obtain⟨w',g3,g4⟩:=d2.get hy'
  obtain⟨e1,e2⟩:=hy3 vs us q1 q2
  rw [g1] at e1;cases e1
  rw [g3] at e2;cases e2
  exact ku s1 ht g2 g4
def bF(lo:Int)(n:Nat):List PyData:=(List.range n).map fun(i:Nat)=>.int (lo+(i:Int))
theorem pH{lo:Int}{n:Nat}{F0:Hp}:o_ K σ (CM lo n) (bF lo n) [] F0:=by
  intro F H s0 s1 hh
  unfold bF
  rw [List.length_map,List.length_range]
  refine⟨fun i hi=>hi,fun i hi=>hi,fun i x v H' hx hy=>?_⟩
  obtain⟨rfl,rfl⟩:=hy
  rw [List.getElem?_map] at hx
  obtain⟨k,h1,rfl⟩:=Option.map_eq_some_iff.mp hx
  have h2:=(List.getElem?_eq_some_iff.mp h1).2
  simp at h2
  subst h2
  exact⟨F,ax.refl _,ax.refl _,s1,fun _ h _=>h,bC.mpr rfl⟩
end
inductive C1 (K:PySem.W.Frag) (own:eL) (σ0:L2.St) (F1:Hp) (P:En→Prop) (G:L2.St→Hp→Hp→En→Prop) (σ:L2.St) (H:Hp):Prop
  | mk {F:Hp} {e:En} (R:aY K F H σ e) (kp:keeps own e) (hσ:∀p∈own,σ[p.1]?=σ0[p.1]?) (sF:ax F1 F) (hf:P e) (q:G σ F H e):C1 K own σ0 F1 P G σ H
section
variable{X:Cx}{K:PySem.W.Frag}{tg a b:Expr}{es:List Expr}{fa:FE}{fs:FA}{pos p tp:Pos}{k0:Nat}
def hU(fa:FE):FI:=fun e=>(fa e).bind fun p=>(m9 p.2 p.1).map fun s=>(s.2.1,s.2.2,p.2)
theorem fH(hK:X.K=K)(h:PE X a (fE K fa)):PI X tg a (fI K (hU fa)):=((uC (tg:=tg) hK h).or (wR (tg:=tg) hK h)).mono fun σ H R hh=>by
  obtain⟨F,e,items,own,e',R0,hf,q⟩:=hh
  unfold hU at hf
  obtain⟨⟨r,e1⟩,h1,hf⟩:=Option.bind_eq_some_iff.mp hf
  obtain⟨⟨b,xs,ow⟩,h2,hf⟩:=Option.map_eq_some_iff.mp hf
  cases hf
  cases b with
  | true=>
    refine .inl ⟨F,e,r,e1,R0,h1,fun F1 H1 v X1 R1 A1=>?_⟩
    obtain⟨F2,p,R2,s2,f2,rfl,sc,kp⟩:=gW R1 A1 h2
    obtain⟨vs,_,c⟩:=sc.at (ax.refl _) R2.sm (R2.held kp) fun _ h=>h
    exact⟨p,rfl,⟨vs,c⟩,q _ F2 H1 (X1.frz s2 f2) R2 kp (rD sc)⟩
  | false=>
    refine .inr ⟨F,e,r,e1,R0,h1,fun F1 H1 v X1 R1 A1=>?_⟩
    obtain⟨F2,p,R2,s2,f2,rfl,sc,kp⟩:=gW R1 A1 h2
    obtain⟨vs,_,c⟩:=sc.at (ax.refl _) R2.sm (R2.held kp) fun _ h=>h
    exact⟨p,rfl,⟨vs,c⟩,q _ F2 H1 (X1.frz s2 f2) R2 kp (tX sc)⟩
def qE(fs:FA):FI:=fun e=>(fs e).bind fun p=>match p.1 with
  | [r]=>(m9 p.2 r).map fun s=>(em 0 s.2.1,s.2.2,p.2)
  | _=>none
theorem xi(hK:X.K=K)(hg:Gl X "enumerate")(hm:X.mg "enumerate"=none)(ha:PA X [a] (fA K fs))(hs:starEach [a] X.env=[(false,eval a X.env)]):PI X (.Tuple es k0 tp) (.Call (.Name "enumerate" p) [a] [] pos) (fI K (qE fs)):=((uA (es:=es) (k0:=k0) (tp:=tp) hK hg hm ha hs).or (uB (es:=es) (k0:=k0) (tp:=tp) hK hg hm ha hs)).mono fun σ H R hh=>by
  obtain⟨F,e,items,own,e',R0,hf,q⟩:=hh
  unfold qE at hf
  obtain⟨⟨rs,e1⟩,h1,hf⟩:=Option.bind_eq_some_iff.mp hf
  match rs,h1,hf with
  | [r],h1,hf=>
  obtain⟨⟨b,xs,ow⟩,h2,hf⟩:=Option.map_eq_some_iff.mp hf
  cases hf
  cases b with
  | true=>
    refine .inl ⟨F,e,_,e1,R0,h1,fun F1 H1 vs X1 R1 A1=>?_⟩
    obtain⟨v,rfl,A2⟩:=gR A1
    obtain⟨F2,p,R2,s2,f2,rfl,sc,kp⟩:=gW R1 A2 h2
    obtain⟨vs,_,c⟩:=sc.at (ax.refl _) R2.sm (R2.held kp) fun _ h=>h
    exact⟨p,rfl,⟨vs,c⟩,q _ F2 H1 (X1.frz s2 f2) R2 kp (pF sc)⟩
  | false=>
    refine .inr ⟨F,e,_,e1,R0,h1,fun F1 H1 vs X1 R1 A1=>?_⟩
    obtain⟨v,rfl,A2⟩:=gR A1
    obtain⟨F2,p,R2,s2,f2,rfl,sc,kp⟩:=gW R1 A2 h2
    obtain⟨vs,_,c⟩:=sc.at (ax.refl _) R2.sm (R2.held kp) fun _ h=>h
    exact⟨p,rfl,⟨vs,c⟩,q _ F2 H1 (X1.frz s2 f2) R2 kp (pG sc)⟩
def lT(fs:FA):FI:=fun e=>(fs e).bind fun p=>match p.1 with
  | [r,t]=>(m9 p.2 r).bind fun s=>(m9 p.2 t).map fun u=>(cS s.2.1 u.2.1,s.2.2++u.2.2,p.2)
  | _=>none
theorem ml.mono{σ:L2.St}{F F':Hp}{p:Addr}{b:Bool}{xs:List PyData}{own:eL}(h:ml K σ F p b xs own)(s:ax F F'):ml K σ F' p b xs own:=by
  cases h with
  | tup h1 h2=>exact .tup (s.tup h1) (h2.mono s)
  | lst h1 h2=>exact .lst (s.seq h1) (h2.mono s)
  | own h1=>exact .own h1
theorem uT(hK:X.K=K)(hg:Gl X "zip")(hm:X.mg "zip"=none)(ha:PA X [a,b] (fA K fs))(hs:starEach [a,b] X.env=[(false,eval a X.env),(false,eval b X.env)])(hs2:starEach [b] X.env=[(false,eval b X.env)]):PI X (.Tuple es k0 tp) (.Call (.Name "zip" p) [a,b] [] pos) (fI K (lT fs)):=
    (((zP (es:=es) (k0:=k0) (tp:=tp) hK hg hm ha hs hs2).or (uE (es:=es) (k0:=k0) (tp:=tp) hK hg hm ha hs hs2)).or ((uF (es:=es) (k0:=k0) (tp:=tp) hK hg hm ha hs hs2).or (uD (es:=es) (k0:=k0) (tp:=tp) hK hg hm ha hs hs2))).mono fun σ H R hh=>by
  obtain⟨F,e,items,own,e',R0,hf,q⟩:=hh
  unfold lT at hf
  obtain⟨⟨rs,e1⟩,h1,hf⟩:=Option.bind_eq_some_iff.mp hf
  match rs,h1,hf with
  | [r,t],h1,hf=>
  obtain⟨⟨b,xs,ow⟩,h2,hf⟩:=Option.bind_eq_some_iff.mp hf
  obtain⟨⟨b',ys,ow'⟩,h3,hf⟩:=Option.map_eq_some_iff.mp hf
  cases hf
  have key:∀F1 H1 vs,cT σ F H e F1 H1 e1→aY K F1 H1 σ e1→cE K σ H F1 H1 e1 [r,t] vs→∃p p' F2,vs=[.ref p,.ref p']∧cT σ F H e F2 H1 e1∧aY K F2 H1 σ e1∧ml K σ F2 p b xs ow∧ml K σ F2 p' b' ys ow'∧keeps (ow++ow') e1:=by
    intro F1 H1 vs X1 R1 A1
    obtain⟨v,u,rfl,a1,a2⟩:=m7 A1
    obtain⟨F2,p,R2,s2,f2,rfl,sc,kp⟩:=gW R1 a1 h2
    have X2:=X1.frz s2 f2
    have a2':bM K σ H F2 H1 e1 t u∨∃zs,t=.l zs∧DA K F2 (.list zs) u:=by
      cases t with
      | d x=>exact .inl (DA.mono s2 a2)
      | s i=>exact .inl a2
      | l zs=>
        obtain⟨l,ws,rfl,g1,g2,g3,g4,g5⟩:=a2
        cases hl:F2 l with
        | none=>exact .inl ⟨l,ws,rfl,g1,hl,g3,aG.mono s2 g4,g5⟩
        | some o=>
          have:=R2.sm _ _ hl
          rw [g3] at this;cases this
          exact .inr ⟨zs,rfl,cz.mpr ⟨l,ws,rfl,.inl (.inl hl),aG.mono s2 g4⟩⟩
    rcases a2' with a2' | ⟨zs,rfl,d2⟩
    · obtain⟨F3,p',R3,s3,f3,rfl,sc',kp'⟩:=gW R2 a2' h3
      exact⟨p,p',F3,rfl,X2.frz s3 f3,R3,sc.mono s3,sc',fun z hz=>(List.mem_append.mp hz).elim (kp z) (kp' z)⟩
    · cases h3
      obtain⟨p',ws,rfl,g1,g2⟩:=cz.mp d2
      exact⟨p,p',F2,rfl,X2,R2,sc,.lst g1 g2,fun z hz=>(List.mem_append.mp hz).elim (kp z) fun h=>by cases h⟩
  have fin:∀{F2 H1:Hp} {p p':Addr},aY K F2 H1 σ e1→ml K σ F2 p b xs ow→ml K σ F2 p' b' ys ow'→keeps (ow++ow') e1→(∃vs,if b=true then bR K H1 p vs else bB K H1 p vs)∧(∃vs,if b'=true then bR K H1 p' vs else bB K H1 p' vs):=by
    intro F2 H1 p p' R2 s1 s2 kp
    obtain⟨vs,_,c⟩:=s1.at (ax.refl _) R2.sm (R2.held kp) fun _ h=>List.mem_append.mpr (.inl h)
    obtain⟨us,_,c'⟩:=s2.at (ax.refl _) R2.sm (R2.held kp) fun _ h=>List.mem_append.mpr (.inr h)
    exact⟨⟨vs,c⟩,⟨us,c'⟩⟩
  cases b with
  | false=>cases b' with
    | false=>
      refine .inl (.inl ⟨F,e,_,e1,R0,h1,fun F1 H1 vs X1 R1 A1=>?_⟩)
      obtain⟨p,p',F2,rfl,X2,R2,s1,s2,kp⟩:=key F1 H1 vs X1 R1 A1
      obtain⟨c1,c2⟩:=fin R2 s1 s2 kp
      exact⟨p,p',rfl,c1,c2,q _ F2 H1 X2 R2 kp (iH (P:=bB K) (Q:=bB K) s1 s2 (fun _ _ h=>h) (fun _ _ h=>h) (fun i H vs us x y h1 h2 h3 h4=>⟨vs,us,x,y,h1,h2,h3,h4⟩) (fun i H vs us h1 h2 h3=>⟨vs,us,h1,h2,h3⟩) fun i H v H' h=>h)⟩
    | true=>
      refine .inr (.inl ⟨F,e,_,e1,R0,h1,fun F1 H1 vs X1 R1 A1=>?_⟩)
      obtain⟨p,p',F2,rfl,X2,R2,s1,s2,kp⟩:=key F1 H1 vs X1 R1 A1
      obtain⟨c1,c2⟩:=fin R2 s1 s2 kp
      exact⟨p,p',rfl,c1,c2,q _ F2 H1 X2 R2 kp (iH (P:=bB K) (Q:=bR K) s1 s2 (fun _ _ h=>h) (fun _ _ h=>h) (fun i H vs us x y h1 h2 h3 h4=>⟨vs,us,x,y,h1,h2,h3,h4⟩) (fun i H vs us h1 h2 h3=>⟨vs,us,h1,h2,h3⟩) fun i H v H' h=>h)⟩
  | true=>cases b' with
    | false=>
      refine .inl (.inr ⟨F,e,_,e1,R0,h1,fun F1 H1 vs X1 R1 A1=>?_⟩)
      obtain⟨p,p',F2,rfl,X2,R2,s1,s2,kp⟩:=key F1 H1 vs X1 R1 A1
      obtain⟨c1,c2⟩:=fin R2 s1 s2 kp
      exact⟨p,p',rfl,c1,c2,q _ F2 H1 X2 R2 kp (iH (P:=bR K) (Q:=bB K) s1 s2 (fun _ _ h=>h) (fun _ _ h=>h) (fun i H vs us x y h1 h2 h3 h4=>⟨vs,us,x,y,h1,h2,h3,h4⟩) (fun i H vs us h1 h2 h3=>⟨vs,us,h1,h2,h3⟩) fun i H v H' h=>h)⟩
    | true=>
      refine .inr (.inr ⟨F,e,_,e1,R0,h1,fun F1 H1 vs X1 R1 A1=>?_⟩)
      obtain⟨p,p',F2,rfl,X2,R2,s1,s2,kp⟩:=key F1 H1 vs X1 R1 A1
      obtain⟨c1,c2⟩:=fin R2 s1 s2 kp
      exact⟨p,p',rfl,c1,c2,q _ F2 H1 X2 R2 kp (iH (P:=bR K) (Q:=bR K) s1 s2 (fun _ _ h=>h) (fun _ _ h=>h) (fun i H vs us x y h1 h2 h3 h4=>⟨vs,us,x,y,h1,h2,h3,h4⟩) (fun i H vs us h1 h2 h3=>⟨vs,us,h1,h2,h3⟩) fun i H v H' h=>h)⟩
def u9(j:Int):Bool:=decide (-1000000≤j)&&decide (j≤1000000)
theorem u_{j:Int}(h:u9 j=true): -1000000≤j∧j≤1000000:=by
  unfold u9 at h
  rw [Bool.and_eq_true,decide_eq_true_iff,decide_eq_true_iff] at h
  exact h
def dc(fs:FA):FI:=fun e=>(fs e).bind fun p=>match p.1 with
  | [r]=>(bS r).bind fun j=>if u9 j=true then some (bF 0 j.toNat,[],p.2) else none
  | _=>none
theorem dZ(hg:Gl X "range")(hm:X.mg "range"=none)(ha:PA X [a] (fA K fs))(hs:starEach [a] X.env=[(false,eval a X.env)]):PI X tg (.Call (.Name "range" p) [a] [] pos) (fI K (dc fs)):=(rO hg hm ha hs).mono fun σ H R hh=>by
  obtain⟨F,e,items,own,e',R0,hf,q⟩:=hh
  unfold dc at hf
  obtain⟨⟨rs,e1⟩,h1,hf⟩:=Option.bind_eq_some_iff.mp hf
  match rs,h1,hf with
  | [r],h1,hf=>
  obtain⟨j,h2,hf⟩:=Option.bind_eq_some_iff.mp hf
  split at hf
  case isFalse=>cases hf
  case isTrue hj=>
  cases hf
  refine⟨F,e,_,e1,R0,h1,fun F1 H1 vs X1 R1 A1=>?_⟩
  obtain⟨v,rfl,A2⟩:=gR A1
  have:=u_ hj
  exact⟨j,by rw [bX A2 h2],by lia,by lia,q _ F1 H1 X1 R1 (fun _ h=>by cases h) pH⟩
open Classical in
noncomputable def gZ(own:eL)(g:FG)(f:FS):List PyData→FS
  | [],e=>some (.nx e)
  | x::r,e=>(g x e).bind fun e1=>(f e1).bind fun fl=>match fl with
    | .nx e2=>if keeps own e2 then gZ own g f r e2 else none
    | .ct e2=>if keeps own e2 then gZ own g f r e2 else none
    | .bk e2=>some (.nx e2)
    | .rt v e2=>some (.rt v e2)
noncomputable def cR(W:List Nat)(fi:FI)(g:FG)(f:FS):FS:=fun e=>(fi e).bind fun p=>if (p.2.1.all fun q=> !W.contains q.1)=true then gZ p.2.1 g f p.1 p.2.2 else none
theorem dD{W1 W2:List Nat}{iter:Expr}{body:List Stmt}{fi:FI}{g:FG}{f:FS}(hp:PassesOwn (model X.prog X.w) X.A X.env X.xe)(hc:X.calm=true)(hi:PI X tg iter (fI K fi))(hg:PG X tg (fG K g W1))(hb:jJ X body (fS K f W2))(hs:∀x,foldedSetIterable iter X.env x=pure x):
    PS X (.For tg iter body [] pos) (fS K (cR (W1++W2) fi g f) (W1++W2)):=(zR hp hc hi hg hb hs).mono fun D σ0 H0 hh=>by
  obtain⟨F0,e0,fl,R0,hf,q0⟩:=hh
  unfold cR at hf
  obtain⟨⟨items,own,e1⟩,h1,hf⟩:=Option.bind_eq_some_iff.mp hf
  dsimp only at hf
  split at hf
  case isFalse=>cases hf
  case isTrue hW=>
  have hW':∀p∈own,p.1∉W1++W2:=fun p hp=>by
    have:=List.all_eq_true.mp hW p hp
    simpa using this
  refine⟨F0,e0,items,own,e1,R0,h1,fun J F1 H1 X1 R1 kp ok=>?_⟩
  have s1:∀j,j∈W1→j∈W1++W2:=fun j h=>List.mem_append.mpr (.inl h)
  have s2:∀j,j∈W2→j∈W1++W2:=fun j h=>List.mem_append.mpr (.inr h)
  have q1:j' K (W1++W2) σ0 F1 H1 e1 D fl:=q0.later (W1:=[]) X1.s (fun j h=>by cases h) fun j h=>h
  refine⟨fun i m σ H=>m=items.length - i∧i≤items.length∧C1 K own σ0 F1 (fun e=>gZ own g f (items.drop i) e=some fl) (fun σ F H e=>j' K (W1++W2) σ F H e D fl) σ H,
    ⟨items.length,by simp,Nat.zero_le _,.mk R1 kp (fun _ _=>rfl) (ax.refl _) hf q1⟩,?_⟩
  rintro i m σ H ⟨rfl,hi,⟨R,kp,hσ,sF,hf,q⟩⟩
  rename_i F e
  have held:sk K σ0 F H own:=fun p hp=>by
    obtain⟨l,vs,g1,g2⟩:=R.held kp p hp
    exact⟨l,vs,by rw [←hσ p hp];exact g1,g2⟩
  obtain⟨go,stop,yld⟩:=ok F H sF R.sm held
  by_cases hlt:i < items.length
  · have hd:items.drop i=items[i]::items.drop (i+1):=List.drop_eq_getElem_cons hlt
    rw [hd] at hf
    unfold gZ at hf
    obtain⟨e2,h2,hf⟩:=Option.bind_eq_some_iff.mp hf
    obtain⟨fl2,h3,hf⟩:=Option.bind_eq_some_iff.mp hf
    refine .inr ⟨go i hlt,C1 K own σ0 F1 (fun e=>gZ own g f (items.drop (i+1)) e=some fl) (fun σ F H e=>j' K (W1++W2) σ F H e D fl),
      fun σ' H' r=>⟨items.length - (i+1),by lia,rfl,hlt,r⟩,fun x H' hy=>?_⟩
    obtain⟨F',sH,sF',sm',fz,hx⟩:=yld i items[i] x H' (List.getElem?_eq_getElem hlt) hy
    obtain⟨R',X'⟩:=R.step sH sF' sm' fz
    refine⟨F',e,items[i],e2,R',hx,h2,fun σ2 x2 R2=>⟨F',e2,fl2,R2,h3,?_⟩⟩
    have q2:j' K (W1++W2) σ2 F' H' e2 D fl:=(q.later (W1:=[]) (W2:=W1++W2) X'.s (fun j h=>by cases h) fun j h=>h).later x2 s1 fun j h=>h
    have w2:∀p∈own,σ2[p.1]?=σ0[p.1]?:=fun p hp=>(x2.wr p.1 fun z=>hW' p hp (s1 _ z)).trans (hσ p hp)
    cases fl2 with
    | nx e3=>
      intro F3 H3 σ3 x3 R3
      dsimp only at hf
      split at hf
      case isFalse=>cases hf
      case isTrue kp3=>
      exact .mk R3 kp3 (fun p hp=>(x3.wr p.1 fun z=>hW' p hp (s2 _ z)).trans (w2 p hp)) (sF.trans (sF'.trans x3.sf)) hf (q2.later x3 s2 fun j h=>h)
    | ct e3=>
      intro F3 H3 σ3 x3 R3
      dsimp only at hf
      split at hf
      case isFalse=>cases hf
      case isTrue kp3=>
      exact .mk R3 kp3 (fun p hp=>(x3.wr p.1 fun z=>hW' p hp (s2 _ z)).trans (w2 p hp)) (sF.trans (sF'.trans x3.sf)) hf (q2.later x3 s2 fun j h=>h)
    | bk e3=>
      cases hf
      exact fun F3 H3 σ3 x3 R3=>q2 F3 H3 σ3 (x3.mono s2) R3
    | rt r e3=>
      cases hf
      exact fun F3 H3 σ3 v x3 R3 A3=>q2 F3 H3 σ3 v (x3.mono s2) R3 A3
  · have hd:items.drop i=[]:=List.drop_eq_nil_of_le (by lia)
    rw [hd] at hf
    cases hf
    exact .inl ⟨stop i (by lia),q F H σ cQ.refl R⟩
end
end L2
namespace L2
open PySem PySem.Spec PyProof.Rows
def vD:Option (Option Sv)→Bool
  | some (some (.l _))=>true
  | _=>false
theorem v0{s:Option (Option Sv)}:vD s=true↔ ∃xs,s=some (some (.l xs)):=by
  unfold vD
  split
  · simp
  · rename_i h
    constructor
    · intro z;cases z
    · rintro⟨xs,rfl⟩;exact absurd rfl (h xs)
def jr(pos:Nat→Option Nat)(ei e:En):En:=e.mapIdx fun i s=>match s with
  | some (.l xs)=>match pos i with
    | some k=>(ei[k]?).join
    | none=>some (.l xs)
  | s=>s
theorem bP{pos:Nat→Option Nat}{ei e:En}{i:Nat}:(jr pos ei e)[i]?=(e[i]?).map fun s=>match s with
  | some (.l xs)=>match pos i with
    | some k=>(ei[k]?).join
    | none=>some (.l xs)
  | s=>s:=by unfold jr;rw [List.getElem?_mapIdx]
structure ny (σ:L2.St) (e:En) (σi:L2.St) (ei:En) (pos:Nat→Option Nat):Prop where
  a:∀(i k:Nat) (xs:List PyData),e[i]?=some (some (.l xs))→pos i=some k→σi[k]?=σ[i]?
  b:∀(k:Nat) (ys:List PyData),ei[k]?=some (some (.l ys))→∃(i:Nat) (xs:List PyData),e[i]?=some (some (.l xs))∧pos i=some k∧σi[k]?=σ[i]?
section
variable{K:PySem.W.Frag}{σ σi σi':L2.St}{F H F' H':Hp}{e ei ei':En}{pos:Nat→Option Nat}
def AQ(e:En):Prop:=∀(i:Nat) (xss:List (List PyData)),e[i]?≠some (some (.n xss))
theorem ny.own(s:ny σ e σi ei pos)(hn:AQ ei){a:Addr}{H H':Hp}(h:cU σi ei H a):∃(i k:Nat) (xs:List PyData),e[i]?=some (some (.l xs))∧pos i=some k∧σ[i]?=some (some (.ref a)):=by
  obtain⟨k,⟨ys,h1,h2⟩ | ⟨xss,_,_,h1,_⟩⟩:=h
  · obtain⟨i,xs,g1,g2,g3⟩:=s.b k ys h1
    exact⟨i,k,xs,g1,g2,by rw [←g3];exact h2⟩
  · exact absurd h1 (hn k xss)
theorem oR(R:aY K F H σ e)(s:ny σ e σi ei pos)(hnn:AQ ei)(sf:ax F F')(dom:∀a,H' a=none→H a=none)(fr:∀a vs,F a=none→H a=some (.lst vs)→¬cU σi ei H a→F' a=none)(lst:∀a vs,H a=some (.lst vs)→∃vs',H' a=some (.lst vs'))
    (tmp:∀a o,H a=some o→¬cU σi ei H a→H' a=some o)(R':aY K F' H' σi' ei')(hσ:∀(i k:Nat) (xs:List PyData),e[i]?=some (some (.l xs))→pos i=some k→σi'[k]?=σi[k]?)(hsh:∀(i k:Nat) (xs:List PyData),e[i]?=some (some (.l xs))→pos i=some k→∃ys,ei'[k]?=some (some (.l ys))):
    aY K F' H' σ (jr pos ei' e)∧cT σ F H e F' H' (jr pos ei' e)∧∀a,cU σ (jr pos ei' e) H' a→cU σ e H a:=by
  have shp:∀i:Nat,(∃xs,(jr pos ei' e)[i]?=some (some (.l xs)))↔ (∃xs,e[i]?=some (some (.l xs))):=by
    intro i
    rw [bP]
    match h:e[i]? with
    | none=>simp
    | some none=>simp
    | some (some (.d x))=>simp
    | some (some (.n x))=>simp
    | some (some (.l xs))=>
      simp only [Option.map_some]
      constructor
      · intro _;exact⟨xs,rfl⟩
      · intro _
        match hp:pos i with
        | none=>exact⟨xs,rfl⟩
        | some k=>
          obtain⟨ys,g⟩:=hsh i k xs h hp
          exact⟨ys,by show some ((ei'[k]?).join)=_;rw [g];rfl⟩
  have oth:∀(i:Nat) (s:Sv),(∀xs,s≠.l xs)→((jr pos ei' e)[i]?=some (some s)↔ e[i]?=some (some s)):=by
    intro i s hs
    constructor
    · intro h
      rw [bP] at h
      match h1:e[i]?,h with
      | some (some (.d y)),h=>exact h
      | some (some (.n y)),h=>exact h
      | some (some (.l ys)),h=>
        simp only [Option.map_some,Option.some.injEq] at h
        match hp:pos i,h with
        | none,h=>cases h;exact absurd rfl (hs _)
        | some k,h=>
          obtain⟨zs,g⟩:=hsh i k ys h1 hp
          change (ei'[k]?).join=_ at h
          rw [g] at h;cases h;exact absurd rfl (hs _)
      | some none,h=>simp at h
      | none,h=>simp at h
    · intro h
      rw [bP,h]
      cases s with
      | d y=>rfl
      | n y=>rfl
      | l y=>exact absurd rfl (hs y)
  have out:∀i a,Fp σ e H i a→(∀k xs,e[i]?=some (some (.l xs))→pos i≠some k)→¬cU σi ei H a:=by
    intro i a hi hp z
    obtain⟨j,k,ws,d1,d2,d3⟩:=s.own hnn (H':=H') z
    have:i=j:=R.fp i j a hi (.inl ⟨ws,d1,d3⟩)
    subst this
    exact hp k ws d1 d2
  have keep:∀i a o,Fp σ e H i a→(∀k xs,e[i]?=some (some (.l xs))→pos i≠some k)→H a=some o→H' a=some o:=fun i a o hi hp ha=>tmp a o ha (out i a hi hp)
  have sown:∀a,cU σi ei H a→cU σ e H a:=fun a z=>by
    obtain⟨j,k,ws,d1,d2,d3⟩:=s.own hnn (H':=H') z
    exact⟨j,.inl ⟨ws,d1,d3⟩⟩
  have fs:∀i a,Fp σ (jr pos ei' e) H' i a↔ Fp σ e H i a:=by
    intro i a
    have key:∀xss l,e[i]?=some (some (.n xss))→σ[i]?=some (some (.ref l))→H' l=H l:=fun xss l h1 h2=>by
      obtain⟨l',bs,g1,g2,g3,_⟩:=R.nst i xss h1
      rw [h2] at g1;cases g1
      rw [g3]
      exact keep i l _ (.inr ⟨xss,l,bs,h1,h2,g3,.inl rfl⟩) (fun k xs z=>by rw [h1] at z;cases z) g3
    constructor
    · rintro(⟨xs,h1,h2⟩ | ⟨xss,l,bs,h1,h2,h3,h4⟩)
      · obtain⟨ys,h⟩:=(shp i).mp ⟨xs,h1⟩
        exact .inl ⟨ys,h,h2⟩
      · have h1':=(oth i (.n xss) (fun _ z=>nomatch z)).mp h1
        exact .inr ⟨xss,l,bs,h1',h2,by rw [←key xss l h1' h2];exact h3,h4⟩
    · rintro(⟨xs,h1,h2⟩ | ⟨xss,l,bs,h1,h2,h3,h4⟩)
      · obtain⟨ys,h⟩:=(shp i).mpr ⟨xs,h1⟩
        exact .inl ⟨ys,h,h2⟩
      · exact .inr ⟨xss,l,bs,(oth i (.n xss) (fun _ z=>nomatch z)).mpr h1,h2,by rw [key xss l h1 h2];exact h3,h4⟩
  refine⟨⟨R'.sm,?_,fun i x h=>?_,fun i xs h=>?_,fun i xss h=>?_,fun i j a h1 h2=>R.fp i j a ((fs i a).mp h1) ((fs j a).mp h2)⟩,⟨sf,dom,fun a vs h1 h2 n=>fr a vs h1 h2 fun z=>n (sown a z),lst,fun a o h n=>tmp a o h fun z=>n (sown a z),shp,fun a ⟨i,h⟩=>.inl ⟨i,(fs i a).mp h⟩⟩,fun a ⟨i,h⟩=>⟨i,(fs i a).mp h⟩⟩
  · unfold jr;rw [List.length_mapIdx];exact R.len
  · obtain⟨v,g1,g2⟩:=R.dat i x ((oth i (.d x) (fun _ z=>nomatch z)).mp h)
    exact⟨v,g1,DA.mono sf g2⟩
  · obtain⟨ys,h1⟩:=(shp i).mp ⟨xs,h⟩
    obtain⟨l,vs,g1,g2,g3,g4⟩:=R.own i ys h1
    rw [bP,h1] at h
    simp only [Option.map_some,Option.some.injEq] at h
    match hp:pos i,h with
    | none,h=>
      cases h
      have np:∀k xs,e[i]?=some (some (Sv.l xs))→pos i≠some k:=fun k xs _ z=>by rw [hp] at z;cases z
      have fi:Fp σ e H i l:=.inl ⟨_,h1,g1⟩
      exact⟨l,vs,g1,fr l vs g2 g3 (out i l fi np),keep i l _ fi np g3,g4.mono sf⟩
    | some k,h=>
      obtain⟨zs,c1⟩:=hsh i k ys h1 hp
      change (ei'[k]?).join=_ at h
      rw [c1] at h;cases h
      obtain⟨l',vs',d1,d2,d3,d4⟩:=R'.own k _ c1
      rw [hσ i k ys h1 hp,s.a i k ys h1 hp] at d1
      exact⟨l',vs',d1,d2,d3,d4⟩
  · have h1:=(oth i (.n xss) (fun _ z=>nomatch z)).mp h
    obtain⟨l,bs,g1,g2,g3,g4,g5,g6,g7⟩:=R.nst i xss h1
    have np:∀k xs,e[i]?=some (some (Sv.l xs))→pos i≠some k:=fun k xs z=>by rw [h1] at z;cases z
    have fi:Fp σ e H i l:=.inr ⟨xss,l,bs,h1,g1,g3,.inl rfl⟩
    refine⟨l,bs,g1,fr l _ g2 g3 (out i l fi np),keep i l _ fi np g3,g4,g5,g6,fun k b ys q1 q2=>?_⟩
    obtain⟨c1,us,c2,c3⟩:=g7 k b ys q1 q2
    have fb:Fp σ e H i b:=.inr ⟨xss,l,bs,h1,g1,g3,.inr (List.mem_of_getElem? q1)⟩
    exact⟨fr b _ c1 c2 (out i b fb np),us,keep i b _ fb np c2,c3.mono sf⟩
end
def cF(e:En):List Rv→Option (List Sv)
  | []=>some []
  | .d x::r=>(cF e r).map (.d x::·)
  | .l xs::r=>(cF e r).map (.d (.list xs)::·)
  | .s i::r=>match e[i]? with
    | some (some (.l xs))=>(cF e r).map (.l xs::·)
    | _=>none
def aK:List Rv→List Nat
  | []=>[]
  | .s i::r=>i::aK r
  | .d _::r=>aK r
  | .l _::r=>aK r
def ia(rs:List Rv)(i:Nat):Option Nat:=rs.findIdx? fun r=>match r with
  | .s j=>j==i
  | _=>false
def noS:Rv→Prop
  | .s _=>False
  | _=>True
abbrev FM:=List Sv→Option (Rv × List Sv)
def cj(K:PySem.W.Frag)(n:Nat)(m:FM):Sp:=fun vs H Q _=>vs.length=n∧∃F as r as',aY K F H (vs.map some) (as.map some)∧AQ (as.map some)∧m as=some (r,as')∧noS r∧
  ∀F' H' v,cT (vs.map some) F H (as.map some) F' H' (as'.map some)→aY K F' H' (vs.map some) (as'.map some)→bM K (vs.map some) H F' H' (as'.map some) r v→Q v H'
def bg:List Rv→List Sv→Bool
  | [],[]=>true
  | .s _::r,.l _::s=>bg r s
  | .d _::r,_::s=>bg r s
  | .l _::r,_::s=>bg r s
  | _,_=>false
def za:Rv→Bool
  | .s _=>false
  | _=>true
def ek:List Rv→List Sv→En→En
  | .s i::r,.l ys::s,e=>ek r s (e.set i (some (.l ys)))
  | .d _::r,_::s,e=>ek r s e
  | .l _::r,_::s,e=>ek r s e
  | _,_,e=>e
def cy(n:Nat)(m:FM)(fs:FA):FE:=fun e=>(fs e).bind fun p=>(cF p.2 p.1).bind fun as=>(m as).bind fun z=>if p.1.length=n∧(aK p.1).Nodup∧bg p.1 z.2=true∧za z.1=true then some (z.1,ek p.1 z.2 p.2) else none
theorem fB:∀{rs:List Rv} {as:List Sv},bg rs as=true→∀(k i:Nat),rs[k]?=some (.s i)→∃ys,as[k]?=some (.l ys)
  | [],[],_,k,i,h=>by simp at h
  | .s j::r,.l ys::s,h,k,i,hk=>by
    cases k with
    | zero=>exact⟨ys,rfl⟩
    | succ k=>simpa using fB (rs:=r) (as:=s) (by simpa [bg] using h) k i (by simpa using hk)
  | .d x::r,y::s,h,k,i,hk=>by
    cases k with
    | zero=>simp at hk
    | succ k=>simpa using fB (rs:=r) (as:=s) (by simpa [bg] using h) k i (by simpa using hk)
  | .l x::r,y::s,h,k,i,hk=>by
    cases k with
    | zero=>simp at hk
    | succ k=>simpa using fB (rs:=r) (as:=s) (by simpa [bg] using h) k i (by simpa using hk)
  | .s _::_,.d _::_,h,_,_,_=>by simp [bg] at h
  | .s _::_,[],h,_,_,_=>by simp [bg] at h
  | .d _::_,[],h,_,_,_=>by simp [bg] at h
  | .l _::_,[],h,_,_,_=>by simp [bg] at h
theorem jl{r0:Rv}{rs:List Rv}{i:Nat}:ia (r0::rs) i=if (match r0 with | .s j=>j==i | _=>false)=true then some 0 else(ia rs i).map (· +1):=by
  unfold ia;rw [List.findIdx?_cons]
theorem jm{rs:List Rv}{i k:Nat}(h:ia rs i=some k):rs[k]?=some (.s i):=by
  unfold ia at h
  rw [List.findIdx?_eq_some_iff_getElem] at h
  obtain⟨hk,h1,_⟩:=h
  rw [List.getElem?_eq_getElem hk]
  split at h1
  · rename_i heq
    rw [heq]
    have:=eq_of_beq h1
    rw [this]
  · cases h1
theorem dY:∀{rs:List Rv} {i:Nat},i∈aK rs↔ Rv.s i∈rs
  | [],i=>by simp [aK]
  | .s j::r,i=>by simp [aK,dY (rs:=r)]
  | .d x::r,i=>by simp [aK,dY (rs:=r)]
  | .l x::r,i=>by simp [aK,dY (rs:=r)]
theorem eh:∀{rs:List Rv} {i k j:Nat},(aK rs).Nodup→rs[k]?=some (.s i)→rs[j]?=some (.s i)→k=j
  | [],i,k,j,_,h,_=>by simp at h
  | .s m::r,i,k,j,hn,h1,h2=>by
    simp only [aK,List.nodup_cons] at hn
    cases k with
    | zero=>
      simp at h1;subst h1
      cases j with
      | zero=>rfl
      | succ j=>exact absurd (dY.mpr (List.mem_of_getElem? (by simpa using h2))) hn.1
    | succ k=>
      cases j with
      | zero=>
        simp at h2;subst h2
        exact absurd (dY.mpr (List.mem_of_getElem? (by simpa using h1))) hn.1
      | succ j=>
        have:=eh (rs:=r) (i:=i) (k:=k) (j:=j) hn.2 (by simpa using h1) (by simpa using h2)
        lia
  | .d x::r,i,k,j,hn,h1,h2=>by
    cases k with
    | zero=>simp at h1
    | succ k=>
      cases j with
      | zero=>simp at h2
      | succ j=>
        have:=eh (rs:=r) (i:=i) (k:=k) (j:=j) (by simpa [aK] using hn) (by simpa using h1) (by simpa using h2)
        lia
  | .l x::r,i,k,j,hn,h1,h2=>by
    cases k with
    | zero=>simp at h1
    | succ k=>
      cases j with
      | zero=>simp at h2
      | succ j=>
        have:=eh (rs:=r) (i:=i) (k:=k) (j:=j) (by simpa [aK] using hn) (by simpa using h1) (by simpa using h2)
        lia
theorem uI{rs:List Rv}{i:Nat}(h:i∉aK rs):ia rs i=none:=by
  unfold ia
  rw [List.findIdx?_eq_none_iff]
  intro r hr
  cases r with
  | d x=>rfl
  | l x=>rfl
  | s j=>
    have:j≠i:=fun z=>h (by rw [←z];exact dY.mpr hr)
    simpa using this
theorem jQ:∀{rs:List Rv} {as:List Sv} {e:En},(aK rs).Nodup→bg rs as=true→(∀j∈aK rs,∃xs,e[j]?=some (some (.l xs)))→ek rs as e=jr (ia rs) (as.map some) e
  | [],[],e,_,_,_=>by
    refine List.ext_getElem? fun i=>?_
    rw [bP]
    have:ia [] i=none:=rfl
    rw [this]
    simp only [ek]
    match e[i]? with
    | none=>rfl
    | some none=>rfl
    | some (some (.d x))=>rfl
    | some (some (.l x))=>rfl
    | some (some (.n x))=>rfl
  | .d x::r,y::s,e,hn,hl,hs=>by
    rw [show ek (.d x::r) (y::s) e=ek r s e from rfl,jQ (by simpa [aK] using hn) (by simpa [bg] using hl) (fun j hj=>hs j (by simpa [aK] using hj))]
    refine List.ext_getElem? fun i=>?_
    rw [bP,bP,jl]
    cases ia r i<;>simp
  | .l x::r,y::s,e,hn,hl,hs=>by
    rw [show ek (.l x::r) (y::s) e=ek r s e from rfl,jQ (by simpa [aK] using hn) (by simpa [bg] using hl) (fun j hj=>hs j (by simpa [aK] using hj))]
    refine List.ext_getElem? fun i=>?_
    rw [bP,bP,jl]
    cases ia r i<;>simp
  | .s k::r,.l ys::s,e,hn,hl,hs=>by
    simp only [aK,List.nodup_cons] at hn
    obtain⟨xs,hk⟩:=hs k (by simp [aK])
    have hlt:k < e.length:=(List.getElem?_eq_some_iff.mp hk).1
    rw [show ek (.s k::r) (.l ys::s) e=ek r s (e.set k (some (.l ys))) from rfl,jQ hn.2 (by simpa [bg] using hl) (fun j hj=>by
      have z:k≠j:=fun z=>hn.1 (by rw [z];exact hj)
      rw [List.getElem?_set_ne z]
      exact hs j (by simp [aK,hj]))]
    refine List.ext_getElem? fun i=>?_
    rw [bP,bP,jl]
    by_cases z:k=i
    · subst z
      rw [List.getElem?_set_self hlt,hk,uI hn.1]
      simp
    · rw [List.getElem?_set_ne z]
      have:((match (Rv.s k) with | .s j=>j==i | _=>false)=true)=False:=by simp [z]
      simp only [this,if_false]
      cases ia r i<;>simp
  | .s _::_,.d _::_,_,_,h,_=>by simp [bg] at h
  | .s _::_,.n _::_,_,_,h,_=>by simp [bg] at h
  | .s _::_,[],_,_,h,_=>by simp [bg] at h
  | .d _::_,[],_,_,h,_=>by simp [bg] at h
  | .l _::_,[],_,_,h,_=>by simp [bg] at h
  | [],_::_,_,_,h,_=>by simp [bg] at h
theorem dM{e:En}:∀{rs:List Rv} {as:List Sv},cF e rs=some as→∀j∈aK rs,∃xs,e[j]?=some (some (.l xs))
  | [],_,_,j,h=>by simp [aK] at h
  | .d x::rs,as,q,j,h=>by
    obtain⟨as',q1,rfl⟩:=Option.map_eq_some_iff.mp q
    exact dM q1 j (by simpa [aK] using h)
  | .l x::rs,as,q,j,h=>by
    obtain⟨as',q1,rfl⟩:=Option.map_eq_some_iff.mp q
    exact dM q1 j (by simpa [aK] using h)
  | .s k::rs,as,q,j,h=>by
    unfold cF at q
    match he:e[k]?,q with
    | some (some (.l xs)),q=>
      obtain⟨as',q1,rfl⟩:=Option.map_eq_some_iff.mp q
      simp only [aK,List.mem_cons] at h
      rcases h with rfl | h
      · exact⟨xs,he⟩
      · exact dM q1 j h
theorem ik{e:En}:∀{rs:List Rv} {as:List Sv} {k i:Nat},cF e rs=some as→rs[k]?=some (.s i)→∃xs,as[k]?=some (.l xs)
  | [],_,k,i,_,h=>by simp at h
  | .d x::rs,as,k,i,q,h=>by
    obtain⟨as',q1,rfl⟩:=Option.map_eq_some_iff.mp q
    cases k with
    | zero=>simp at h
    | succ k=>simpa using ik (k:=k) (i:=i) q1 (by simpa using h)
  | .l x::rs,as,k,i,q,h=>by
    obtain⟨as',q1,rfl⟩:=Option.map_eq_some_iff.mp q
    cases k with
    | zero=>simp at h
    | succ k=>simpa using ik (k:=k) (i:=i) q1 (by simpa using h)
  | .s j::rs,as,k,i,q,h=>by
    unfold cF at q
    match he:e[j]?,q with
    | some (some (.l xs)),q=>
      obtain⟨as',q1,rfl⟩:=Option.map_eq_some_iff.mp q
      cases k with
      | zero=>exact⟨xs,rfl⟩
      | succ k=>simpa using ik (k:=k) (i:=i) q1 (by simpa using h)
section
variable{X:Cx}{K:PySem.W.Frag}{σ:L2.St}{H0 H:Hp}{e:En}
theorem jN:∀{rs:List Rv} {vs:List V} {as:List Sv} {F:Hp},aY K F H σ e→cE K σ H0 F H e rs vs→cF e rs=some as→
    ∃F',aY K F' H σ e∧ax F F'∧(∀a,F a=none→H0 a≠none→F' a=none)∧vs.length=as.length∧rs.length=as.length∧
      (∀(k:Nat) (x:PyData),as[k]?=some (.d x)→∃v,vs[k]?=some v∧DA K F' x v)∧∀(k:Nat) (xs:List PyData),as[k]?=some (.l xs)→∃i,rs[k]?=some (.s i)∧e[i]?=some (some (.l xs))∧∃v,vs[k]?=some v∧σ[i]?=some (some v)
  | [],vs,as,F,R,h,q=>by
    cases q
    have h':vs=[]:=h
    subst h'
    exact⟨F,R,ax.refl _,fun _ h _=>h,rfl,rfl,fun k x h=>by simp at h,fun k x h=>by simp at h⟩
  | .d x::rs,_,as,F,R,h,q=>by
    obtain⟨v,ws,rfl,h1,h2⟩:=h
    obtain⟨as',q1,rfl⟩:=Option.map_eq_some_iff.mp q
    obtain⟨F',R',s',f',l1,l2,d',o'⟩:=jN R h2 q1
    refine⟨F',R',s',f',by simp [l1],by simp [l2],fun k y hk=>?_,fun k ys hk=>?_⟩
    · cases k with
      | zero=>simp at hk;subst hk;exact⟨v,rfl,DA.mono s' h1⟩
      | succ k=>simpa using d' k y (by simpa using hk)
    · cases k with
      | zero=>simp at hk
      | succ k=>simpa using o' k ys (by simpa using hk)
  | .l xs::rs,_,as,F,R,h,q=>by
    obtain⟨v,ws,rfl,h1,h2⟩:=h
    obtain⟨as',q1,rfl⟩:=Option.map_eq_some_iff.mp q
    obtain⟨F',R',s',f',l1,l2,d',o'⟩:=jN R h2 q1
    have key:∃F2,aY K F2 H σ e∧ax F' F2∧(∀a,F' a=none→H0 a≠none→F2 a=none)∧DA K F2 (.list xs) v:=by
      obtain⟨l,us,rfl,g1,g2,g3,g4,g5⟩:=h1
      cases hl:F' l with
      | none=>
        have h1':bM K σ H0 F' H e (.l xs) (.ref l):=⟨l,us,rfl,g1,hl,g3,aG.mono s' g4,g5⟩
        obtain⟨F2,R2,s2,d2,f2⟩:=h1'.frozen R'
        exact⟨F2,R2,s2,f2,d2⟩
      | some o=>
        have:=R'.sm _ _ hl
        rw [g3] at this;cases this
        exact⟨F',R',ax.refl _,fun _ h _=>h,cz.mpr ⟨l,us,rfl,.inl (.inl hl),aG.mono s' g4⟩⟩
    obtain⟨F2,R2,s2,f2,d2⟩:=key
    refine⟨F2,R2,s'.trans s2,fun a ha hn=>f2 a (f' a ha hn) hn,by simp [l1],by simp [l2],fun k y hk=>?_,fun k ys hk=>?_⟩
    · cases k with
      | zero=>simp at hk;subst hk;exact⟨v,rfl,d2⟩
      | succ k=>
        obtain⟨u,c1,c2⟩:=d' k y (by simpa using hk)
        exact⟨u,by simpa using c1,DA.mono s2 c2⟩
    · cases k with
      | zero=>simp at hk
      | succ k=>simpa using o' k ys (by simpa using hk)
  | .s i::rs,_,as,F,R,h,q=>by
    obtain⟨v,ws,rfl,h1,h2⟩:=h
    unfold cF at q
    match he:e[i]?,q with
    | some (some (.l xs)),q=>
      obtain⟨as',q1,rfl⟩:=Option.map_eq_some_iff.mp q
      obtain⟨F',R',s',f',l1,l2,d',o'⟩:=jN R h2 q1
      refine⟨F',R',s',f',by simp [l1],by simp [l2],fun k y hk=>?_,fun k ys hk=>?_⟩
      · cases k with
        | zero=>simp at hk
        | succ k=>simpa using d' k y (by simpa using hk)
      · cases k with
        | zero=>simp at hk;subst hk;exact⟨i,rfl,he,v,rfl,h1.1⟩
        | succ k=>simpa using o' k ys (by simpa using hk)
theorem dO{α:Type}{l:List α}{k:Nat}{x:α}:(l.map some)[k]?=some (some x)↔ l[k]?=some x:=by
  rw [List.getElem?_map]
  cases l[k]?<;>simp
theorem bM.noS{σ':L2.St}{e':En}{F H:Hp}{r:Rv}{v:V}(h:bM K σ' H0 F H e' r v)(n:L2.noS r)(ho:∀a,cU σ e H a→H0 a≠none):bM K σ H0 F H e r v:=by
  cases r with
  | d x=>exact h
  | l xs=>
    obtain⟨l,vs,e1,h1,h2,h3,h4,_⟩:=h
    exact⟨l,vs,e1,h1,h2,h3,h4,fun z=>ho l z h1⟩
  | s i=>exact absurd n (by simp [L2.noS])
theorem fv:∀{rs:List Rv} {as:List Sv},cF e rs=some as→AQ (as.map some)
  | [],_,q=>by cases q;intro i xss h;simp at h
  | .d x::rs,as,q=>by
    obtain⟨as',q1,rfl⟩:=Option.map_eq_some_iff.mp q
    have ih:=fv q1
    intro i xss h
    cases i with
    | zero=>simp at h
    | succ i=>exact ih i xss (by simpa using h)
  | .l x::rs,as,q=>by
    obtain⟨as',q1,rfl⟩:=Option.map_eq_some_iff.mp q
    have ih:=fv q1
    intro i xss h
    cases i with
    | zero=>simp at h
    | succ i=>exact ih i xss (by simpa using h)
  | .s j::rs,as,q=>by
    unfold cF at q
    match he:e[j]?,q with
    | some (some (.l xs)),q=>
      obtain⟨as',q1,rfl⟩:=Option.map_eq_some_iff.mp q
      have ih:=fv q1
      intro i xss h
      cases i with
      | zero=>simp at h
      | succ i=>exact ih i xss (by simpa using h)
theorem AF{n:Nat}{m:FM}{fs:FA}{Q:VK}{E:XK}(h:fE K (cy n m fs) σ H Q):vn (cj K n m) [] E (fA K fs) σ H Q:=by
  obtain⟨F,e,z,e',R,hf,q⟩:=h
  unfold cy at hf
  obtain⟨⟨rs,e1⟩,h1,hf⟩:=Option.bind_eq_some_iff.mp hf
  obtain⟨as,h2,hf⟩:=Option.bind_eq_some_iff.mp hf
  obtain⟨⟨r,as'⟩,h3,hf⟩:=Option.bind_eq_some_iff.mp hf
  split at hf
  case isFalse=>cases hf
  case isTrue hc=>
  obtain⟨c1,c2,c3,c4⟩:=hc
  cases hf
  refine⟨F,e,rs,e1,R,h1,fun F1 H1 vs X1 R1 A1=>?_⟩
  obtain⟨F2,R2,s2,f2,l1,l2,d2,o2⟩:=jN R1 A1 h2
  have X2:=X1.frz s2 f2
  rw [List.append_nil]
  have hn:L2.noS r:=by
    cases r with
    | d x=>trivial
    | l x=>trivial
    | s i=>cases c4
  have nN:=fv h2
  have RA:aY K F2 H1 (vs.map some) (as.map some):=by
    refine⟨R2.sm,by simp [l1],fun k x hk=>?_,fun k xs hk=>?_,fun k xss hk=>absurd hk (nN k xss),fun k j l f1 f2=>?_⟩
    · obtain⟨v,g1,g2⟩:=d2 k x (dO.mp hk)
      exact⟨v,dO.mpr g1,g2⟩
    · obtain⟨i,g1,g2,v,g3,g4⟩:=o2 k xs (dO.mp hk)
      obtain⟨l,us,k1,k2,k3,k4⟩:=R2.own i xs g2
      rw [g4] at k1;cases k1
      exact⟨l,us,dO.mpr g3,k2,k3,k4⟩
    · obtain⟨xs,g1,g3⟩:=f1.resolve_right fun⟨xss,_,_,z,_⟩=>nN k xss z
      obtain⟨ys,g2,g4⟩:=f2.resolve_right fun⟨xss,_,_,z,_⟩=>nN j xss z
      obtain⟨i1,a1,a2,v1,a3,a4⟩:=o2 k xs (dO.mp g1)
      obtain⟨i2,b1,b2,v2,b3,b4⟩:=o2 j ys (dO.mp g2)
      have e1:=dO.mp g3
      have e2:=dO.mp g4
      rw [a3] at e1;cases e1
      rw [b3] at e2;cases e2
      have:i1=i2:=R2.inj i1 i2 xs ys l a2 b2 a4 b4
      subst this
      exact eh c2 a1 b1
  have sub:ny σ e1 (vs.map some) (as.map some) (ia rs):=by
    refine⟨fun i k xs g1 g2=>?_,fun k ys g1=>?_⟩
    · have g3:=jm g2
      obtain⟨zs,hs⟩:=ik h2 g3
      obtain⟨i',a1,a2,v,a3,a4⟩:=o2 k zs hs
      rw [g3] at a1;cases a1
      rw [dO.mpr a3,a4]
    · obtain⟨i,a1,a2,v,a3,a4⟩:=o2 k ys (dO.mp g1)
      refine⟨i,ys,a2,?_,by rw [dO.mpr a3,a4]⟩
      cases hp:ia rs i with
      | none=>
        unfold ia at hp
        rw [List.findIdx?_eq_none_iff] at hp
        have:=hp _ (List.mem_of_getElem? a1)
        simp at this
      | some j=>rw [eh c2 (jm hp) a1]
  refine⟨by rw [l1,←l2];exact c1,F2,as,r,as',RA,nN,h3,hn,fun F' H' v X3 R3 A3=>?_⟩
  obtain⟨R4,X4,o4⟩:=oR R2 sub nN X3.sf X3.dom X3.fr X3.lst X3.tmp R3 (fun _ _ _ _ _=>rfl) fun i k xs g1 g2=>by
    obtain⟨ys,g3⟩:=fB c3 k i (jm g2)
    exact⟨ys,dO.mpr g3⟩
  have hb:=jQ (e:=e1) c2 c3 (dM h2)
  rw [←hb] at R4 X4 o4
  exact q F' H' v (X2.trans X4) R4 ((A3.noS hn fun a z=>R2.ownH a (o4 a z)).weak X2.dom)
theorem a7{x:Str}{st:Stmt}{f:Addr}{fd:FuncData}{ps:List Str}{k n:Nat}{m:FM}{a:Expr}{es:List Expr}{fs:FA}{p pos:Pos}(h:bz X.K X.mg x st f fd ps)(G:aP X.prog X.w X.K X.mg X.base bY k f fd ps (cj K n m))(hr:bU k X.A)(ha:PA X (a::es) (fA K fs))
    (hg:Gl X x)(hdb:(x==("__debug__":Str))=false)(he:starEach (a::es) X.env=(false,eval a X.env)::starEach es X.env)(hpl:(backTo pos (starEach es X.env)).any (·.1)=false):
    PE X (.Call (.Name x p) (a::es) [] pos) (fE K (cy n m fs)):=(Dr h G hr ha hg hdb he hpl).mono fun _ _ _ h=>AF h
def rX:List Sv→En→Option (List Sv)
  | [],_=>some []
  | .d x::r,e=>(rX r e.tail).map (.d x::·)
  | .l _::r,e=>match e.head? with
    | some (some (.l ys))=>(rX r e.tail).map (.l ys::·)
    | _=>none
  | .n _::_,_=>none
def vR(n:Nat)(e:En):Rv→Option Rv
  | .s i=>if n≤i then match e[i]? with
      | some (some (.l xs))=>some (.l xs)
      | _=>none
    else none
  | r=>some r
def om(W:List Nat)(as:List Sv):Bool:=W.all fun j=>match as[j]? with
  | some (.l _)=>false
  | _=>true
def hZ(n k:Nat)(W:List Nat)(f:FS):FM:=fun as=>if as.length=n∧om W as=true then(f (as.map some++List.replicate k none)).bind fun fl=>match fl with
    | .rt r e=>(vR n e r).bind fun r'=>(rX as e).map fun as'=>(r',as')
    | .nx e=>(rX as e).map fun as'=>(.d .none,as')
    | _=>none
  else none
theorem jY:∀{as as':List Sv} {e:En},rX as e=some as'→as'.length=as.length∧(∀(j:Nat) (x:PyData),as'[j]?=some (.d x)↔ as[j]?=some (.d x))∧(∀(j:Nat) (ys:List PyData),as'[j]?=some (.l ys)→(∃xs,as[j]?=some (.l xs))∧e[j]?=some (some (.l ys)))∧∀(j:Nat) (xs:List PyData),as[j]?=some (.l xs)→∃ys,as'[j]?=some (.l ys)
  | [],_,e,h=>by cases h;simp
  | .d x::r,_,e,h=>by
    obtain⟨s,h1,rfl⟩:=Option.map_eq_some_iff.mp h
    obtain⟨g1,g2,g3,g4⟩:=jY h1
    refine⟨by simp [g1],fun j y=>?_,fun j ys hj=>?_,fun j xs hj=>?_⟩
    · cases j with
      | zero=>simp
      | succ j=>simpa using g2 j y
    · cases j with
      | zero=>simp at hj
      | succ j=>
        obtain⟨c1,c2⟩:=g3 j ys (by simpa using hj)
        refine⟨by simpa using c1,?_⟩
        rw [List.getElem?_tail] at c2
        exact c2
    · cases j with
      | zero=>simp at hj
      | succ j=>simpa using g4 j xs (by simpa using hj)
  | .l xs::r,_,e,h=>by
    unfold rX at h
    match he:e.head?,h with
    | some (some (.l ys)),h=>
      obtain⟨s,h1,rfl⟩:=Option.map_eq_some_iff.mp h
      obtain⟨g1,g2,g3,g4⟩:=jY h1
      refine⟨by simp [g1],fun j y=>?_,fun j zs hj=>?_,fun j zs hj=>?_⟩
      · cases j with
        | zero=>simp
        | succ j=>simpa using g2 j y
      · cases j with
        | zero=>
          simp at hj;subst hj
          exact⟨⟨xs,rfl⟩,by rw [List.head?_eq_getElem?] at he;exact he⟩
        | succ j=>
          obtain⟨c1,c2⟩:=g3 j zs (by simpa using hj)
          refine⟨by simpa using c1,?_⟩
          rw [List.getElem?_tail] at c2
          exact c2
      · cases j with
        | zero=>exact⟨ys,rfl⟩
        | succ j=>simpa using g4 j zs (by simpa using hj)
  | .n x::r,_,e,h=>by simp [rX] at h
end
end L2
namespace L2
open PySem PySem.Spec PyProof.Rows
theorem c_{α:Type}{l:List (Option α)}{k i:Nat}{x:α}(h:(l++List.replicate k none)[i]?=some (some x)):l[i]?=some (some x):=by
  rw [List.getElem?_append] at h
  split at h
  · exact h
  · rw [List.getElem?_replicate] at h
    split at h<;>simp at h
theorem di{α:Type}{l:List (Option α)}{k i:Nat}{x:α}(h:l[i]?=some (some x)):(l++List.replicate k none)[i]?=some (some x):=by
  have hi:i < l.length:=(List.getElem?_eq_some_iff.mp h).1
  rw [List.getElem?_append_left hi];exact h
section
variable{K:PySem.W.Frag}{F H:Hp}{σ:L2.St}{e:En}{k:Nat}
theorem mJ{i:Nat}{a:Addr}:Fp (σ++List.replicate k none) (e++List.replicate k none) H i a↔ Fp σ e H i a:=by
  constructor
  · rintro(⟨xs,h1,h2⟩ | ⟨xss,l,bs,h1,h2,h3⟩)
    · exact .inl ⟨xs,c_ h1,c_ h2⟩
    · exact .inr ⟨xss,l,bs,c_ h1,c_ h2,h3⟩
  · rintro(⟨xs,h1,h2⟩ | ⟨xss,l,bs,h1,h2,h3⟩)
    · exact .inl ⟨xs,di h1,di h2⟩
    · exact .inr ⟨xss,l,bs,di h1,di h2,h3⟩
theorem mW{a:Addr}:cU (σ++List.replicate k none) (e++List.replicate k none) H a↔ cU σ e H a:=⟨fun⟨i,h⟩=>⟨i,mJ.mp h⟩,fun⟨i,h⟩=>⟨i,mJ.mpr h⟩⟩
theorem aY.pad(R:aY K F H σ e):aY K F H (σ++List.replicate k none) (e++List.replicate k none):=by
  refine⟨R.sm,by simp [R.len],fun i x h=>?_,fun i xs h=>?_,fun i xss h=>?_,fun i j a h1 h2=>R.fp i j a (mJ.mp h1) (mJ.mp h2)⟩
  · obtain⟨v,g1,g2⟩:=R.dat i x (c_ h)
    exact⟨v,di g1,g2⟩
  · obtain⟨l,vs,g1,g2⟩:=R.own i xs (c_ h)
    exact⟨l,vs,di g1,g2⟩
  · obtain⟨l,bs,g1,g2⟩:=R.nst i xss (c_ h)
    exact⟨l,bs,di g1,g2⟩
end
theorem ni:∀{as as':List Sv} {e:En},rX as e=some as'→AQ (as'.map some)
  | [],_,e,h=>by cases h;intro i xss z;simp at z
  | .d x::r,_,e,h=>by
    obtain⟨s,h1,rfl⟩:=Option.map_eq_some_iff.mp h
    have ih:=ni h1
    intro i xss z
    cases i with
    | zero=>simp at z
    | succ i=>exact ih i xss (by simpa using z)
  | .l xs::r,_,e,h=>by
    unfold rX at h
    match he:e.head?,h with
    | some (some (.l ys)),h=>
      obtain⟨s,h1,rfl⟩:=Option.map_eq_some_iff.mp h
      have ih:=ni h1
      intro i xss z
      cases i with
      | zero=>simp at z
      | succ i=>exact ih i xss (by simpa using z)
  | .n x::r,_,e,h=>by simp [rX] at h
theorem oo{W:List Nat}{as:List Sv}(h:om W as=true){j:Nat}{xs:List PyData}(hj:as[j]?=some (.l xs)):j∉W:=fun z=>by
  unfold om at h
  have:=List.all_eq_true.mp h j z
  rw [hj] at this
  cases this
section
variable{P:Program}{w:World}{K:PySem.W.Frag}{mg:Str→Option Value}{base:Heap}
theorem bz.fn{x:Str}{st:Stmt}{f:Addr}{fd:FuncData}{N ps:List Str}{k n k0:Nat}{W:List Nat}{fb:FS}(h:bz K mg x st f fd ps)(S:aJ N ps (ao st))(hn:ps.length=n)(hN:N.length=n+k0)
    (hb:∀(cdv:Value) (A:Around) (outer:List Env) (s:Shared) (H:Hp) (E:XK),bU k (A.deeper (envOfC x (ao st) s.heap.objs.size f cdv))→jJ (pz bY P w K mg base N x (ao st) f cdv A outer s H E).nox (bZ st) (fS K fb W)):
    aP P w K mg base bY (k+1) f fd ps (cj K n (hZ n k0 W fb)):=by
  refine h.F.ok S (fun vs H Q E q=>?_) fun cdv A outer s H vs Q E hr hsp=>⟨_,hb cdv A outer s H E hr,?_⟩
  · rw [hn];exact q.1
  · obtain⟨hl,F,as,r,as',R,nN,hm,nr,q⟩:=hsp
    unfold hZ at hm
    split at hm
    case isFalse=>cases hm
    case isTrue hc=>
    obtain⟨la,nl⟩:=hc
    obtain⟨fl,h1,hm⟩:=Option.bind_eq_some_iff.mp hm
    have hst:fP N vs=vs.map some++List.replicate k0 none:=by unfold fP;rw [hN,hl];congr 2;lia
    rw [hst]
    have key:∀{as':List Sv} {e':En},rX as e'=some as'→∀F' H' σ',cQ W (vs.map some++List.replicate k0 none) F H (as.map some++List.replicate k0 none) σ' F' H' e'→aY K F' H' σ' e'→
        cT (vs.map some) F H (as.map some) F' H' (as'.map some)∧aY K F' H' (vs.map some) (as'.map some)∧∀a,cU (vs.map some) (as'.map some) H' a→cU (vs.map some) (as.map some) H a:=by
      intro as' e' hu F' H' σ' X' R'
      obtain⟨u1,u2,u3,u4⟩:=jY hu
      have uN:=ni hu
      have ow:∀a,cU (vs.map some) (as'.map some) H' a→cU (vs.map some) (as.map some) H a:=by
        rintro a ⟨j,⟨ys,c1,c2⟩ | ⟨xss,_,_,z,_⟩⟩
        · obtain⟨⟨xs,c3⟩,_⟩:=u3 j ys (dO.mp c1)
          exact⟨j,.inl ⟨xs,dO.mpr c3,c2⟩⟩
        · exact absurd z (uN j xss)
      have sg:∀(j:Nat) (xs:List PyData),as[j]?=some (.l xs)→σ'[j]?=(vs.map some)[j]?:=fun j xs hj=>by
        rw [X'.wr j (oo nl hj)]
        have hj2:j < (vs.map some).length:=by rw [List.length_map,hl,←la];exact(List.getElem?_eq_some_iff.mp hj).1
        rw [List.getElem?_append_left hj2]
      refine⟨⟨X'.sf,X'.dom,fun a vs h1 h2 hn=>X'.fr a vs h1 h2 fun z=>hn (mW.mp z),X'.lst,fun a o ha hn=>X'.tmp a o ha fun z=>hn (mW.mp z),fun j=>?_,fun a z=>.inl (ow a z)⟩,⟨R'.sm,?_,fun j y hj=>?_,fun j ys hj=>?_,fun j xss hj=>absurd hj (uN j xss),fun j i l f1 f2=>?_⟩,ow⟩
      · constructor
        · rintro⟨ys,hj⟩
          obtain⟨⟨xs,c⟩,_⟩:=u3 j ys (dO.mp hj)
          exact⟨xs,dO.mpr c⟩
        · rintro⟨xs,hj⟩
          obtain⟨ys,c⟩:=u4 j xs (dO.mp hj)
          exact⟨ys,dO.mpr c⟩
      · simp [u1,hl,la]
      · obtain⟨v,c1,c2⟩:=R.dat j y (dO.mpr ((u2 j y).mp (dO.mp hj)))
        exact⟨v,c1,DA.mono X'.sf c2⟩
      · obtain⟨⟨xs,c1⟩,c2⟩:=u3 j ys (dO.mp hj)
        obtain⟨l,us,d1,d2⟩:=R'.own j ys c2
        exact⟨l,us,by rw [←sg j xs c1];exact d1,d2⟩
      · obtain⟨xs,g1,g3⟩:=f1.resolve_right fun⟨xss,_,_,z,_⟩=>uN j xss z
        obtain⟨ys,g2,g4⟩:=f2.resolve_right fun⟨xss,_,_,z,_⟩=>uN i xss z
        obtain⟨⟨zs,c1⟩,c2⟩:=u3 j xs (dO.mp g1)
        obtain⟨⟨ws,c3⟩,c4⟩:=u3 i ys (dO.mp g2)
        exact R'.inj j i xs ys l c2 c4 (by rw [sg j zs c1];exact g3) (by rw [sg i ws c3];exact g4)
    refine⟨F,as.map some++List.replicate k0 none,fl,R.pad,h1,?_⟩
    cases fl with
    | bk e'=>cases hm
    | ct e'=>cases hm
    | nx e'=>
      obtain⟨as2,h2,hm⟩:=Option.map_eq_some_iff.mp hm
      cases hm
      intro F' H' σ' X' R'
      obtain⟨X2,R2,_⟩:=key h2 F' H' σ' X' R'
      exact q F' H' .non X2 R2 ((gF (K:=K) (F:=F')).mpr rfl)
    | rt r0 e'=>
      obtain⟨r1,h2,hm⟩:=Option.bind_eq_some_iff.mp hm
      obtain⟨as2,h3,hm⟩:=Option.map_eq_some_iff.mp hm
      cases hm
      intro F' H' σ' v X' R' A'
      obtain⟨X2,R2,ow2⟩:=key h3 F' H' σ' X' R'
      have noo:∀l,H l=none→¬cU (vs.map some) (as'.map some) H' l:=fun l hl z=>R.ownH l (ow2 l z) hl
      refine q F' H' v X2 R2 ?_
      cases r0 with
      | d y=>cases h2;exact A'
      | l ys=>
        cases h2
        obtain⟨l,us,d0,d1,d2,d3,d4,_⟩:=A'
        exact⟨l,us,d0,d1,d2,d3,d4,noo l d1⟩
      | s i=>
        simp only [vR] at h2
        split at h2
        case isFalse=>cases h2
        case isTrue hi=>
        obtain⟨a1,xs,a2⟩:=A'
        rw [a2] at h2
        cases h2
        obtain⟨l,us,d1,d2,d3,d4⟩:=R'.own i _ a2
        rw [a1] at d1;cases d1
        suffices hl0:H l=none from⟨l,us,rfl,hl0,d2,d3,d4,noo l hl0⟩
        rcases X'.own l ⟨i,.inl ⟨_,a2,a1⟩⟩ with z | z
        · obtain⟨j,zf⟩:=mW.mp z
          obtain⟨ys,z1,z2⟩:=zf.resolve_right fun⟨xss,_,_,z,_⟩=>nN j xss z
          have z1':=dO.mp z1
          obtain⟨u1,u2,u3,u4⟩:=jY h3
          obtain⟨ws,w1⟩:=u4 j ys z1'
          obtain⟨_,w2⟩:=u3 j ws w1
          have hj2:j < vs.length:=by rw [hl,←la];exact(List.getElem?_eq_some_iff.mp z1').1
          have e3:σ'[j]?=some (some (.ref l)):=by
            rw [X'.wr j (oo nl z1'),List.getElem?_append_left (by simpa using hj2)]
            exact z2
          have:=R'.inj i j _ ws l a2 w2 a1 e3
          lia
        · exact z
end
def BF:Option Sv→Option Sv
  | some (.n _)=>none
  | s=>s
def o5(cp:List (Nat × Str))(nT:Nat)(e:En):En:=cp.map (fun p=>BF (e[p.1]?).join)++List.replicate nT none
def jk(cp:List (Nat × Str))(i:Nat):Option Nat:=cp.findIdx? fun p=>p.1==i
def dH(g:FG)(ft:FT)(fe:FE):List PyData→En→List PyData→Option (List PyData × En)
  | [],e,acc=>some (acc,e)
  | x::r,e,acc=>(g x e).bind fun e1=>(ft e1).bind fun b=>if b.1=true then(fe b.2).bind fun v=>(pA v.1).bind fun d=>if acc.length < 1000000 then dH g ft fe r v.2 (acc++[d]) else none else dH g ft fe r b.2 acc
def j5(cp:List (Nat × Str))(ei e:En):Bool:=cp.all fun p=> !vD e[p.1]? || vD ei[(jk cp p.1).getD 0]?
def dJ(cp:List (Nat × Str))(nT:Nat)(fi:FI)(g:FG)(ft:FT)(fe:FE):FE:=fun e=>(fi e).bind fun p=>if (p.2.1.all fun q=> !(cp.any fun c=>c.1==q.1))=true then(dH g ft fe p.1 (o5 cp nT p.2.2) []).bind fun z=>if j5 cp z.2 p.2.2=true then some (.l z.1,jr (jk cp) z.2 p.2.2) else none else none
section
variable{K:PySem.W.Frag}{F H:Hp}{σ:L2.St}{e:En}{cp:List (Nat × Str)}{nT:Nat}
theorem eY{i k:Nat}(h:jk cp i=some k):∃s,cp[k]?=some (i,s):=by
  unfold jk at h
  rw [List.findIdx?_eq_some_iff_getElem] at h
  obtain⟨hk,h1,_⟩:=h
  refine⟨cp[k].2,?_⟩
  rw [List.getElem?_eq_getElem hk]
  have:=eq_of_beq h1
  rw [←this]
theorem gQ{k:Nat}{x:Sv}(h:(o5 cp nT e)[k]?=some (some x)):∃i s,cp[k]?=some (i,s)∧e[i]?=some (some x):=by
  unfold o5 at h
  have h:=c_ h
  rw [List.getElem?_map] at h
  obtain⟨p,h1,h2⟩:=Option.map_eq_some_iff.mp h
  refine⟨p.1,p.2,h1,?_⟩
  cases q:e[p.1]? with
  | none=>rw [q] at h2;cases h2
  | some y=>
    rw [q] at h2
    match y,h2 with
    | some (.d z),h2=>exact congrArg some h2
    | some (.l z),h2=>exact congrArg some h2
    | some (.n z),h2=>cases h2
    | none,h2=>cases h2
theorem iF:AQ (o5 cp nT e):=by
  intro k xss h
  unfold o5 at h
  have h:=c_ h
  rw [List.getElem?_map] at h
  obtain⟨p,h1,h2⟩:=Option.map_eq_some_iff.mp h
  match (e[p.1]?).join,h2 with
  | some (.d z),h2=>cases h2
  | some (.l z),h2=>cases h2
  | some (.n z),h2=>cases h2
  | none,h2=>cases h2
theorem jX{k i:Nat}{s:Str}{v:V}(h:cp[k]?=some (i,s))(hv:σ[i]?=some (some v)):(fg cp nT σ)[k]?=some (some v):=by
  unfold fg
  refine di ?_
  rw [List.getElem?_map,h]
  simp [hv]
theorem kT{k i:Nat}{s:Str}{v:V}(h:cp[k]?=some (i,s))(hv:(fg cp nT σ)[k]?=some (some v)):σ[i]?=some (some v):=by
  unfold fg at hv
  have hv:=c_ hv
  rw [List.getElem?_map,h] at hv
  simp only [Option.map_some,Option.some.injEq] at hv
  cases q:σ[i]? with
  | none=>rw [q] at hv;cases hv
  | some y=>rw [q] at hv;exact congrArg some hv
theorem mE:∀{cp:List (Nat × Str)} {k j i:Nat} {s t:Str},(cp.map (·.1)).Nodup→cp[k]?=some (i,s)→cp[j]?=some (i,t)→k=j
  | [],k,j,i,s,t,_,h,_=>by simp at h
  | p::r,k,j,i,s,t,hn,h1,h2=>by
    simp only [List.map_cons,List.nodup_cons] at hn
    cases k with
    | zero=>
      simp at h1;subst h1
      cases j with
      | zero=>rfl
      | succ j=>
        have hm:(i,t)∈r:=List.mem_of_getElem? (i:=j) (by simpa using h2)
        exact absurd (List.mem_map.mpr ⟨(i,t),hm,rfl⟩) hn.1
    | succ k=>
      cases j with
      | zero=>
        simp at h2;subst h2
        have hm:(i,s)∈r:=List.mem_of_getElem? (i:=k) (by simpa using h1)
        exact absurd (List.mem_map.mpr ⟨(i,s),hm,rfl⟩) hn.1
      | succ j=>
        have:=mE (cp:=r) (k:=k) (j:=j) hn.2 (by simpa using h1) (by simpa using h2)
        lia
theorem aY.inn(R:aY K F H σ e)(hn:(cp.map (·.1)).Nodup):aY K F H (fg cp nT σ) (o5 cp nT e)∧ny σ e (fg cp nT σ) (o5 cp nT e) (jk cp):=by
  refine⟨⟨R.sm,by simp [fg,o5],fun k x h=>?_,fun k xs h=>?_,fun k xss h=>absurd h (iF k xss),fun k j l f1 f2=>?_⟩,⟨fun i k xs h1 h2=>?_,fun k ys h=>?_⟩⟩
  · obtain⟨i,s,h1,h2⟩:=gQ h
    obtain⟨v,g1,g2⟩:=R.dat i x h2
    exact⟨v,jX h1 g1,g2⟩
  · obtain⟨i,s,h1,h2⟩:=gQ h
    obtain⟨l,vs,g1,g2⟩:=R.own i xs h2
    exact⟨l,vs,jX h1 g1,g2⟩
  · obtain⟨xs,h1,h3⟩:=f1.resolve_right fun⟨xss,_,_,z,_⟩=>iF k xss z
    obtain⟨ys,h2,h4⟩:=f2.resolve_right fun⟨xss,_,_,z,_⟩=>iF j xss z
    obtain⟨i,s,a1,a2⟩:=gQ h1
    obtain⟨i',s',b1,b2⟩:=gQ h2
    have:i=i':=R.inj i i' xs ys l a2 b2 (kT a1 h3) (kT b1 h4)
    subst this
    exact mE hn a1 b1
  · obtain⟨s,g⟩:=eY h2
    obtain⟨l,vs,g1,_⟩:=R.own i xs h1
    rw [g1];exact jX g g1
  · obtain⟨i,s,h1,h2⟩:=gQ h
    obtain⟨l,vs,g1,_⟩:=R.own i ys h2
    refine⟨i,ys,h2,?_,by rw [g1];exact jX h1 g1⟩
    cases hp:jk cp i with
    | none=>
      unfold jk at hp
      rw [List.findIdx?_eq_none_iff] at hp
      have:=hp _ (List.mem_of_getElem? h1)
      simp at this
    | some j=>
      obtain⟨t,g⟩:=eY hp
      rw [mE hn g h1]
theorem aY.putT(R:aY K F H σ e){l:Addr}{ws:List V}(h1:F l=none)(h2:¬cU σ e H l):aY K F (aT H l (.lst ws)) σ e∧∀a,cU σ e (aT H l (.lst ws)) a↔ cU σ e H a:=
  R.keep (ax.refl F) (fun b o q=>by
    have z:b≠l:=fun z=>by rw [z,h1] at q;cases q
    rw [aE z];exact R.sm b o q) (fun a ⟨i,h⟩=>(R.fpAt h).1) fun a o ha q=>by
      have z:a≠l:=fun z=>h2 (by rw [←z];exact ha)
      rw [aE z];exact q
theorem cQ.putT{W:List Nat}{σ':L2.St}{F' H':Hp}{e':En}(x:cQ W σ F H e σ' F' H' e'){l:Addr}{o:HO}(h:H l=none)(ho:∀a,cU σ' e' (aT H' l o) a↔ cU σ' e' H' a):cQ W σ F H e σ' F' (aT H' l o) e':=by
  refine⟨x.sf,fun a q=>?_,x.fr,fun a vs q=>?_,fun a u q n=>?_,fun a q=>x.own a ((ho a).mp q),x.wr⟩
  · by_cases z:a=l
    · rw [z];exact h
    · rw [aE z] at q;exact x.dom a q
  · have z:a≠l:=fun z=>by rw [z,h] at q;cases q
    rw [aE z];exact x.lst a vs q
  · have z:a≠l:=fun z=>by rw [z,h] at q;cases q
    rw [aE z];exact x.tmp a u q n
inductive CI (K:PySem.W.Frag) (W:List Nat) (σ0:L2.St) (F1 H1:Hp) (e0:En) (l:Addr) (P:Hp→En→List PyData→Prop) (σ':L2.St) (H':Hp):Prop
  | mk {F':Hp} {ei:En} {acc:List PyData} {vs:List V} (R:aY K F' H' σ' ei) (X:cQ W σ0 F1 H1 e0 σ' F' H' ei) (fl:F' l=none) (no:¬cU σ' ei H' l) (hl:H' l=some (.lst vs)) (da:aG K F' acc vs) (hc:P F' ei acc):CI K W σ0 F1 H1 e0 l P σ' H'
theorem oW{Q:VK}{fi:FI}{g:FG}{W:List Nat}{ft:FT}{fe:FE}(hn:(cp.map (·.1)).Nodup)(hW:∀j∈W,cp.length≤j)(h:fE K (dJ cp nT fi g ft fe) σ H Q):qS cp nT (fI K fi) (fG K g W) (fT K ft) (fE K fe) σ H Q:=by
  obtain⟨F0,e0,z,e',R0,hf,q⟩:=h
  unfold dJ at hf
  obtain⟨⟨items,own,e1⟩,h1,hf⟩:=Option.bind_eq_some_iff.mp hf
  dsimp only at hf
  split at hf
  case isFalse=>cases hf
  case isTrue hO=>
  obtain⟨⟨out,eo⟩,h2,hf⟩:=Option.bind_eq_some_iff.mp hf
  dsimp only at hf
  split at hf
  case isFalse=>cases hf
  case isTrue hB=>
  cases hf
  refine⟨⟨F0,e0,items,own,e1,R0,h1,fun J F1 H1 X1 R1 kp ok=>?_⟩⟩
  intro l hl
  obtain⟨Ri,sub⟩:=R1.inn (nT:=nT) hn
  have hFl:F1 l=none:=R1.freeF hl
  let Iv:Nat→L2.St→Hp→Prop:=fun i=>CI K W (fg cp nT σ) F1 H1 (o5 cp nT e1) l fun _ ei acc=>dH g ft fe (items.drop i) ei acc=some (out,eo)
  have notown:∀p∈own,∀a,σ[p.1]?=some (some (.ref a))→¬cU (fg cp nT σ) (o5 cp nT e1) H1 a:=by
    rintro p hp a ha ⟨k,zf⟩
    obtain⟨xs,c1,c2⟩:=zf.resolve_right fun⟨xss,_,_,z,_⟩=>iF k xss z
    obtain⟨i,s,d1,d2⟩:=gQ c1
    have e2:=kT d1 c2
    have:p.1=i:=R1.inj p.1 i p.2 xs a (kp p hp) d2 ha e2
    have hh:=List.all_eq_true.mp hO p hp
    simp only [Bool.not_eq_true',List.any_eq_false,beq_iff_eq] at hh
    exact hh (i,s) (List.mem_of_getElem? d1) this.symm
  refine⟨fun i m σ' H'=>m=items.length - i∧i≤items.length∧Iv i σ' H',⟨items.length,by simp,Nat.zero_le _,.mk (Ri.putT hFl (fun z=>(Ri.ownH l z) hl)).1 (cQ.refl.putT hl (Ri.putT hFl (fun z=>(Ri.ownH l z) hl)).2) hFl (fun z=>(Ri.ownH l (((Ri.putT hFl (fun z=>(Ri.ownH l z) hl)).2 l).mp z)) hl) ay aG.nil h2⟩,?_⟩
  rintro i m σ' H' ⟨rfl,hi,⟨R',X',fl,no,hl',da,hc⟩⟩
  rename_i F' ei acc vs
  have held:sk K σ F' H' own:=fun p hp=>by
    obtain⟨a,us,c1,c2,c3,c4⟩:=R1.own p.1 p.2 (kp p hp)
    exact⟨a,us,c1,X'.tmp a _ c3 (notown p hp a c1),c4.mono X'.sf⟩
  obtain⟨go,stop,yld⟩:=ok F' H' X'.sf R'.sm held
  by_cases hlt:i < items.length
  · have hd:items.drop i=items[i]::items.drop (i+1):=List.drop_eq_getElem_cons hlt
    rw [hd] at hc
    unfold dH at hc
    obtain⟨e2,c2,hc⟩:=Option.bind_eq_some_iff.mp hc
    obtain⟨⟨b,e3⟩,c3,hc⟩:=Option.bind_eq_some_iff.mp hc
    refine .inr ⟨go i hlt,Iv (i+1),fun σ2 H2 r=>⟨items.length - (i+1),by lia,rfl,hlt,r⟩,fun x H2 hy=>?_⟩
    obtain⟨F2,sH,sF2,sm2,fz,hx⟩:=yld i items[i] x H2 (List.getElem?_eq_getElem hlt) hy
    obtain⟨R2,X2⟩:=R'.step sH sF2 sm2 fz
    refine⟨F2,ei,items[i],e2,R2,hx,c2,fun σ3 X3 R3=>⟨F2,e2,b,e3,R3,c3,fun F4 H4 X4 R4=>?_⟩⟩
    have hlH2:H2 l=some (.lst vs):=sH _ _ hl'
    have no2:¬cU σ' ei H2 l:=fun z=>by
      rcases X2.ow l z with z | z
      · exact no z
      · rw [hl'] at z;cases z
    have no3:¬cU σ3 e2 H2 l:=fun z=>by
      rcases X3.own l z with z | z
      · exact no2 z
      · rw [hlH2] at z;cases z
    have fl2:F2 l=none:=fz l fl (by rw [hl'];simp)
    have hlH4:H4 l=some (.lst vs):=X4.tmp l _ hlH2 no3
    have fl4:F4 l=none:=X4.fr l vs fl2 hlH2 no3
    have no4:¬cU σ3 e3 H4 l:=fun z=>by
      rcases X4.ow l z with z | z
      · exact no3 z
      · rw [hlH2] at z;cases z
    have E4:cQ W (fg cp nT σ) F1 H1 (o5 cp nT e1) σ3 F4 H4 e3:=((X'.trans X2.s).trans X3).trans X4.s
    cases b with
    | false=>
      rw [if_neg (by simp)] at hc
      exact Bz (.mk R4 E4 fl4 no4 hlH4 (da.mono (sF2.trans X4.sf)) hc)
    | true=>
      rw [if_pos rfl] at hc
      obtain⟨⟨r,e5⟩,c5,hc⟩:=Option.bind_eq_some_iff.mp hc
      obtain⟨d,c6,hc⟩:=Option.bind_eq_some_iff.mp hc
      split at hc
      case isFalse=>cases hc
      case isTrue hlen=>
      refine BA ⟨F4,e3,r,e5,R4,c5,fun F5 H5 v X5 R5 A5=>?_⟩
      have hlH5:H5 l=some (.lst vs):=X5.tmp l _ hlH4 no4
      have fl5:F5 l=none:=X5.fr l vs fl4 hlH4 no4
      have no5:¬cU σ3 e5 H5 l:=fun z=>by
        rcases X5.ow l z with z | z
        · exact no4 z
        · rw [hlH4] at z;cases z
      obtain⟨F6,R6,s6,d6,f6⟩:=cE.frozen R5 (rs:=[r]) (vs:=[v]) ⟨v,[],rfl,A5,rfl⟩ (ri c6)
      have fl6:F6 l=none:=f6 l fl5 (by rw [hlH4];simp)
      have X6:=X5.frz s6 f6
      have ll:=da.len
      have sl:sizeLine=16777216:=sizeLine_eq
      have dv:DA K F6 d v:=by
        simp only [aG] at d6
        obtain⟨v',r',e',hv,_⟩:=d6
        cases e';exact hv
      obtain⟨R7,o7⟩:=R6.putT (ws:=vs++[v]) fl6 no5
      exact⟨vs,hlH5,by lia,.mk R7 ((E4.trans X6.s).putT hl o7) fl6 (fun z=>no5 ((o7 l).mp z)) ay ((da.mono (sF2.trans (X4.sf.trans (X5.sf.trans s6)))).append (aG.one dv)) hc⟩
  · have hd:items.drop i=[]:=List.drop_eq_nil_of_le (by lia)
    rw [hd] at hc
    cases hc
    refine .inl ⟨stop i (by lia),?_⟩
    obtain⟨R9,X9,o9⟩:=oR R1 sub iF X'.sf X'.dom X'.fr X'.lst X'.tmp R' (fun i k xs g1 g2=>X'.wr k fun z=>by
      obtain⟨s,g⟩:=eY g2
      have:=(List.getElem?_eq_some_iff.mp g).1
      have:=hW k z
      lia) fun i k xs g1 g2=>by
        obtain⟨s,g⟩:=eY g2
        unfold j5 at hB
        have hb:=List.all_eq_true.mp hB _ (List.mem_of_getElem? g)
        simp only [g1,g2,Option.getD_some,vD,Bool.not_true,Bool.false_or] at hb
        exact v0.mp hb
    exact q F' H' (.ref l) (X1.trans X9) R9 ⟨l,vs,rfl,X1.dom l hl,fl,hl',da,fun z=>R1.ownH l (o9 l z) hl⟩
end
end L2
namespace L2
open PySem PySem.Spec PyProof.Rows
section
variable{X:Cx}{K:PySem.W.Frag}{a b:Expr}{es:List Expr}{fa fb:FE}{fs:FA}{pos p p2 p3:Pos}{lo hi:Option Expr}
def pC:En→Rv→Option Rv:=fun _ x=>(bS x).map fun i=>.d (.int (-i))
theorem BM:A8 K (rU fun i=>.int (-i)) pC:=by
  intro σ H0 F H e x z v Q R A hg q
  obtain⟨i,h5,h4⟩:=Option.map_eq_some_iff.mp hg
  cases h4
  exact⟨i,bX A h5,q F H _ (cT.refl _ _ _ _) R kL⟩
theorem qI(ha:PE X a (fE K fa)):PE X (.UnaryOp .USub a pos) (fE K (oZ pC fa)):=B6 AE BM ha
theorem aU(hK:X.K=K)(ha:PE X a (fE K fa))(hb:PE X b (fE K fb)):PE X (.BinOp a .Add b pos) (fE K (au a' fa fb)):=jD (hK ▸ wy) Ba ha hb
theorem oy(ha:PE X a (fE K fa))(hb:PE X b (fE K fb)):PE X (.BinOp a .Sub b pos) (fE K (au f_ fa fb)):=jD zE Cj ha hb
theorem iM(hK:X.K=K)(ha:PE X a (fE K fa))(hb:PE X b (fE K fb)):PE X (.BinOp a .Mult b pos) (fE K (au eF fa fb)):=jD (hK ▸ wC) BL ha hb
theorem cL(ha:PE X a (fE K fa))(hb:PE X b (fE K fb)):PE X (.BinOp a .FloorDiv b pos) (fE K (au bD fa fb)):=jD uo yI ha hb
theorem aO(ha:PE X a (fE K fa))(hb:PE X b (fE K fb)):PE X (.BinOp a .Mod b pos) (fE K (au aN fa fb)):=jD wB BK ha hb
theorem uP(ha:PE X a (fE K fa))(hb:PE X b (fE K fb)):PE X (.BinOp a .Pow b pos) (fE K (au mL fa fb)):=jD zB B0 ha hb
theorem ba(hK:X.K=K)(ha:PE X a (fE K fa))(hb:PE X b (fE K fb))(hs:mj b):PE X (.Subscript a b pos) (fE K (au cg fa fb)):=B4 (hK ▸ Dm) Dn ha hb hs
theorem bJ{fl fh:FO}(hK:X.K=K)(he:PE X a (fE K fa))(hl:PO X lo (fO K fl))(hh:PO X hi (fO K fh)):PE X (.Subscript a (.Slice lo hi none p2) pos) (fE K (ls fa fl fh)):=by subst hK;exact uS he hl hh
structure k_ (X:Cx) (K:PySem.W.Frag) (op:CmpOp) (g:En→Rv→Rv→Option Rv):Prop where
  ex:∃r,eK X (compareOp op) r∧fq K r g
theorem sN:k_ X K .Lt tN:=⟨_,BP,Dp⟩
theorem yD:k_ X K .Gt vY:=⟨_,BO,Df⟩
theorem yC:k_ X K .GtE yK:=⟨_,BN,De⟩
theorem my{k:Nat}(hK:X.K=K)(hr:bU k X.A):k_ X K .Eq (cD false):=⟨_,hK ▸ zu hr,xY⟩
theorem vL{k:Nat}(hK:X.K=K)(hr:bU k X.A):k_ X K .NotEq (cD true):=⟨_,hK ▸ zA hr,xY⟩
theorem vJ{k:Nat}(hK:X.K=K)(hr:bU k X.A):k_ X K .In (k9 false):=⟨_,hK ▸ zv hr,Br⟩
theorem mz{k:Nat}(hK:X.K=K)(hr:bU k X.A):k_ X K .NotIn (k9 true):=⟨_,hK ▸ rL hr,Br⟩
theorem vK:k_ X K .Is yd:=⟨_,zw,Dl⟩
theorem ef{op:CmpOp}{g:En→Rv→Rv→Option Rv}(h:k_ X K op g)(ha:PE X a (fE K fa))(hb:PE X b (fE K fb))(hm:behindInMarks op b=false):PE X (.Compare a [op] [b] pos) (fE K (au g fa fb)):=by
  obtain⟨r,h1,h2⟩:=h.ex;exact zZ h1 h2 ha hb hm
theorem bE{op:CmpOp}{g:En→Rv→Rv→Option Rv}(h:k_ X K op g)(ha:PE X a (fE K fa))(hb:PE X b (fE K fb))(hm:behindInMarks op b=false):PT X (.Compare a [op] [b] pos) (fT K (aQ (au g fa fb))):=by
  obtain⟨r,h1,h2⟩:=h.ex;exact z_ h1 h2 ha hb hm
structure ij (X:Cx) (K:PySem.W.Frag) (x:Str) (g:En→List Rv→Option Rv):Prop where
  ex:(∃id r,ce X (.builtin id) r∧ck K r g∧bootBuiltins x=some (.builtin id))∨∃T r,ce X (.type T) r∧ck K r g∧bootBuiltins x=some (.type T)
theorem aV{x:Str}{g:En→List Rv→Option Rv}(h:ij X K x g)(hg:Gl X x)(hm:X.mg x=none)(ha:PA X (a::es) (fA K fs))(hn:x≠"__name__")(hdb:(x==("__debug__":Str))=false)
    (he:starEach (a::es) X.env=(false,eval a X.env)::starEach es X.env)(hpl:(backTo pos (starEach es X.env)).any (·.1)=false):PE X (.Call (.Name x p) (a::es) [] pos) (fE K (aL g fs)):=by
  rcases h.ex with ⟨id,r,h1,h2,h3⟩ | ⟨T,r,h1,h2,h3⟩
  · exact uQ h1 h2 hg hm h3 ha hn hdb he hpl
  · exact rQ h1 h2 hg hm h3 ha hn hdb he hpl
theorem b_len(hK:X.K=K):ij X K "len" (g1 eE):=⟨.inl ⟨_,_,hK ▸ mB,BE,PySem.boot_len⟩⟩
theorem b_abs:ij X K "abs" (g1 rp):=⟨.inl ⟨_,_,sP,A_,PyProof.Rows.boot_abs⟩⟩
theorem b_min(hc:X.calm=true):ij X K "min" (g2 tO):=⟨.inl ⟨_,_,rg hc,BJ,PyProof.Rows.boot_min⟩⟩
theorem b_max(hc:X.calm=true):ij X K "max" (g2 nP):=⟨.inl ⟨_,_,rc hc,BI,PyProof.Rows.boot_max⟩⟩
theorem b_int:ij X K "int" (g1 lj):=⟨.inr ⟨_,_,q_,Bu,PyProof.Rows.boot_int⟩⟩
theorem b_tuple(hK:X.K=K):ij X K "tuple" (g1 cX):=⟨.inr ⟨_,_,hK ▸ lg,xA,PyProof.Rows.boot_tuple⟩⟩
theorem b_list(hK:X.K=K):ij X K "list" (g1 jB):=⟨.inr ⟨_,_,hK ▸ mC,y8,PyProof.Rows.boot_list⟩⟩
theorem b_sum{k:Nat}(hK:X.K=K)(hr:bU k X.A):ij X K "sum" (g1 (cI lR)):=⟨.inl ⟨_,_,hK ▸ sT hr,Ck,PyProof.Rows.boot_sum⟩⟩
theorem b_all{k:Nat}(hK:X.K=K)(hr:bU k X.A):ij X K "all" (g1 (cI nM)):=⟨.inl ⟨_,_,sQ hr hK,Bb,sJ⟩⟩
theorem b_any{k:Nat}(hK:X.K=K)(hr:bU k X.A):ij X K "any" (g1 (cI lL)):=⟨.inl ⟨_,_,sR hr hK,Bd,sL⟩⟩
theorem b_sorted(hK:X.K=K):ij X K "sorted" (g1 pD):=⟨.inl ⟨_,_,hK ▸ pv,xr,PyProof.Rows.boot_sorted⟩⟩
theorem b_repr{k:Nat}(hK:X.K=K)(hr:bU k X.A):ij X K "repr" (g1 jC):=⟨.inl ⟨_,_,hK ▸ pq hr,Ah,PyProof.Rows.boot_repr⟩⟩
def jZ(fs:FA):FE:=fun e=>(fs e).bind fun p=>match p.1 with
  | [r]=>(bS r).bind fun j=>if 0≤j∧j≤100000 then some (.l ((iO j.toNat).map .int),p.2) else none
  | _=>none
theorem ox(hc:X.calm=true)(hgl:Gl X "list")(hml:X.mg "list"=none)(hg:Gl X "range")(hm:X.mg "range"=none)(ha:PA X [a] (fA K fs))(hs:starEach [a] X.env=[(false,eval a X.env)])
    (he:starEach [.Call (.Name "range" p2) [a] [] p3] X.env=[(false,eval (.Call (.Name "range" p2) [a] [] p3) X.env)]):PE X (.Call (.Name "list" p) [.Call (.Name "range" p2) [a] [] p3] [] pos) (fE K (jZ fs)):=(mY hc hgl hml hg hm ha hs he).mono fun σ H Q h=>by
  obtain⟨F,e,z,e',R,hf,q⟩:=h
  unfold jZ at hf
  obtain⟨⟨rs,e1⟩,h1,hf⟩:=Option.bind_eq_some_iff.mp hf
  match rs,h1,hf with
  | [r],h1,hf=>
  obtain⟨j,h2,hf⟩:=Option.bind_eq_some_iff.mp hf
  split at hf
  case isFalse=>cases hf
  case isTrue hj=>
  cases hf
  refine⟨F,e,_,e1,R,h1,fun F1 H1 vs X1 R1 A1=>?_⟩
  obtain⟨v,rfl,A2⟩:=gR A1
  refine⟨j,by rw [bX A2 h2],hj.1,hj.2,fun t ht=>?_⟩
  obtain⟨R3,X3,hF,no⟩:=R1.newL (vs:=(iO j.toNat).map V.int) ht
  exact q _ _ _ (X1.trans X3) R3 ⟨t,_,rfl,X1.dom _ ht,hF,ay,aG.ints.mpr rfl,no⟩
abbrev dy:FT:=fun e=>some (true,e)
theorem sr.mono{ifs:List Expr}{t t':TT}(h:sr X ifs t)(m:∀σ H Q,t' σ H Q→t σ H Q):sr X ifs t':=fun pins s σ H Q I q=>h pins s σ H Q I (m σ H Q q)
theorem iN:sr X [] (fT K dy):=xc.mono fun σ H Q h=>by
  obtain⟨F,e,b,e',R,hf,q⟩:=h
  cases hf
  exact q F H (cT.refl _ _ _ _) R
theorem xj{c:Expr}{ft:FT}(h:PT X c (fT K ft)):sr X [c] (fT K ft):=xf h
theorem mZ{elt iter tg:Expr}{ifs:List Expr}{scope:Scope}{fi:FI}{g:FG}{ft:FT}{fe:FE}{W:List Nat}(sc0:Scope)(N0:List Str)(cp:List (Nat × Str))(tgN:List Str)
    (hc:X.calm=true)(hsc:X.env.scope=sc0)(hN0:X.N=N0)(hi:PI X tg iter (fI K fi))
    (hg:∀C s0 H0 fp,PG (aM X scope cp tgN C s0 H0 fp) tg (fG K g W))
    (ht:∀C s0 H0 fp,sr (aM X scope cp tgN C s0 H0 fp) ifs (fT K ft))
    (he:∀C s0 H0 fp,PE (aM X scope cp tgN C s0 H0 fp) elt (fE K fe))
    (hk:scope.kind=.function)(hcell:∀y∈scope.names,y.2≠.cell)(hnames:∀y∈scope.names,y.2=.local→scope.names.lookup y.1=some .local)
    (hfr:∀y∈scope.names,y.2=.free→scope.names.lookup y.1=some .free∧sc0.names.lookup y.1=some .cell)
    (hcp:∀p∈cp,N0[p.1]?=some p.2)(hcq:∀p∈cp,sc0.names.lookup p.2=some .cell∧scope.names.lookup p.2=some .free)(hnd:(cp.map (·.1)).Nodup)(hW:∀j∈W,cp.length≤j)
    (hs:∀x,foldedSetIterable iter X.env x=pure x):
    PE X (.ListComp elt [⟨tg,iter,ifs,0⟩] scope pos) (fE K (dJ cp tgN.length fi g ft fe)):=(wK sc0 N0 cp tgN hc hsc hN0 hi hg ht he hk hcell hnames hfr hcp hcq hs).mono fun _ _ _ h=>oW hnd hW h
theorem lY{ix:Nat}{nm:Str}{posn poss:Pos}{elt iter tg:Expr}{ifs:List Expr}{scope:Scope}{fi:FI}{g:FG}{ft:FT}{fe:FE}{W:List Nat}(sc0:Scope)(N0:List Str)(cp:List (Nat × Str))(tgN:List Str)
    (hc:X.calm=true)(hsc:X.env.scope=sc0)(hN0:X.N=N0)(hi:PI X tg iter (fI K fi))
    (hg:∀C s0 H0 fp,PG (aM X scope cp tgN C s0 H0 fp) tg (fG K g W))
    (ht:∀C s0 H0 fp,sr (aM X scope cp tgN C s0 H0 fp) ifs (fT K ft))
    (he:∀C s0 H0 fp,PE (aM X scope cp tgN C s0 H0 fp) elt (fE K fe))
    (hk:scope.kind=.function)(hcell:∀y∈scope.names,y.2≠.cell)(hnames:∀y∈scope.names,y.2=.local→scope.names.lookup y.1=some .local)
    (hfr:∀y∈scope.names,y.2=.free→scope.names.lookup y.1=some .free∧sc0.names.lookup y.1=some .cell)
    (hcp:∀p∈cp,N0[p.1]?=some p.2)(hcq:∀p∈cp,sc0.names.lookup p.2=some .cell∧scope.names.lookup p.2=some .free)(hnd:(cp.map (·.1)).Nodup)(hW:∀j∈W,cp.length≤j)
    (hNd:X.N.Nodup)(hix:X.N[ix]?=some nm)(hlc:X.env.scope.names.lookup nm=some .local)(hsw:swapsWith (.ListComp elt [⟨tg,iter,ifs,0⟩] scope pos) (some (.Name nm posn)) poss.line X.env=pure true)
    (hs:∀x,foldedSetIterable iter X.env x=pure x):
    PS X (.Assign [.Name nm posn] (.ListComp elt [⟨tg,iter,ifs,0⟩] scope pos) poss) (fS K (a8 ix (dJ cp tgN.length fi g ft fe)) [ix]):=(pS sc0 N0 cp tgN hc hsc hN0 hi hg ht he hk hcell hnames hfr hcp hcq hNd hix hlc hsw hs).mono fun D σ H h=>by
  obtain⟨F,e,fl,R,hf,q⟩:=h
  unfold a8 at hf
  obtain⟨⟨r,e1⟩,h1,hf⟩:=Option.bind_eq_some_iff.mp hf
  obtain⟨e2,h2,hf⟩:=Option.map_eq_some_iff.mp hf
  cases hf
  refine oW hnd hW ⟨F,e,r,e1,R,h1,fun F1 H1 v X1 R1 A1=>?_⟩
  obtain⟨x,R2⟩:=uO R X1 R1 A1 h2
  exact q F1 H1 _ x R2
variable{o:Expr}{fo:FE}{apos cpos:Pos}
theorem dn(hK:X.K=K)(ho:PE X o (fE K fo))(ha:PA X (a::es) (fA K fs))(hbase:attributeBase o "append" X.env (eval o X.env)=eval o X.env)
    (hfew:((backTo cpos (starEach (a::es) X.env)).all (fun x=> !x.1)&&(backToKw cpos (keywordEach [] X.env)).all (fun x=>x.1.isSome)
      &&decide ((a::es).length+([]:List Keyword).length+(if ([]:List Keyword).isEmpty then 0 else 1) < 30))=true)
    (hline:(apos.endLine==cpos.line)=true)(hs:starEach (a::es) X.env=(false,eval a X.env)::starEach es X.env)(hplain:(backTo cpos (starEach es X.env)).any (·.1)=false):
    PE X (.Call (.Attribute o "append" apos) (a::es) [] cpos) (fE K (dz b_ fo fs)):=by
  subst hK;exact ym PySem.F.slot_list_append PySem.F.type_list_append jh su ho ha hbase hfew hline hs hplain
theorem qJ(hK:X.K=K)(ho:PE X o (fE K fo))(ha:PA X (a::es) (fA K fs))(hbase:attributeBase o "pop" X.env (eval o X.env)=eval o X.env)
    (hfew:((backTo cpos (starEach (a::es) X.env)).all (fun x=> !x.1)&&(backToKw cpos (keywordEach [] X.env)).all (fun x=>x.1.isSome)
      &&decide ((a::es).length+([]:List Keyword).length+(if ([]:List Keyword).isEmpty then 0 else 1) < 30))=true)
    (hline:(apos.endLine==cpos.line)=true)(hs:starEach (a::es) X.env=(false,eval a X.env)::starEach es X.env)(hplain:(backTo cpos (starEach es X.env)).any (·.1)=false):
    PE X (.Call (.Attribute o "pop" apos) (a::es) [] cpos) (fE K (dz h_ fo fs)):=by
  subst hK;exact ym PySem.F.slot_list_pop PySem.F.type_list_pop ua wW ho ha hbase hfew hline hs hplain
end
end L2
namespace L2
open PySem PySem.Spec PyProof.Rows
theorem pZ{K:PySem.W.Frag}{H:Hp}{a:Addr}{ns:List Int}{m:FM}{as':List Sv}{Q:VK}{E:XK}(hS:bR K H a (ns.map V.int))(hm:m [.d (.list (ns.map .int))]=some (.d (.bool true),as'))(q:∀H',Q (.bl true) H'):cj K 1 m [.ref a] H Q E:=by
  refine⟨rfl,H,[.d (.list (ns.map .int))],_,as',?_,?_,hm,trivial,fun F' H' v X' R' A'=>?_⟩
  · refine⟨ax.refl _,rfl,fun i x h=>?_,fun i xs h=>?_,fun i xss h=>?_,fun i j l f1 _=>?_⟩
    · match i,h with
      | 0,h=>
        simp at h;subst h
        exact⟨.ref a,rfl,cz.mpr ⟨a,_,rfl,hS,aG.ints.mpr rfl⟩⟩
      | i+1,h=>simp at h
    · match i,h with
      | 0,h=>simp at h
      | i+1,h=>simp at h
    · match i,h with
      | 0,h=>simp at h
      | i+1,h=>simp at h
    · rcases f1 with ⟨_,h,_⟩ | ⟨_,_,_,h,_⟩
      · match i,h with
        | 0,h=>simp at h
        | i+1,h=>simp at h
      · match i,h with
        | 0,h=>simp at h
        | i+1,h=>simp at h
  · intro i xss h
    match i,h with
    | 0,h=>simp at h
    | i+1,h=>simp at h
  · rw [cx.mp (show DA K F' (.bool true) v from A')];exact q H'
end L2
namespace L2
open PySem PySem.Spec PyProof.Rows
section
variable{K:PySem.W.Frag}{σ:L2.St}{H0 F H F' H':Hp}{e e':En}
end
section
variable{X:Cx}{K:PySem.W.Frag}{a b:Expr}{es:List Expr}{fa fb:FE}{fs:FA}{pos p p2 p3 pos':Pos}{x:Str}{i:Nat}
def nC(k:Int):En→Option Int:=fun _=>some k
end
end L2
namespace L2
open PySem PySem.Spec PyProof.Rows
theorem jd{C:Int→Int→Bool}{f:Int→Int→PyData}{e:En}{i j:Int}(h:C i j=true):gI C f e (.d (.int i)) (.d (.int j))=some (.d (f i j)):=by simp [gI,bS,h]
theorem cq{e:En}{i j:Int}:a' e (.d (.int i)) (.d (.int j))=some (.d (.int (i+j))):=rfl
theorem ke{e:En}{i j:Int}:f_ e (.d (.int i)) (.d (.int j))=some (.d (.int (i - j))):=rfl
theorem iC{e:En}{i j:Int}(h:ji i j=true):eF e (.d (.int i)) (.d (.int j))=some (.d (.int (i*j))):=by
  unfold eF se lP;rw [jd h];rfl
theorem pL{i j:Int}(h1: -(2 ^ 64) < i)(h2:i < 2 ^ 64):ji i j=true:=by
  have:fK i=true:=by unfold fK;rw [decide_eq_true h1,decide_eq_true h2];rfl
  unfold ji;rw [this];simp
theorem mS{i j:Int}(h1: -(2 ^ 64) < j)(h2:j < 2 ^ 64):ji i j=true:=by
  have:fK j=true:=by unfold fK;rw [decide_eq_true h1,decide_eq_true h2];rfl
  unfold ji;rw [this];simp
theorem aB{e:En}{i j:Int}(h:0 < j):aN e (.d (.int i)) (.d (.int j))=some (.d (.int (i % j))):=by
  unfold aN;rw [jd (by simp;lia)]
  rw [Int.fmod_eq_emod_of_nonneg i (by lia)]
theorem bA{e:En}{i j:Int}(h:0 < j)(h2:Bt 8000 j):bD e (.d (.int i)) (.d (.int j))=some (.d (.int (i / j))):=by
  unfold bD;rw [jd (by simp [ir.mpr h2];lia)]
  rw [Int.fdiv_eq_ediv_of_nonneg i (by lia)]
theorem gL{e:En}{i j:Int}{neg:Bool}:cD neg e (.d (.int i)) (.d (.int j))=some (.d (.bool (if neg then !(i==j) else i==j))):=by
  unfold cD;simp [fZ,SeqAt.shaped,PyData.canLay0,PyData.depth,PyData.eqv]
theorem qB{e:En}{i j:Int}:tN e (.d (.int i)) (.d (.int j))=some (.d (.bool (decide (i < j)))):=rfl
theorem qz{e:En}{i j:Int}:Ec e (.d (.int i)) (.d (.int j))=some (.d (.bool (decide (i≤j)))):=rfl
theorem qu{e:En}{i j:Int}:vY e (.d (.int i)) (.d (.int j))=some (.d (.bool (decide (j < i)))):=rfl
theorem qt{e:En}{i j:Int}:yK e (.d (.int i)) (.d (.int j))=some (.d (.bool (decide (j≤i)))):=rfl
theorem nR{e:En}{i j:Int}:g2 tO e [.d (.int i),.d (.int j)]=some (.d (.int (min i j))):=by
  show some (Rv.d (.int (if j < i then j else i)))=_
  congr 3
  split<;>lia
theorem nQ{e:En}{i j:Int}:g2 nP e [.d (.int i),.d (.int j)]=some (.d (.int (max i j))):=by
  show some (Rv.d (.int (if j > i then j else i)))=_
  congr 3
  split<;>lia
theorem nS{e:En}{i:Int}:pC e (.d (.int i))=some (.d (.int (-i))):=rfl
theorem lM{e:En}{b:Bool}:g1 lj e [.d (.bool b)]=some (.d (.int (if b then 1 else 0))):=rfl
theorem nL{e:En}{i:Int}:g1 rp e [.d (.int i)]=some (.d (.int i.natAbs)):=by
  show some (Rv.d (.int (if i < 0 then -i else i)))=_
  congr 3
  split<;>lia
theorem dA{j:Int}(h1:0 < j)(h2:j < 2 ^ 64):Bt 8000 j:=Bt.mono (m:=64) (by unfold Bt;lia) (by decide)
theorem fU{α:Type}{xs:List α}{i:Int}(h0:0≤i)(h:i < xs.length):atI xs i=xs[i.toNat]?:=by
  unfold atI BC
  rw [if_pos h0,if_pos h];rfl
theorem kc{e:En}{i:Nat}{xs:List PyData}{neg:Bool}(h:e[i]?=some (some (.l xs)))(hs:SeqAt.shaped (.list xs)=true):cD neg e (.s i) (.l [])=some (.d (.bool (if neg then !xs.isEmpty else xs.isEmpty))):=by
  unfold cD
  simp only [fZ,h,Option.bind_some,hs]
  have h0:SeqAt.shaped (.list [])=true:=by simp [SeqAt.shaped,PyData.canLay0,PyData.canLayAll0,PyData.depth,PyData.depthAll]
  rw [h0]
  cases xs<;>simp [PyData.eqv,PyData.eqvAll]
theorem gy(ns:List Int):SeqAt.shaped (.list (ns.map .int))=true∧SeqAt.shaped (.tuple (ns.map .int))=true:=by
  have h1:PyData.canLayAll0 (ns.map PyData.int)=true:=by
    induction ns with
    | nil=>rfl
    | cons n r ih=>simp [PyData.canLayAll0,PyData.canLay0,ih]
  have h2:PyData.depthAll (ns.map PyData.int)=0:=by
    clear h1
    induction ns with
    | nil=>rfl
    | cons n r ih=>simp [PyData.depthAll,PyData.depth,ih]
  constructor<;>simp [SeqAt.shaped,PyData.canLay0,PyData.depth,h1,h2]
theorem bN{own:eL}{g:FG}{f:FS}(P:Nat→En→Prop):∀(items:List PyData) (k:Nat) (e:En),(∀i x e,items[i]?=some x→P (k+i) e→∃e1 e2,g x e=some e1∧f e1=some (.nx e2)∧keeps own e2∧P (k+i+1) e2)→P k e→∃e',gZ own g f items e=some (.nx e')∧P (k+items.length) e'
  | [],k,e,_,h=>⟨e,rfl,h⟩
  | x::r,k,e,hs,h=>by
    obtain⟨e1,e2,h1,h2,h3,h4⟩:=hs 0 x e rfl h
    obtain⟨e',h5,h6⟩:=bN P r (k+1) e2 (fun i y e hy hp=>by
      have:=hs (i+1) y e (by simpa using hy) (by rw [show k+(i+1)=k+1+i by lia];exact hp)
      rw [show k+(i+1)+1=k+1+i+1 by lia] at this
      exact this) h4
    refine⟨e',?_,by rw [List.length_cons,show k+(r.length+1)=k+1+r.length by lia];exact h6⟩
    unfold gZ
    simp only [h1,h2,Option.bind_some,if_pos h3]
    exact h5
theorem br{e:En}:keeps [] e:=fun _ h=>by cases h
theorem cP{W:List Nat}{fi:FI}{g:FG}{f:FS}{e e1:En}{items:List PyData}(h:fi e=some (items,[],e1)):cR W fi g f e=gZ [] g f items e1:=by
  unfold cR;rw [h];rfl
theorem c8{lo:Int}{n i:Nat}{x:PyData}(h:(bF lo n)[i]?=some x):x=.int (lo+i)∧i < n:=by
  unfold bF at h
  rw [List.getElem?_map] at h
  obtain⟨k,h1,rfl⟩:=Option.map_eq_some_iff.mp h
  obtain⟨h2,h3⟩:=List.getElem?_eq_some_iff.mp h1
  simp at h2 h3
  subst h3
  exact⟨rfl,h2⟩
theorem eg{lo:Int}{n:Nat}:(bF lo n).length=n:=by simp [bF]
theorem fy{fs:FA}{e e1:En}{n:Int}(h:fs e=some ([.d (.int n)],e1))(h1: -1000000≤n)(h2:n≤1000000):dc fs e=some (bF 0 n.toNat,[],e1):=by
  unfold dc;rw [h]
  have:u9 n=true:=by unfold u9;rw [decide_eq_true h1,decide_eq_true h2];rfl
  simp [bS,this]
theorem ii{ft:FT}{f:FS}(P:En→Prop)(μ:En→Nat)(hs:∀e,P e→(∃e1,ft e=some (false,e1)∧True)∨∃e1 e2,ft e=some (true,e1)∧f e1=some (.nx e2)∧P e2∧μ e2 < μ e):
    ∀(n:Nat) (e:En),P e→μ e < n→∃e0 e',fL ft f n e=some (.nx e')∧P e0∧ft e0=some (false,e'):=by
  intro n
  induction n with
  | zero=>intro e _ h;lia
  | succ n ih=>
    intro e hp hm
    rcases hs e hp with ⟨e1,h1,_⟩ | ⟨e1,e2,h1,h2,h3,h4⟩
    · exact⟨e,e1,by unfold fL;rw [h1];rfl,hp,h1⟩
    · obtain⟨e0,e',g1,g2⟩:=ih e2 h3 (by lia)
      exact⟨e0,e',by unfold fL;rw [h1];simp only [Option.bind_some,if_true,h2];exact g1,g2⟩
theorem dW{cs:En}{ft:FT}{fe:FE}{b:PyData→Bool}{y:PyData→PyData}:∀(items:List PyData) (t:Option Sv) (acc:List PyData),(∀x∈items,ft (cs++[some (.d x)])=some (b x,cs++[some (.d x)]))→(∀x∈items,b x=true→fe (cs++[some (.d x)])=some (.d (y x),cs++[some (.d x)]))→
    acc.length+items.length≤1000000→∃t',dH (aq cs.length) ft fe items (cs++[t]) acc=some (acc++(items.filter b).map y,cs++[t'])
  | [],t,acc,_,_,_=>⟨t,by simp [dH]⟩
  | x::r,t,acc,h1,h2,hl=>by
    have hg:aq cs.length x (cs++[t])=some (cs++[some (.d x)]):=by simp [aq]
    have h1x:=h1 x (by simp)
    unfold dH
    rw [hg]
    simp only [Option.bind_some,h1x]
    cases hb:b x with
    | true=>
      simp only [if_true,h2 x (by simp) hb,Option.bind_some,pA]
      rw [if_pos (by simp at hl;lia)]
      obtain⟨t',ih⟩:=dW (b:=b) (y:=y) r (some (.d x)) (acc++[y x]) (fun z hz=>h1 z (by simp [hz])) (fun z hz=>h2 z (by simp [hz])) (by simp at hl ⊢;lia)
      exact⟨t',by rw [ih];simp [hb]⟩
    | false=>
      simp only [Bool.false_eq_true,if_false]
      obtain⟨t',ih⟩:=dW (b:=b) (y:=y) r (some (.d x)) acc (fun z hz=>h1 z (by simp [hz])) (fun z hz=>h2 z (by simp [hz])) (by simp at hl;lia)
      exact⟨t',by rw [ih];simp [hb]⟩
theorem tV{fa:FE}{e e1:En}{xs:List PyData}(h:fa e=some (.d (.tuple xs),e1)):hU fa e=some (xs,[],e1):=by
  unfold hU;rw [h];rfl
theorem tW{fa:FE}{e e1:En}{xs:List PyData}(h:fa e=some (.l xs,e1)):hU fa e=some (xs,[],e1):=by
  unfold hU;rw [h];rfl
theorem gB{cp:List (Nat × Str)}{nT:Nat}{fi:FI}{g:FG}{ft:FT}{fe:FE}{e e1 cs:En}{t t':En}{items out:List PyData}(h1:fi e=some (items,[],e1))(hc:o5 cp nT e1=cs++t)(hl:cs.length=cp.length)(h3:dH g ft fe items (o5 cp nT e1) []=some (out,cs++t')):dJ cp nT fi g ft fe e=some (.l out,e1):=by
  have key:∀i x,e1[i]?=some (some (.l x))→∀k,jk cp i=some k→(cs++t')[k]?=some (some (.l x)):=by
    intro i x hi k hk
    obtain⟨s,hs⟩:=eY hk
    have hk2:k < cp.length:=(List.getElem?_eq_some_iff.mp hs).1
    have:(o5 cp nT e1)[k]?=some (some (.l x)):=by
      unfold o5
      rw [List.getElem?_append_left (by simpa using hk2),List.getElem?_map,hs]
      simp [hi,BF]
    rw [hc,List.getElem?_append_left (by lia)] at this
    rw [List.getElem?_append_left (by lia)]
    exact this
  unfold dJ
  rw [h1]
  simp only [Option.bind_some,List.all_nil,if_true,h3]
  have hb:j5 cp (cs++t') e1=true:=by
    unfold j5
    rw [List.all_eq_true]
    intro p hp
    match hi:e1[p.1]? with
    | none=>simp [vD]
    | some none=>simp [vD]
    | some (some (.d x))=>simp [vD]
    | some (some (.n x))=>simp [vD]
    | some (some (.l x))=>
      cases hq:jk cp p.1 with
      | none=>
        unfold jk at hq
        rw [List.findIdx?_eq_none_iff] at hq
        have:=hq p hp
        simp at this
      | some k=>simp [key p.1 x hi k hq,vD]
  rw [if_pos hb]
  congr 2
  refine List.ext_getElem? fun i=>?_
  rw [bP]
  match hi:e1[i]? with
  | none=>rfl
  | some none=>rfl
  | some (some (.d x))=>rfl
  | some (some (.n x))=>rfl
  | some (some (.l x))=>
    cases hp:jk cp i with
    | none=>simp [hp]
    | some k=>simp [hp,key i x hi k hp]
theorem fR{α:Type}{xs:List α}{i:Int}(h0:0≤i)(h1:i < xs.length):∃x∈xs,atI xs i=some x:=by
  rw [fU h0 h1]
  exact⟨xs[i.toNat]'(by lia),List.getElem_mem _,List.getElem?_eq_getElem _⟩
theorem ye{e:En}{xs:List PyData}{i:Int}:cg e (.l xs) (.d (.int i))=(atI xs i).map .d:=rfl
theorem tJ{e:En}{xs:List PyData}{i:Int}:cg e (.d (.tuple xs)) (.d (.int i))=(atI xs i).map .d:=rfl
theorem tI{e:En}{xs:List PyData}{i:Int}:cg e (.d (.list xs)) (.d (.int i))=(atI xs i).map .d:=rfl
theorem yf{e:En}{j:Nat}{xs:List PyData}{i:Int}(h:e[j]?=some (some (.l xs))):cg e (.s j) (.d (.int i))=(atI xs i).map .d:=by
  simp [cg,cw,h,bS]
theorem tM{e:En}{xs:List PyData}:g1 eE e [.d (.tuple xs)]=some (.d (.int xs.length)):=rfl
theorem qA{e:En}{xs:List PyData}:g1 eE e [.d (.list xs)]=some (.d (.int xs.length)):=rfl
theorem tK{e:En}{xs:List PyData}:g1 eE e [.l xs]=some (.d (.int xs.length)):=rfl
theorem tL{e:En}{j:Nat}{xs:List PyData}(h:e[j]?=some (some (.l xs))):g1 eE e [.s j]=some (.d (.int xs.length)):=by
  simp [g1,eE,cw,h]
theorem nV{e:En}{j:Nat}{xs:List PyData}(h:e[j]?=some (some (.l xs))):g1 cX e [.s j]=some (.d (.tuple xs)):=by
  simp [g1,cX,cw,h]
theorem nU{e:En}{xs:List PyData}:g1 cX e [.l xs]=some (.d (.tuple xs)):=rfl
theorem lS{e:En}{xs:List PyData}:g1 cX e [.d (.list xs)]=some (.d (.tuple xs)):=rfl
theorem nW{e:En}{xs:List PyData}:g1 cX e [.d (.tuple xs)]=some (.d (.tuple xs)):=rfl
theorem yg{e:En}{xs:List PyData}{lo hi:Option Int}:Bn e (.d (.tuple xs)) lo hi=some (.d (.tuple (cutD xs lo hi))):=rfl
theorem mK{e:En}{xs ys:List PyData}(h:xs.length+ys.length≤1000000):a' e (.d (.tuple xs)) (.d (.tuple ys))=some (.d (.tuple (xs++ys))):=by
  simp [a',se,tj,gI,bS,nO,cw,h]
theorem yO{e:En}{i j:Int}(h:j≠0):aN e (.d (.int i)) (.d (.int j))=some (.d (.int (i.fmod j))):=by
  unfold aN;rw [jd (by simpa using h)]
theorem vX{e:En}{i j:Int}(h:j≠0)(h2:Bt 8000 j):bD e (.d (.int i)) (.d (.int j))=some (.d (.int (i.fdiv j))):=by
  unfold bD;rw [jd (by simp [ir.mpr h2,h])]
theorem gb{e:En}{i j:Int}(h:uJ i j=true):mL e (.d (.int i)) (.d (.int j))=some (.d (.int (i ^ j.toNat))):=by
  unfold mL;rw [jd h]
theorem iL:uJ 10 18=true:=by decide
theorem bw{f g:FS}{e e1:En}(h:f e=some (.nx e1)):aH f g e=g e1:=by unfold aH;rw [h];rfl
theorem Cf{ft:FT}{f g:FS}{e e1:En}(h:ft e=some (true,e1)):iP ft f g e=f e1:=by unfold iP;rw [h];rfl
theorem Ce{ft:FT}{f g:FS}{e e1:En}(h:ft e=some (false,e1)):iP ft f g e=g e1:=by unfold iP;rw [h];rfl
def yi(i:Nat)(e:En):Nat:=match e[i]? with
  | some (some (.l xs))=>xs.length
  | _=>0
def uc(i:Nat)(e:En):Nat:=match e[i]? with
  | some (some (.d (.int k)))=>k.natAbs
  | _=>0
theorem qH{n m:Nat}(h:n < 2 ^ m)(hm:m≤4200):n < 2 ^ 4200:=Nat.lt_of_lt_of_le h (Nat.pow_le_pow_right (by decide) hm)
theorem sv{α:Type}{a:α}{r:List α}:atI (a::r) 0=some a:=by
  rw [fU (by decide) (by simp)];rfl
theorem pe{α:Type}{a b:α}{r:List α}:atI (a::b::r) 1=some b:=by
  rw [fU (by decide) (by simp;lia)];rfl
theorem sx{α:Type}{a b c:α}{r:List α}:atI (a::b::c::r) 2=some c:=by
  rw [fU (by decide) (by simp;lia)];rfl
theorem sy{α:Type}{a b c d:α}{r:List α}:atI (a::b::c::d::r) 3=some d:=by
  rw [fU (by decide) (by simp;lia)];rfl
theorem dg{W:bf}{k:Int}(h:dG W k):atI (W.ties.map dh) k=some (dh (W.tie k)):=by
  rw [fU h.1 (by rw [List.length_map];exact h.2),List.getElem?_map,h.get];rfl
theorem sC{ns:List Int}{k:Int}(h0:0≤k)(h1:k < (ns.length:Int)):atI (ns.map PyData.int) k=some (.int (ns.getD k.toNat 0)):=by
  rw [fU h0 (by rw [List.length_map];exact h1),List.getElem?_map]
  have:k.toNat < ns.length:=by lia
  simp [this]
theorem xW{a b c d:PyData}:cutD [a,b,c,d] none (some 2)=[a,b]:=rfl
theorem lG{a b c d:PyData}:cutD [a,b,c,d] (some 2) none=[c,d]:=rfl
theorem lF{a b c:PyData}:cutD [a,b,c] (some 1) none=[b,c]:=rfl
theorem nD(ns:List Int):PyData.canLayAll0 (ns.map PyData.int)=true:=by
  induction ns with
  | nil=>rfl
  | cons n r ih=>simp [PyData.canLayAll0,PyData.canLay0,ih]
theorem nA{x:Int}:∀(ns:List Int),((ns.map PyData.int).any fun y=>PyData.eqv y (.int x))=ns.contains x
  | []=>rfl
  | n::r=>by
    rw [List.map_cons,List.any_cons,nA r,List.contains_cons]
    show(n==x || _)=_
    rw [show(n==x)=(x==n) by rw [Bool.eq_iff_iff];simp;exact eq_comm]
theorem ec{e:En}{x:Int}{ns:List Int}{neg:Bool}:k9 neg e (.d (.int x)) (.d (.tuple (ns.map .int)))=some (.d (.bool (if neg then !ns.contains x else ns.contains x))):=by
  unfold k9
  simp only [fZ,cw,Option.bind_some,nD,nA]
  simp [PyData.canLay0,PyData.depth]
theorem jT{e:En}{x a b:Int}{neg:Bool}:k9 neg e (.d (.int x)) (.d (.tuple [.int a,.int b]))=some (.d (.bool (if neg then !(a==x || b==x) else(a==x || b==x)))):=by
  have h:=ec (e:=e) (x:=x) (ns:=[a,b]) (neg:=neg)
  simp only [List.map_cons,List.map_nil] at h
  rw [h]
  have:[a,b].contains x=(a==x || b==x):=by
    simp only [List.contains_cons,List.contains_nil,Bool.or_false]
    rw [show(x==a)=(a==x) by rw [Bool.eq_iff_iff];simp;exact eq_comm,show(x==b)=(b==x) by rw [Bool.eq_iff_iff];simp;exact eq_comm]
  rw [this]
theorem j_(W:bf):aD W=.tuple [.int W.things,.tuple (W.ties.map dh),.tuple (W.pat.map .int),.int W.asks]:=rfl
end L2
namespace L2
open PySem PySem.Spec PyProof.Rows
theorem ot:∀(n:Nat) (l:List Int),l.Nodup→(∀k∈l,0≤k∧k < (n:Int))→l.length≤n
  | 0,l,_,h=>by
    cases l with
    | nil=>simp
    | cons a r=>have:=h a (by simp);lia
  | n+1,l,hd,h=>by
    have ih:=ot n (l.erase (n:Int)) (hd.erase _) fun k hk=>by
      obtain⟨h1,h2⟩:=hd.mem_erase_iff.mp hk
      have:=h k h2
      lia
    by_cases c:(n:Int)∈l
    · rw [List.length_erase_of_mem c] at ih;lia
    · rw [List.erase_of_not_mem c] at ih;lia
abbrev Std:=List Int × List Int
structure A6 (W:bf) (s:Std):Prop where
  inw:∀k∈s.1,dG W k
  nd:s.1.Nodup
  tk:s.2.length≤2*s.1.length
  th:∀t∈s.2,0≤t∧t < W.things
def nxt(W:bf)(s:Std)(k:Int)(b:Bool):Std:=(bf.askd s.1 k,W.took s.2 k b)
structure Nd where
  tie:Int
  yes:Int
  no:Int
def AX(W:bf)(n:Nat)(S:Nat→Std)(i:Nat)(k:Int)(b:Bool)(l:Int):Prop:=l= -1∨(0≤l∧l < (n:Int)∧S l.toNat=nxt W (S i) k b)
structure C6 (W:bf) (n:Nat) (S:Nat→Std) (i:Nat) (x:Nd):Prop where
  tie:dG W x.tie
  st:A6 W (S i)
  may:W.may (S i).1 (S i).2 x.tie=true
  yes:AX W n S i x.tie true x.yes
  no:AX W n S i x.tie false x.no
def C7(W:bf)(T:List Nd)(S:Nat→Std):Prop:=∀(i:Nat) (x:Nd),T[i]?=some x→C6 W T.length S i x
structure Wt where
  st:Std
  par:Int
  side:Int
def AW(S:Nat→Std)(n:Nat)(s:Std):Nat→Std:=fun i=>if i=n then s else S i
structure D5 (W:bf) (T:List Nd) (S:Nat→Std) (ws:List Wt):Prop where
  tr:C7 W T S
  wt:∀w∈ws,A6 W w.st∧(w.par= -1∨∃(p:Nat) (x:Nd),w.par=(p:Int)∧T[p]?=some x∧((w.side=0∧w.st=L2.nxt W (S p) x.tie true)∨(w.side=1∧w.st=L2.nxt W (S p) x.tie false)))
  side:∀w∈ws,w.side=0∨w.side=1
end L2
namespace L2
open PySem PySem.Spec PyProof.Rows
def nm(nums:List Int)(l:Int):Int:=(atI nums l).getD (-1)
structure DN (order:List Int) (n:Nat) (nums:List Int):Prop where
  len:nums.length=n+1
  top:nums[n]?=some (-1)
  at':∀(j:Nat) (v:Int),j < n→nums[j]?=some v→v= -1∨∃p:Nat,v=(p:Int)∧order[p]?=some (j:Int)
def ud(T:List Nd)(w:Int):Nd:=T.getD w.toNat ⟨0,0,0⟩
theorem lI{α β:Type}{f:α→β}:∀{xs:List α} {i:Nat},(xs.map f).eraseIdx i=(xs.eraseIdx i).map f
  | [],_=>by simp
  | x::r,0=>by simp
  | x::r,i+1=>by simp [lI (xs:=r) (i:=i)]
end L2
namespace L2
open PySem PySem.Spec PyProof.Rows
structure Ea (S:Nat→Std) (n:Nat) (ss:List Std):Prop where
  len:ss.length=n
  at':∀(j:Nat) (s:Std),ss[j]?=some s→s.1.length≤(S j).1.length∧s.2.length≤2*s.1.length∧(∀k∈s.1,0≤k∧k < 16)∧∀t∈s.2,0≤t∧t < 12
end L2
namespace L2
open PySem PySem.Spec PyProof.Rows
theorem bH(s:String):PyData.strOk (Str.ofString s)=true:=by
  rw [Str.ofString_eq_toList]
  unfold PyData.strOk
  simp only [List.size_toArray,List.length_map]
  rw [show(List.map Char.toNat s.toList).toArray.all (fun a=>decide (a < 1114112)) 0 s.toList.length=(List.map Char.toNat s.toList).all (fun a=>decide (a < 1114112)) by simp]
  rw [List.all_map,List.all_eq_true]
  intro c _
  show decide (c.toNat < 1114112)=true
  rw [decide_eq_true_eq]
  have:=c.valid
  unfold UInt32.isValidChar Nat.isValidChar at this
  show c.val.toNat < _
  lia
theorem c9{a b:Str}(h1:PyData.strOk a=true)(h2:PyData.strOk b=true):PyData.strOk (a++b)=true:=by
  unfold PyData.strOk at*
  rw [show(a++b).cps=a.cps++b.cps from rfl]
  simp only [Array.all_append,h1,h2,Bool.and_self]
theorem kW{sep:Str}(h:PyData.strOk sep=true):∀(ts:List Str),(∀t∈ts,PyData.strOk t=true)→PyData.strOk (Str.join sep ts)=true
  | [],_=>by show PyData.strOk Str.empty=true;simp [PyData.strOk,Str.empty]
  | [x],hx=>hx x (by simp)
  | x::y::r,hx=>c9 (c9 (hx x (by simp)) h) (kW h (y::r) fun t ht=>hx t (by simp at ht ⊢;exact .inr ht))
theorem mh{ts:List Str}(h:∀t∈ts,PyData.strOk t=true):PyData.strOk (tupleText ts)=true:=by
  unfold tupleText
  exact c9 (c9 (bH _) (kW (bH _) ts h)) (bH _)
structure Sz (n dep:Nat) (d:PyData):Prop where
  fl:eU d=true
  sh:d.showable=true
  dp:d.depth≤dep
  ln:d.shown.length≤n
  so:PyData.strOk d.shown=true
theorem vZ{e:En}{d:PyData}(h:iW d=true):g1 jC e [.d d]=some (.d (.str d.shown)):=by
  simp [g1,jC,h]
end L2
namespace L2
open PySem PySem.Spec PyProof.Rows
theorem jS{e:En}{i:Nat}{xs ys:List PyData}(h:e[i]?=some (some (.l xs)))(hl:xs.length+ys.length≤1000000):a' e (.s i) (.l ys)=some (.l (xs++ys)):=by
  simp [a',se,tj,gI,bS,nO,cw,qr,pK,h,hl]
theorem yQ{e:En}{d:PyData}{n:Int}(h0:0≤n)(h1:n≤100000):eF e (.d (.tuple [d])) (.d (.int n))=some (.d (.tuple (List.replicate n.toNat d))):=by
  have a:lQ e (.d (.tuple [d])) (.d (.int n))=some (.d (.tuple (List.replicate n.toNat d))):=by
    simp [lQ,cw,bS,h0,h1]
  have b:lP e (.d (.tuple [d])) (.d (.int n))=none:=by simp [lP,gI,bS]
  unfold eF se
  rw [b,a]
  rfl
theorem Bo{e:En}{i:Nat}{xs:List PyData}{lo hi:Option Int}(h:e[i]?=some (some (.l xs))):Bn e (.s i) lo hi=some (.l (cutD xs lo hi)):=by
  simp [Bn,cw,h]
def rn(T:List Nd)(ans:List Bool):Nat→Int→List (Int × Bool)
  | 0,_=>[]
  | f+1,at'=>if at' < 0 then [] else((ud T at').tie,ans.getD (ud T at').tie.toNat false)::rn T ans f (if ans.getD (ud T at').tie.toNat false=true then(ud T at').yes else(ud T at').no)
def rt(T:List Nd):Int:=if T.length=0 then -1 else 0
structure DQ (W:bf) (T:List Nd) (S:Nat→Std) (ans:List Bool) (r:List (Int × Bool)) (a:Int):Prop where
  at':a= -1∨(0≤a∧a < (T.length:Int)∧r.length≤(S a.toNat).1.length)
  eq:r++rn T ans (17 - r.length) a=rn T ans 17 (rt T)
  len:r.length≤16
  inw:∀p∈r,dG W p.1
theorem Sz.bool{b:Bool}:Sz 5 2 (.bool b):=by
  cases b
  · exact⟨rfl,rfl,by simp [PyData.depth],by show(Str.ofString "False").length≤5;decide,bH _⟩
  · exact⟨rfl,rfl,by simp [PyData.depth],by show(Str.ofString "True").length≤5;decide,bH _⟩
end L2
namespace L2
open PySem PySem.Spec PyProof.Rows
abbrev Fr:=Int × Int
def tm(a b:Fr):Fr:=dC (a.1*b.1) (a.2*b.2)
def pl(a b:Fr):Fr:=dC (a.1*b.2+b.1*a.2) (a.2*b.2)
structure D9 (M:Int) (f:Fr):Prop where
  pos:0 < f.2
  lo:0≤f.1
  hi:f.1≤f.2
  dv:f.2 ∣ M
structure CP (M i:Int) (f:Fr):Prop where
  pos:0 < f.2
  lo:0≤f.1
  hi:f.1≤i*f.2
  dv:f.2 ∣ M
def bp(W:bf):List Int→Int
  | []=>1
  | k::r=>(W.tie k).bot*bp W r
def Be(W:bf):Int:=bp W W.rng
def ch(W:bf)(k:Int)(b:Bool):Fr:=if b then((W.tie k).top,(W.tie k).bot) else((W.tie k).bot - (W.tie k).top,(W.tie k).bot)
structure D' (W:bf) (S:Nat→Std) (n:Nat) (rs:List Fr):Prop where
  len:rs.length=n
  at':∀(j:Nat) (f:Fr),rs[j]?=some f→D9 (bp W (S j).1) f
structure D6 (W:bf) (i:Nat) (ss:List Fr):Prop where
  len:ss.length=W.ties.length
  at':∀(j:Nat) (f:Fr),ss[j]?=some f→CP (Be W) (i:Int) f
end L2
namespace L2
open PySem PySem.Spec PyProof.Rows
def AH(sc:Scope)(x:Str):Bool:=match sc.names.lookup x with
  | some .local=>true
  | some .cell=>true
  | some .free=>true
  | _=>false
theorem xF{sc:Scope}{x:Str}(h:AH sc x=true):A9 sc x:=by
  unfold AH at h
  unfold A9
  split at h
  · rename_i e;exact .inl e
  · rename_i e;exact .inr (.inl e)
  · rename_i e;exact .inr (.inr e)
  · cases h
section
variable{X:Cx}{K:PySem.W.Frag}
theorem qw(i:Nat){x:Str}{pos:Pos}(hN:X.N[i]?=some x)(hv:AH X.env.scope x=true)(hd:((x==("__debug__":Str)) || (x==("__classdict__":Str)))=false):PE X (.Name x pos) (fE K (ag i)):=qv i hN (xF hv) (Bool.or_eq_false_iff.mp hd).1 (Bool.or_eq_false_iff.mp hd).2
end
end L2
namespace L2
open PySem PySem.Spec PyProof.Rows
section
variable{X:Cx}{tg a b c:Expr}{ta:TA}{p pos p2 pos2:Pos}
end
section
variable{K:PySem.W.Frag}{σ:L2.St}
end
section
variable{X:Cx}{K:PySem.W.Frag}{tg a b c:Expr}{fs:FA}{pos p p2 pos2:Pos}
end
end L2
namespace L2
open PySem PySem.Spec PyProof.Rows
end L2
namespace L2
open PySem PySem.Spec PyProof.Rows
section
variable(P:Program)(w:World)
end
section
variable{P:Program}{w:World}{H H':Hp}{h h':Heap}{a:Addr}{o:HO}
end
section
variable{P:Program}{w:World}{H:Hp}{h h':Heap}{x e:Addr}{o':HO}
end
section
variable{fs fs' ex ex':List Addr}{H H1 H2:Hp}{h h1 h2 h':Heap}{a x e:Addr}{o:HO}
end
end L2
namespace L2
open PySem PySem.Spec PyProof.Rows
section
variable{X:Cx}{pins:List (Addr × Obj)}{σ:List (Option V)}{H H':Hp}{s:Shared}{h':Heap}
end
end L2
namespace L2
open PySem PySem.Spec PyProof.Rows
section
variable{X:Cx}
variable{a b:Expr}{ta tb:TE}{pos:Pos}
variable{tA tB':TT}{dr:List Expr}
end
end L2
namespace L2
open PySem PySem.Spec PyProof.Rows
section
variable{X:Cx}{pins:List (Addr × Obj)}{σ:St}{H:Hp}{s:Shared}{a:Addr}{xs ys:List V}
end
section
variable{X:Cx}{pins:List (Addr × Obj)}{σ:St}{H:Hp}{s:Shared}{E:Value→Shared→Prop}
end
section
variable{X:Cx}{st:Stmt}{dr:List Stmt}{t u:TS}{e:Expr}{te:TE}{pos:Pos}
end
section
variable{X:Cx}{pos:Pos}
end
section
variable{X:Cx}{pos:Pos}
end
end L2
namespace L2
open PySem PySem.Spec PyProof.Rows
section
variable{X:Cx}{tg:Expr}
end
end L2
namespace L2
open PySem PySem.Spec PyProof.Rows
section
variable{X:Cx}{a b c:Expr}{ta tb tc:TE}{pos:Pos}
end
section
variable{X:Cx}{a b c:Expr}{ta tb tc:TE}{pos:Pos}
end
end L2
namespace L2
open PySem PySem.Spec PyProof.Rows
section
variable{prog:Program}{w:World}{A:Around}{E:Value→Shared→Prop}{s:Shared}{K:PySem.W.Frag}{x dx C f:Addr}{mA:Str→Option Value}{name:Str}{v:Value}
end
section
variable{P:Program}{w:World}{H H':Hp}{h h':Heap}{a C dx:Addr}{fs fs':List (Str × V)}
end
section
variable{X:Cx}{pins:List (Addr × Obj)}{σ:St}{H:Hp}{s:Shared}{a C dx:Addr}{fs:List (Str × V)}{f:Str}{v:V}{A:Around}{E:Value→Shared→Prop}
end
section
variable{X:Cx}{o e value:Expr}{f:Str}{pos pos' tpos:Pos}{ta tv:TE}
end
section
variable{X:Cx}{pins:List (Addr × Obj)}{σ:St}{H:Hp}{s:Shared}{A:Around}{E:Value→Shared→Prop}{Q:Value→Shared→Prop}{c:Value}{b:Bool}
end
end L2
namespace L2
open PySem PySem.Spec PyProof.Rows
section
variable{X:Cx}{e:Expr}{es:List Expr}{te:TE}{t:TA}{pos:Pos}
end
section
variable{X:Cx}{pins:List (Addr × Obj)}{σ:St}{H:Hp}{s s':Shared}
end
section
variable{X:Cx}{CX:q5}{k:Nat}{f C:Addr}{fd:FuncData}{ps:List Str}{sp:Sp}{dvs:List V}{ds:List Value}{E:XK}{x m:Str}{p pos apos:Pos}{e o:Expr}{es:List Expr}{ta:TE}{t:TA}
end
section
variable{X:Cx}{CX:q5}{k:Nat}{f C:Addr}{fd:FuncData}{ps ks:List Str}{sp:Sp}{E:XK}{x m:Str}{p pos apos kpos:Pos}{e o:Expr}{es:List Expr}{kws:List Keyword}{te ta:TE}{t tk:TA}{nm:Option Str}
variable{g:List Value→List Value→List Value}{gV:List V→List V→List V}
end
end L2
namespace L2
open PySem PySem.Spec PyProof.Rows
section
variable{X:Cx}{x:Str}{p pos:Pos}{e:Expr}{es:List Expr}{t:TA}{id T:String}{r:List V→Hp→VK→Prop}
end
end L2
namespace L2
open PySem PySem.Spec PyProof.Rows
section
variable{κ:Type}[DecidableEq κ]
def ov(kvs:List (κ × V))(k:κ)(v:V):List (κ × V):=
  if (kvs.any fun kv=>decide (kv.1=k))=true then kvs.map (fun kv=>if kv.1=k then(kv.1,v) else kv) else kvs++[(k,v)]
theorem nY(kvs:List (κ × V))(k:κ)(v:V):(ov kvs k v).length≤kvs.length+1:=by
  unfold ov
  split
  · rw [List.length_map];lia
  · rw [List.length_append,List.length_cons,List.length_nil];lia
theorem KV.any{kvs:List (κ × V)}{vs:List (κ × Value)}(r:KV kvs vs)(k:κ):(kvs.any fun kv=>decide (kv.1=k))=vs.any fun kv=>decide (kv.1=k):=by
  unfold KV at r
  induction r with
  | nil=>rfl
  | cons h t ih=>rw [List.any_cons,List.any_cons,ih,h.1]
theorem KV.repl{kvs:List (κ × V)}{vs:List (κ × Value)}(r:KV kvs vs)(k:κ){y:V}{u:Value}(ry:bj y u):
    KV (kvs.map fun kv=>if kv.1=k then(kv.1,y) else kv) (vs.map fun kv=>if kv.1=k then(kv.1,u) else kv):=by
  unfold KV at r ⊢
  induction r with
  | nil=>exact .nil
  | @cons p q ps qs h t ih=>
    rw [List.map_cons,List.map_cons]
    refine .cons ?_ ih
    obtain⟨h1,h2⟩:=h
    by_cases e:p.1=k
    · rw [if_pos e,if_pos (h1.symm.trans e)];exact⟨h1,ry⟩
    · rw [if_neg e,if_neg (fun z=>e (h1.trans z))];exact⟨h1,h2⟩
theorem KV.put{kvs:List (κ × V)}{vs:List (κ × Value)}(r:KV kvs vs)(k:κ){y:V}{u:Value}(ry:bj y u):KV (ov kvs k y) (stored vs k u):=by
  unfold ov stored
  rw [r.any k]
  by_cases e:(vs.any fun kv=>decide (kv.1=k))=true
  · rw [if_pos e,if_pos e];exact r.repl k ry
  · rw [if_neg e,if_neg e];exact Paired.snoc r ⟨rfl,ry⟩
end
theorem BD{P:Program}{w:World}{k:eJ}{u:Value}(r:bj (kV k) u):(cJ P w).is k u=true:=by
  cases k with
  | inl i=>obtain⟨t,e⟩:=(show ∃t,u=Value.int i t from r);subst e;exact oi P w i t
  | inr x=>obtain⟨t,e⟩:=(show ∃t,u=Value.str x t from r);subst e;exact oj P w x t
section
variable{P:Program}{w:World}{H:Hp}{h:Heap}{a:Addr}
theorem Cd{u:HO}(ok:js P w H h)(e:Rd H a u):cn P w H h a u:=e.ok ok
theorem Bh{kvs:List (eJ × V)}(ok:js P w H h)(e:Rd H a (.dK kvs)):kvs.length≤sizeLine∧(a==sysModules)=false∧∃vs,KV kvs vs∧h.DictOf (cJ P w) a vs:=
  show cn P w H h a (.dK kvs) from Cd ok e
theorem Bg{kvs:List (eJ × V)}(ok:js P w H h)(e:H a=some (.dK kvs)):kvs.length≤sizeLine∧(a==sysModules)=false∧∃vs,KV kvs vs∧h.DictOf (cJ P w) a vs:=Bh ok (.inl e)
end
section
variable{X:Cx}{pins:List (Addr × Obj)}{σ:St}{H:Hp}{s:Shared}{a:Addr}{y v:V}{u r:Value}{o:Option V}{A:Around}{E:Value→Shared→Prop}
theorem aA.big(I:aA X pins σ H s):sysModules < s.heap.objs.size:=by
  have h:mainGlobals < s.heap.objs.size:=(I.mod.glob.keeps I.bk).lt
  exact Nat.lt_trans (by decide) h
theorem vQ{h':Heap}{t':Nat}{ob:HO}(I:aA X pins σ H s)(mu:AY (H a))(hs:Heap.SameBut a s.heap h')(he:∃q,h'.get? a=some q)(new:cn X.prog X.w (aT H a ob) h' a ob):
    aA X pins σ (aT H a ob) {s with heap:=h',toks:=t'}:=
  I.write (x:=a) (e:=a) mu (.inl rfl) (fun b q hb z=>(hs.2 b hb).trans z) he new
theorem yH{P:Program}{w:World}{H':Hp}{h':Heap}{kvs:List (eJ × V)}{vs:List (eJ × Value)}(z:kvs.length≤sizeLine)(hd:(a==sysModules)=false)(rel:KV kvs vs)(dd:h'.DictOf (cJ P w) a vs):
    cn P w H' h' a (.dK kvs):=⟨z,hd,vs,rel,dd⟩
end
section
variable{X:Cx}{pins:List (Addr × Obj)}{σ:St}{H:Hp}{s:Shared}{a:Addr}{kvs:List (eJ × V)}{k:eJ}{u:Value}{A:Around}{E:Value→Shared→Prop}
end
section
variable{X:Cx}{o i e value:Expr}{pos pos' tpos:Pos}{td ty tv:TE}
end
theorem nI{P:Program}{w:World}{H:Hp}(h:Heap)(hb:sysModules < h.objs.size):cn P w H (h.push {cls:=.type "dict",data:=.dict #[]}) h.objs.size (.dK []):=
  ⟨Nat.zero_le _,beq_eq_false_iff_ne.mpr (Ne.symm (Nat.ne_of_lt hb)),[],.nil,Heap.DictOf.new h⟩
def Aq:TE:=fun _ H Q=>∀p,H p=none→Q (.ref p) (aT H p (.dK []))
section
variable{X:Cx}{pos:Pos}
theorem ur:PE X (.Dict [] [] pos) Aq:=fun pins s σ H Q I h=>
  wpAny_Dict_empty ⟨.ref s.heap.objs.size,_,I.laid (a:=s.heap.objs.size) (o:=.dK []) (t':=s.toks) (fun _ _ q=>Heap.get?_push_of_some _ q) (Nat.le_refl _) (nI s.heap I.big),rfl,h _ (I.hok.fresh (Nat.le_refl _))⟩
end
def m_:List (TE × TE)→St→Hp→(List (V × V)→Hp→Prop)→Prop
  | [],_,H,Q=>Q [] H
  | (tk,tv)::r,σ,H,Q=>tk σ H fun x H1=>tv σ H1 fun y H2=>m_ r σ H2 fun ps H3=>Q ((x,y)::ps) H3
abbrev VV:List (V × V)→List (Value × Value)→Prop:=Paired fun p q=>bj p.1 q.1∧bj p.2 q.2
def CN(X:Cx)(pos:Pos)(keys:List (Option Expr))(values:List Expr)(trs:List (TE × TE)):Prop:=
  ∀(pins:List (Addr × Obj)) (s:Shared) (σ:St) (H:Hp) (Q:List (V × V)→Hp→Prop),aA X pins σ H s→m_ trs σ H Q→
    wpAny (model X.prog X.w) X.A (evalPairs (pairTrees keys values X.env pos)) (fun vs s'=>∃ps H',aA X pins σ H' s'∧VV ps vs∧Q ps H') X.xe s
theorem wY{X:Cx}{pos:Pos}:CN X pos [] [] []:=fun pins s σ H Q I h=>pairTrees_nil_walk ⟨[],H,I,.nil,h⟩
theorem uK{X:Cx}{pos:Pos}{k v:Expr}{ks:List (Option Expr)}{vs:List Expr}{tk tv:TE}{trs:List (TE × TE)}(hk:PE X k tk)(hv:PE X v tv)(hr:CN X pos ks vs trs):
    CN X pos (some k::ks) (v::vs) ((tk,tv)::trs):=fun pins s σ H Q I h=>
  pairTrees_cons_walk (bO (hk pins s σ H _ I h) fun u s1 ⟨x,H1,I1,rx,q1⟩=>bO (hv pins s1 σ H1 _ I1 q1) fun w2 s2 ⟨y,H2,I2,ry,q2⟩=>
    bO (hr pins s2 σ H2 _ I2 q2) fun ws s3 ⟨ps,H3,I3,rel,q3⟩=>⟨(x,y)::ps,H3,I3,.cons ⟨rx,ry⟩ rel,q3⟩)
def gj(kvs more:List (eJ × V)):List (eJ × V):=more.foldl (fun acc kv=>ov acc kv.1 kv.2) kvs
theorem KV.merge:∀{more:List (eJ × V)} {rs:List (eJ × Value)} {kvs:List (eJ × V)} {vs:List (eJ × Value)},KV more rs→KV kvs vs→KV (gj kvs more) (merged vs rs):=by
  intro more rs kvs vs r
  unfold KV at r
  induction r generalizing kvs vs with
  | nil=>intro q;exact q
  | @cons p q ps qs h t ih=>
    intro r0
    have e:KV (ov kvs p.1 p.2) (stored vs q.1 q.2):=by
      have:=r0.put p.1 h.2
      rw [←h.1];exact this
    exact ih e
theorem g9:∀(more kvs:List (eJ × V)),(gj kvs more).length≤kvs.length+more.length
  | [],kvs=>by show kvs.length≤kvs.length+0;lia
  | p::r,kvs=>by
    have h1:=g9 r (ov kvs p.1 p.2)
    have h2:=nY kvs p.1 p.2
    show(gj (ov kvs p.1 p.2) r).length≤_
    rw [List.length_cons];lia
theorem j6{P:Program}{w:World}:∀{kvs:List (eJ × V)} {ws:List (Value × Value)},VV (kvs.map fun kv=>(kV kv.1,kv.2)) ws→∃rs,Carries (cJ P w) ws rs∧KV kvs rs
  | [],_,r=>by rw [List.map_nil] at r;cases r;exact⟨[],True.intro,.nil⟩
  | p::kvs,_,r=>by
    rw [List.map_cons] at r
    cases r with
    | @cons a b as bs h t=>
      obtain⟨rs,c,q⟩:=j6 (P:=P) (w:=w) t
      obtain⟨b1,b2⟩:=b
      exact⟨(p.1,b2)::rs,⟨BD h.1,rfl,c⟩,.cons ⟨rfl,h.2⟩ q⟩
def Co(trs:List (TE × TE)):TE:=fun σ H Q=>∀p,H p=none→m_ trs σ (aT H p (.dK [])) fun ps H2=>H2 p=some (.dK [])∧∃kvs:List (eJ × V),ps=kvs.map (fun kv=>(kV kv.1,kv.2))∧kvs.length≤15∧Q (.ref p) (aT H2 p (.dK (gj [] kvs)))
theorem wL{X:Cx}{pos:Pos}{keys:List (Option Expr)}{values:List Expr}{trs:List (TE × TE)}(h:CN X pos keys values trs)(hall:keys.all (·.isSome)=true)(hl:keys.length=values.length)(h0:keys≠[])
    (h15:keys.length≤15):PE X (.Dict keys values pos) (Co trs):=by
  intro pins s σ H Q I q
  have hn:=I.hok.fresh (Nat.le_refl s.heap.objs.size)
  have I1:=I.laid (a:=s.heap.objs.size) (o:=.dK []) (h':=s.heap.push {cls:=.type "dict",data:=.dict #[]}) (t':=s.toks) (fun _ _ q=>Heap.get?_push_of_some _ q) (Nat.le_refl _) (nI s.heap I.big)
  refine wpAny_Dict_walk (knd:=cJ X.prog X.w) hall hl h0 h15 (bO (h pins _ σ _ _ I1 (q _ hn)) fun ws s2 ⟨ps,H2,I2,rel,e,kvs,ep,lk,q2⟩=>?_)
  subst ep
  obtain⟨rs,c,rk⟩:=j6 (P:=X.prog) (w:=X.w) rel
  obtain⟨z,hd,vs0,r0,dd⟩:=Bg I2.hok e
  cases r0
  refine⟨rs,c,dd,fun h' dd' hs=>⟨.ref s.heap.objs.size,_,?_,rfl,q2⟩⟩
  have hz:(gj [] kvs).length≤sizeLine:=by
    have h1:=g9 kvs []
    rw [List.length_nil] at h1
    rw [sizeLine_eq];lia
  have he:∃q,h'.get? s.heap.objs.size=some q:=let ⟨q,_,_,hq,_⟩:=dd';⟨q,hq⟩
  exact vQ I2 (by rw [e];exact True.intro) hs he (yH hz hd (rk.merge .nil) dd')
section
variable{X:Cx}{pins:List (Addr × Obj)}{σ:St}{H:Hp}{s:Shared}{a:Addr}{y d:V}{u r:Value}{o:Option V}{A:Around}{E:Value→Shared→Prop}
end
section
variable{X:Cx}{o e f:Expr}{apos cpos:Pos}{td ty tx:TE}
end
section
variable{X:Cx}{pins:List (Addr × Obj)}{σ:St}{H:Hp}{s:Shared}{a:Addr}{kvs:List (eJ × V)}{A:Around}{E:Value→Shared→Prop}
end
section
variable{X:Cx}{pins:List (Addr × Obj)}{σ:St}{H:Hp}{s:Shared}{a:Addr}{y:V}{u:Value}{A:Around}{E:Value→Shared→Prop}
end
end L2
namespace Att
open PySem PySem.W PySem.Calls PyProof.Rows
section
variable{prog:Program}{w:World}{A:Around}{E:Value→Shared→Prop}{s:Shared}{K:Frag}
end
end Att
namespace L2
open PySem PySem.Spec PyProof.Rows
end L2
namespace L2
open PySem PySem.Spec PyProof.Rows
end L2
namespace L2
open PySem PySem.Spec PyProof.Rows
section
variable{P:Program}{w:World}{K:PySem.W.Frag}{mg:Str→Option Value}{base:Heap}
end
section
variable{X:Cx}
end
section
variable{κ:Type}[DecidableEq κ]
end
end L2
namespace L2
open PySem PySem.Spec PyProof.Rows
def CJ:PyData→String
  | .none=>"NoneType"
  | .bool _=>"bool"
  | .int _=>"int"
  | .str _=>"str"
  | .tuple _=>"tuple"
  | .list _=>"list"
  | .dict _=>"dict"
def An(t T:String):Bool:=t==T || (t=="bool"&&T=="int")
def Bx(T:String)(d:PyData):Bool:=An (CJ d) T
def jK(T:String):En→Rv→Option Rv:=fun _ r=>match r with
  | .d x=>some (.d (.bool (Bx T x)))
  | _=>some (.d (.bool (Bx T (.list []))))
section
variable{X:Cx}{K:PySem.W.Frag}{a:Expr}{fa:FE}{pos p p2:Pos}
def C8(K:PySem.W.Frag)(H:Hp):V→String→Prop
  | .non,t=>t="NoneType"
  | .bl _,t=>t="bool"
  | .int _,t=>t="int"
  | .str _,t=>t="str"
  | .ref a,t=>(t="tuple"∧∃xs,bB K H a xs)∨(t="list"∧∃xs,bR K H a xs)∨(t="dict"∧∃m,H a=some (.dK m))
  | _,_=>False
theorem sS{T:String}:ce X (.builtin "isinstance") (fun xs H Q=>∃x t b,xs=[x,.ty T]∧C8 X.K H x t∧PySem.W.kitOne X.K (.type t) (.type T)=some b∧Q (.bl b) H):=by
  intro pins s σ H xs us Q I r h
  obtain⟨x,t,b,rfl,ht,hk,q⟩:=h
  obtain⟨u1,u2,rfl,r1,r2⟩:∃u1 u2,us=[u1,u2]∧bj x u1∧bj (.ty T) u2:=by
    cases r with
    | cons p q=>cases q with
      | cons p' q'=>cases q';exact⟨_,_,rfl,p,p'⟩
  cases r2
  have q':∀tk,EP X pins σ Q (.bool b) {s with toks:=tk}:=fun tk=>⟨.bl b,H,I.tok _,rfl,q⟩
  cases x with
  | non=>cases (show u1=Value.none from r1);cases (show t=_ from ht);exact PySem.W.kia_one PySem.W.kitx_none I.kIn True.intro hk (fun z=>nomatch z) q'
  | bl y=>cases (show u1=Value.bool y from r1);cases (show t=_ from ht);exact PySem.W.kia_one PySem.W.kitx_bool I.kIn True.intro hk (fun z=>nomatch z) q'
  | int i=>obtain⟨tt,rfl⟩:=r1;cases (show t=_ from ht);exact PySem.W.kia_one PySem.W.kitx_int I.kIn True.intro hk (fun z=>nomatch z) q'
  | str y=>obtain⟨tt,rfl⟩:=r1;cases (show t=_ from ht);exact PySem.W.kia_one PySem.W.kitx_str I.kIn True.intro hk (fun z=>nomatch z) q'
  | ref a=>
    cases (show u1=Value.ref a from r1)
    rcases ht with ⟨rfl,xs,hs⟩ | ⟨rfl,xs,hs⟩ | ⟨rfl,m,hs⟩
    · obtain⟨its,rv,pl,hz⟩:=I.tuple hs
      obtain⟨o,h1,h2⟩:=pl.typeIs
      exact PySem.W.kia_one PySem.W.kitx_tuple I.kIn ⟨o,h1,h2⟩ hk (fun z=>nomatch z) q'
    · obtain⟨its,rv,pl,hz⟩:=I.list hs
      obtain⟨o,h1,h2⟩:=pl.isList.typeIs
      exact PySem.W.kia_one PySem.W.kitx_list I.kIn ⟨o,h1,h2⟩ hk (fun z=>nomatch z) q'
    · obtain⟨_,_,vs,_,pp⟩:=(show cn X.prog X.w H s.heap a (.dK m) from I.hok a _ hs)
      obtain⟨o,es,ep,h1,h2,_⟩:=pp
      exact PySem.W.kia_one PySem.W.kitx_dict I.kIn ⟨o,h1,h2.1⟩ hk (fun z=>nomatch z) q'
  | _=>exact False.elim ht
theorem uu{x:Str}{T:String}(hg:Gl X x)(hm:X.mg x=none)(hv:bootBuiltins x=some (.type T))(hn:x≠"__name__")(hd:(x==("__debug__":Str))=false):PE X (.Name x pos) (tC (.ty T)):=fun pins s σ H Q I h=>
  dB I hg hm hv ⟨.ty T,H,I,rfl,h⟩ hn hd
theorem y4{t T:String}(ht:t∈["NoneType","bool","int","str","tuple","list","dict"])(hT:T∈["int","bool","tuple","str"]):PySem.W.kitOne K (.type t) (.type T)=some (An t T):=by
  simp only [List.mem_cons,List.not_mem_nil,or_false] at ht hT
  rcases ht with rfl | rfl | rfl | rfl | rfl | rfl | rfl<;>rcases hT with rfl | rfl | rfl | rfl<;>rfl
theorem xB(d:PyData):CJ d∈["NoneType","bool","int","str","tuple","list","dict"]:=by cases d<;>simp [CJ]
theorem AC{F H:Hp}{d:PyData}{v:V}(h:DA K F d v)(s:ax F H):C8 K H v (CJ d):=by
  have h:=DA.mono s h
  cases d with
  | none=>rw [gF.mp h];rfl
  | bool b=>rw [cx.mp h];rfl
  | int b=>rw [bC.mp h];rfl
  | str b=>rw [mG.mp h];rfl
  | tuple ds=>obtain⟨a,xs,rfl,h1,_⟩:=ci.mp h;exact .inl ⟨rfl,xs,h1⟩
  | list ds=>obtain⟨a,xs,rfl,h1,_⟩:=cz.mp h;exact .inr (.inl ⟨rfl,xs,h1⟩)
  | dict m=>simp only [DA] at h;obtain⟨a,m,rfl,h1,_⟩:=h;exact .inr (.inr ⟨rfl,_,h1⟩)
theorem vT{f:FE}{σ:L2.St}{H:Hp}{Q Q':VK}(h:fE K f σ H Q)(m:∀v H1,Q v H1→Q' v H1):fE K f σ H Q':=by
  obtain⟨F,e,r,e',R,hf,q⟩:=h
  exact⟨F,e,r,e',R,hf,fun F' H' v x R' A=>m _ _ (q F' H' v x R' A)⟩
theorem By{T:String}:A8 K (fun v H Q=>∃t,t∈["NoneType","bool","int","str","tuple","list","dict"]∧C8 K H v t∧Q (.bl (An t T)) H) (jK T):=by
  intro σ H0 F H e x z v Q R A hg q
  unfold jK at hg
  cases x with
  | d d=>
    cases hg
    exact⟨CJ d,xB d,AC A R.sm,q F H _ (cT.refl _ _ _ _) R de⟩
  | l xs=>
    cases hg
    obtain⟨l,vs,rfl,h1,h2,h3,h4⟩:=A
    exact⟨"list",by simp,.inr (.inl ⟨rfl,vs,bR.of h3⟩),q F H _ (cT.refl _ _ _ _) R de⟩
  | s i=>
    cases hg
    obtain⟨h1,xs,h2⟩:=A
    obtain⟨l,vs,h3,h4,h5,h6⟩:=R.own i xs h2
    rw [h1] at h3;cases h3
    exact⟨"list",by simp,.inr (.inl ⟨rfl,vs,bR.of h5⟩),q F H _ (cT.refl _ _ _ _) R de⟩
theorem lZ{x:Str}{T:String}(hK:X.K=K)(hT:T∈["int","bool","tuple","str"])(hg:Gl X "isinstance")(hm:X.mg "isinstance"=none)(hgT:Gl X x)(hmT:X.mg x=none)(DS:bootBuiltins x=some (.type T))(hn:x≠"__name__")(hd:(x==("__debug__":Str))=false)
    (ha:PE X a (fE K fa))(he:starEach [a,.Name x p2] X.env=(false,eval a X.env)::starEach [.Name x p2] X.env)(hpl:(backTo pos (starEach [.Name x p2] X.env)).any (·.1)=false):
    PE X (.Call (.Name "isinstance" p) [a,.Name x p2] [] pos) (fE K (oZ (jK T) fa)):=
  (ou (sS (T:=T)) hg hm boot_isinstance (mX ha (mX (uu hgT hmT DS hn hd) uq) he) (by decide) (by decide) he hpl).mono fun σ H Q h=>by
    subst hK
    have h1:=vy (By (T:=T)) h
    refine vT h1 fun v H1 ⟨t,ht,k,q⟩=>?_
    exact⟨v,t,_,rfl,k,y4 ht hT,q⟩
end
end L2
namespace L2
open PySem PySem.Spec PyProof.Rows
section
variable{X:Cx}{K:PySem.W.Frag}
end
end L2
namespace L2
open PySem PySem.Spec PyProof.Rows
section
variable{X:Cx}{K:PySem.W.Frag}{σ:L2.St}{F H:Hp}{e:En}{pos p1 p2:Pos}
theorem aY.newD(R:aY K F H σ e){p:Addr}{m:List (eJ × V)}(hp:H p=none):aY K (aT F p (.dK m)) (aT H p (.dK m)) σ e∧cT σ F H e (aT F p (.dK m)) (aT H p (.dK m)) e:=by
  have hF:=R.freeF hp
  obtain⟨R1,X1⟩:=R.same (ax.new hp (o:=.dK m))
  obtain⟨R2,s2⟩:=R1.freeze (p:=p) hF ay (R1.notOwn ay (fun _ z=>nomatch z))
  refine⟨R2,⟨s2,X1.dom,fun a ws h n _=>?_,X1.lst,X1.tmp,X1.shp,X1.ow⟩⟩
  have z:a≠p:=fun z=>by rw [z,hp] at n;cases n
  rw [aE z];exact h
def jH(m:List (Int × Int)):FE:=fun e=>some (.d (.dict (m.map fun p=>(PyData.int p.1,PyData.int p.2))),e)
theorem oz:PE X (.Dict [] [] pos) (fE K (jH [])):=ur.mono fun σ H Q h=>by
  obtain⟨F,e,z,e2,R,hf,q⟩:=h
  cases hf
  intro p hp
  obtain⟨R3,X3⟩:=R.newD (m:=[]) hp
  exact q _ _ _ X3 R3 (by simp only [bM,DA];exact⟨p,[],rfl,ay,rfl⟩)
theorem oA{i j:Int}{k1 k2}:PE X (.Dict [some (.Constant (.int i) k1 p1)] [.Constant (.int j) k2 p2] pos) (fE K (jH [(i,j)])):=
  (wL (uK (@pP X i k1 p1) (@pP X j k2 p2) wY) rfl rfl (by simp) (by simp)).mono fun σ H Q h=>by
  obtain⟨F,e,z,e2,R,hf,q⟩:=h
  cases hf
  intro p hp
  refine⟨ay,[(Sum.inl i,.int j)],rfl,by simp,?_⟩
  have e1:aT (aT H p (.dK [])) p (.dK (gj [] [((Sum.inl i:eJ),V.int j)]))=aT H p (.dK (gj [] [((Sum.inl i:eJ),V.int j)])):=by
    funext a;by_cases h:a=p
    · subst h;rw [ay,ay]
    · rw [aE h,aE h,aE h]
  rw [e1]
  obtain⟨R3,X3⟩:=R.newD (m:=gj [] [((Sum.inl i:eJ),V.int j)]) hp
  exact q _ _ _ X3 R3 (by simp only [bM,DA];exact⟨p,[(i,j)],rfl,ay,rfl⟩)
end
end L2
namespace L2
open PySem PySem.Spec PyProof.Rows
section
variable{X:Cx}{K:PySem.W.Frag}{a b c d:Expr}{ta tb tc td:TE}{fa fb fc fd:FE}{pos:Pos}
end
end L2
namespace L2
open PySem PySem.Spec PyProof.Rows
section
variable{X:Cx}{K:PySem.W.Frag}{a b:Expr}{es:List Expr}{fa fb:FE}{fs:FA}{pos p apos:Pos}
end
end L2
namespace L2
open PySem PySem.Spec PyProof.Rows
section
variable{X:Cx}{K:PySem.W.Frag}{a b:Expr}{fa fb:FE}{fs:FA}{pos p p2 p3:Pos}
def rq:=gI (fun _ j=>decide (0≤j)) fun i j=>.int (i / 2 ^ j.toNat)
theorem Cg:fq K (rI (fun _ j=>0≤j) fun i j=>.int (i / 2 ^ j.toNat)) rq:=lX (fun _ _ h=>of_decide_eq_true h) fun _ _ _=>bC.mpr rfl
theorem yl(ha:PE X a (fE K fa))(hb:PE X b (fE K fb)):PE X (.BinOp a .RShift b pos) (fE K (au rq fa fb)):=jD zD Cg ha hb
end
end L2
namespace L2
open PySem PySem.Spec PyProof.Rows
def bq(W:bf)(as:List Int):Int:=bp W (W.rng.filter fun k=> !as.contains k)
def wI(l:Nat):Int:=1000*(2 ^ (16 - l) - 1)
def aw(W:bf)(k:Int)(y n:Fr):Fr:=pl (tm (ch W k true) (pl ((W.tie k).worth,1) y)) (tm (ch W k false) n)
structure D3 (W:bf) (k:Int) (as:List Int) (y n:Fr):Prop where
  y:CP (bq W (bf.askd as k)) (wI (as.length+1)) y
  n:CP (bq W (bf.askd as k)) (wI (as.length+1)) n
  len:as.length≤15
  inw:dG W k
  new:k∉as
def lk(ws:List Fr)(l:Int):Fr:=if l= -1 then(0,1) else ws.getD l.toNat (0,1)
structure Eb (W:bf) (S:Nat→Std) (n:Nat) (ws:List Fr):Prop where
  len:ws.length=n
  at':∀(j:Nat) (f:Fr),ws[j]?=some f→CP (bq W (S j).1) (wI (S j).1.length) f
theorem Sz.int10{n m:Nat}{k:Int}(hb:Bt m k)(m0:0 < m)(m1:m≤1900)(h:k.natAbs < 10 ^ n)(h0:0 < n):Sz (n+1) 2 (.int k):=by
  refine⟨rfl,?_,by simp [PyData.depth],?_,bH _⟩
  · show decide (k.natAbs.log2 < 1920)=true
    rw [decide_eq_true_eq]
    have:=hb.log m0
    lia
  · have:=int_text_length_le10 h0 h
    show(Str.ofString (toString k)).length≤n+1
    rw [PySem.ofString_length];exact this
end L2
namespace L2
open PySem PySem.Spec PyProof.Rows
theorem hJ{cs:En}{g:FG}{ft:FT}{fe:FE}{b:PyData→Bool}{y:PyData→PyData}{u:PyData→En}(n:Nat):∀(items:List PyData) (t:En) (acc:List PyData),t.length=n→(∀x∈items,∀t:En,t.length=n→g x (cs++t)=some (cs++u x))→(∀x∈items,(u x).length=n)→
    (∀x∈items,ft (cs++u x)=some (b x,cs++u x))→(∀x∈items,b x=true→fe (cs++u x)=some (.d (y x),cs++u x))→acc.length+items.length≤1000000→
    ∃t',t'.length=n∧dH g ft fe items (cs++t) acc=some (acc++(items.filter b).map y,cs++t')
  | [],t,acc,h,_,_,_,_,_=>⟨t,h,by simp [dH]⟩
  | x::r,t,acc,h,hg,hu,h1,h2,hl=>by
    have h1x:=h1 x (by simp)
    unfold dH
    rw [hg x (by simp) t h]
    simp only [Option.bind_some,h1x]
    cases hb:b x with
    | true=>
      simp only [if_true,h2 x (by simp) hb,Option.bind_some,pA]
      rw [if_pos (by simp at hl;lia)]
      obtain⟨t',e1,ih⟩:=hJ (b:=b) (y:=y) (u:=u) n r (u x) (acc++[y x]) (hu x (by simp)) (fun z hz=>hg z (by simp [hz])) (fun z hz=>hu z (by simp [hz])) (fun z hz=>h1 z (by simp [hz])) (fun z hz=>h2 z (by simp [hz])) (by simp at hl ⊢;lia)
      exact⟨t',e1,by rw [ih];simp [hb]⟩
    | false=>
      simp only [Bool.false_eq_true,if_false]
      obtain⟨t',e1,ih⟩:=hJ (b:=b) (y:=y) (u:=u) n r (u x) acc (hu x (by simp)) (fun z hz=>hg z (by simp [hz])) (fun z hz=>hu z (by simp [hz])) (fun z hz=>h1 z (by simp [hz])) (fun z hz=>h2 z (by simp [hz])) (by simp at hl;lia)
      exact⟨t',e1,by rw [ih];simp [hb]⟩
theorem mf{x:Str}(h:PyData.strOk x=true):∀c∈x.cps.toList,c < 1114112:=by
  intro c hc
  unfold PyData.strOk at h
  rw [Array.all_eq_true'] at h
  have:=h c (by simpa using hc)
  simpa using this
theorem vm{l:Array Nat}(h:∀c∈l.toList,c < 1114112):PyData.strOk ⟨l⟩=true:=by
  unfold PyData.strOk
  rw [Array.all_eq_true']
  intro c hc
  simpa using h c (by simpa using hc)
theorem vO(c:Char):c.toNat < 1114112:=by
  have:=c.valid
  unfold UInt32.isValidChar Nat.isValidChar at this
  show c.val.toNat < _
  lia
open PySem.Builtin.Str in
theorem oC{q c:Nat}(hc:c < 1114112):∀d∈reprChar q c,d < 1114112:=by
  intro d hd
  unfold reprChar at hd
  have hx:∀w:Nat,∀d∈(List.replicate (w - ((Nat.toDigits 16 c).map Char.toNat).length) 48++(Nat.toDigits 16 c).map Char.toNat),d < 1114112:=by
    intro w d hd
    rcases List.mem_append.mp hd with h | h
    · have:=List.eq_of_mem_replicate h;lia
    · obtain⟨ch,_,rfl⟩:=List.mem_map.mp h;exact vO ch
  dsimp only at hd
  split at hd
  · simp only [List.mem_cons,List.not_mem_nil,or_false] at hd;lia
  split at hd
  · simp only [List.mem_cons,List.not_mem_nil,or_false] at hd;lia
  split at hd
  · simp only [List.mem_cons,List.not_mem_nil,or_false] at hd;lia
  split at hd
  · simp only [List.mem_cons,List.not_mem_nil,or_false] at hd;lia
  split at hd
  · simp only [List.mem_cons,List.not_mem_nil,or_false] at hd;lia
  split at hd
  · rcases List.mem_append.mp hd with h | h
    · simp only [List.mem_cons,List.not_mem_nil,or_false] at h;lia
    · exact hx 2 d h
  split at hd
  · rcases List.mem_append.mp hd with h | h
    · simp only [List.mem_cons,List.not_mem_nil,or_false] at h;lia
    · exact hx 4 d h
  · rcases List.mem_append.mp hd with h | h
    · simp only [List.mem_cons,List.not_mem_nil,or_false] at h;lia
    · exact hx 8 d h
open PySem.Builtin.Str in
theorem l4{q:Nat}:∀(l:List Nat) (acc:Array Nat),(∀c∈l,c < 1114112)→(∀c∈acc.toList,c < 1114112)→∀c∈(l.foldl (fun out c=>out++(reprChar q c).toArray) acc).toList,c < 1114112
  | [],acc,_,h=>h
  | x::r,acc,h1,h2=>l4 r _ (fun c hc=>h1 c (by simp [hc])) fun c hc=>by
    simp only [Array.toList_append,List.mem_append] at hc
    rcases hc with hc | hc
    · exact h2 c hc
    · exact oC (h1 x (by simp)) c hc
theorem oD{x:Str}(h:PyData.strOk x=true):PyData.strOk (reprText x)=true:=by
  unfold reprText
  refine vm fun c hc=>?_
  have hq:reprQuote x < 1114112:=by unfold reprQuote;split<;>lia
  rw [Array.toList_push] at hc
  rcases List.mem_append.mp hc with hc | hc
  · rw [←Array.foldl_toList] at hc
    exact l4 _ _ (mf h) (fun c hc=>by simp at hc;lia) c hc
  · simp at hc;lia
theorem Sz.str{x:Str}{n:Nat}(h:PyData.strOk x=true)(hl:x.length≤n):Sz (10*n+2) 2 (.str x):=by
  refine⟨rfl,rfl,by simp [PyData.depth],?_,oD h⟩
  have:=PySem.StrLaws.reprText_len x fun c hc=>Nat.lt_of_lt_of_le (mf h c hc) (by decide)
  show(reprText x).length≤_
  lia
end L2
namespace L2
open PySem PySem.Spec PyProof.Rows
section
variable{X:Cx}{K:PySem.W.Frag}{a:Expr}{fa:FE}{pos p pos2 p2:Pos}
end
end L2
namespace L2
open PySem PySem.Spec PyProof.Rows
section
variable{X:Cx}{K:PySem.W.Frag}{a:Expr}{fa:FE}
end
end L2
namespace L2
open PySem PySem.Spec PyProof.Rows
abbrev Rn:=List (Int × Bool)
def vV(R:Rn):List Int:=R.map (·.1)
def xX(W:bf)(R:Rn):List Int:=(R.filter (·.2)).flatMap fun r=>[(W.tie r.1).one,(W.tie r.1).other]
structure D_ (W:bf) (R:Rn) (asked taken:List Int):Prop where
  pa:asked.Perm (vV R)
  pt:taken.Perm (xX W R)
  inw:∀k∈vV R,dG W k
  nd:(vV R).Nodup
  nk:(xX W R).Nodup
  bd:∀t:Int,0≤t→t < W.things→W.many (vV R) t≤W.pat.getD t.toNat 0
  ak:(R.length:Int)≤W.asks
  sa:asked.Pairwise (· ≤·)
  st:taken.Pairwise (· ≤·)
theorem yL{e:En}{i:Nat}{x:Int}{ns:List Int}{neg:Bool}(h:e[i]?=some (some (.l (ns.map .int)))):k9 neg e (.d (.int x)) (.s i)=some (.d (.bool (if neg then !ns.contains x else ns.contains x))):=by
  have:=ec (e:=e) (x:=x) (ns:=ns) (neg:=neg)
  unfold k9 at this ⊢
  simp only [fZ,cw,h,Option.bind_some] at this ⊢
  exact this
end L2
namespace L2
open PySem PySem.Spec PyProof.Rows
section
variable{prog:Program}{w:World}{A:Around}{R:Result→Shared→Prop}
end
def Ar(l:Addr)(wi:TI)(g:TG)(tc:TT)(te:TE)(σ:L2.St)(H:Hp)(N:L2.St→Hp→Prop):Prop:=
  wi σ H fun J H1=>∃W:Nat→Nat→L2.St→Hp→Prop,(∃m,W 0 m σ H1)∧∀i m σ' H',W i m σ' H'→
    (J.stop i H'∧N σ' H')∨(J.go i H'∧∃N2:L2.St→Hp→Prop,(∀σ2 H2,N2 σ2 H2→∃m',m' < m∧W (i+1) m' σ2 H2)∧
      ∀x H2,J.yld i H' x H2→g x σ' H2 fun σ2 H3=>tc σ2 H3 fun b H4=>if b=true then te σ2 H4 fun v H5=>∃ys,H5 l=some (.lst ys)∧ys.length < sizeLine∧N2 σ2 (aT H5 l (.lst (ys++[v]))) else N2 σ2 H4)
structure Dx (cp:List (Nat × Str)) (nT:Nat) (wi:TI) (g:TG) (tc:TT) (wi2:TI) (g2:TG) (tc2:TT) (te:TE) (σ:L2.St) (H:Hp) (Q:VK):Prop where
  go:wi σ H fun J H1=>∀l,H1 l=none→
  ∃W:Nat→Nat→L2.St→Hp→Prop,(∃m,W 0 m (fg cp nT σ) (aT H1 l (.lst [])))∧∀i m σ' H',W i m σ' H'→
    (J.stop i H'∧Q (.ref l) H')∨(J.go i H'∧∃N:L2.St→Hp→Prop,(∀σ2 H2,N σ2 H2→∃m',m' < m∧W (i+1) m' σ2 H2)∧
      ∀x H2,J.yld i H' x H2→g x σ' H2 fun σ2 H3=>tc σ2 H3 fun b H4=>if b=true then Ar l wi2 g2 tc2 te σ2 H4 N else N σ2 H4)
section
variable{K:PySem.W.Frag}{F H:Hp}{σ:L2.St}{e:En}{cp:List (Nat × Str)}{nT:Nat}
end
section
variable{X:Cx}{K:PySem.W.Frag}{pos:Pos}
end
section
variable{X:Cx}{K:PySem.W.Frag}{pos:Pos}
variable{o:Expr}{fo:FE}{apos cpos:Pos}
end
end L2
namespace L2
open PySem PySem.Spec PyProof.Rows
section
variable{X:Cx}{K:PySem.W.Frag}
def Ef:List Int→Int
  | []=>0
  | x::r=>r.foldl max x
end
end L2
namespace L2
open PySem PySem.Spec PyProof.Rows
structure Er (f:Fr):Prop where
  pos:0 < f.2
  cop:Int.gcd f.1 f.2=1
abbrev Pg:=List Int × Int
def Eg(t:mn)(p:Pg):Bool:= !p.1.contains t.one&& !p.1.contains t.other
def C'(t:mn)(p:Pg):Pg:=(p.1++[t.one,t.other],p.2+t.worth)
def Ei(ps:List Pg)(t:mn):List Pg:=ps++(ps.filter (Eg t)).map (C' t)
def Eh(ts:List mn):List Pg:=ts.foldl Ei [([],0)]
structure DP (k:Nat) (ps:List Pg):Prop where
  ne:ps≠[]
  len:ps.length≤2 ^ k
  pt:∀p∈ps,p.1.length≤2*k∧0≤p.2∧p.2≤1000*(k:Int)
def DS(ts:List mn):Int:=Ef ((Eh ts).map (·.2))
end L2
namespace L2
open PySem PySem.Spec PyProof.Rows
end L2
namespace L2
open PySem PySem.Spec PyProof.Rows
section
variable{prog:Program}{w:World}{A:Around}{E:Value→Shared→Prop}{s:Shared}
end
section
variable{X:Cx}{a:Expr}{ta:TA}{p p2 pos pos2:Pos}
variable{K:PySem.W.Frag}{fs:FA}{p3:Pos}
end
end L2
namespace L2
open PySem PySem.Spec PyProof.Rows
def Dj:PyData→Bool
  | .int _=>true
  | _=>false
theorem ja{α:Type}(p:α→Bool):∀(ds:List α),i9 (ds.map fun d=>PyData.bool (p d))=some (ds.map p)
  | []=>rfl
  | d::r=>by simp [i9,ja p r]
theorem tu{α:Type}{e:En}(p:α→Bool)(ds:List α):g1 (cI nM) e [.l (ds.map fun d=>.bool (p d))]=some (.d (.bool (ds.all p))):=by
  simp [g1,cI,cw,nM,ja p,List.all_map]
theorem tG{α:Type}{e:En}(p:α→Bool)(ds:List α):g1 (cI lL) e [.l (ds.map fun d=>.bool (p d))]=some (.d (.bool (ds.any p))):=by
  simp [g1,cI,cw,lL,ja p,List.any_map]
theorem j9{α:Type}:∀(l:List α) (i:Nat) (h:i < l.length),(l[i]::l.eraseIdx i).Perm l
  | x::r,0,_=>.refl _
  | x::r,i+1,h=>(List.Perm.swap x _ _).trans ((j9 r i (by simpa using h)).cons x)
  | [],_,h=>by simp at h
theorem cut_len{xs:List PyData}{lo hi:Option Int}:(cutD xs lo hi).length≤xs.length:=by
  unfold cutD
  rw [List.length_take,List.length_drop]
  lia
theorem lE{g:FG}{ft:FT}{fe:FE}(P:Nat→En→Prop)(R:PyData→Prop):∀(items:List PyData) (k:Nat) (e:En) (acc:List PyData),(∀i x e,items[i]?=some x→P (k+i) e→∃e1 r d e2,g x e=some e1∧ft e1=some (true,e1)∧fe e1=some (r,e2)∧pA r=some d∧R d∧P (k+i+1) e2)→P k e→acc.length+items.length≤1000000→
    ∃out e',dH g ft fe items e acc=some (acc++out,e')∧out.length=items.length∧(∀d∈out,R d)∧P (k+items.length) e'
  | [],k,e,acc,_,h,_=>⟨[],e,by simp [dH],rfl,(fun _ h=>by cases h),h⟩
  | x::r,k,e,acc,hs,h,hl=>by
    obtain⟨e1,v,d,e2,h1,h2,h3,h3',h4,h5⟩:=hs 0 x e rfl h
    simp only [List.length_cons] at hl
    obtain⟨out,e',h6,h7,h8,h9⟩:=lE P R r (k+1) e2 (acc++[d]) (fun i y e hy hp=>by
      have:=hs (i+1) y e (by simpa using hy) (by rw [show k+(i+1)=k+1+i by lia];exact hp)
      rw [show k+(i+1)+1=k+1+i+1 by lia] at this
      exact this) (by simpa using h5) (by simp;lia)
    refine⟨d::out,e',?_,by simp [h7],fun y hy=>?_,by rw [List.length_cons,show k+(r.length+1)=k+1+r.length by lia];exact h9⟩
    · unfold dH
      simp only [h1,h2,h3,h3',Option.bind_some,if_true]
      rw [if_pos (by lia),h6]
      simp
    · rcases List.mem_cons.mp hy with rfl | hy
      · exact h4
      · exact h8 y hy
theorem rY{cp:List (Nat × Str)}{nT:Nat}{fi:FI}{g:FG}{ft:FT}{fe:FE}{e e1 eo:En}{items out:List PyData}(h1:fi e=some (items,[],e1))(h3:dH g ft fe items (o5 cp nT e1) []=some (out,eo))(hb:j5 cp eo e1=true):dJ cp nT fi g ft fe e=some (.l out,jr (jk cp) eo e1):=by
  unfold dJ
  rw [h1]
  simp only [Option.bind_some,List.all_nil,if_true,h3]
  rw [if_pos hb]
theorem lK{own:eL}{g:FG}{f:FS}{Z:Rv}(ok:PyData→Bool)(P Q:En→Prop):∀(items:List PyData) (e:En),(∀x∈items,∀e,P e→∃e1,g x e=some e1∧(ok x=true→∃e2,f e1=some (.nx e2)∧keeps own e2∧P e2)∧(ok x=false→∃e2,f e1=some (.rt Z e2)∧Q e2))→P e→
    (items.all ok=true→∃e',gZ own g f items e=some (.nx e')∧P e')∧(items.all ok=false→∃e',gZ own g f items e=some (.rt Z e')∧Q e')
  | [],e,_,h=>⟨fun _=>⟨e,rfl,h⟩,fun z=>by simp at z⟩
  | x::r,e,hs,h=>by
    obtain⟨e1,h1,h2,h3⟩:=hs x (by simp) e h
    rw [List.all_cons]
    cases c:ok x with
    | true=>
      obtain⟨e2,h4,h5,h6⟩:=h2 c
      have ih:=lK ok P Q r e2 (fun y hy=>hs y (by simp [hy])) h6
      rw [Bool.true_and]
      have e0:gZ own g f (x::r) e=gZ own g f r e2:=by
        simp only [gZ,h1,h4,Option.bind_some]
        rw [if_pos h5]
      rw [e0]
      exact ih
    | false=>
      obtain⟨e2,h4,h5⟩:=h3 c
      refine⟨fun z=>by simp at z,fun _=>⟨e2,?_,h5⟩⟩
      simp only [gZ,h1,h4,Option.bind_some]
end L2
namespace L2
open PySem PySem.Spec PyProof.Rows
mutual
def si:Nat→PyData→Bool
  | _,.none=>true
  | _,.bool _=>true
  | _,.int i=>decide (i.natAbs < 2 ^ 128)
  | _,.str x=>PyData.strOk x&&decide (x.length≤10)
  | k,.list xs=>decide (0 < k)&&kz (k - 1) xs
  | k,.tuple xs=>decide (0 < k)&&kz (k - 1) xs
  | _,.dict _=>false
def kz:Nat→List PyData→Bool
  | _,[]=>true
  | k,x::r=>si k x&&kz k r
end
mutual
def wt:PyData→Nat
  | .list xs=>k7 xs+1
  | .tuple xs=>k7 xs+1
  | .dict _=>1
  | .none=>1
  | .bool _=>1
  | .int _=>1
  | .str _=>1
def k7:List PyData→Nat
  | []=>0
  | x::r=>wt x+k7 r
end
theorem oU:∀(ts:List Str) (k:Nat) (acc:Str),(textFrom k acc ts).length≤acc.length+piled ts
  | [],_,acc=>by show acc.length≤acc.length+0;lia
  | t::r,k,acc=>by
    have ih:=oU r (k+1) (acc++(if k > 0 then ", " else "":String)++t)
    have e:(acc++(if k > 0 then ", " else "":String)++t).length≤acc.length+2+t.length:=by
      rw [strLen_append,strLen_append]
      have:(Str.ofString (if k > 0 then ", " else "")).length≤2:=by split<;>decide
      lia
    show(textFrom (k+1) _ r).length≤_
    rw [fF];lia
theorem nZ(ts:List Str):(listText ts).length≤piled ts+2:=by
  unfold listText
  rw [strLen_append]
  have h:=oU ts 0 "["
  have h1:(("[":Str)).length=1:=by decide
  have h2:(("]":Str)).length=1:=by decide
  lia
theorem kX:∀(ts:List Str) (k:Nat) (acc:Str),PyData.strOk acc=true→(∀t∈ts,PyData.strOk t=true)→PyData.strOk (textFrom k acc ts)=true
  | [],_,acc,h,_=>h
  | t::r,k,acc,h,hs=>kX r (k+1) _ (c9 (c9 h (bH _)) (hs t (by simp))) fun u hu=>hs u (by simp [hu])
theorem me{ts:List Str}(h:∀t∈ts,PyData.strOk t=true):PyData.strOk (listText ts)=true:=c9 (kX ts 0 _ (bH _) h) (bH _)
structure AK (d:PyData) (k:Nat):Prop where
  lay:d.canLay0=true
  sh:d.showable=true
  dp:d.depth≤k
  ln:d.shown.length+2≤104*wt d
  so:PyData.strOk d.shown=true
theorem j3{d:PyData}{n:Nat}{k:Nat}(h:Sz n 0 d∨Sz n 2 d)(hn:n≤102)(hw:wt d=1)(hl:d.canLay0=true)(hd:d.depth=0):AK d k:=by
  rcases h with h | h<;>exact⟨hl,h.sh,by lia,by have:=h.ln;lia,h.so⟩
mutual
theorem j4{k:Nat}:∀{d:PyData},si k d=true→AK d k
  | .none,_=>⟨rfl,rfl,by simp [PyData.depth],by show(Str.ofString "None").length+2≤104*1;decide,bH _⟩
  | .bool b,_=>j3 (.inr Sz.bool) (by decide) rfl rfl (by simp [PyData.depth])
  | .int i,h=>by
    simp only [si,decide_eq_true_eq] at h
    exact j3 (.inr (Sz.int10 (n:=39) (m:=128) (show Bt 128 i from h) (by decide) (by decide) (Nat.lt_of_lt_of_le h (by decide)) (by decide))) (by decide) rfl rfl (by simp [PyData.depth])
  | .str x,h=>by
    simp only [si,Bool.and_eq_true,decide_eq_true_eq] at h
    exact j3 (.inr (Sz.str (n:=10) h.1 h.2)) (by decide) rfl (by simpa [PyData.canLay0] using h.1) (by simp [PyData.depth])
  | .dict _,h=>by simp [si] at h
  | .list xs,h=>by
    simp only [si,Bool.and_eq_true,decide_eq_true_eq] at h
    obtain⟨a1,a2,a3,a4,a5⟩:=mv h.2
    have:=nZ (PyData.shownAll xs)
    refine⟨by simpa [PyData.canLay0] using a1,a2,by simp only [PyData.depth];lia,by simp only [PyData.shown,wt];lia,by simp only [PyData.shown];exact me a5⟩
  | .tuple xs,h=>by
    simp only [si,Bool.and_eq_true,decide_eq_true_eq] at h
    obtain⟨a1,a2,a3,a4,a5⟩:=mv h.2
    have:=jq (PyData.shownAll xs)
    refine⟨by simpa [PyData.canLay0] using a1,a2,by simp only [PyData.depth];lia,by simp only [PyData.shown,wt];lia,by simp only [PyData.shown];exact mh a5⟩
theorem mv{k:Nat}:∀{ds:List PyData},kz k ds=true→PyData.canLayAll0 ds=true∧PyData.showableAll ds=true∧PyData.depthAll ds≤k∧piled (PyData.shownAll ds)≤104*k7 ds∧∀t∈PyData.shownAll ds,PyData.strOk t=true
  | [],_=>⟨rfl,rfl,by simp [PyData.depthAll],by simp [PyData.shownAll,piled],by simp [PyData.shownAll]⟩
  | d::r,h=>by
    simp only [kz,Bool.and_eq_true] at h
    obtain⟨a1,a2,a3,a4,a5⟩:=j4 h.1
    obtain⟨b1,b2,b3,b4,b5⟩:=mv h.2
    refine⟨by simp only [PyData.canLayAll0,a1,b1,Bool.and_self],by simp only [PyData.showableAll,a2,b2,Bool.and_self],by simp only [PyData.depthAll];lia,by simp only [PyData.shownAll,fF,k7];lia,fun t ht=>?_⟩
    simp only [PyData.shownAll,List.mem_cons] at ht
    rcases ht with rfl | ht
    · exact a5
    · exact b5 t ht
end
def pV(n:Int):PyData→Bool
  | .tuple ds=>(ds.length:Int)==n
  | _=>false
def lh:PyData→Bool
  | .tuple [.int t,.int b]=>decide (0≤t)&&(decide (t≤b)&&(decide (1≤b)&&(decide (b≤100)&&decide (Int.gcd t b=1))))
  | _=>false
theorem tH{e:En}{s:Str}(h:PyData.strOk s=true):cD true e (.d (.str s)) (.d (.str s))=some (.d (.bool false)):=by
  unfold cD
  simp only [fZ,Option.bind_some]
  have h0:SeqAt.shaped (.str s)=true:=by simp [SeqAt.shaped,PyData.canLay0,PyData.depth,h]
  rw [h0]
  simp [PyData.eqv]
end L2
namespace L2
open PySem PySem.Spec PyProof.Rows
section
variable{X:Cx}{K:PySem.W.Frag}
variable{a b:Expr}{fa fb:FE}{pos:Pos}
end
end L2
namespace L2
open PySem PySem.Spec PyProof.Rows
def tx(s:Str):List Nat:=s.cps.toList
end L2
namespace L2
open PySem PySem.Spec PyProof.Rows
end L2
namespace L2
open PySem PySem.Spec PyProof.Rows
end L2
namespace L2
open PySem PySem.Spec PyProof.Rows
section
variable{X:Cx}{K:PySem.W.Frag}{es:List Expr}{k0:Nat}{tp:Pos}{a b:Expr}{fs:FA}{p pos:Pos}
end
end L2
namespace L2
open PySem PySem.Spec PyProof.Rows
def Ed(x:Nd)(b:Bool):Int:=if b=true then x.yes else x.no
def yj(T:List Nd)(i:Nat)(b:Bool):Int:=match T[i]? with
  | some x=>Ed x b
  | none=> -1
def C9(T:List Nd):Prop:=∀(i j:Nat) (a b:Bool),yj T i a=yj T j b→yj T i a≠ -1→i=j∧a=b
def DH(w:Wt):Int × Int:=(w.par,w.side)
structure Ep (T:List Nd) (ws:List Wt):Prop where
  unq:C9 T
  rng:∀i a,yj T i a= -1∨(0 < yj T i a∧yj T i a < (T.length:Int))
  free:∀w∈ws,w.par= -1∨(0≤w.par∧w.par < (T.length:Int)∧yj T w.par.toNat (w.side==0)= -1)
  dst:(ws.map DH).Nodup
  side:∀w∈ws,w.side=0∨w.side=1
structure Es (T:List Nd) (w0 ws order:List Int):Prop where
  nd:(order++ws).Nodup
  par:∀v∈order++ws,v=0∨∃u∈order,∃b,yj T u.toNat b=v∧v≠ -1
  fst:(order=[]∧ws=w0)∨order[0]?=some 0
end L2
namespace L2
open PySem PySem.Spec PyProof.Rows
section
variable{prog:Program}{w:World}{A:Around}{E:Value→Shared→Prop}{s:Shared}
end
section
variable{X:Cx}{tg a:Expr}{ta:TA}{p pos:Pos}
end
section
variable{X:Cx}{K:PySem.W.Frag}{σ:L2.St}{tg a:Expr}{fs:FA}{p pos:Pos}
end
end L2
namespace L2
open PySem PySem.Spec PyProof.Rows
section
variable{X:Cx}{a k:Expr}{p2 pos:Pos}{fa fk:FE}{K:PySem.W.Frag}
theorem pR(n:Nat):Builtin.Slice.slicePlaces ((n:Int) - 1) (-1) (-1)=n:=by
  unfold Builtin.Slice.slicePlaces
  rw [if_neg (by decide),show(- -1:Int)=1 from rfl]
  split<;>lia
theorem nK{α β:Type}{f g:α→Option β}:∀{l:List α},(∀x∈l,f x=g x)→l.filterMap f=l.filterMap g
  | [],_=>rfl
  | x::r,h=>by rw [List.filterMap_cons,List.filterMap_cons,h x (by simp),nK fun y hy=>h y (by simp [hy])]
theorem uH(xs:Array Value):((List.range xs.size).filterMap fun(m:Nat)=>xs[((xs.size:Int) - 1+(m:Int)*(-1)).toNat]?).toArray=xs.toList.reverse.toArray:=by
  have e:(List.range xs.size).filterMap (fun(m:Nat)=>xs[((xs.size:Int) - 1+(m:Int)*(-1)).toNat]?)=((List.range xs.size).map fun k=>xs.size - 1 - k).filterMap (xs[·]?):=by
    rw [List.filterMap_map]
    refine nK fun m hm=>?_
    have:=List.mem_range.mp hm
    show xs[_]?=xs[xs.size - 1 - m]?
    congr 1
    lia
  rw [e,PySem.W.krv_range,List.filterMap_reverse,PySem.W.krv_all]
section
variable{prog:Program}{w:World}{A:Around}{E:Value→Shared→Prop}{s:Shared}
theorem jp{sl:Addr}{t:Tok}{n:Nat}{Q:Int × Int × Nat→Shared→Prop}(hs:s.heap.IsSliceOf sl .none .none (.int (-1) t))(h:Q ((n:Int) - 1, -1,n) s):wpAny (model prog w) A (Builtin.Slice.sliceApplied (.ref sl) (pure (n:Int))) Q E s:=by
  obtain⟨os,hos,hcs,hds⟩:=id hs
  unfold Builtin.Slice.sliceApplied Builtin.Slice.sliceFields
  refine wpAny_bind (wpAny_bind (wpAny_field hos hds (x:=.none) rfl (wpAny_bind (wpAny_field hos hds (x:=.none) rfl (wpAny_bind (wpAny_field hos hds (x:=.int (-1) t) rfl (wpAny_pure ?_)))))))
  refine wpAny_bind (HT.slicePart_ (.int (-1) t) ?_)
  show wpAny _ _ (if ((-1:Int)==0)=true then _ else _) _ _ s
  rw [if_neg (by decide)]
  refine wpAny_bind (HT.slicePart_ .none (wpAny_bind (HT.slicePart_ .none (wpAny_bind (wpAny_pure ?_)))))
  show wpAny _ _ (pure ((n:Int) - 1,(-1:Int),Builtin.Slice.slicePlaces ((n:Int) - 1) (-1) (-1))) _ _ s
  rw [pR]
  exact wpAny_pure h
theorem iD{t sl:Addr}{items:Array Value}{tk:Tok}{Q:Value→Shared→Prop}(ht:IsTup s.heap t items)(hs:s.heap.IsSliceOf sl .none .none (.int (-1) tk))
    (h:Q (.ref s.heap.objs.size) {s with heap:=s.heap.push {cls:=.type "tuple",data:=.seq items.toList.reverse.toArray}})(hsz:items.size≤sizeLine):wpAny (model prog w) A (getItem (.ref t) (.ref sl)) Q E s:=by
  have htake:sizeOk (.seq items.toList.reverse.toArray):=by
    show items.toList.reverse.toArray.size≤sizeLine
    rw [List.size_toArray,List.length_reverse,Array.length_toList]
    exact hsz
  obtain⟨os,hos,hcs,hds⟩:=id hs
  have hTs:s.TypeIs (.ref sl) "slice":=⟨os,hos,hcs⟩
  unfold getItem
  try with_reducible refine wpAny_holding ?_
  first | refine wpAny_bind (wpAny_pure ?_) | skip
  refine wpAny_bind (wpAny_sequenceKey ht.typeIs (by decide) ?_)
  refine wpAny_bind (wpAny_callSpecial?_slot (name:=Str.ofString "__getitem__") ht.typeIs PyProof.Rows.slot_tuple_getitem
    (wpAny_call_entry PyProof.Rows.slot_tuple_getitem ht.typeIs entry_tuple_getitem ?_ (args_tuple_getitem _ _)))
  show wpAny _ _ (Builtin.Tuple.tupleItemsOf (.ref t) >>= _) _ _ s
  refine wpAny_bind (tupleItemsOf_ ht ?_)
  refine wpAny_bind (wpAny_typeOf hTs ?_)
  rw [if_pos (by decide)]
  refine wpAny_bind (jp hs ?_)
  have hno:¬((((items.size:Int) - 1)==0&&(-1:Int)==1&&items.size==items.size)=true):=by
    intro q
    rw [Bool.and_eq_true,Bool.and_eq_true] at q
    have q1:((-1:Int)==1)=true:=q.1.2
    exact absurd q1 (by decide)
  show wpAny _ _ (if (((items.size:Int) - 1)==0&&(-1:Int)==1&&items.size==items.size)=true then _ else _) _ _ s
  rw [if_neg hno,uH]
  first
    | exact wpAny_bind (m:=Builtin.Tuple.tupleExact _) (wpAny_newObj_type (wpAny_pure ⟨_,rfl,wpAny_pure h⟩) htake)
    | exact wpAny_bind (m:=Builtin.Tuple.tupleExact _) (wpAny_newObj_type (wpAny_bind (wpAny_pure (wpAny_pure ⟨_,rfl,wpAny_pure h⟩))) htake)
    | exact wpAny_bind (wpAny_bind (m:=Builtin.Tuple.tupleExact _) (wpAny_newObj_type (wpAny_pure (wpAny_pure ⟨_,rfl,wpAny_pure h⟩)) htake))
    | exact wpAny_bind (wpAny_bind (m:=Builtin.Tuple.tupleExact _) (wpAny_newObj_type (wpAny_pure ⟨_,rfl,wpAny_pure h⟩) htake))
end
def Ek(K:PySem.W.Frag)(te tk:TE):TE:=fun σ H Q=>te σ H fun x H1=>tk σ H1 fun y H2=>y=.int (-1)∧((∃a xs,x=.ref a∧bR K H2 a xs∧∀p,H2 p=none→Q (.ref p) (aT H2 p (.lst xs.reverse)))∨∃a xs,x=.ref a∧bB K H2 a xs∧∀p,H2 p=none→Q (.ref p) (aT H2 p (.tup xs.reverse)))
theorem BX{te tk:TE}(he:PE X a te)(hk:PE X k tk):PE X (.Subscript a (.Slice none none (some k) p2) pos) (Ek X.K te tk):=by
  intro pins s σ H Q I h
  refine Subscript_ (bO (he pins s σ H _ I h) fun v s1 ⟨x,H1,I1,r1,q1⟩=>?_)
  refine wpAny_Slice ?_
  rw [evalPart_none]
  refine wpAny_pure (wpAny_pure ?_)
  refine bO (hk pins s1 σ H1 _ I1 q1) fun vk s3 ⟨y,H3,I3,rk,e,q⟩=>?_
  subst e
  obtain⟨t,rfl⟩:∃t,vk=.int (-1) t:=rk
  have I4:aA X pins σ H3 {s3 with heap:=s3.heap.push {cls:=.type "slice",data:=.fields #[.none,.none,.int (-1) t]}}:=I3.kept (t':=s3.toks) fun b ob q=>Heap.get?_push_of_some _ q
  rcases q with ⟨b,xs,ex,hx,q⟩ | ⟨b,xs,ex,hx,q⟩
  · subst ex
    cases r1
    obtain⟨its,r,ht,hz⟩:=I4.list hx
    have hlen:=r.length
    show wpAny (model X.prog X.w) X.A (subscriptTail a (.Slice none none (some k) p2) (.ref b) (.ref s3.heap.objs.size)) (EP X pins σ Q) X.xe {s3 with heap:=s3.heap.push {cls:=.type "slice",data:=.fields #[.none,.none,.int (-1) t]}}
    refine tail_any (T:="list") ht.isList.typeIs slot_list_getitem.lookup ?_ (by with_unfolding_all rfl)
    refine wpAny_getItem_list_slice ht.isList (Heap.IsSliceOf.new ..) .none .none (.int (-1) t) (by decide) ?_ (by rw [List.size_toArray]<;>lia)
    rw [PySem.W.krv_pick]
    refine⟨.ref _,_,I4.laid (t':=s3.toks) (o:=.lst xs.reverse) (fun b ob q=>Heap.get?_push_of_some _ q) (Nat.le_refl _) ?_,rfl,q _ (I4.hok.fresh (Nat.le_refl _))⟩
    exact⟨by rw [List.length_reverse];exact hz,_,0,r.reverse,Heap.get?_push_size _ rfl⟩
  · subst ex
    cases r1
    obtain⟨its,r,ht,hz⟩:=I4.tuple hx
    have hlen:=r.length
    show wpAny (model X.prog X.w) X.A (subscriptTail a (.Slice none none (some k) p2) (.ref b) (.ref s3.heap.objs.size)) (EP X pins σ Q) X.xe {s3 with heap:=s3.heap.push {cls:=.type "slice",data:=.fields #[.none,.none,.int (-1) t]}}
    refine tail_any (T:="tuple") ht.typeIs slot_tuple_getitem.lookup ?_ (by with_unfolding_all rfl)
    refine iD ht (Heap.IsSliceOf.new ..) ?_ (by rw [List.size_toArray]<;>lia)
    refine⟨.ref _,_,I4.laid (t':=s3.toks) (o:=.tup xs.reverse) (fun b ob q=>Heap.get?_push_of_some _ q) (Nat.le_refl _) ?_,rfl,q _ (I4.hok.fresh (Nat.le_refl _))⟩
    exact⟨by rw [List.length_reverse];exact hz,_,r.reverse,gY.new _ _⟩
def Dd(e:En)(x y:Rv):Option Rv:=match y with
  | .d (.int i)=>if i= -1 then(cw e x).bind fun p=>some (if p.1=true then .l p.2.reverse else .d (.tuple p.2.reverse)) else none
  | _=>none
def CL(fa fk:FE):FE:=fun e=>(fa e).bind fun p=>(fk p.2).bind fun k=>(Dd k.2 p.1 k.1).map fun z=>(z,k.2)
theorem mH:∀{F:Hp} {ds:List PyData} {vs:List V},aG K F ds vs→aG K F ds.reverse vs.reverse
  | F,[],vs,h=>by simp only [aG] at h;subst h;exact aG.nil
  | F,d::ds,vs,h=>by
    simp only [aG] at h
    obtain⟨v,ws,rfl,h1,h2⟩:=h
    rw [List.reverse_cons,List.reverse_cons]
    exact(mH h2).append (aG.one h1)
theorem B5(he:PE X a (fE X.K fa))(hk:PE X k (fE X.K fk)):PE X (.Subscript a (.Slice none none (some k) p2) pos) (fE X.K (CL fa fk)):=(BX he hk).mono fun σ H Q h=>by
  obtain⟨F,e,z,e',R,hf,q⟩:=h
  unfold CL at hf
  obtain⟨⟨x,e1⟩,h1,hf⟩:=Option.bind_eq_some_iff.mp hf
  obtain⟨⟨y,e2⟩,h2,hf⟩:=Option.bind_eq_some_iff.mp hf
  obtain⟨z',h4,hf⟩:=Option.map_eq_some_iff.mp hf
  cases hf
  refine⟨F,e,x,e1,R,h1,fun F1 H1 v X1 R1 A1=>⟨F1,e1,y,_,R1,h2,fun F2 H2 u X2 R2 A2=>?_⟩⟩
  unfold Dd at h4
  split at h4
  · rename_i i hy
    have hy:y=.d (.int i):=hy
    subst hy
    by_cases hi:i= -1
    case neg=>rw [if_neg hi] at h4;cases h4
    rw [if_pos hi] at h4
    subst hi
    obtain⟨⟨b,xs⟩,h5,h4⟩:=Option.bind_eq_some_iff.mp h4
    cases b with
    | false=>
      cases h4
      obtain⟨p,vs,rfl,d1,s1⟩:=bT R2 (A1.ext X2) h5
      refine⟨by first | exact A2 | cases A2;rfl,.inr ⟨p,vs,rfl,s1,fun t ht=>?_⟩⟩
      obtain⟨R4,X4⟩:=R2.newT (vs:=vs.reverse) ht
      exact q _ _ _ ((X1.trans X2).trans X4) R4 (ci.mpr ⟨t,_,rfl,.inl (.inl ay),(mH d1).mono X4.sf⟩)
    | true=>
      cases h4
      obtain⟨p,vs,rfl,d1,s1⟩:=bT R2 (A1.ext X2) h5
      refine⟨by first | exact A2 | cases A2;rfl,.inl ⟨p,vs,rfl,s1,fun t ht=>?_⟩⟩
      obtain⟨R4,X4,hF,no⟩:=R2.newL (vs:=vs.reverse) ht
      exact q _ _ _ ((X1.trans X2).trans X4) R4 ⟨t,_,rfl,(X1.trans X2).dom _ ht,hF,ay,mH d1,no⟩
  · cases h4
theorem Ds(hK:X.K=K)(he:PE X a (fE K fa))(hk:PE X k (fE K fk)):PE X (.Subscript a (.Slice none none (some k) p2) pos) (fE K (CL fa fk)):=by subst hK;exact B5 he hk
end
end L2
namespace L2
open PySem PySem.Spec PyProof.Rows
section
variable{X:Cx}{a b:Expr}{ta:TA}{p p2 pos pos2:Pos}{K:PySem.W.Frag}{fs:FA}
end
section
variable{X:Cx}{o i e:Expr}{fo fi:FE}{tpos pos:Pos}{K:PySem.W.Frag}
end
end L2
namespace L2
open PySem PySem.Spec PyProof.Rows
section
variable{X:Cx}{K:PySem.W.Frag}
end
end L2
namespace L2
open PySem PySem.Spec PyProof.Rows
section
open PySem.MeetsSeq2 PySem.AutoSeq1 PySem.SeqAt
end
section
variable{X:Cx}{K:PySem.W.Frag}{o a:Expr}{to te:TE}{name:Str}{apos cpos:Pos}{T id:String}{r:V→List V→Hp→VK→Prop}{fo fa:FE}
end
end L2
namespace L2
open PySem PySem.Spec PyProof.Rows
section
variable{X:Cx}{K:PySem.W.Frag}{o a:Expr}{apos cpos:Pos}{fo fa:FE}
end
end L2
namespace L2
open PySem PySem.Spec PyProof.Rows
section
variable{K:PySem.W.Frag}{F H:Hp}{σ:L2.St}{e:En}{cp:List (Nat × Str)}{nT:Nat}
end
section
variable{X:Cx}{K:PySem.W.Frag}{a b:Expr}{es:List Expr}{fa fb:FE}{fs:FA}{pos p p2 p3:Pos}{lo hi:Option Expr}
end
end L2
namespace L2
open PySem PySem.Spec PyProof.Rows
section
variable{X:Cx}{K:PySem.W.Frag}
end
end L2
namespace L2
open PySem PySem.Spec PyProof.Rows
section
variable{X:Cx}{K:PySem.W.Frag}{a b:Expr}{fa fb:FE}{pos:Pos}
def tD:=gI (fun _ _=>true) fun i j=>.int (Builtin.bitAnd i j)
theorem Bc:fq K (pT fun i j=>.int (Builtin.bitAnd i j)) tD:=gu fun _ _ _=>bC.mpr rfl
theorem B3(ha:PE X a (fE K fa))(hb:PE X b (fE K fb)):PE X (.BinOp a .BitAnd b pos) (fE K (au tD fa fb)):=jD zr Bc ha hb
theorem tF{e:En}{i j:Int}:tD e (.d (.int i)) (.d (.int j))=some (.d (.int (Builtin.bitAnd i j))):=rfl
theorem Da{i:Int}(h:0≤i):Builtin.bitAnd i 7=i % 8:=by
  show(match decide (0≤i),decide ((0:Int)≤7) with | true,true=>((i.toNat&&& (7:Int).toNat:Nat):Int) | true,false=>_ | false,true=>_ | false,false=>_)=_
  rw [decide_eq_true h]
  show((i.toNat&&& 7:Nat):Int)=i % 8
  rw [Nat.and_two_pow_sub_one_eq_mod i.toNat 3]
  lia
end
end L2
namespace L2
open PySem PySem.Spec PyProof.Rows
section
variable{X:Cx}{K:PySem.W.Frag}
theorem nG{prog:Program}{w:World}{A:Around}{E:Value→Shared→Prop}{s:Shared}{t:Addr}{vs:List Value}{Q:List Value→Shared→Prop}(ht:s.heap.IsList t vs.toArray)
    (h:Q vs {s with heap:=(s.heap.push (seqObj "list" #[] 0)).update s.heap.objs.size (Obj.mapSeq (· ++vs.toArray))})(hsz:vs.length≤sizeLine):wpAny (model prog w) A (collect (.ref t)) Q E s:=by
  obtain⟨o,ho,hc,n,hd⟩:=id ht;unfold collect;refine wpAny_bind (wpAny_runValue (codeAny_builtin entry_proto_collect' ?_))
  show wpAny _ _ (do again (.builtin "list.__iadd__" ⟨[←newList [],.ref t],[]⟩)) _ _ s
  refine wpAny_bind (wpAny_newList (wpAny_pure ⟨Code.quiet_builtin _ (by decide+kernel),?_⟩));refine codeAny_builtin entry_list_iadd' ?_
  show wpAny _ _ (Builtin.List.listExtendWith (.ref s.heap.objs.size) (.ref t) (.ref s.heap.objs.size)) _ _ {s with heap:=s.heap.push (seqObj "list" #[] 0)}
  unfold Builtin.List.listExtendWith;have ho':(s.heap.push (seqObj "list" #[] 0)).get? t=some o:=Heap.get?_push_of_some _ ho
  refine wpAny_bind (wpAny_typeOf (T:="list") ⟨o,ho',hc⟩ ?_)
  rw [if_pos (by rw [show(Value.type "list"==Value.type "list")=true from rfl,Bool.or_true,Bool.true_or])]
  refine wpAny_bind (listItems_at ho' hd ?_);refine wpAny_bind (listItems_at (xs:=#[]) (n:=0) (Heap.get?_push_size _ rfl) rfl ?_)
  rw [if_neg (by simp)];refine wpAny_bind (listUpdate_at (xs:=#[]) (n:=0) (Heap.get?_push_size _ rfl) rfl ?_ (Nat.zero_le _) (by show(#[]++vs.toArray).size≤sizeLine+1;simp only [Array.size_append,List.size_toArray,List.length_nil];lia))
  refine wpAny_pure ?_
  show wpAny (model prog w) A (load s.heap.objs.size >>= fun o=>match o.data with | .seq xs _=>pure xs.toList | _=>unsupported "internal:collect") Q E {s with heap:=(s.heap.push (seqObj "list" #[] 0)).update s.heap.objs.size (Obj.mapSeq (· ++vs.toArray))}
  refine wpAny_bind (wpAny_load (get?_update_seq (Heap.get?_push_size _ rfl) _) ?_);show wpAny _ _ (pure ((#[]:Array Value)++vs.toArray).toList) Q E _;rw [show((#[]:Array Value)++vs.toArray).toList=vs by simp];exact wpAny_pure h
theorem pX{prog:Program}{w:World}{A:Around}{E:Value→Shared→Prop}{s:Shared}{t:Addr}{vs:List Value}{ns:List Int}{Q:Value→Shared→Prop}(ht:s.heap.IsList t vs.toArray)(hI:IntsAre vs ns)(h64:vs.length < 64)
    (h:∀(out:Array Value) (ns':List Int),IntsAre out.toList ns'→ns'.Perm ns→ns'.Pairwise (· ≤·)→Q (.ref (s.heap.objs.size+1)) {s with heap:=sortedAll s.heap vs out}):wpAny (model prog w) A (call (.builtin "sorted") [.ref t]) Q E s:=by
  refine Calls.call_function_entry kind_sorted plain_sorted entry_sorted (args_sorted1 _) ?_;unfold Builtin.«sorted»
  refine wpAny_bind (m:=checkCount "sorted" 1 1 _) (wpAny_pure ?_);refine wpAny_bind (nG ht ?_ (Nat.le_trans (Nat.le_of_lt h64) (by decide)))
  have z:((s.heap.push (seqObj "list" #[] 0)).update s.heap.objs.size (Obj.mapSeq (· ++vs.toArray))).objs.size=s.heap.objs.size+1:=by rw [Heap.size_update,size_push']
  have o:(((s.heap.push (seqObj "list" #[] 0)).update s.heap.objs.size (Obj.mapSeq (· ++vs.toArray))).push (seqObj "list" vs.toArray 0)).get? (s.heap.objs.size+1)=some (seqObj "list" vs.toArray 0):=by rw [←z];exact Heap.get?_push_size _ rfl
  refine wpAny_bind (wpAny_newList ?_);show wpAny _ _ _ _ _ {s with heap:=((s.heap.push (seqObj "list" #[] 0)).update s.heap.objs.size (Obj.mapSeq (· ++vs.toArray))).push (seqObj "list" vs.toArray 0)}
  rw [z];refine wpAny_bind (wpAny_holding (wpAny_call_entry slot_list_sort ⟨_,o,rfl⟩ entry_list_sort (list_sort_tree o hI h64 fun out ns' b1 b2 b3=>⟨_,rfl,?_⟩) (args_list_sort _)))
  exact wpAny_pure ⟨_,rfl,h out ns' b1 b2 b3⟩
theorem mD:ce X (.builtin "sorted") (fun xs H Q=>∃(a:Addr) (ns:List Int),xs=[.ref a]∧bR X.K H a (ns.map V.int)∧ns.length < 64∧∀(l:Addr) (ns':List Int) (H':Hp),ax H H'→H l=none→H' l=some (.lst (ns'.map V.int))→ns'.Perm ns→ns'.Pairwise (· ≤·)→Q (.ref l) H'):=by
  intro pins s σ H xs us Q I r h
  obtain⟨a,ns,rfl,hs,h64,q⟩:=h
  obtain⟨u,rfl,ru⟩:=gq r
  cases ru
  obtain⟨its,rv,p,hz⟩:=I.list hs
  have hl:=rv.length
  rw [List.length_map] at hl
  refine pX p.isList (hV rv) (by lia) fun out ns' a1 a2 a3=>?_
  obtain⟨e,he⟩:=sortedAll_at s.heap its out
  have hf:H (s.heap.objs.size+1)=none:=I.hok.fresh (Nat.le_succ _)
  refine⟨.ref (s.heap.objs.size+1),aT H (s.heap.objs.size+1) (.lst (ns'.map V.int)),I.laid (t':=s.toks) (fun _ _=>sortedAll_old) (Nat.le_succ _) ⟨?_,out.toList,e,gX a1,?_⟩,rfl,q _ ns' _ (ax.new hf) hf ay a2 a3⟩
  · rw [List.length_map,a2.length_eq]
    exact Nat.le_trans (Nat.le_of_lt h64) (by decide)
  · simpa [seqObj] using he
def hR:En→Rv→Option Rv:=fun e x=>(cw e x).bind fun z=>(kh z.2).bind fun ns=>if ns.length < 64 then some (.l ((eC ns).map .int)) else none
def uZ(K:PySem.W.Frag):List V→Hp→VK→Prop:=fun xs H Q=>∃(a:Addr) (ns:List Int),xs=[.ref a]∧(bR K H a (ns.map V.int)∨bB K H a (ns.map V.int))∧ns.length < 64∧∀(l:Addr) (H':Hp),ax H H'→H l=none→H' l=some (.lst ((eC ns).map V.int))→Q (.ref l) H'
theorem pw:ce X (.builtin "sorted") (uZ X.K):=by
  intro pins s σ H xs us Q I rv h
  obtain⟨a,ns,e1,e2,e3,q⟩:=h
  rcases e2 with e2 | e2
  · exact mD pins s σ H xs us Q I rv ⟨a,ns,e1,e2,e3,fun l ns' H' sm hn hl hp hs=>q l H' sm hn (by rw [←kU hp hs];exact hl)⟩
  · exact jx pins s σ H xs us Q I rv ⟨a,ns,e1,e2,e3,fun l ns' H' sm hn hl hp hs=>q l H' sm hn (by rw [←kU hp hs];exact hl)⟩
theorem xt:ck K (uZ K) (g1 hR):=dN fun σ H0 F H e x z v Q R A hg q=>by
  unfold hR at hg
  obtain⟨⟨b,ds⟩,h1,hg⟩:=Option.bind_eq_some_iff.mp hg
  obtain⟨ns,h6,hg⟩:=Option.bind_eq_some_iff.mp hg
  split at hg
  case isFalse=>cases hg
  case isTrue hl=>
  cases hg
  obtain⟨p,vs,rfl,d1,s1⟩:=bT R A h1
  have e1:ds=ns.map .int:=iG h6
  subst e1
  have e2:=aG.ints.mp d1
  subst e2
  refine⟨p,ns,rfl,?_,hl,fun l H' sm hn hl'=>?_⟩
  · cases b with
    | true=>exact .inl s1
    | false=>exact .inr s1
  obtain⟨R4,X4⟩:=R.same sm
  exact q F H' _ X4 R4 ⟨l,_,rfl,hn,R.freeF hn,hl',aG.ints.mpr rfl,fun z=>R.ownH l ((R.sameOwn sm l).mp z) hn⟩
theorem vI(hK:X.K=K):ij X K "sorted" (g1 hR):=⟨.inl ⟨_,_,hK ▸ pw,xt,PyProof.Rows.boot_sorted⟩⟩
theorem tQ{e:En}{i:Nat}{ns:List Int}(hi:e[i]?=some (some (.l (ns.map .int))))(h:ns.length < 64):g1 hR e [.s i]=some (.l ((eC ns).map .int)):=by
  simp [g1,hR,cw,hi,jg,h]
end
end L2
namespace L2
open PySem PySem.Spec PyProof.Rows
mutual
theorem ka:∀(d:PyData),eU d=true→ee d=true
  | .none,_=>rfl
  | .bool _,_=>rfl
  | .int _,_=>rfl
  | .str _,_=>rfl
  | .tuple ds,h=>by simp only [ee];exact jz ds (by simpa [eU] using h)
  | .list ds,h=>by simp [eU] at h
  | .dict _,h=>by simp [eU] at h
theorem jz:∀(ds:List PyData),gK ds=true→dm ds=true
  | [],_=>rfl
  | d::r,h=>by
    simp only [gK,Bool.and_eq_true] at h
    simp only [dm,ka d h.1,jz r h.2,Bool.and_self]
end
structure Sw (b:Bool) (n dep:Nat) (d:PyData):Prop where
  dl:bif b then ee d=true else d.hasDict=false
  sh:d.showable=true
  dp:d.depth≤dep
  ln:d.shown.length+2≤n
  so:PyData.strOk d.shown=true
theorem Sw.mono{b:Bool}{n m dep e:Nat}{d:PyData}(h:Sw b n dep d)(h1:n≤m)(h2:dep≤e):Sw b m e d:=⟨h.dl,h.sh,Nat.le_trans h.dp h2,Nat.le_trans h.ln h1,h.so⟩
theorem AK.sw{k:Nat}{d:PyData}(h:AK d k):Sw false (104*wt d) k d:=⟨PyData.hasDict_of_canLay d h.lay,h.sh,h.dp,h.ln,h.so⟩
theorem AK.swF{k:Nat}{d:PyData}(h:AK d k)(f:eU d=true)(b:Bool):Sw b (104*wt d) k d:=⟨by cases b;exact f9 d f;exact ka d f,h.sh,h.dp,h.ln,h.so⟩
theorem Sw.all{b:Bool}{n dep:Nat}:∀{ds:List PyData},(∀d∈ds,Sw b n dep d)→(bif b then dm ds=true else PyData.hasDictAll ds=false)∧PyData.showableAll ds=true∧PyData.depthAll ds≤dep∧piled (PyData.shownAll ds)≤ds.length*n∧∀t∈PyData.shownAll ds,PyData.strOk t=true
  | [],_=>⟨by cases b<;>rfl,rfl,by simp [PyData.depthAll],by simp [PyData.shownAll,piled],by simp [PyData.shownAll]⟩
  | d::r,h=>by
    obtain⟨a1,a2,a3,a4,a5⟩:=h d (by simp)
    obtain⟨b1,b2,b3,b4,b5⟩:=Sw.all (ds:=r) fun x hx=>h x (by simp [hx])
    refine⟨?_,?_,?_,?_,?_⟩
    · cases b
      · simp only [cond_false] at a1 b1 ⊢;simp only [PyData.hasDictAll,a1,b1,Bool.or_self]
      · simp only [cond_true] at a1 b1 ⊢;simp only [dm,a1,b1,Bool.and_self]
    · simp only [PyData.showableAll,a2,b2,Bool.and_self]
    · simp only [PyData.depthAll];lia
    · simp only [PyData.shownAll,fF,List.length_cons,Nat.succ_mul];lia
    · intro t ht
      simp only [PyData.shownAll,List.mem_cons] at ht
      rcases ht with rfl | ht
      · exact a5
      · exact b5 t ht
theorem Sw.tup{b:Bool}{n dep m:Nat}{ds:List PyData}(h:∀d∈ds,Sw b n dep d)(hl:ds.length≤m):Sw b (m*n+5) (dep+1) (.tuple ds):=by
  obtain⟨b1,b2,b3,b4,b5⟩:=Sw.all h
  refine⟨by cases b<;>simpa [ee,PyData.hasDict] using b1,b2,by simp only [PyData.depth];lia,?_,by simp only [PyData.shown];exact mh b5⟩
  have h2:=jq (PyData.shownAll ds)
  have:=Nat.mul_le_mul_right n hl
  simp only [PyData.shown]
  lia
theorem Sw.lst{n dep m:Nat}{ds:List PyData}(h:∀d∈ds,Sw false n dep d)(hl:ds.length≤m):Sw false (m*n+5) (dep+1) (.list ds):=by
  obtain⟨b1,b2,b3,b4,b5⟩:=Sw.all h
  refine⟨by simpa [PyData.hasDict] using b1,b2,by simp only [PyData.depth];lia,?_,by simp only [PyData.shown];exact me b5⟩
  have h2:=nZ (PyData.shownAll ds)
  have:=Nat.mul_le_mul_right n hl
  simp only [PyData.shown]
  lia
theorem Sw.ok{b:Bool}{n dep:Nat}{d:PyData}(h:Sw b n dep d)(h1:n≤16777216)(h2:dep≤60):iW d=true:=by
  have sl:sizeLine=16777216:=sizeLine_eq
  have hd:(!d.hasDict || ee d)=true:=by
    have:=h.dl
    cases b
    · simp only [cond_false] at this;simp [this]
    · simp only [cond_true] at this;simp [this]
  have:=h.ln
  unfold iW
  rw [hd,h.sh,decide_eq_true (Nat.le_trans h.dp h2),decide_eq_true (show d.shown.length≤sizeLine by rw [sl];lia)]
  simp
theorem Sw.repr{b:Bool}{n dep:Nat}{d:PyData}(h:Sw b n dep d)(h1:n≤16777216)(h2:dep≤60)(e:En):g1 jC e [.d d]=some (.d (.str d.shown)):=vZ (h.ok h1 h2)
theorem Sw.int{b:Bool}{i:Int}(h:i.natAbs < 2 ^ 128):Sw b 200 0 (.int i):=((j4 (k:=0) (d:=.int i) (by simp only [si,decide_eq_true_eq];exact h)).swF rfl b).mono (by simp [wt]) (by decide)
theorem Sw.ints{b:Bool}{ns:List Int}{m:Nat}(h:∀r∈ns,r.natAbs < 2 ^ 128)(hl:ns.length≤m):Sw b (m*200+5) 1 (.tuple (ns.map .int)):=Sw.tup (n:=200) (dep:=0) (fun d hd=>by
  obtain⟨x,hx,rfl⟩:=List.mem_map.mp hd
  exact Sw.int (h x hx)) (by rw [List.length_map];exact hl)
theorem Sw.bool{b c:Bool}:Sw b 200 0 (.bool c):=((j4 (k:=0) (d:=.bool c) rfl).swF rfl b).mono (by simp [wt]) (by decide)
end L2
namespace V58
open PySem PySem.Spec PyProof.Rows L2
variable{P:Program}{w:World}{K:W.Frag}{mg:Str→Option Value}{base:Heap}{f:Addr}{fd:FuncData}
local macro_rules|`(tactic|trivial)=>`(tactic|first|exact .inl rfl|exact .inr rfl|assumption)
local macro_rules|`(¬$n:num)=>`(@qw _ _ $n _ _ (by rfl) (by rfl) (by decide))
local macro_rules|`($a∘$b)=>`(@Dt _ _ _ _ _ _ $a $b (by rfl))
def top(i:Nat):Stmt:=PySem.Challenge.pw_askedpairs_k58_charges_right_and_bent.main.body.getD i (.Pass ⟨0,0,0,0⟩)
theorem x_{α:Type u}{β:Type v}{f:α→β}:List.map f []=[]:=rfl
theorem x9{α:Type u}{β:Type v}{f:α→β}{a:α}{l:List α}:List.map f (a::l)=f a::List.map f l:=rfl
theorem x4{α:Type u}{l:List α}:[]++l=l:=rfl
theorem xZ{α:Type u}{a:α}{l m:List α}:(a::l)++m=a::(l++m):=rfl
theorem x6{α:Type u}{a:α}{l:List α}:(a::l)[0]?=some a:=rfl
theorem x8{α:Type u}{a:α}{l:List α}{i:Nat}:(a::l)[i+1]?=l[i]?:=rfl
theorem x5{α:Type u}{β:Type v}{a:α}{f:α→Option β}:Option.bind (some a) f=f a:=rfl
theorem ya{α:Type u}{β:Type v}{a:α}{f:α→β}:Option.map f (some a)=some (f a):=rfl
abbrev dt:Stmt:=top 1
abbrev du:Stmt:=top 2
abbrev dw:Stmt:=top 4
abbrev bu:Stmt:=top 6
abbrev bG:Stmt:=top 7
abbrev gU:Stmt:=top 9
abbrev iQ:Stmt:=top 10
abbrev fJ:Stmt:=top 11
abbrev oF:Stmt:=top 12
abbrev oG:Stmt:=top 13
abbrev kO:Stmt:=top 14
abbrev gw:Stmt:=top 15
abbrev iS:Stmt:=top 16
abbrev kP:Stmt:=top 17
abbrev oI:Stmt:=top 18
abbrev oH:Stmt:=top 19
abbrev kN:Stmt:=top 20
abbrev e_:Stmt:=top 21
abbrev kM:Stmt:=top 22
abbrev gS:Stmt:=top 23
abbrev eZ:Stmt:=top 24
abbrev ff:Stmt:=top 25
abbrev l5:Stmt:=top 26
abbrev jo:Stmt:=top 27
abbrev e6:Stmt:=top 28
abbrev iR:Stmt:=top 29
abbrev jE:Stmt:=top 30
structure i8 (mg:Str→Option Value):Prop where
  b_abs:mg "abs"=none
  b_len:mg "len"=none
  b_min:mg "min"=none
  b_max:mg "max"=none
  b_range:mg "range"=none
  b_repr:mg "repr"=none
  b_tuple:mg "tuple"=none
  b_int:mg "int"=none
  b_sorted:mg "sorted"=none
  b_zip:mg "zip"=none
  b_enumerate:mg "enumerate"=none
  b_isinstance:mg "isinstance"=none
  b_bool:mg "bool"=none
  b_sum:mg "sum"=none
  b_any:mg "any"=none
  b_all:mg "all"=none
  b_list:mg "list"=none
noncomputable def jv:FS:=(bx (iZ (oZ (jK "int") (ag 0)) (oX (oZ (jK "bool") (ag 0)))))
noncomputable def dk:FM:=hZ 1 0 [] jv
theorem iT:aJ ["thing"] ["thing"] (ao dt):=⟨rfl,rfl,rfl,by decide+kernel,rfl,by decide+kernel,by decide+kernel⟩
theorem mT(h:bz K mg "is_number" dt f fd ["thing"])(T:i8 mg):aP P w K mg base bY 1 f fd ["thing"] (cj K 1 dk):=by
  have nd:=iT.nd
  exact h.fn iT rfl rfl (fun cdv A outer s H E hr=>(@am _ _ _ _ _ (@aF _ _ _ _ _ (@kB _ _ _ _ _ _ _ _ (@lZ _ _ _ _ _ _ _ _ "int" rfl (by decide) rfl T.b_isinstance rfl T.b_int PyProof.Rows.boot_int (by decide) (by decide) (¬0) (by rfl) (by rfl)) (@jn _ _ _ _ _ _ (@z0 _ _ _ _ _ (@lZ _ _ _ _ _ _ _ _ "bool" rfl (by decide) rfl T.b_isinstance rfl T.b_bool PyProof.Rows.boot_bool (by decide) (by decide) (¬0) (by rfl) (by rfl))))))))
noncomputable def fX:FS:=(bx (iZ (oZ (jK "tuple") (ag 0)) (au (cD false) (aL (g1 eE) (ac (ag 0) aj)) (ag 1))))
noncomputable def cA:FM:=hZ 2 0 [] fX
theorem iU:aJ ["thing","many"] ["thing","many"] (ao du):=⟨rfl,rfl,rfl,by decide+kernel,rfl,by decide+kernel,by decide+kernel⟩
theorem mU(h:bz K mg "is_row_of" du f fd ["thing","many"])(T:i8 mg):aP P w K mg base bY 1 f fd ["thing","many"] (cj K 2 cA):=by
  have nd:=iU.nd
  exact h.fn iU rfl rfl (fun cdv A outer s H E hr=>(@am _ _ _ _ _ (@aF _ _ _ _ _ (@kB _ _ _ _ _ _ _ _ (@lZ _ _ _ _ _ _ _ _ "tuple" rfl (by decide) rfl T.b_isinstance rfl T.b_tuple PyProof.Rows.boot_tuple (by decide) (by decide) (¬0) (by rfl) (by rfl)) (@jn _ _ _ _ _ _ (@ef _ _ _ _ _ _ _ _ _ (@my _ _ _ rfl hr) (@aV _ _ _ _ _ _ _ _ _ (@b_len _ _ rfl) (by rfl) T.b_len ((¬0)∘ae) (by decide) (by decide) (by rfl) (by rfl)) (¬1) (aZ _)))))))
noncomputable def jw:FS:=(bx (ls (au cg (au cg (ag 0) (vC (.int 1))) (ag 1)) cK (cC (vC (.int 2)))))
noncomputable def cB:FM:=hZ 2 0 [] jw
theorem iV:aJ ["web","tie"] ["web","tie"] (ao dw):=⟨rfl,rfl,rfl,by decide+kernel,rfl,by decide+kernel,by decide+kernel⟩
theorem mV(h:bz K mg "things_of" dw f fd ["web","tie"])(T:i8 mg):aP P w K mg base bY 1 f fd ["web","tie"] (cj K 2 cB):=by
  have nd:=iV.nd
  exact h.fn iV rfl rfl (fun cdv A outer s H E hr=>(@am _ _ _ _ _ (@aF _ _ _ _ _ (@bJ _ _ _ _ _ _ _ _ _ _ rfl (@ba _ _ _ _ _ _ _ rfl (@ba _ _ _ _ _ _ _ rfl (¬0) af (fun _ _=>rfl)) (¬1) (fun _ _=>rfl)) (@bK _ _) (@bL _ _ _ _ af)))))
noncomputable def ed:FI:=(hU (cy 2 cB (ac (ag 0) (ac (ag 1) aj))))
noncomputable def bv:FE:=(au (k9 false) (ag 2) (cy 2 cB (ac (ag 0) (ac (ag 1) aj))))
noncomputable def cW:FS:=(aH (iP (gC (aQ (aL (g1 (cI lL)) (ac (dJ [(0,"web"),(2,"other")] 1 ed (aq 2) dy bv) aj))))
    (bx (vC (.bool false)))
    dQ)
    (bx (au yK (au cg (au cg (au cg (ag 0) (vC (.int 1))) (ag 1)) (vC (.int 3))) (au cg (au cg (au cg (ag 0) (vC (.int 1))) (ag 2)) (vC (.int 3))))))
noncomputable def bt:FM:=hZ 3 0 (([]++[])++[]) cW
theorem eA:aJ ["web","tie","other"] ["web","tie","other"] (ao bu):=⟨rfl,rfl,rfl,by decide+kernel,rfl,by decide+kernel,by decide+kernel⟩
theorem iK(h:bz K mg "may_be_charged" bu f fd ["web","tie","other"])(T:i8 mg){f_things_of:Addr}{e_things_of:FuncData}(h_things_of:bz K mg "things_of" dw f_things_of e_things_of ["web","tie"])(G_things_of:aP P w K mg base bY 1 f_things_of e_things_of ["web","tie"] (cj K 2 cB)):aP P w K mg base bY 2 f fd ["web","tie","other"] (cj K 3 bt):=by
  have nd:=eA.nd
  exact h.fn eA rfl rfl (fun cdv A outer s H E hr=>(@ah _ _ _ _ _ _ _ _ (@cM _ _ _ _ _ _ _ _ _ _ _ (@eG _ _ _ _ _ (@cN _ _ _ _ (@aV _ _ _ _ _ _ _ _ _ (@b_any _ _ _ rfl hr) (by rfl) T.b_any ((@mZ _ _ _ _ _ _ _ _ _ _ _ _ _ (ao bu) ["web","tie","other"] [(0,"web"),(2,"other")] ["thing"] rfl rfl rfl (@fH _ _ _ _ _ rfl (@a7 _ _ _ _ _ _ _ _ _ _ _ _ _ _ _ h_things_of G_things_of (hr.mono (by decide)) ((¬0)∘((¬1)∘ae)) (by rfl) (by decide) (by rfl) (by rfl)))
        (fun C s0 H0 fp=>(@aX _ _ _ 2 _ (show List.Nodup (["web","other","thing"]:List Str) by decide+kernel) rfl (Or.inl rfl) (by trivial))) (fun C s0 H0 fp=>(@iN _ _))
        (fun C s0 H0 fp=>(@ef _ _ _ _ _ _ _ _ _ (@vJ _ _ _ rfl hr) (¬2) (@a7 _ _ _ _ _ _ _ _ _ _ _ _ _ _ _ h_things_of G_things_of (hr.mono (by decide)) ((¬0)∘((¬1)∘ae)) (by rfl) (by decide) (by rfl) (by rfl)) (by with_unfolding_all rfl))) rfl (by decide+kernel) (by decide+kernel) (by decide+kernel) (by decide+kernel) (by decide+kernel) (by decide+kernel) (by decide+kernel) (by intro _;rfl))∘ae) (by decide) (by decide) (by rfl) (by rfl)) (by intro _;rfl)))
      (@am _ _ _ _ _ (@aF _ _ _ _ _ (@cv _ _ _ _ _)))
      (@bh _ _))
      (@am _ _ _ _ _ (@aF _ _ _ _ _ (@ef _ _ _ _ _ _ _ _ _ (@yC _ _) (@ba _ _ _ _ _ _ _ rfl (@ba _ _ _ _ _ _ _ rfl (@ba _ _ _ _ _ _ _ rfl (¬0) af (fun _ _=>rfl)) (¬1) (fun _ _=>rfl)) af (fun _ _=>rfl)) (@ba _ _ _ _ _ _ _ rfl (@ba _ _ _ _ _ _ _ rfl (@ba _ _ _ _ _ _ _ rfl (¬0) af (fun _ _=>rfl)) (¬2) (fun _ _=>rfl)) af (fun _ _=>rfl)) (aZ _))))))
noncomputable def cY:FI:=(lT (ac (ag 3) (ac (ag 2) aj)))
noncomputable def a9:FE:=(iZ (cy 1 dk (ac (ag 2) aj)) (iZ (au (k9 false) (ag 2) (ag 0)) (cy 3 bt (ac (ag 1) (ac (ag 2) (ac (ag 3) aj))))))
noncomputable def d9:FS:=(aH (iP (gC (aQ (cy 2 cA (ac (ag 3) (ac (aL (g1 eE) (ac (ag 2) aj)) aj)))))
    (bx (vC (.bool false)))
    dQ)
    (bx (aL (g1 (cI nM)) (ac (dJ [(1,"kept"),(0,"web")] 2 cY (er (be (aq 2) (be (aq 3) dI))) dy a9) aj))))
noncomputable def aR:FM:=hZ 4 0 (([]++[])++[]) d9
theorem fN:aJ ["web","kept","other","thing"] ["web","kept","other","thing"] (ao bG):=⟨rfl,rfl,rfl,by decide+kernel,rfl,by decide+kernel,by decide+kernel⟩
theorem jM(h:bz K mg "charges_hold" bG f fd ["web","kept","other","thing"])(T:i8 mg){f_is_row_of:Addr}{e_is_row_of:FuncData}(h_is_row_of:bz K mg "is_row_of" du f_is_row_of e_is_row_of ["thing","many"])(G_is_row_of:aP P w K mg base bY 1 f_is_row_of e_is_row_of ["thing","many"] (cj K 2 cA)){f_is_number:Addr}{e_is_number:FuncData}(h_is_number:bz K mg "is_number" dt f_is_number e_is_number ["thing"])(G_is_number:aP P w K mg base bY 1 f_is_number e_is_number ["thing"] (cj K 1 dk)){f_may_be_charged:Addr}{e_may_be_charged:FuncData}(h_may_be_charged:bz K mg "may_be_charged" bu f_may_be_charged e_may_be_charged ["web","tie","other"])(G_may_be_charged:aP P w K mg base bY 2 f_may_be_charged e_may_be_charged ["web","tie","other"] (cj K 3 bt)):aP P w K mg base bY 3 f fd ["web","kept","other","thing"] (cj K 4 aR):=by
  have nd:=fN.nd
  exact h.fn fN rfl rfl (fun cdv A outer s H E hr=>(@ah _ _ _ _ _ _ _ _ (@cM _ _ _ _ _ _ _ _ _ _ _ (@eG _ _ _ _ _ (@cN _ _ _ _ (@a7 _ _ _ _ _ _ _ _ _ _ _ _ _ _ _ h_is_row_of G_is_row_of (hr.mono (by decide)) ((¬3)∘((@aV _ _ _ _ _ _ _ _ _ (@b_len _ _ rfl) (by rfl) T.b_len ((¬2)∘ae) (by decide) (by decide) (by rfl) (by rfl))∘ae)) (by rfl) (by decide) (by rfl) (by rfl)) (by intro _;rfl)))
      (@am _ _ _ _ _ (@aF _ _ _ _ _ (@cv _ _ _ _ _)))
      (@bh _ _))
      (@am _ _ _ _ _ (@aF _ _ _ _ _ (@aV _ _ _ _ _ _ _ _ _ (@b_all _ _ _ rfl hr) (by rfl) T.b_all ((@mZ _ _ _ _ _ _ _ _ _ _ _ _ _ (ao bG) ["web","kept","other","thing"] [(1,"kept"),(0,"web")] ["charge","tie"] rfl rfl rfl (@uT _ _ _ _ _ _ _ _ _ _ rfl rfl T.b_zip ((¬3)∘((¬2)∘ae)) (by rfl) (by rfl))
        (fun C s0 H0 fp=>(@m5 _ _ _ _ _ _ _ _ rfl rfl (@dq _ _ _ _ _ _ _ _ (@aX _ _ _ 2 _ (show List.Nodup (["kept","web","charge","tie"]:List Str) by decide+kernel) rfl (Or.inl rfl) (by trivial)) (@dq _ _ _ _ _ _ _ _ (@aX _ _ _ 3 _ (show List.Nodup (["kept","web","charge","tie"]:List Str) by decide+kernel) rfl (Or.inl rfl) (by trivial)) (@jV _ _) (by rfl)) (by rfl)) (en (en mM)) (by rfl) (by rfl))) (fun C s0 H0 fp=>(@iN _ _))
        (fun C s0 H0 fp=>(@kB _ _ _ _ _ _ _ _ (@a7 _ _ _ _ _ _ _ _ _ _ _ _ _ _ _ h_is_number G_is_number (hr.mono (by decide)) ((¬2)∘ae) (by rfl) (by decide) (by rfl) (by rfl)) (@kB _ _ _ _ _ _ _ _ (@ef _ _ _ _ _ _ _ _ _ (@vJ _ _ _ rfl hr) (¬2) (¬0) (by with_unfolding_all rfl)) (@jn _ _ _ _ _ _ (@a7 _ _ _ _ _ _ _ _ _ _ _ _ _ _ _ h_may_be_charged G_may_be_charged (hr.mono (by decide)) ((¬1)∘((¬2)∘((¬3)∘ae))) (by rfl) (by decide) (by rfl) (by rfl)))))) rfl (by decide+kernel) (by decide+kernel) (by decide+kernel) (by decide+kernel) (by decide+kernel) (by decide+kernel) (by decide+kernel) (by intro _;rfl))∘ae) (by decide) (by decide) (by rfl) (by rfl))))))
noncomputable def qk:FS:=(aH (a8 2 (au aN (au a' (au a' (au eF (au aN (ag 0) (vC (.int 2147483647))) (vC (.int 48271))) (au eF (au eF (vC (.int 7919)) (ag 1)) (ag 1))) (vC (.int 104729))) (vC (.int 2147483647))))
    (bx (au aN (au eF (ag 2) (ag 2)) (vC (.int 2147483629)))))
noncomputable def eu:FM:=hZ 2 1 ([2]++[]) qk
theorem oM:aJ ["_law_cell","_law_k","_law_number"] ["_law_cell","_law_k"] (ao gU):=⟨rfl,rfl,rfl,by decide+kernel,rfl,by decide+kernel,by decide+kernel⟩
theorem uk(h:bz K mg "_law_mixed" gU f fd ["_law_cell","_law_k"])(T:i8 mg):aP P w K mg base bY 1 f fd ["_law_cell","_law_k"] (cj K 2 eu):=by
  have nd:=oM.nd
  exact h.fn oM rfl rfl (fun cdv A outer s H E hr=>(@ah _ _ _ _ _ _ _ _ (@aC _ _ _ _ _ 2 _ _ nd rfl (Or.inl rfl) (@aO _ _ _ _ _ _ _ (@aU _ _ _ _ _ _ _ rfl (@aU _ _ _ _ _ _ _ rfl (@iM _ _ _ _ _ _ _ rfl (@aO _ _ _ _ _ _ _ (¬0) af) af) (@iM _ _ _ _ _ _ _ rfl (@iM _ _ _ _ _ _ _ rfl af (¬1)) (¬1))) af) af) (by rfl) (by trivial))
      (@am _ _ _ _ _ (@aF _ _ _ _ _ (@aO _ _ _ _ _ _ _ (@iM _ _ _ _ _ _ _ rfl (¬2) (¬2)) af)))))
noncomputable def dU:FT:=(lr (aQ (au yK (ag 3) (au mL (vC (.int 10)) (vC (.int 18))))) (aQ (au tN (aL (g1 eE) (ac (ag 1) aj)) (vC (.int 900)))))
noncomputable def gD:FS:=(aH (gv (dz b_ (ag 1) (ac (au aN (ag 3) (vC (.int 2147483629))) aj)))
    (a8 3 (au bD (ag 3) (vC (.int 2147483629)))))
noncomputable def gM:FI:=(dc (ac (vC (.int 12)) aj))
noncomputable def eP:FS:=(gv (dz b_ (ag 1) (ac (cy 2 eu (ac (cy 2 eu (ac (ag 3) (ac (au a' (au eF (vC (.int 3)) (ag 4)) (vC (.int 1))) aj))) (ac (au a' (au a' (ag 4) (ag 2)) (vC (.int 2))) aj))) aj)))
noncomputable def je:FI:=(dc (ac (aL (g2 tO) (ac (aL (g1 eE) (ac (ag 0) aj)) (ac (vC (.int 63)) aj))) aj))
noncomputable def dR:FS:=(aH (a8 3 (aL (g1 rp) (ac (au cg (ag 0) (ag 2)) aj)))
    (aH (iP (aQ (au tN (ag 3) (au mL (vC (.int 10)) (vC (.int 18)))))
    (cR ([4]++[]) gM (aq 4) eP)
    dQ)
    (aH (ic (2 ^ 4200) dU gD)
    (iP (aQ (au yK (ag 3) (vC (.int 2147483629))))
    (gv (dz b_ (ag 1) (ac (au aN (ag 3) (vC (.int 2147483629))) aj)))
    dQ))))
noncomputable def qj:FS:=(aH (a8 1 (bV aj))
    (aH (cR ([2]++([3]++((([4]++[])++[])++(([]++[3])++([]++[]))))) je (aq 2) dR)
    (bx (ag 1))))
noncomputable def iI:FM:=hZ 1 4 ([1]++(([2]++([3]++((([4]++[])++[])++(([]++[3])++([]++[])))))++[])) qj
theorem oK:aJ ["_law_script","_law_drawn","_law_k","_law_cell","_law_j"] ["_law_script"] (ao iQ):=⟨rfl,rfl,rfl,by decide+kernel,rfl,by decide+kernel,by decide+kernel⟩
theorem uj(h:bz K mg "_law_draws" iQ f fd ["_law_script"])(T:i8 mg){fLmixed:Addr}{eLmixed:FuncData}(hLmixed:bz K mg "_law_mixed" gU fLmixed eLmixed ["_law_cell","_law_k"])(GLmixed:aP P w K mg base bY 1 fLmixed eLmixed ["_law_cell","_law_k"] (cj K 2 eu)):aP P w K mg base bY 2 f fd ["_law_script"] (cj K 1 iI):=by
  have nd:=oK.nd
  exact h.fn oK rfl rfl (fun cdv A outer s H E hr=>(@ah _ _ _ _ _ _ _ _ (@aC _ _ _ _ _ 1 _ _ nd rfl (Or.inl rfl) (@aS _ _ _ _ _ ae) (by rfl) (by trivial))
      (@ah _ _ _ _ _ _ _ _ (@dD _ _ _ _ _ _ _ _ _ _ _ PassesOwn.never rfl (@dZ _ _ _ _ _ _ _ rfl T.b_range ((@aV _ _ _ _ _ _ _ _ _ (@b_min _ _ rfl) (by rfl) T.b_min ((@aV _ _ _ _ _ _ _ _ _ (@b_len _ _ rfl) (by rfl) T.b_len ((¬0)∘ae) (by decide) (by decide) (by rfl) (by rfl))∘(af∘ae)) (by decide) (by decide) (by rfl) (by rfl))∘ae) (by rfl)) (@aX _ _ _ 2 _ nd rfl (Or.inl rfl) (by trivial))
      (@ah _ _ _ _ _ _ _ _ (@aC _ _ _ _ _ 3 _ _ nd rfl (Or.inl rfl) (@aV _ _ _ _ _ _ _ _ _ (@b_abs _ _) (by rfl) T.b_abs ((@ba _ _ _ _ _ _ _ rfl (¬0) (¬2) (fun _ _=>rfl))∘ae) (by decide) (by decide) (by rfl) (by rfl)) (by rfl) (by trivial))
      (@ah _ _ _ _ _ _ _ _ (@cM _ _ _ _ _ _ _ _ _ _ _ (@bE _ _ _ _ _ _ _ _ _ (@sN _ _) (¬3) (@uP _ _ _ _ _ _ _ af af) (aZ _))
      (@am _ _ _ _ _ (@dD _ _ _ _ _ _ _ _ _ _ _ PassesOwn.never rfl (@dZ _ _ _ _ _ _ _ rfl T.b_range (af∘ae) (by rfl)) (@aX _ _ _ 4 _ nd rfl (Or.inl rfl) (by trivial))
      (@am _ _ _ _ _ (@ez _ _ _ _ _ (@dn _ _ _ _ _ _ _ _ _ rfl (¬1) ((@a7 _ _ _ _ _ _ _ _ _ _ _ _ _ _ _ hLmixed GLmixed (hr.mono (by decide)) ((@a7 _ _ _ _ _ _ _ _ _ _ _ _ _ _ _ hLmixed GLmixed (hr.mono (by decide)) ((¬3)∘((@aU _ _ _ _ _ _ _ rfl (@iM _ _ _ _ _ _ _ rfl af (¬4)) af)∘ae)) (by rfl) (by decide) (by rfl) (by rfl))∘((@aU _ _ _ _ _ _ _ rfl (@aU _ _ _ _ _ _ _ rfl (¬4) (¬2)) af)∘ae)) (by rfl) (by decide) (by rfl) (by rfl))∘ae) (by rfl) (by rfl) (by rfl) (by rfl) (by rfl)) (by rfl))) (by intro _;rfl)))
      (@bh _ _))
      (@ah _ _ _ _ _ _ _ _ (@kD _ _ _ _ _ _ _ _ _ PassesOwn.never (@oB _ _ _ _ (@kG _ _ _ _ _ _ _ _ (@bE _ _ _ _ _ _ _ _ _ (@yC _ _) (¬3) (@uP _ _ _ _ _ _ _ af af) (aZ _)) (@jW _ _ _ _ _ (@bE _ _ _ _ _ _ _ _ _ (@sN _ _) (@aV _ _ _ _ _ _ _ _ _ (@b_len _ _ rfl) (by rfl) T.b_len ((¬1)∘ae) (by decide) (by decide) (by rfl) (by rfl)) af (aZ _)))))
      (@ah _ _ _ _ _ _ _ _ (@ez _ _ _ _ _ (@dn _ _ _ _ _ _ _ _ _ rfl (¬1) ((@aO _ _ _ _ _ _ _ (¬3) af)∘ae) (by rfl) (by rfl) (by rfl) (by rfl) (by rfl)) (by rfl))
      (@am _ _ _ _ _ (@aC _ _ _ _ _ 3 _ _ nd rfl (Or.inl rfl) (@cL _ _ _ _ _ _ _ (¬3) af) (by rfl) (by trivial)))))
      (@am _ _ _ _ _ (@cM _ _ _ _ _ _ _ _ _ _ _ (@bE _ _ _ _ _ _ _ _ _ (@yC _ _) (¬3) af (aZ _))
      (@am _ _ _ _ _ (@ez _ _ _ _ _ (@dn _ _ _ _ _ _ _ _ _ rfl (¬1) ((@aO _ _ _ _ _ _ _ (¬3) af)∘ae) (by rfl) (by rfl) (by rfl) (by rfl) (by rfl)) (by rfl)))
      (@bh _ _)))))) (by intro _;rfl))
      (@am _ _ _ _ _ (@aF _ _ _ _ _ (¬1))))))
noncomputable def ph:FS:=(aH (iP (aQ (au (cD false) (ag 0) (bV aj)))
    (bx (vC (.int 0)))
    dQ)
    (bx (dz h_ (ag 0) (ac (vC (.int 0)) aj))))
noncomputable def a_:FM:=hZ 1 0 (([]++[])++[]) ph
theorem qO:aJ ["_law_drawn"] ["_law_drawn"] (ao fJ):=⟨rfl,rfl,rfl,by decide+kernel,rfl,by decide+kernel,by decide+kernel⟩
theorem wu(h:bz K mg "_law_next" fJ f fd ["_law_drawn"])(T:i8 mg):aP P w K mg base bY 1 f fd ["_law_drawn"] (cj K 1 a_):=by
  have nd:=qO.nd
  exact h.fn qO rfl rfl (fun cdv A outer s H E hr=>(@ah _ _ _ _ _ _ _ _ (@cM _ _ _ _ _ _ _ _ _ _ _ (@bE _ _ _ _ _ _ _ _ _ (@my _ _ _ rfl hr) (¬0) (@aS _ _ _ _ _ ae) (aZ _))
      (@am _ _ _ _ _ (@aF _ _ _ _ _ af))
      (@bh _ _))
      (@am _ _ _ _ _ (@aF _ _ _ _ _ (@qJ _ _ _ _ _ _ _ _ _ rfl (¬0) (af∘ae) (by rfl) (by rfl) (by rfl) (by rfl) (by rfl))))))
noncomputable def iu:FT:=(aQ (au (cD true) (ag 1) (vC (.int 0))))
noncomputable def jO:FS:=(vd 0 1 (ac (ag 1) (ac (au aN (ag 0) (ag 1)) aj)))
noncomputable def xP:FS:=(aH (ic (2 ^ 4200) iu jO)
    (bx (aL (g1 rp) (ac (ag 0) aj))))
noncomputable def n_:FM:=hZ 2 0 ([0,1]++[]) xP
theorem ve:aJ ["_law_one","_law_other"] ["_law_one","_law_other"] (ao oF):=⟨rfl,rfl,rfl,by decide+kernel,rfl,by decide+kernel,by decide+kernel⟩
theorem ze(h:bz K mg "_law_gcd" oF f fd ["_law_one","_law_other"])(T:i8 mg):aP P w K mg base bY 1 f fd ["_law_one","_law_other"] (cj K 2 n_):=by
  have nd:=ve.nd
  exact h.fn ve rfl rfl (fun cdv A outer s H E hr=>(@ah _ _ _ _ _ _ _ _ (@kD _ _ _ _ _ _ _ _ _ PassesOwn.never (@bE _ _ _ _ _ _ _ _ _ (@vL _ _ _ rfl hr) (¬1) af (aZ _))
      (@am _ _ _ _ _ (@z9 _ _ _ _ _ 0 1 _ _ _ _ _ _ _ _ _ rfl nd rfl rfl (by decide) rfl rfl ((¬1)∘((@aO _ _ _ _ _ _ _ (¬0) (¬1))∘ae)) (by rfl) (by rfl))))
      (@am _ _ _ _ _ (@aF _ _ _ _ _ (@aV _ _ _ _ _ _ _ _ _ (@b_abs _ _) (by rfl) T.b_abs ((¬0)∘ae) (by decide) (by decide) (by rfl) (by rfl))))))
noncomputable def xQ:FS:=(aH (a8 2 (cy 2 n_ (ac (ag 0) (ac (ag 1) aj))))
    (bx (aW (ac (au bD (ag 0) (ag 2)) (ac (au bD (ag 1) (ag 2)) aj)))))
noncomputable def lW:FM:=hZ 2 1 ([2]++[]) xQ
theorem vf:aJ ["_law_top","_law_bottom","_law_common"] ["_law_top","_law_bottom"] (ao oG):=⟨rfl,rfl,rfl,by decide+kernel,rfl,by decide+kernel,by decide+kernel⟩
theorem zg(h:bz K mg "_law_low" oG f fd ["_law_top","_law_bottom"])(T:i8 mg){fLgcd:Addr}{eLgcd:FuncData}(hLgcd:bz K mg "_law_gcd" oF fLgcd eLgcd ["_law_one","_law_other"])(GLgcd:aP P w K mg base bY 1 fLgcd eLgcd ["_law_one","_law_other"] (cj K 2 n_)):aP P w K mg base bY 2 f fd ["_law_top","_law_bottom"] (cj K 2 lW):=by
  have nd:=vf.nd
  exact h.fn vf rfl rfl (fun cdv A outer s H E hr=>(@ah _ _ _ _ _ _ _ _ (@aC _ _ _ _ _ 2 _ _ nd rfl (Or.inl rfl) (@a7 _ _ _ _ _ _ _ _ _ _ _ _ _ _ _ hLgcd GLgcd (hr.mono (by decide)) ((¬0)∘((¬1)∘ae)) (by rfl) (by decide) (by rfl) (by rfl)) (by rfl) (by trivial))
      (@am _ _ _ _ _ (@aF _ _ _ _ _ (@av _ _ _ _ _ _ ((@cL _ _ _ _ _ _ _ (¬0) (¬2))∘((@cL _ _ _ _ _ _ _ (¬1) (¬2))∘ae)))))))
noncomputable def sG:FS:=(aH (iP (aQ (ag 1))
    (bx (au yd (ag 0) (vC (.bool true))))
    dQ)
    (bx (au yd (ag 0) (vC (.bool false)))))
noncomputable def hX:FM:=hZ 2 0 (([]++[])++[]) sG
theorem qP:aJ ["_law_found","_law_due"] ["_law_found","_law_due"] (ao kO):=⟨rfl,rfl,rfl,by decide+kernel,rfl,by decide+kernel,by decide+kernel⟩
theorem ww(h:bz K mg "_law_says" kO f fd ["_law_found","_law_due"])(T:i8 mg):aP P w K mg base bY 1 f fd ["_law_found","_law_due"] (cj K 2 hX):=by
  have nd:=qP.nd
  exact h.fn qP rfl rfl (fun cdv A outer s H E hr=>(@ah _ _ _ _ _ _ _ _ (@cM _ _ _ _ _ _ _ _ _ _ _ (@cN _ _ _ _ (¬1) (by intro _;rfl))
      (@am _ _ _ _ _ (@aF _ _ _ _ _ (@ef _ _ _ _ _ _ _ _ _ (@vK _ _) (¬0) (@cv _ _ _ _ _) (aZ _))))
      (@bh _ _))
      (@am _ _ _ _ _ (@aF _ _ _ _ _ (@ef _ _ _ _ _ _ _ _ _ (@vK _ _) (¬0) (@cv _ _ _ _ _) (aZ _))))))
noncomputable def fV:FS:=(aH (iP (aQ (au (cD false) (ag 1) (vC (.int 0))))
    (bx (au cg (bV (ac (aW (ac (vC (.int 1)) (ac (vC (.int 2)) aj))) (ac (aW (ac (vC (.int 1)) (ac (vC (.int 3)) aj))) (ac (aW (ac (vC (.int 2)) (ac (vC (.int 3)) aj))) (ac (aW (ac (vC (.int 1)) (ac (vC (.int 1)) aj))) (ac (aW (ac (vC (.int 0)) (ac (vC (.int 1)) aj))) (ac (aW (ac (vC (.int 3)) (ac (vC (.int 4)) aj))) aj))))))) (au aN (ag 0) (vC (.int 6)))))
    dQ)
    (aH (iP (aQ (au (cD false) (ag 1) (vC (.int 1))))
    (aH (a8 2 (au a' (vC (.int 2)) (au aN (ag 0) (vC (.int 9)))))
    (bx (cy 2 lW (ac (au a' (vC (.int 1)) (au aN (au bD (ag 0) (vC (.int 9))) (au f_ (ag 2) (vC (.int 1))))) (ac (ag 2) aj)))))
    dQ)
    (aH (iP (aQ (au (cD false) (ag 1) (vC (.int 2))))
    (aH (a8 2 (au a' (vC (.int 1)) (au aN (ag 0) (vC (.int 100)))))
    (bx (cy 2 lW (ac (au aN (au bD (ag 0) (vC (.int 100))) (au a' (ag 2) (vC (.int 1)))) (ac (ag 2) aj)))))
    dQ)
    (bx (aW (ac (vC (.int 1)) (ac (vC (.int 1)) aj)))))))
noncomputable def dj:FM:=hZ 2 1 (([]++[])++((([2]++[])++[])++((([2]++[])++[])++[]))) fV
theorem l6:aJ ["_law_number","_law_kind","_law_bottom"] ["_law_number","_law_kind"] (ao gw):=⟨rfl,rfl,rfl,by decide+kernel,rfl,by decide+kernel,by decide+kernel⟩
theorem rJ(h:bz K mg "_law_chance" gw f fd ["_law_number","_law_kind"])(T:i8 mg){fLlow:Addr}{eLlow:FuncData}(hLlow:bz K mg "_law_low" oG fLlow eLlow ["_law_top","_law_bottom"])(GLlow:aP P w K mg base bY 2 fLlow eLlow ["_law_top","_law_bottom"] (cj K 2 lW)):aP P w K mg base bY 3 f fd ["_law_number","_law_kind"] (cj K 2 dj):=by
  have nd:=l6.nd
  exact h.fn l6 rfl rfl (fun cdv A outer s H E hr=>(@ah _ _ _ _ _ _ _ _ (@cM _ _ _ _ _ _ _ _ _ _ _ (@bE _ _ _ _ _ _ _ _ _ (@my _ _ _ rfl hr) (¬1) af (aZ _))
      (@am _ _ _ _ _ (@aF _ _ _ _ _ (@ba _ _ _ _ _ _ _ rfl (@aS _ _ _ _ _ ((@av _ _ _ _ _ _ (af∘(af∘ae)))∘((@av _ _ _ _ _ _ (af∘(af∘ae)))∘((@av _ _ _ _ _ _ (af∘(af∘ae)))∘((@av _ _ _ _ _ _ (af∘(af∘ae)))∘((@av _ _ _ _ _ _ (af∘(af∘ae)))∘((@av _ _ _ _ _ _ (af∘(af∘ae)))∘ae))))))) (@aO _ _ _ _ _ _ _ (¬0) af) (fun _ _=>rfl))))
      (@bh _ _))
      (@ah _ _ _ _ _ _ _ _ (@cM _ _ _ _ _ _ _ _ _ _ _ (@bE _ _ _ _ _ _ _ _ _ (@my _ _ _ rfl hr) (¬1) af (aZ _))
      (@ah _ _ _ _ _ _ _ _ (@aC _ _ _ _ _ 2 _ _ nd rfl (Or.inl rfl) (@aU _ _ _ _ _ _ _ rfl af (@aO _ _ _ _ _ _ _ (¬0) af)) (by rfl) (by trivial))
      (@am _ _ _ _ _ (@aF _ _ _ _ _ (@a7 _ _ _ _ _ _ _ _ _ _ _ _ _ _ _ hLlow GLlow (hr.mono (by decide)) ((@aU _ _ _ _ _ _ _ rfl af (@aO _ _ _ _ _ _ _ (@cL _ _ _ _ _ _ _ (¬0) af) (@oy _ _ _ _ _ _ _ (¬2) af)))∘((¬2)∘ae)) (by rfl) (by decide) (by rfl) (by rfl)))))
      (@bh _ _))
      (@ah _ _ _ _ _ _ _ _ (@cM _ _ _ _ _ _ _ _ _ _ _ (@bE _ _ _ _ _ _ _ _ _ (@my _ _ _ rfl hr) (¬1) af (aZ _))
      (@ah _ _ _ _ _ _ _ _ (@aC _ _ _ _ _ 2 _ _ nd rfl (Or.inl rfl) (@aU _ _ _ _ _ _ _ rfl af (@aO _ _ _ _ _ _ _ (¬0) af)) (by rfl) (by trivial))
      (@am _ _ _ _ _ (@aF _ _ _ _ _ (@a7 _ _ _ _ _ _ _ _ _ _ _ _ _ _ _ hLlow GLlow (hr.mono (by decide)) ((@aO _ _ _ _ _ _ _ (@cL _ _ _ _ _ _ _ (¬0) af) (@aU _ _ _ _ _ _ _ rfl (¬2) af))∘((¬2)∘ae)) (by rfl) (by decide) (by rfl) (by rfl)))))
      (@bh _ _))
      (@am _ _ _ _ _ (@aF _ _ _ _ _ (@av _ _ _ _ _ _ (af∘(af∘ae)))))))))
noncomputable def qm:FS:=(bx (au cg (bV (ac (au aN (ag 0) (vC (.int 7))) (ac (au a' (vC (.int 5)) (au aN (ag 0) (vC (.int 2)))) (ac (au aN (ag 0) (vC (.int 1001))) (ac (au f_ (vC (.int 1000)) (au aN (ag 0) (vC (.int 3)))) aj))))) (au aN (ag 1) (vC (.int 4)))))
noncomputable def iJ:FM:=hZ 2 0 [] qm
theorem oP:aJ ["_law_number","_law_kind"] ["_law_number","_law_kind"] (ao iS):=⟨rfl,rfl,rfl,by decide+kernel,rfl,by decide+kernel,by decide+kernel⟩
theorem um(h:bz K mg "_law_worth" iS f fd ["_law_number","_law_kind"])(T:i8 mg):aP P w K mg base bY 1 f fd ["_law_number","_law_kind"] (cj K 2 iJ):=by
  have nd:=oP.nd
  exact h.fn oP rfl rfl (fun cdv A outer s H E hr=>(@am _ _ _ _ _ (@aF _ _ _ _ _ (@ba _ _ _ _ _ _ _ rfl (@aS _ _ _ _ _ ((@aO _ _ _ _ _ _ _ (¬0) af)∘((@aU _ _ _ _ _ _ _ rfl af (@aO _ _ _ _ _ _ _ (¬0) af))∘((@aO _ _ _ _ _ _ _ (¬0) af)∘((@oy _ _ _ _ _ _ _ af (@aO _ _ _ _ _ _ _ (¬0) af))∘ae))))) (@aO _ _ _ _ _ _ _ (¬1) af) (fun _ _=>rfl)))))
noncomputable def kg:FI:=(dc (ac (ag 2) aj))
noncomputable def eR:FS:=(aH (a8 8 (cy 1 a_ (ac (ag 0) aj)))
    (aH (a8 9 (au cg (bV (ac (au aN (ag 8) (ag 1)) (ac (vC (.int 0)) (ac (au aN (ag 7) (ag 1)) (ac (au aN (ag 8) (ag 1)) (ac (au aN (ag 8) (vC (.int 2))) (ac (au aN (ag 8) (ag 1)) aj))))))) (ag 3)))
    (aH (a8 10 (au aN (au a' (au a' (ag 9) (vC (.int 1))) (au aN (au bD (ag 8) (vC (.int 12))) (au f_ (ag 1) (vC (.int 1))))) (ag 1)))
    (aH (iP (aQ (au (cD false) (ag 3) (vC (.int 4))))
    (vc (aW (ac (vC (.int 0)) (ac (vC (.int 1)) aj))) (er (be (aq 9) (be (aq 10) dI))))
    dQ)
    (aH (a8 11 (cy 1 a_ (ac (ag 0) aj)))
    (aH (a8 12 (aW (ac (aL (g2 tO) (ac (ag 9) (ac (ag 10) aj))) (ac (aL (g2 nP) (ac (ag 9) (ac (ag 10) aj))) aj))))
    (gv (dz b_ (ag 6) (ac (au a' (ag 12) (aW (ac (cy 2 dj (ac (ag 11) (ac (ag 4) aj))) (ac (cy 2 iJ (ac (au bD (ag 11) (vC (.int 10007))) (ac (ag 5) aj))) aj)))) aj)))))))))
noncomputable def sI:FS:=(aH (a8 3 (au aN (cy 1 a_ (ac (ag 0) aj)) (vC (.int 6))))
    (aH (a8 4 (au aN (cy 1 a_ (ac (ag 0) aj)) (vC (.int 4))))
    (aH (a8 5 (au aN (cy 1 a_ (ac (ag 0) aj)) (vC (.int 4))))
    (aH (a8 6 (bV aj))
    (aH (cR ([7]++([8]++([9]++([10]++((([9]++([10]++[]))++[])++([11]++([12]++[]))))))) kg (aq 7) eR)
    (bx (aL (g1 cX) (ac (ag 6) aj))))))))
noncomputable def ko:FM:=hZ 3 10 ([3]++([4]++([5]++([6]++(([7]++([8]++([9]++([10]++((([9]++([10]++[]))++[])++([11]++([12]++[])))))))++[]))))) sI
theorem qQ:aJ ["_law_drawn","_law_things","_law_many","_law_shape","_law_odds","_law_worths","_law_found","_law_k","_law_number","_law_one","_law_other","_law_cell","_law_ends_here"] ["_law_drawn","_law_things","_law_many"] (ao kP):=⟨rfl,rfl,rfl,by decide+kernel,rfl,by decide+kernel,by decide+kernel⟩
theorem wx(h:bz K mg "_law_ties" kP f fd ["_law_drawn","_law_things","_law_many"])(T:i8 mg){fLnext:Addr}{eLnext:FuncData}(hLnext:bz K mg "_law_next" fJ fLnext eLnext ["_law_drawn"])(GLnext:aP P w K mg base bY 1 fLnext eLnext ["_law_drawn"] (cj K 1 a_)){fLchance:Addr}{eLchance:FuncData}(hLchance:bz K mg "_law_chance" gw fLchance eLchance ["_law_number","_law_kind"])(GLchance:aP P w K mg base bY 3 fLchance eLchance ["_law_number","_law_kind"] (cj K 2 dj)){fLworth:Addr}{eLworth:FuncData}(hLworth:bz K mg "_law_worth" iS fLworth eLworth ["_law_number","_law_kind"])(GLworth:aP P w K mg base bY 1 fLworth eLworth ["_law_number","_law_kind"] (cj K 2 iJ)):aP P w K mg base bY 4 f fd ["_law_drawn","_law_things","_law_many"] (cj K 3 ko):=by
  have nd:=qQ.nd
  exact h.fn qQ rfl rfl (fun cdv A outer s H E hr=>(@ah _ _ _ _ _ _ _ _ (@aC _ _ _ _ _ 3 _ _ nd rfl (Or.inl rfl) (@aO _ _ _ _ _ _ _ (@a7 _ _ _ _ _ _ _ _ _ _ _ _ _ _ _ hLnext GLnext (hr.mono (by decide)) ((¬0)∘ae) (by rfl) (by decide) (by rfl) (by rfl)) af) (by rfl) (by trivial))
      (@ah _ _ _ _ _ _ _ _ (@aC _ _ _ _ _ 4 _ _ nd rfl (Or.inl rfl) (@aO _ _ _ _ _ _ _ (@a7 _ _ _ _ _ _ _ _ _ _ _ _ _ _ _ hLnext GLnext (hr.mono (by decide)) ((¬0)∘ae) (by rfl) (by decide) (by rfl) (by rfl)) af) (by rfl) (by trivial))
      (@ah _ _ _ _ _ _ _ _ (@aC _ _ _ _ _ 5 _ _ nd rfl (Or.inl rfl) (@aO _ _ _ _ _ _ _ (@a7 _ _ _ _ _ _ _ _ _ _ _ _ _ _ _ hLnext GLnext (hr.mono (by decide)) ((¬0)∘ae) (by rfl) (by decide) (by rfl) (by rfl)) af) (by rfl) (by trivial))
      (@ah _ _ _ _ _ _ _ _ (@aC _ _ _ _ _ 6 _ _ nd rfl (Or.inl rfl) (@aS _ _ _ _ _ ae) (by rfl) (by trivial))
      (@ah _ _ _ _ _ _ _ _ (@dD _ _ _ _ _ _ _ _ _ _ _ PassesOwn.never rfl (@dZ _ _ _ _ _ _ _ rfl T.b_range ((¬2)∘ae) (by rfl)) (@aX _ _ _ 7 _ nd rfl (Or.inl rfl) (by trivial))
      (@ah _ _ _ _ _ _ _ _ (@aC _ _ _ _ _ 8 _ _ nd rfl (Or.inl rfl) (@a7 _ _ _ _ _ _ _ _ _ _ _ _ _ _ _ hLnext GLnext (hr.mono (by decide)) ((¬0)∘ae) (by rfl) (by decide) (by rfl) (by rfl)) (by rfl) (by trivial))
      (@ah _ _ _ _ _ _ _ _ (@aC _ _ _ _ _ 9 _ _ nd rfl (Or.inl rfl) (@ba _ _ _ _ _ _ _ rfl (@aS _ _ _ _ _ ((@aO _ _ _ _ _ _ _ (¬8) (¬1))∘(af∘((@aO _ _ _ _ _ _ _ (¬7) (¬1))∘((@aO _ _ _ _ _ _ _ (¬8) (¬1))∘((@aO _ _ _ _ _ _ _ (¬8) af)∘((@aO _ _ _ _ _ _ _ (¬8) (¬1))∘ae))))))) (¬3) (fun _ _=>rfl)) (by rfl) (by trivial))
      (@ah _ _ _ _ _ _ _ _ (@aC _ _ _ _ _ 10 _ _ nd rfl (Or.inl rfl) (@aO _ _ _ _ _ _ _ (@aU _ _ _ _ _ _ _ rfl (@aU _ _ _ _ _ _ _ rfl (¬9) af) (@aO _ _ _ _ _ _ _ (@cL _ _ _ _ _ _ _ (¬8) af) (@oy _ _ _ _ _ _ _ (¬1) af))) (¬1)) (by rfl) (by trivial))
      (@ah _ _ _ _ _ _ _ _ (@cM _ _ _ _ _ _ _ _ _ _ _ (@bE _ _ _ _ _ _ _ _ _ (@my _ _ _ rfl hr) (¬3) af (aZ _))
      (@am _ _ _ _ _ (@z3 _ _ _ _ _ _ _ _ (@av _ _ _ _ _ _ (af∘(af∘ae))) (@m5 _ _ _ _ _ _ _ _ rfl rfl (@dq _ _ _ _ _ _ _ _ (@aX _ _ _ 9 _ nd rfl (Or.inl rfl) (by trivial)) (@dq _ _ _ _ _ _ _ _ (@aX _ _ _ 10 _ nd rfl (Or.inl rfl) (by trivial)) (@jV _ _) (by rfl)) (by rfl)) (en (en mM)) (by rfl) (by rfl)) (by rfl) (by rfl) (by rfl)))
      (@bh _ _))
      (@ah _ _ _ _ _ _ _ _ (@aC _ _ _ _ _ 11 _ _ nd rfl (Or.inl rfl) (@a7 _ _ _ _ _ _ _ _ _ _ _ _ _ _ _ hLnext GLnext (hr.mono (by decide)) ((¬0)∘ae) (by rfl) (by decide) (by rfl) (by rfl)) (by rfl) (by trivial))
      (@ah _ _ _ _ _ _ _ _ (@aC _ _ _ _ _ 12 _ _ nd rfl (Or.inl rfl) (@av _ _ _ _ _ _ ((@aV _ _ _ _ _ _ _ _ _ (@b_min _ _ rfl) (by rfl) T.b_min ((¬9)∘((¬10)∘ae)) (by decide) (by decide) (by rfl) (by rfl))∘((@aV _ _ _ _ _ _ _ _ _ (@b_max _ _ rfl) (by rfl) T.b_max ((¬9)∘((¬10)∘ae)) (by decide) (by decide) (by rfl) (by rfl))∘ae))) (by rfl) (by trivial))
      (@am _ _ _ _ _ (@ez _ _ _ _ _ (@dn _ _ _ _ _ _ _ _ _ rfl (¬6) ((@aU _ _ _ _ _ _ _ rfl (¬12) (@av _ _ _ _ _ _ ((@a7 _ _ _ _ _ _ _ _ _ _ _ _ _ _ _ hLchance GLchance (hr.mono (by decide)) ((¬11)∘((¬4)∘ae)) (by rfl) (by decide) (by rfl) (by rfl))∘((@a7 _ _ _ _ _ _ _ _ _ _ _ _ _ _ _ hLworth GLworth (hr.mono (by decide)) ((@cL _ _ _ _ _ _ _ (¬11) af)∘((¬5)∘ae)) (by rfl) (by decide) (by rfl) (by rfl))∘ae))))∘ae) (by rfl) (by rfl) (by rfl) (by rfl) (by rfl)) (by rfl))))))))) (by intro _;rfl))
      (@am _ _ _ _ _ (@aF _ _ _ _ _ (@aV _ _ _ _ _ _ _ _ _ (@b_tuple _ _ rfl) (by rfl) T.b_tuple ((¬6)∘ae) (by decide) (by decide) (by rfl) (by rfl))))))))))
noncomputable def mP:FI:=(dc (ac (ag 3) aj))
noncomputable def jP:FS:=(gv (dz b_ (ag 7) (ac (au cg (bV (ac (vC (.int 20)) (ac (au a' (vC (.int 1)) (au aN (cy 1 a_ (ac (ag 0) aj)) (vC (.int 3)))) (ac (au aN (cy 1 a_ (ac (ag 0) aj)) (vC (.int 21))) aj)))) (ag 6)) aj)))
noncomputable def xT:FS:=(aH (a8 3 (au aN (cy 1 a_ (ac (ag 0) aj)) (au a' (ag 1) (vC (.int 1)))))
    (aH (a8 4 (au eF (au aN (cy 1 a_ (ac (ag 0) aj)) (au a' (ag 2) (vC (.int 1)))) (aL (g1 lj) (ac (au vY (ag 3) (vC (.int 1))) aj))))
    (aH (a8 5 (cy 3 ko (ac (ag 0) (ac (aL (g2 nP) (ac (vC (.int 2)) (ac (ag 3) aj))) (ac (ag 4) aj)))))
    (aH (a8 6 (au aN (cy 1 a_ (ac (ag 0) aj)) (vC (.int 3))))
    (aH (a8 7 (bV aj))
    (aH (cR ([8]++[]) mP (aq 8) jP)
    (aH (a8 9 (au cg (bV (ac (vC (.int 40)) (ac (au a' (vC (.int 1)) (au aN (cy 1 a_ (ac (ag 0) aj)) (aL (g2 nP) (ac (vC (.int 1)) (ac (ag 4) aj))))) (ac (au aN (cy 1 a_ (ac (ag 0) aj)) (vC (.int 41))) aj)))) (au aN (cy 1 a_ (ac (ag 0) aj)) (vC (.int 3)))))
    (bx (aW (ac (ag 3) (ac (ag 5) (ac (aL (g1 cX) (ac (ag 7) aj)) (ac (ag 9) aj)))))))))))))
noncomputable def oh:FM:=hZ 3 7 ([3]++([4]++([5]++([6]++([7]++(([8]++[])++([9]++[]))))))) xT
theorem vi:aJ ["_law_drawn","_law_most","_law_ties_here","_law_things","_law_many","_law_rows","_law_way","_law_patience","_law_k","_law_asks"] ["_law_drawn","_law_most","_law_ties_here"] (ao oI):=⟨rfl,rfl,rfl,by decide+kernel,rfl,by decide+kernel,by decide+kernel⟩
theorem zl(h:bz K mg "_law_web" oI f fd ["_law_drawn","_law_most","_law_ties_here"])(T:i8 mg){fLties:Addr}{eLties:FuncData}(hLties:bz K mg "_law_ties" kP fLties eLties ["_law_drawn","_law_things","_law_many"])(GLties:aP P w K mg base bY 4 fLties eLties ["_law_drawn","_law_things","_law_many"] (cj K 3 ko)){fLnext:Addr}{eLnext:FuncData}(hLnext:bz K mg "_law_next" fJ fLnext eLnext ["_law_drawn"])(GLnext:aP P w K mg base bY 1 fLnext eLnext ["_law_drawn"] (cj K 1 a_)):aP P w K mg base bY 5 f fd ["_law_drawn","_law_most","_law_ties_here"] (cj K 3 oh):=by
  have nd:=vi.nd
  exact h.fn vi rfl rfl (fun cdv A outer s H E hr=>(@ah _ _ _ _ _ _ _ _ (@aC _ _ _ _ _ 3 _ _ nd rfl (Or.inl rfl) (@aO _ _ _ _ _ _ _ (@a7 _ _ _ _ _ _ _ _ _ _ _ _ _ _ _ hLnext GLnext (hr.mono (by decide)) ((¬0)∘ae) (by rfl) (by decide) (by rfl) (by rfl)) (@aU _ _ _ _ _ _ _ rfl (¬1) af)) (by rfl) (by trivial))
      (@ah _ _ _ _ _ _ _ _ (@aC _ _ _ _ _ 4 _ _ nd rfl (Or.inl rfl) (@iM _ _ _ _ _ _ _ rfl (@aO _ _ _ _ _ _ _ (@a7 _ _ _ _ _ _ _ _ _ _ _ _ _ _ _ hLnext GLnext (hr.mono (by decide)) ((¬0)∘ae) (by rfl) (by decide) (by rfl) (by rfl)) (@aU _ _ _ _ _ _ _ rfl (¬2) af)) (@aV _ _ _ _ _ _ _ _ _ (@b_int _ _) (by rfl) T.b_int ((@ef _ _ _ _ _ _ _ _ _ (@yD _ _) (¬3) af (aZ _))∘ae) (by decide) (by decide) (by rfl) (by rfl))) (by rfl) (by trivial))
      (@ah _ _ _ _ _ _ _ _ (@aC _ _ _ _ _ 5 _ _ nd rfl (Or.inl rfl) (@a7 _ _ _ _ _ _ _ _ _ _ _ _ _ _ _ hLties GLties (hr.mono (by decide)) ((¬0)∘((@aV _ _ _ _ _ _ _ _ _ (@b_max _ _ rfl) (by rfl) T.b_max (af∘((¬3)∘ae)) (by decide) (by decide) (by rfl) (by rfl))∘((¬4)∘ae))) (by rfl) (by decide) (by rfl) (by rfl)) (by rfl) (by trivial))
      (@ah _ _ _ _ _ _ _ _ (@aC _ _ _ _ _ 6 _ _ nd rfl (Or.inl rfl) (@aO _ _ _ _ _ _ _ (@a7 _ _ _ _ _ _ _ _ _ _ _ _ _ _ _ hLnext GLnext (hr.mono (by decide)) ((¬0)∘ae) (by rfl) (by decide) (by rfl) (by rfl)) af) (by rfl) (by trivial))
      (@ah _ _ _ _ _ _ _ _ (@aC _ _ _ _ _ 7 _ _ nd rfl (Or.inl rfl) (@aS _ _ _ _ _ ae) (by rfl) (by trivial))
      (@ah _ _ _ _ _ _ _ _ (@dD _ _ _ _ _ _ _ _ _ _ _ PassesOwn.never rfl (@dZ _ _ _ _ _ _ _ rfl T.b_range ((¬3)∘ae) (by rfl)) (@aX _ _ _ 8 _ nd rfl (Or.inl rfl) (by trivial))
      (@am _ _ _ _ _ (@ez _ _ _ _ _ (@dn _ _ _ _ _ _ _ _ _ rfl (¬7) ((@ba _ _ _ _ _ _ _ rfl (@aS _ _ _ _ _ (af∘((@aU _ _ _ _ _ _ _ rfl af (@aO _ _ _ _ _ _ _ (@a7 _ _ _ _ _ _ _ _ _ _ _ _ _ _ _ hLnext GLnext (hr.mono (by decide)) ((¬0)∘ae) (by rfl) (by decide) (by rfl) (by rfl)) af))∘((@aO _ _ _ _ _ _ _ (@a7 _ _ _ _ _ _ _ _ _ _ _ _ _ _ _ hLnext GLnext (hr.mono (by decide)) ((¬0)∘ae) (by rfl) (by decide) (by rfl) (by rfl)) af)∘ae)))) (¬6) (fun _ _=>rfl))∘ae) (by rfl) (by rfl) (by rfl) (by rfl) (by rfl)) (by rfl))) (by intro _;rfl))
      (@ah _ _ _ _ _ _ _ _ (@aC _ _ _ _ _ 9 _ _ nd rfl (Or.inl rfl) (@ba _ _ _ _ _ _ _ rfl (@aS _ _ _ _ _ (af∘((@aU _ _ _ _ _ _ _ rfl af (@aO _ _ _ _ _ _ _ (@a7 _ _ _ _ _ _ _ _ _ _ _ _ _ _ _ hLnext GLnext (hr.mono (by decide)) ((¬0)∘ae) (by rfl) (by decide) (by rfl) (by rfl)) (@aV _ _ _ _ _ _ _ _ _ (@b_max _ _ rfl) (by rfl) T.b_max (af∘((¬4)∘ae)) (by decide) (by decide) (by rfl) (by rfl))))∘((@aO _ _ _ _ _ _ _ (@a7 _ _ _ _ _ _ _ _ _ _ _ _ _ _ _ hLnext GLnext (hr.mono (by decide)) ((¬0)∘ae) (by rfl) (by decide) (by rfl) (by rfl)) af)∘ae)))) (@aO _ _ _ _ _ _ _ (@a7 _ _ _ _ _ _ _ _ _ _ _ _ _ _ _ hLnext GLnext (hr.mono (by decide)) ((¬0)∘ae) (by rfl) (by decide) (by rfl) (by rfl)) af) (fun _ _=>rfl)) (by rfl) (by trivial))
      (@am _ _ _ _ _ (@aF _ _ _ _ _ (@av _ _ _ _ _ _ ((¬3)∘((¬5)∘((@aV _ _ _ _ _ _ _ _ _ (@b_tuple _ _ rfl) (by rfl) T.b_tuple ((¬7)∘ae) (by decide) (by decide) (by rfl) (by rfl))∘((¬9)∘ae)))))))))))))))
noncomputable def xR:FS:=(aH (a8 1 (bV (ac (vC .none) (ac (vC (.bool true)) (ac (vC (.bool false)) (ac (vC (.int 0)) (ac (vC (.int 1)) (ac (oZ pC (vC (.int 1))) (ac (vC (.int 5)) (ac (vC (.str ("":Str))) (ac (vC (.str ("a":Str))) (ac (vC (.str ("0":Str))) (ac (aW aj) (ac (aW (ac (vC (.int 0)) aj)) (ac (aW (ac (vC (.int 0)) (ac (vC (.int 1)) aj))) (ac (aW (ac (aW aj) (ac (aW aj) aj))) (ac (bV aj) (ac (bV (ac (vC (.int 0)) aj)) (ac (jH []) (ac (jH [(0,1)]) aj))))))))))))))))))))
    (aH (a8 1 (au a' (ag 1) (bV (ac (aW (ac (vC .none) aj)) (ac (aW (ac (aW aj) aj)) (ac (bV (ac (aW aj) aj)) (ac (aW (ac (vC (.bool true)) (ac (vC (.bool false)) aj))) (ac (aW (ac (aW (ac (vC (.int 0)) (ac (vC (.int 1)) aj))) (ac (aW (ac (vC (.int 1)) (ac (vC (.int 2)) aj))) aj))) (ac (aW (ac (aW (ac (aW aj) (ac (aW aj) aj))) aj)) (ac (aW (ac (vC (.str ("a":Str))) (ac (vC (.int 1)) aj))) (ac (aW (ac (aW (ac (vC (.int 0)) (ac (vC (.int 1)) aj))) aj)) (ac (au mL (vC (.int 10)) (vC (.int 30))) aj))))))))))))
    (bx (au cg (ag 1) (au aN (ag 0) (aL (g1 eE) (ac (ag 1) aj)))))))
noncomputable def oa:FM:=hZ 1 1 ([1]++([1]++[])) xR
theorem vg:aJ ["_law_number","_law_odd_here"] ["_law_number"] (ao oH):=⟨rfl,rfl,rfl,by decide+kernel,rfl,by decide+kernel,by decide+kernel⟩
theorem zh(h:bz K mg "_law_odd" oH f fd ["_law_number"])(T:i8 mg):aP P w K mg base bY 1 f fd ["_law_number"] (cj K 1 oa):=by
  have nd:=vg.nd
  exact h.fn vg rfl rfl (fun cdv A outer s H E hr=>(@ah _ _ _ _ _ _ _ _ (@aC _ _ _ _ _ 1 _ _ nd rfl (Or.inl rfl) (@aS _ _ _ _ _ ((@uR _ _ _ _)∘((@cv _ _ _ _ _)∘((@cv _ _ _ _ _)∘(af∘(af∘((@qI _ _ _ _ _ af)∘(af∘((@m4 _ _ _ _ _)∘((@m4 _ _ _ _ _)∘((@m4 _ _ _ _ _)∘((@av _ _ _ _ _ _ ae)∘((@av _ _ _ _ _ _ (af∘ae))∘((@av _ _ _ _ _ _ (af∘(af∘ae)))∘((@av _ _ _ _ _ _ ((@av _ _ _ _ _ _ ae)∘((@av _ _ _ _ _ _ ae)∘ae)))∘((@aS _ _ _ _ _ ae)∘((@aS _ _ _ _ _ (af∘ae))∘((@oz _ _ _)∘((@oA _ _ _ _ _ _ _ _ _)∘ae))))))))))))))))))) (by rfl) (by trivial))
      (@ah _ _ _ _ _ _ _ _ (@aC _ _ _ _ _ 1 _ _ nd rfl (Or.inl rfl) (@aU _ _ _ _ _ _ _ rfl (¬1) (@aS _ _ _ _ _ ((@av _ _ _ _ _ _ ((@uR _ _ _ _)∘ae))∘((@av _ _ _ _ _ _ ((@av _ _ _ _ _ _ ae)∘ae))∘((@aS _ _ _ _ _ ((@av _ _ _ _ _ _ ae)∘ae))∘((@av _ _ _ _ _ _ ((@cv _ _ _ _ _)∘((@cv _ _ _ _ _)∘ae)))∘((@av _ _ _ _ _ _ ((@av _ _ _ _ _ _ (af∘(af∘ae)))∘((@av _ _ _ _ _ _ (af∘(af∘ae)))∘ae)))∘((@av _ _ _ _ _ _ ((@av _ _ _ _ _ _ ((@av _ _ _ _ _ _ ae)∘((@av _ _ _ _ _ _ ae)∘ae)))∘ae))∘((@av _ _ _ _ _ _ ((@m4 _ _ _ _ _)∘(af∘ae)))∘((@av _ _ _ _ _ _ ((@av _ _ _ _ _ _ (af∘(af∘ae)))∘ae))∘((@uP _ _ _ _ _ _ _ af af)∘ae))))))))))) (by rfl) (by trivial))
      (@am _ _ _ _ _ (@aF _ _ _ _ _ (@ba _ _ _ _ _ _ _ rfl (¬1) (@aO _ _ _ _ _ _ _ (¬0) (@aV _ _ _ _ _ _ _ _ _ (@b_len _ _ rfl) (by rfl) T.b_len ((¬1)∘ae) (by decide) (by decide) (by rfl) (by rfl))) (fun _ _=>rfl)))))))
noncomputable def cG:FT:=(lr (aQ (au (cD true) (ag 3) (bV aj))) (aQ (au tN (aL (g1 eE) (ac (ag 4) aj)) (ag 2))))
noncomputable def io:FS:=(gv (dz b_ (ag 4) (ac (dz h_ (ag 3) (ac (au aN (cy 1 a_ (ac (ag 0) aj)) (aL (g1 eE) (ac (ag 3) aj))) aj)) aj)))
noncomputable def sE:FS:=(aH (a8 3 (jZ (ac (aL (g1 eE) (ac (au cg (ag 1) (vC (.int 1))) aj)) aj)))
    (aH (a8 4 (bV aj))
    (aH (ic (2 ^ 4200) cG io)
    (bx (aL (g1 cX) (ac (ag 4) aj))))))
noncomputable def kn:FM:=hZ 3 2 ([3]++([4]++([]++[]))) sE
theorem qN:aJ ["_law_drawn","_law_web_here","_law_most","_law_left","_law_found"] ["_law_drawn","_law_web_here","_law_most"] (ao kN):=⟨rfl,rfl,rfl,by decide+kernel,rfl,by decide+kernel,by decide+kernel⟩
theorem wq(h:bz K mg "_law_full" kN f fd ["_law_drawn","_law_web_here","_law_most"])(T:i8 mg){fLnext:Addr}{eLnext:FuncData}(hLnext:bz K mg "_law_next" fJ fLnext eLnext ["_law_drawn"])(GLnext:aP P w K mg base bY 1 fLnext eLnext ["_law_drawn"] (cj K 1 a_)):aP P w K mg base bY 2 f fd ["_law_drawn","_law_web_here","_law_most"] (cj K 3 kn):=by
  have nd:=qN.nd
  exact h.fn qN rfl rfl (fun cdv A outer s H E hr=>(@ah _ _ _ _ _ _ _ _ (@aC _ _ _ _ _ 3 _ _ nd rfl (Or.inl rfl) (@ox _ _ _ _ _ _ _ _ rfl rfl T.b_list rfl T.b_range ((@aV _ _ _ _ _ _ _ _ _ (@b_len _ _ rfl) (by rfl) T.b_len ((@ba _ _ _ _ _ _ _ rfl (¬1) af (fun _ _=>rfl))∘ae) (by decide) (by decide) (by rfl) (by rfl))∘ae) (by rfl) (by rfl)) (by rfl) (by trivial))
      (@ah _ _ _ _ _ _ _ _ (@aC _ _ _ _ _ 4 _ _ nd rfl (Or.inl rfl) (@aS _ _ _ _ _ ae) (by rfl) (by trivial))
      (@ah _ _ _ _ _ _ _ _ (@kD _ _ _ _ _ _ _ _ _ PassesOwn.never (@oB _ _ _ _ (@kG _ _ _ _ _ _ _ _ (@bE _ _ _ _ _ _ _ _ _ (@vL _ _ _ rfl hr) (¬3) (@aS _ _ _ _ _ ae) (aZ _)) (@jW _ _ _ _ _ (@bE _ _ _ _ _ _ _ _ _ (@sN _ _) (@aV _ _ _ _ _ _ _ _ _ (@b_len _ _ rfl) (by rfl) T.b_len ((¬4)∘ae) (by decide) (by decide) (by rfl) (by rfl)) (¬2) (aZ _)))))
      (@am _ _ _ _ _ (@ez _ _ _ _ _ (@dn _ _ _ _ _ _ _ _ _ rfl (¬4) ((@qJ _ _ _ _ _ _ _ _ _ rfl (¬3) ((@aO _ _ _ _ _ _ _ (@a7 _ _ _ _ _ _ _ _ _ _ _ _ _ _ _ hLnext GLnext (hr.mono (by decide)) ((¬0)∘ae) (by rfl) (by decide) (by rfl) (by rfl)) (@aV _ _ _ _ _ _ _ _ _ (@b_len _ _ rfl) (by rfl) T.b_len ((¬3)∘ae) (by decide) (by decide) (by rfl) (by rfl)))∘ae) (by rfl) (by rfl) (by rfl) (by rfl) (by rfl))∘ae) (by rfl) (by rfl) (by rfl) (by rfl) (by rfl)) (by rfl))))
      (@am _ _ _ _ _ (@aF _ _ _ _ _ (@aV _ _ _ _ _ _ _ _ _ (@b_tuple _ _ rfl) (by rfl) T.b_tuple ((¬4)∘ae) (by decide) (by decide) (by rfl) (by rfl))))))))
noncomputable def iE:FI:=(hU (ag 1))
noncomputable def fW:FS:=(a8 2 (au a' (ag 2) (aL (g1 jB) (ac (ls (au cg (au cg (ag 0) (vC (.int 1))) (ag 3)) cK (cC (vC (.int 2)))) aj))))
noncomputable def sD:FS:=(aH (a8 2 (bV aj))
    (aH (cR ([3]++[2]) iE (aq 3) fW)
    (bx (ag 2))))
noncomputable def km:FM:=hZ 2 2 ([2]++(([3]++[2])++[])) sD
theorem qM:aJ ["_law_web_here","_law_ties_here","_law_ends_here","_law_tie"] ["_law_web_here","_law_ties_here"] (ao kM):=⟨rfl,rfl,rfl,by decide+kernel,rfl,by decide+kernel,by decide+kernel⟩
theorem wn(h:bz K mg "_law_ends" kM f fd ["_law_web_here","_law_ties_here"])(T:i8 mg):aP P w K mg base bY 1 f fd ["_law_web_here","_law_ties_here"] (cj K 2 km):=by
  have nd:=qM.nd
  exact h.fn qM rfl rfl (fun cdv A outer s H E hr=>(@ah _ _ _ _ _ _ _ _ (@aC _ _ _ _ _ 2 _ _ nd rfl (Or.inl rfl) (@aS _ _ _ _ _ ae) (by rfl) (by trivial))
      (@ah _ _ _ _ _ _ _ _ (@dD _ _ _ _ _ _ _ _ _ _ _ PassesOwn.never rfl (@fH _ _ _ _ _ rfl (¬1)) (@aX _ _ _ 3 _ nd rfl (Or.inl rfl) (by trivial))
      (@am _ _ _ _ _ (@aC _ _ _ _ _ 2 _ _ nd rfl (Or.inl rfl) (@aU _ _ _ _ _ _ _ rfl (¬2) (@aV _ _ _ _ _ _ _ _ _ (@b_list _ _ rfl) (by rfl) T.b_list ((@bJ _ _ _ _ _ _ _ _ _ _ rfl (@ba _ _ _ _ _ _ _ rfl (@ba _ _ _ _ _ _ _ rfl (¬0) af (fun _ _=>rfl)) (¬3) (fun _ _=>rfl)) (@bK _ _) (@bL _ _ _ _ af))∘ae) (by decide) (by decide) (by rfl) (by rfl))) (by rfl) (by trivial))) (by intro _;rfl))
      (@am _ _ _ _ _ (@aF _ _ _ _ _ (¬2))))))
noncomputable def gh:FI:=(hU (cy 3 kn (ac (ag 0) (ac (ag 1) (ac (vC (.int 16)) aj)))))
noncomputable def bW:FS:=(aH (a8 4 (cy 2 km (ac (ag 1) (ac (ag 2) aj))))
    (iP (lr (aQ (au (k9 true) (au cg (au cg (au cg (ag 1) (vC (.int 1))) (ag 3)) (vC (.int 0))) (ag 4))) (lr (aQ (au (k9 true) (au cg (au cg (au cg (ag 1) (vC (.int 1))) (ag 3)) (vC (.int 1))) (ag 4))) (aQ (au vY (au aN (cy 1 a_ (ac (ag 0) aj)) (vC (.int 8))) (vC (.int 0))))))
    (gv (dz b_ (ag 2) (ac (ag 3) aj)))
    dQ))
noncomputable def lx:FS:=(aH (a8 2 (bV aj))
    (aH (cR ([3]++([4]++([]++[]))) gh (aq 3) bW)
    (bx (aL (g1 cX) (ac (aL (g1 hR) (ac (ag 2) aj)) aj)))))
noncomputable def dX:FM:=hZ 2 3 ([2]++(([3]++([4]++([]++[])))++[])) lx
theorem kS:aJ ["_law_drawn","_law_web_here","_law_found","_law_tie","_law_ends_here"] ["_law_drawn","_law_web_here"] (ao e_):=⟨rfl,rfl,rfl,by decide+kernel,rfl,by decide+kernel,by decide+kernel⟩
theorem pO(h:bz K mg "_law_pairing" e_ f fd ["_law_drawn","_law_web_here"])(T:i8 mg){fLfull:Addr}{eLfull:FuncData}(hLfull:bz K mg "_law_full" kN fLfull eLfull ["_law_drawn","_law_web_here","_law_most"])(GLfull:aP P w K mg base bY 2 fLfull eLfull ["_law_drawn","_law_web_here","_law_most"] (cj K 3 kn)){fLends:Addr}{eLends:FuncData}(hLends:bz K mg "_law_ends" kM fLends eLends ["_law_web_here","_law_ties_here"])(GLends:aP P w K mg base bY 1 fLends eLends ["_law_web_here","_law_ties_here"] (cj K 2 km)){fLnext:Addr}{eLnext:FuncData}(hLnext:bz K mg "_law_next" fJ fLnext eLnext ["_law_drawn"])(GLnext:aP P w K mg base bY 1 fLnext eLnext ["_law_drawn"] (cj K 1 a_)):aP P w K mg base bY 3 f fd ["_law_drawn","_law_web_here"] (cj K 2 dX):=by
  have nd:=kS.nd
  exact h.fn kS rfl rfl (fun cdv A outer s H E hr=>(@ah _ _ _ _ _ _ _ _ (@aC _ _ _ _ _ 2 _ _ nd rfl (Or.inl rfl) (@aS _ _ _ _ _ ae) (by rfl) (by trivial))
      (@ah _ _ _ _ _ _ _ _ (@dD _ _ _ _ _ _ _ _ _ _ _ PassesOwn.never rfl (@fH _ _ _ _ _ rfl (@a7 _ _ _ _ _ _ _ _ _ _ _ _ _ _ _ hLfull GLfull (hr.mono (by decide)) ((¬0)∘((¬1)∘(af∘ae))) (by rfl) (by decide) (by rfl) (by rfl))) (@aX _ _ _ 3 _ nd rfl (Or.inl rfl) (by trivial))
      (@ah _ _ _ _ _ _ _ _ (@aC _ _ _ _ _ 4 _ _ nd rfl (Or.inl rfl) (@a7 _ _ _ _ _ _ _ _ _ _ _ _ _ _ _ hLends GLends (hr.mono (by decide)) ((¬1)∘((¬2)∘ae)) (by rfl) (by decide) (by rfl) (by rfl)) (by rfl) (by trivial))
      (@am _ _ _ _ _ (@cM _ _ _ _ _ _ _ _ _ _ _ (@oB _ _ _ _ (@kG _ _ _ _ _ _ _ _ (@bE _ _ _ _ _ _ _ _ _ (@mz _ _ _ rfl hr) (@ba _ _ _ _ _ _ _ rfl (@ba _ _ _ _ _ _ _ rfl (@ba _ _ _ _ _ _ _ rfl (¬1) af (fun _ _=>rfl)) (¬3) (fun _ _=>rfl)) af (fun _ _=>rfl)) (¬4) (by with_unfolding_all rfl)) (@kG _ _ _ _ _ _ _ _ (@bE _ _ _ _ _ _ _ _ _ (@mz _ _ _ rfl hr) (@ba _ _ _ _ _ _ _ rfl (@ba _ _ _ _ _ _ _ rfl (@ba _ _ _ _ _ _ _ rfl (¬1) af (fun _ _=>rfl)) (¬3) (fun _ _=>rfl)) af (fun _ _=>rfl)) (¬4) (by with_unfolding_all rfl)) (@jW _ _ _ _ _ (@bE _ _ _ _ _ _ _ _ _ (@yD _ _) (@aO _ _ _ _ _ _ _ (@a7 _ _ _ _ _ _ _ _ _ _ _ _ _ _ _ hLnext GLnext (hr.mono (by decide)) ((¬0)∘ae) (by rfl) (by decide) (by rfl) (by rfl)) af) af (aZ _))))))
      (@am _ _ _ _ _ (@ez _ _ _ _ _ (@dn _ _ _ _ _ _ _ _ _ rfl (¬2) ((¬3)∘ae) (by rfl) (by rfl) (by rfl) (by rfl) (by rfl)) (by rfl)))
      (@bh _ _)))) (by intro _;rfl))
      (@am _ _ _ _ _ (@aF _ _ _ _ _ (@aV _ _ _ _ _ _ _ _ _ (@b_tuple _ _ rfl) (by rfl) T.b_tuple ((@aV _ _ _ _ _ _ _ _ _ (@vI _ _ rfl) (by rfl) T.b_sorted ((¬2)∘ae) (by decide) (by decide) (by rfl) (by rfl))∘ae) (by decide) (by decide) (by rfl) (by rfl)))))))
noncomputable def mw:FS:=(aH (iP (aQ (au tN (au cg (au cg (au cg (ag 0) (vC (.int 1))) (ag 1)) (vC (.int 3))) (au cg (au cg (au cg (ag 0) (vC (.int 1))) (ag 2)) (vC (.int 3)))))
    (bx (vC (.bool false)))
    dQ)
    (bx (rZ (au (k9 false) (au cg (au cg (au cg (ag 0) (vC (.int 1))) (ag 1)) (vC (.int 0))) (ls (au cg (au cg (ag 0) (vC (.int 1))) (ag 2)) cK (cC (vC (.int 2))))) (au (k9 false) (au cg (au cg (au cg (ag 0) (vC (.int 1))) (ag 1)) (vC (.int 1))) (ls (au cg (au cg (ag 0) (vC (.int 1))) (ag 2)) cK (cC (vC (.int 2))))))))
noncomputable def et:FM:=hZ 3 0 (([]++[])++[]) mw
theorem oJ:aJ ["_law_web_here","_law_own","_law_other"] ["_law_web_here","_law_own","_law_other"] (ao gS):=⟨rfl,rfl,rfl,by decide+kernel,rfl,by decide+kernel,by decide+kernel⟩
theorem ui(h:bz K mg "_law_bears" gS f fd ["_law_web_here","_law_own","_law_other"])(T:i8 mg):aP P w K mg base bY 1 f fd ["_law_web_here","_law_own","_law_other"] (cj K 3 et):=by
  have nd:=oJ.nd
  exact h.fn oJ rfl rfl (fun cdv A outer s H E hr=>(@ah _ _ _ _ _ _ _ _ (@cM _ _ _ _ _ _ _ _ _ _ _ (@bE _ _ _ _ _ _ _ _ _ (@sN _ _) (@ba _ _ _ _ _ _ _ rfl (@ba _ _ _ _ _ _ _ rfl (@ba _ _ _ _ _ _ _ rfl (¬0) af (fun _ _=>rfl)) (¬1) (fun _ _=>rfl)) af (fun _ _=>rfl)) (@ba _ _ _ _ _ _ _ rfl (@ba _ _ _ _ _ _ _ rfl (@ba _ _ _ _ _ _ _ rfl (¬0) af (fun _ _=>rfl)) (¬2) (fun _ _=>rfl)) af (fun _ _=>rfl)) (aZ _))
      (@am _ _ _ _ _ (@aF _ _ _ _ _ (@cv _ _ _ _ _)))
      (@bh _ _))
      (@am _ _ _ _ _ (@aF _ _ _ _ _ (@yn _ _ _ _ _ _ _ _ (@ef _ _ _ _ _ _ _ _ _ (@vJ _ _ _ rfl hr) (@ba _ _ _ _ _ _ _ rfl (@ba _ _ _ _ _ _ _ rfl (@ba _ _ _ _ _ _ _ rfl (¬0) af (fun _ _=>rfl)) (¬1) (fun _ _=>rfl)) af (fun _ _=>rfl)) (@bJ _ _ _ _ _ _ _ _ _ _ rfl (@ba _ _ _ _ _ _ _ rfl (@ba _ _ _ _ _ _ _ rfl (¬0) af (fun _ _=>rfl)) (¬2) (fun _ _=>rfl)) (@bK _ _) (@bL _ _ _ _ af)) (by with_unfolding_all rfl)) (@jn _ _ _ _ _ _ (@ef _ _ _ _ _ _ _ _ _ (@vJ _ _ _ rfl hr) (@ba _ _ _ _ _ _ _ rfl (@ba _ _ _ _ _ _ _ rfl (@ba _ _ _ _ _ _ _ rfl (¬0) af (fun _ _=>rfl)) (¬1) (fun _ _=>rfl)) af (fun _ _=>rfl)) (@bJ _ _ _ _ _ _ _ _ _ _ rfl (@ba _ _ _ _ _ _ _ rfl (@ba _ _ _ _ _ _ _ rfl (¬0) af (fun _ _=>rfl)) (¬2) (fun _ _=>rfl)) (@bK _ _) (@bL _ _ _ _ af)) (by with_unfolding_all rfl))))))))
noncomputable def gf:FI:=(lT (ac (ag 3) (ac (ag 2) aj)))
noncomputable def bI:FS:=(iP (sj (gC (aQ (oZ (jK "int") (ag 4)))) (sj (aQ (oZ (jK "bool") (ag 4))) (sj (aQ (au (k9 true) (ag 4) (ag 1))) (gC (aQ (cy 3 et (ac (ag 0) (ac (ag 4) (ac (ag 5) aj)))))))))
    (bx (vC (.bool false)))
    dQ)
noncomputable def eM:FS:=(aH (iP (sj (gC (aQ (oZ (jK "tuple") (ag 3)))) (aQ (au (cD true) (aL (g1 eE) (ac (ag 3) aj)) (aL (g1 eE) (ac (ag 2) aj)))))
    (bx (vC (.bool false)))
    dQ)
    (aH (cR (([4]++([5]++[]))++([]++[])) gf (er (be (aq 4) (be (aq 5) dI))) bI)
    (bx (vC (.bool true)))))
noncomputable def cc:FM:=hZ 4 2 (([]++[])++((([4]++([5]++[]))++([]++[]))++[])) eM
theorem kQ:aJ ["_law_web_here","_law_kept","_law_other","_law_thing","_law_own","_law_tie"] ["_law_web_here","_law_kept","_law_other","_law_thing"] (ao eZ):=⟨rfl,rfl,rfl,by decide+kernel,rfl,by decide+kernel,by decide+kernel⟩
theorem pM(h:bz K mg "_law_charges" eZ f fd ["_law_web_here","_law_kept","_law_other","_law_thing"])(T:i8 mg){fLbears:Addr}{eLbears:FuncData}(hLbears:bz K mg "_law_bears" gS fLbears eLbears ["_law_web_here","_law_own","_law_other"])(GLbears:aP P w K mg base bY 1 fLbears eLbears ["_law_web_here","_law_own","_law_other"] (cj K 3 et)):aP P w K mg base bY 2 f fd ["_law_web_here","_law_kept","_law_other","_law_thing"] (cj K 4 cc):=by
  have nd:=kQ.nd
  exact h.fn kQ rfl rfl (fun cdv A outer s H E hr=>(@ah _ _ _ _ _ _ _ _ (@cM _ _ _ _ _ _ _ _ _ _ _ (@oB _ _ _ _ (@l0 _ _ _ _ _ _ _ _ (@eG _ _ _ _ _ (@cN _ _ _ _ (@lZ _ _ _ _ _ _ _ _ "tuple" rfl (by decide) rfl T.b_isinstance rfl T.b_tuple PyProof.Rows.boot_tuple (by decide) (by decide) (¬3) (by rfl) (by rfl)) (by intro _;rfl))) (@m6 _ _ _ _ _ (@bE _ _ _ _ _ _ _ _ _ (@vL _ _ _ rfl hr) (@aV _ _ _ _ _ _ _ _ _ (@b_len _ _ rfl) (by rfl) T.b_len ((¬3)∘ae) (by decide) (by decide) (by rfl) (by rfl)) (@aV _ _ _ _ _ _ _ _ _ (@b_len _ _ rfl) (by rfl) T.b_len ((¬2)∘ae) (by decide) (by decide) (by rfl) (by rfl)) (aZ _)))))
      (@am _ _ _ _ _ (@aF _ _ _ _ _ (@cv _ _ _ _ _)))
      (@bh _ _))
      (@ah _ _ _ _ _ _ _ _ (@dD _ _ _ _ _ _ _ _ _ _ _ PassesOwn.never rfl (@uT _ _ _ _ _ _ _ _ _ _ rfl rfl T.b_zip ((¬3)∘((¬2)∘ae)) (by rfl) (by rfl)) (@m5 _ _ _ _ _ _ _ _ rfl rfl (@dq _ _ _ _ _ _ _ _ (@aX _ _ _ 4 _ nd rfl (Or.inl rfl) (by trivial)) (@dq _ _ _ _ _ _ _ _ (@aX _ _ _ 5 _ nd rfl (Or.inl rfl) (by trivial)) (@jV _ _) (by rfl)) (by rfl)) (en (en mM)) (by rfl) (by rfl))
      (@am _ _ _ _ _ (@cM _ _ _ _ _ _ _ _ _ _ _ (@oB _ _ _ _ (@l0 _ _ _ _ _ _ _ _ (@eG _ _ _ _ _ (@cN _ _ _ _ (@lZ _ _ _ _ _ _ _ _ "int" rfl (by decide) rfl T.b_isinstance rfl T.b_int PyProof.Rows.boot_int (by decide) (by decide) (¬4) (by rfl) (by rfl)) (by intro _;rfl))) (@l0 _ _ _ _ _ _ _ _ (@cN _ _ _ _ (@lZ _ _ _ _ _ _ _ _ "bool" rfl (by decide) rfl T.b_isinstance rfl T.b_bool PyProof.Rows.boot_bool (by decide) (by decide) (¬4) (by rfl) (by rfl)) (by intro _;rfl)) (@l0 _ _ _ _ _ _ _ _ (@bE _ _ _ _ _ _ _ _ _ (@mz _ _ _ rfl hr) (¬4) (¬1) (by with_unfolding_all rfl)) (@m6 _ _ _ _ _ (@eG _ _ _ _ _ (@cN _ _ _ _ (@a7 _ _ _ _ _ _ _ _ _ _ _ _ _ _ _ hLbears GLbears (hr.mono (by decide)) ((¬0)∘((¬4)∘((¬5)∘ae))) (by rfl) (by decide) (by rfl) (by rfl)) (by intro _;rfl))))))))
      (@am _ _ _ _ _ (@aF _ _ _ _ _ (@cv _ _ _ _ _)))
      (@bh _ _))) (by intro _;rfl))
      (@am _ _ _ _ _ (@aF _ _ _ _ _ (@cv _ _ _ _ _))))))
noncomputable def kf:FI:=(hU (ag 1))
noncomputable def d_:FE:=(au cg (au cg (au cg (ag 0) (vC (.int 1))) (ag 1)) (vC (.int 3)))
noncomputable def nB:FS:=(bx (aL (g1 (cI lR)) (ac (dJ [(0,"_law_web_here")] 1 kf (aq 1) dy d_) aj)))
noncomputable def eW:FM:=hZ 2 0 [] nB
theorem l9:aJ ["_law_web_here","_law_ties_here"] ["_law_web_here","_law_ties_here"] (ao ff):=⟨rfl,rfl,rfl,by decide+kernel,rfl,by decide+kernel,by decide+kernel⟩
theorem rK(h:bz K mg "_law_sum_of" ff f fd ["_law_web_here","_law_ties_here"])(T:i8 mg):aP P w K mg base bY 1 f fd ["_law_web_here","_law_ties_here"] (cj K 2 eW):=by
  have nd:=l9.nd
  exact h.fn l9 rfl rfl (fun cdv A outer s H E hr=>(@am _ _ _ _ _ (@aF _ _ _ _ _ (@aV _ _ _ _ _ _ _ _ _ (@b_sum _ _ _ rfl hr) (by rfl) T.b_sum ((@mZ _ _ _ _ _ _ _ _ _ _ _ _ _ (ao ff) ["_law_web_here","_law_ties_here"] [(0,"_law_web_here")] ["_law_tie"] rfl rfl rfl (@fH _ _ _ _ _ rfl (¬1))
        (fun C s0 H0 fp=>(@aX _ _ _ 1 _ (show List.Nodup (["_law_web_here","_law_tie"]:List Str) by decide+kernel) rfl (Or.inl rfl) (by trivial))) (fun C s0 H0 fp=>(@iN _ _))
        (fun C s0 H0 fp=>(@ba _ _ _ _ _ _ _ rfl (@ba _ _ _ _ _ _ _ rfl (@ba _ _ _ _ _ _ _ rfl (¬0) af (fun _ _=>rfl)) (¬1) (fun _ _=>rfl)) af (fun _ _=>rfl))) rfl (by decide+kernel) (by decide+kernel) (by decide+kernel) (by decide+kernel) (by decide+kernel) (by decide+kernel) (by decide+kernel) (by intro _;rfl))∘ae) (by decide) (by decide) (by rfl) (by rfl)))))
noncomputable def qF:FI:=(hU (ag 1))
noncomputable def iv:FT:=(aQ (cy 3 et (ac (ag 0) (ac (ag 2) (ac (ag 1) aj)))))
noncomputable def jR:FE:=(ag 2)
noncomputable def mO:FI:=(qE (ac (ag 2) aj))
noncomputable def ip:FS:=(aH (a8 7 (dJ [(0,"_law_web_here"),(6,"_law_tie")] 1 qF (aq 2) iv jR))
    (aH (a8 7 (au a' (ag 7) (au eF (aL (g1 jB) (ac (ag 1) aj)) (aL (g1 lj) (ac (rZ (au (cD false) (ag 7) (bV aj)) (au (cD false) (au tD (au rq (ag 3) (ag 5)) (vC (.int 7))) (vC (.int 7)))) aj)))))
    (gv (dz b_ (ag 4) (ac (au cg (au a' (ag 7) (bV (ac (vC (.int 0)) aj))) (au aN (au bD (au rq (ag 3) (ag 5)) (vC (.int 8))) (aL (g2 nP) (ac (vC (.int 1)) (ac (aL (g1 eE) (ac (ag 7) aj)) aj))))) aj)))))
noncomputable def xS:FS:=(aH (a8 4 (bV aj))
    (aH (cR (([5]++([6]++[]))++([7]++([7]++[]))) mO (er (be (aq 5) (be (aq 6) dI))) ip)
    (bx (aL (g1 cX) (ac (ag 4) aj)))))
noncomputable def og:FM:=hZ 4 4 ([4]++((([5]++([6]++[]))++([7]++([7]++[])))++[])) xS
theorem vh:aJ ["_law_web_here","_law_kept","_law_other","_law_number","_law_found","_law_at","_law_tie","_law_some"] ["_law_web_here","_law_kept","_law_other","_law_number"] (ao l5):=⟨rfl,rfl,rfl,by decide+kernel,rfl,by decide+kernel,by decide+kernel⟩
theorem zi(h:bz K mg "_law_row" l5 f fd ["_law_web_here","_law_kept","_law_other","_law_number"])(T:i8 mg){fLbears:Addr}{eLbears:FuncData}(hLbears:bz K mg "_law_bears" gS fLbears eLbears ["_law_web_here","_law_own","_law_other"])(GLbears:aP P w K mg base bY 1 fLbears eLbears ["_law_web_here","_law_own","_law_other"] (cj K 3 et)):aP P w K mg base bY 2 f fd ["_law_web_here","_law_kept","_law_other","_law_number"] (cj K 4 og):=by
  have nd:=vh.nd
  exact h.fn vh rfl rfl (fun cdv A outer s H E hr=>(@ah _ _ _ _ _ _ _ _ (@aC _ _ _ _ _ 4 _ _ nd rfl (Or.inl rfl) (@aS _ _ _ _ _ ae) (by rfl) (by trivial))
      (@ah _ _ _ _ _ _ _ _ (@dD _ _ _ _ _ _ _ _ _ _ _ PassesOwn.never rfl (@xi _ _ _ _ _ _ _ _ _ rfl rfl T.b_enumerate ((¬2)∘ae) (by rfl)) (@m5 _ _ _ _ _ _ _ _ rfl rfl (@dq _ _ _ _ _ _ _ _ (@aX _ _ _ 5 _ nd rfl (Or.inl rfl) (by trivial)) (@dq _ _ _ _ _ _ _ _ (@aX _ _ _ 6 _ nd rfl (Or.inr rfl) (by trivial)) (@jV _ _) (by rfl)) (by rfl)) (en (en mM)) (by rfl) (by rfl))
      (@ah _ _ _ _ _ _ _ _ (@lY _ _ _ (7) _ _ _ _ _ _ _ _ _ _ _ _ _ (ao l5) ["_law_web_here","_law_kept","_law_other","_law_number","_law_found","_law_at","_law_tie","_law_some"] [(0,"_law_web_here"),(6,"_law_tie")] ["_law_own"] rfl rfl rfl (@fH _ _ _ _ _ rfl (¬1))
        (fun C s0 H0 fp=>(@aX _ _ _ 2 _ (show List.Nodup (["_law_web_here","_law_tie","_law_own"]:List Str) by decide+kernel) rfl (Or.inl rfl) (by trivial))) (fun C s0 H0 fp=>(@xj _ _ _ _ (@cN _ _ _ _ (@a7 _ _ _ _ _ _ _ _ _ _ _ _ _ _ _ hLbears GLbears (hr.mono (by decide)) ((¬0)∘((¬2)∘((¬1)∘ae))) (by rfl) (by decide) (by rfl) (by rfl)) (by intro _;rfl))))
        (fun C s0 H0 fp=>(¬2)) rfl (by decide+kernel) (by decide+kernel) (by decide+kernel) (by decide+kernel) (by decide+kernel) (by decide+kernel) (by decide+kernel) nd rfl rfl (by rfl) (by intro _;rfl))
      (@ah _ _ _ _ _ _ _ _ (@aC _ _ _ _ _ 7 _ _ nd rfl (Or.inl rfl) (@aU _ _ _ _ _ _ _ rfl (¬7) (@iM _ _ _ _ _ _ _ rfl (@aV _ _ _ _ _ _ _ _ _ (@b_list _ _ rfl) (by rfl) T.b_list ((¬1)∘ae) (by decide) (by decide) (by rfl) (by rfl)) (@aV _ _ _ _ _ _ _ _ _ (@b_int _ _) (by rfl) T.b_int ((@yn _ _ _ _ _ _ _ _ (@ef _ _ _ _ _ _ _ _ _ (@my _ _ _ rfl hr) (¬7) (@aS _ _ _ _ _ ae) (aZ _)) (@jn _ _ _ _ _ _ (@ef _ _ _ _ _ _ _ _ _ (@my _ _ _ rfl hr) (@B3 _ _ _ _ _ _ _ (@yl _ _ _ _ _ _ _ (¬3) (¬5)) af) af (aZ _))))∘ae) (by decide) (by decide) (by rfl) (by rfl)))) (by rfl) (by trivial))
      (@am _ _ _ _ _ (@ez _ _ _ _ _ (@dn _ _ _ _ _ _ _ _ _ rfl (¬4) ((@ba _ _ _ _ _ _ _ rfl (@aU _ _ _ _ _ _ _ rfl (¬7) (@aS _ _ _ _ _ (af∘ae))) (@aO _ _ _ _ _ _ _ (@cL _ _ _ _ _ _ _ (@yl _ _ _ _ _ _ _ (¬3) (¬5)) af) (@aV _ _ _ _ _ _ _ _ _ (@b_max _ _ rfl) (by rfl) T.b_max (af∘((@aV _ _ _ _ _ _ _ _ _ (@b_len _ _ rfl) (by rfl) T.b_len ((¬7)∘ae) (by decide) (by decide) (by rfl) (by rfl))∘ae)) (by decide) (by decide) (by rfl) (by rfl))) (fun _ _=>rfl))∘ae) (by rfl) (by rfl) (by rfl) (by rfl) (by rfl)) (by rfl))))) (by intro _;rfl))
      (@am _ _ _ _ _ (@aF _ _ _ _ _ (@aV _ _ _ _ _ _ _ _ _ (@b_tuple _ _ rfl) (by rfl) T.b_tuple ((¬4)∘ae) (by decide) (by decide) (by rfl) (by rfl)))))))
noncomputable def nX:FI:=(hU (ag 1))
noncomputable def eS:FE:=(au cg (bV (ac (ag 0) (ac (au (cD false) (ag 0) (vC (.int 1))) aj))) (aL (g1 lj) (ac (au tN (ag 0) (vC (.int 2))) aj)))
noncomputable def pf:FS:=(aH (a8 5 (au aN (ag 3) (au a' (aL (g1 eE) (ac (ag 1) aj)) (vC (.int 1)))))
    (aH (a8 6 (au aN (au bD (ag 3) (vC (.int 17))) (aL (g2 nP) (ac (vC (.int 1)) (ac (aL (g1 eE) (ac (au cg (ag 0) (vC (.int 1))) aj)) aj)))))
    (aH (a8 7 (bV (ac (ag 1) (ac (ag 1) (ac (au a' (ag 1) (ls (ag 1) (cC (oZ pC (vC (.int 1)))) cK)) (ac (ls (ag 1) cK (cC (oZ pC (vC (.int 1))))) (ac (CL (ag 1) (oZ pC (vC (.int 1)))) (ac (aL (g1 jB) (ac (ag 1) aj)) (ac (au a' (au a' (ls (ag 1) cK (cC (ag 5))) (aW (ac (ag 6) aj))) (ls (ag 1) (cC (au a' (ag 5) (vC (.int 1)))) cK)) (ac (ag 4) aj))))))))))
    (aH (a8 7 (au a' (ag 7) (bV (ac (au a' (au a' (ls (ag 1) cK (cC (ag 5))) (aW (ac (ag 4) aj))) (ls (ag 1) (cC (au a' (ag 5) (vC (.int 1)))) cK)) (ac (ag 2) (ac (au a' (ag 1) (aW (ac (ag 6) aj))) (ac (aW (ac (ag 1) aj)) aj)))))))
    (bx (au cg (au a' (ag 7) (bV (ac (aL (g1 cX) (ac (dJ [] 1 nX (aq 0) dy eS) aj)) aj))) (au aN (au bD (ag 3) (vC (.int 300))) (vC (.int 13)))))))))
noncomputable def kj:FM:=hZ 5 3 ([5]++([6]++([7]++([7]++[])))) pf
theorem qL:aJ ["_law_web_here","_law_row_here","_law_other","_law_number","_law_odd_here","_law_at","_law_tie","_law_some"] ["_law_web_here","_law_row_here","_law_other","_law_number","_law_odd_here"] (ao jo):=⟨rfl,rfl,rfl,by decide+kernel,rfl,by decide+kernel,by decide+kernel⟩
theorem wm(h:bz K mg "_law_bent" jo f fd ["_law_web_here","_law_row_here","_law_other","_law_number","_law_odd_here"])(T:i8 mg):aP P w K mg base bY 1 f fd ["_law_web_here","_law_row_here","_law_other","_law_number","_law_odd_here"] (cj K 5 kj):=by
  have nd:=qL.nd
  exact h.fn qL rfl rfl (fun cdv A outer s H E hr=>(@ah _ _ _ _ _ _ _ _ (@aC _ _ _ _ _ 5 _ _ nd rfl (Or.inl rfl) (@aO _ _ _ _ _ _ _ (¬3) (@aU _ _ _ _ _ _ _ rfl (@aV _ _ _ _ _ _ _ _ _ (@b_len _ _ rfl) (by rfl) T.b_len ((¬1)∘ae) (by decide) (by decide) (by rfl) (by rfl)) af)) (by rfl) (by trivial))
      (@ah _ _ _ _ _ _ _ _ (@aC _ _ _ _ _ 6 _ _ nd rfl (Or.inl rfl) (@aO _ _ _ _ _ _ _ (@cL _ _ _ _ _ _ _ (¬3) af) (@aV _ _ _ _ _ _ _ _ _ (@b_max _ _ rfl) (by rfl) T.b_max (af∘((@aV _ _ _ _ _ _ _ _ _ (@b_len _ _ rfl) (by rfl) T.b_len ((@ba _ _ _ _ _ _ _ rfl (¬0) af (fun _ _=>rfl))∘ae) (by decide) (by decide) (by rfl) (by rfl))∘ae)) (by decide) (by decide) (by rfl) (by rfl))) (by rfl) (by trivial))
      (@ah _ _ _ _ _ _ _ _ (@aC _ _ _ _ _ 7 _ _ nd rfl (Or.inl rfl) (@aS _ _ _ _ _ ((¬1)∘((¬1)∘((@aU _ _ _ _ _ _ _ rfl (¬1) (@bJ _ _ _ _ _ _ _ _ _ _ rfl (¬1) (@bL _ _ _ _ (@qI _ _ _ _ _ af)) (@bK _ _)))∘((@bJ _ _ _ _ _ _ _ _ _ _ rfl (¬1) (@bK _ _) (@bL _ _ _ _ (@qI _ _ _ _ _ af)))∘((@Ds _ _ _ _ _ _ _ _ rfl (¬1) (@qI _ _ _ _ _ af))∘((@aV _ _ _ _ _ _ _ _ _ (@b_list _ _ rfl) (by rfl) T.b_list ((¬1)∘ae) (by decide) (by decide) (by rfl) (by rfl))∘((@aU _ _ _ _ _ _ _ rfl (@aU _ _ _ _ _ _ _ rfl (@bJ _ _ _ _ _ _ _ _ _ _ rfl (¬1) (@bK _ _) (@bL _ _ _ _ (¬5))) (@av _ _ _ _ _ _ ((¬6)∘ae))) (@bJ _ _ _ _ _ _ _ _ _ _ rfl (¬1) (@bL _ _ _ _ (@aU _ _ _ _ _ _ _ rfl (¬5) af)) (@bK _ _)))∘((¬4)∘ae))))))))) (by rfl) (by trivial))
      (@ah _ _ _ _ _ _ _ _ (@aC _ _ _ _ _ 7 _ _ nd rfl (Or.inl rfl) (@aU _ _ _ _ _ _ _ rfl (¬7) (@aS _ _ _ _ _ ((@aU _ _ _ _ _ _ _ rfl (@aU _ _ _ _ _ _ _ rfl (@bJ _ _ _ _ _ _ _ _ _ _ rfl (¬1) (@bK _ _) (@bL _ _ _ _ (¬5))) (@av _ _ _ _ _ _ ((¬4)∘ae))) (@bJ _ _ _ _ _ _ _ _ _ _ rfl (¬1) (@bL _ _ _ _ (@aU _ _ _ _ _ _ _ rfl (¬5) af)) (@bK _ _)))∘((¬2)∘((@aU _ _ _ _ _ _ _ rfl (¬1) (@av _ _ _ _ _ _ ((¬6)∘ae)))∘((@av _ _ _ _ _ _ ((¬1)∘ae))∘ae)))))) (by rfl) (by trivial))
      (@am _ _ _ _ _ (@aF _ _ _ _ _ (@ba _ _ _ _ _ _ _ rfl (@aU _ _ _ _ _ _ _ rfl (¬7) (@aS _ _ _ _ _ ((@aV _ _ _ _ _ _ _ _ _ (@b_tuple _ _ rfl) (by rfl) T.b_tuple ((@mZ _ _ _ _ _ _ _ _ _ _ _ _ _ (ao jo) ["_law_web_here","_law_row_here","_law_other","_law_number","_law_odd_here","_law_at","_law_tie","_law_some"] [] ["_law_one"] rfl rfl rfl (@fH _ _ _ _ _ rfl (¬1))
        (fun C s0 H0 fp=>(@aX _ _ _ 0 _ (show List.Nodup (["_law_one"]:List Str) by decide+kernel) rfl (Or.inl rfl) (by trivial))) (fun C s0 H0 fp=>(@iN _ _))
        (fun C s0 H0 fp=>(@ba _ _ _ _ _ _ _ rfl (@aS _ _ _ _ _ ((¬0)∘((@ef _ _ _ _ _ _ _ _ _ (@my _ _ _ rfl hr) (¬0) af (aZ _))∘ae))) (@aV _ _ _ _ _ _ _ _ _ (@b_int _ _) (by rfl) T.b_int ((@ef _ _ _ _ _ _ _ _ _ (@sN _ _) (¬0) af (aZ _))∘ae) (by decide) (by decide) (by rfl) (by rfl)) (fun _ _=>rfl))) rfl (by decide+kernel) (by decide+kernel) (by decide+kernel) (by decide+kernel) (by decide+kernel) (by decide+kernel) (by decide+kernel) (by intro _;rfl))∘ae) (by decide) (by decide) (by rfl) (by rfl))∘ae))) (@aO _ _ _ _ _ _ _ (@cL _ _ _ _ _ _ _ (¬3) af) af) (fun _ _=>rfl)))))))))
noncomputable def lw:FS:=(aH (a8 1 (au a' (vC (.int 1)) (au aN (ag 0) (vC (.int 900)))))
    (aH (a8 2 (au cg (bV (ac (ag 1) (ac (au a' (ag 1) (vC (.int 1))) (ac (au f_ (ag 1) (vC (.int 1))) aj)))) (au aN (au bD (ag 0) (vC (.int 1000))) (vC (.int 3)))))
    (aH (a8 3 (aW (ac (aW (ac (vC (.int 0)) (ac (vC (.int 1)) (ac (aW (ac (vC (.int 1)) (ac (vC (.int 1)) aj))) (ac (ag 1) aj))))) (ac (aW (ac (vC (.int 1)) (ac (vC (.int 2)) (ac (aW (ac (vC (.int 1)) (ac (vC (.int 2)) aj))) (ac (ag 2) aj))))) (ac (aW (ac (vC (.int 2)) (ac (vC (.int 3)) (ac (aW (ac (vC (.int 0)) (ac (vC (.int 1)) aj))) (ac (au f_ (ag 1) (au aN (au bD (ag 0) (vC (.int 3000))) (vC (.int 2)))) aj))))) aj)))))
    (bx (aW (ac (vC (.int 4)) (ac (ag 3) (ac (au eF (aW (ac (vC (.int 20)) aj)) (vC (.int 4))) (ac (vC (.int 40)) aj)))))))))
noncomputable def eV:FM:=hZ 1 3 ([1]++([2]++([3]++[]))) lw
theorem kR:aJ ["_law_number","_law_worth_here","_law_heavy","_law_ties_here"] ["_law_number"] (ao e6):=⟨rfl,rfl,rfl,by decide+kernel,rfl,by decide+kernel,by decide+kernel⟩
theorem pN(h:bz K mg "_law_crossed" e6 f fd ["_law_number"])(T:i8 mg):aP P w K mg base bY 1 f fd ["_law_number"] (cj K 1 eV):=by
  have nd:=kR.nd
  exact h.fn kR rfl rfl (fun cdv A outer s H E hr=>(@ah _ _ _ _ _ _ _ _ (@aC _ _ _ _ _ 1 _ _ nd rfl (Or.inl rfl) (@aU _ _ _ _ _ _ _ rfl af (@aO _ _ _ _ _ _ _ (¬0) af)) (by rfl) (by trivial))
      (@ah _ _ _ _ _ _ _ _ (@aC _ _ _ _ _ 2 _ _ nd rfl (Or.inl rfl) (@ba _ _ _ _ _ _ _ rfl (@aS _ _ _ _ _ ((¬1)∘((@aU _ _ _ _ _ _ _ rfl (¬1) af)∘((@oy _ _ _ _ _ _ _ (¬1) af)∘ae)))) (@aO _ _ _ _ _ _ _ (@cL _ _ _ _ _ _ _ (¬0) af) af) (fun _ _=>rfl)) (by rfl) (by trivial))
      (@ah _ _ _ _ _ _ _ _ (@aC _ _ _ _ _ 3 _ _ nd rfl (Or.inl rfl) (@av _ _ _ _ _ _ ((@av _ _ _ _ _ _ (af∘(af∘((@av _ _ _ _ _ _ (af∘(af∘ae)))∘((¬1)∘ae)))))∘((@av _ _ _ _ _ _ (af∘(af∘((@av _ _ _ _ _ _ (af∘(af∘ae)))∘((¬2)∘ae)))))∘((@av _ _ _ _ _ _ (af∘(af∘((@av _ _ _ _ _ _ (af∘(af∘ae)))∘((@oy _ _ _ _ _ _ _ (¬1) (@aO _ _ _ _ _ _ _ (@cL _ _ _ _ _ _ _ (¬0) af) af))∘ae)))))∘ae)))) (by rfl) (by trivial))
      (@am _ _ _ _ _ (@aF _ _ _ _ _ (@av _ _ _ _ _ _ (af∘((¬3)∘((@iM _ _ _ _ _ _ _ rfl (@av _ _ _ _ _ _ (af∘ae)) af)∘(af∘ae)))))))))))
noncomputable def jf:FI:=(hU (bV (ac (au a' (au a' (ls (ag 5) cK (cC (ag 6))) (aW (ac (ag 7) aj))) (ls (ag 5) (cC (ag 6)) cK)) (ac (au a' (au a' (ls (ag 5) cK (cC (ag 6))) (aW (ac (ag 7) aj))) (ls (ag 5) (cC (au a' (ag 6) (vC (.int 1)))) cK)) aj))))
noncomputable def gE:FS:=(iP (gC (aQ (cy 2 hX (ac (cy 4 aR (ac (ag 0) (ac (ag 1) (ac (ag 2) (ac (ag 8) aj))))) (ac (vC (.bool false)) aj)))))
    (bx (vC (.bool false)))
    dQ)
noncomputable def gN:FI:=(hU (bV (ac (bV aj) (ac (jH []) (ac (bV (ac (vC (.int 0)) aj)) (ac (jH [(0,1)]) aj))))))
noncomputable def eQ:FS:=(cR ([8]++([]++[])) jf (aq 8) gE)
noncomputable def gP:FI:=(hU (ag 3))
noncomputable def cV:FS:=(aH (a8 5 (cy 4 og (ac (ag 0) (ac (ag 1) (ac (ag 2) (ac (ag 4) aj))))))
    (aH (a8 6 (au aN (ag 4) (au a' (aL (g1 eE) (ac (ag 5) aj)) (vC (.int 1)))))
    (aH (cR ([7]++([8]++([]++[]))) gN (aq 7) eQ)
    (aH (a8 8 (cy 5 kj (ac (ag 0) (ac (ag 5) (ac (ag 2) (ac (au bD (ag 4) (vC (.int 8))) (ac (cy 1 oa (ac (au bD (ag 4) (vC (.int 100000))) aj)) aj)))))))
    (aH (a8 9 (aL (g1 jC) (ac (aW (ac (ag 0) (ac (ag 1) (ac (ag 2) (ac (ag 8) aj))))) aj)))
    (aH (a8 10 (cy 4 cc (ac (ag 0) (ac (ag 1) (ac (ag 2) (ac (ag 8) aj))))))
    (aH (iP (sj (gC (aQ (cy 2 hX (ac (cy 4 aR (ac (ag 0) (ac (ag 1) (ac (ag 2) (ac (ag 8) aj))))) (ac (ag 10) aj))))) (aQ (au (cD true) (aL (g1 jC) (ac (aW (ac (ag 0) (ac (ag 1) (ac (ag 2) (ac (ag 8) aj))))) aj)) (ag 9))))
    (bx (vC (.bool false)))
    dQ)
    (aH (iP (lr (aQ (ag 10)) (aQ (au vY (cy 2 eW (ac (ag 0) (ac (ag 2) aj))) (au eF (vC (.int 2)) (cy 2 eW (ac (ag 0) (ac (ag 1) aj)))))))
    (bx (vC (.bool false)))
    dQ)
    (iP (gC (aQ (cy 2 hX (ac (cy 4 aR (ac (ag 0) (ac (ag 1) (ac (ag 2) (ac (ag 5) aj))))) (ac (cy 4 cc (ac (ag 0) (ac (ag 1) (ac (ag 2) (ac (ag 5) aj))))) aj)))))
    (bx (vC (.bool false)))
    dQ)))))))))
noncomputable def mx:FS:=(aH (cR ([4]++([5]++([6]++(([7]++([8]++([]++[])))++([8]++([9]++([10]++(([]++[])++(([]++[])++([]++[])))))))))) gP (aq 4) cV)
    (bx (iZ (au yd (cy 4 aR (ac (ag 0) (ac (ag 1) (ac (aW aj) (ac (aW aj) aj))))) (vC (.bool true))) (au yd (cy 4 aR (ac (ag 0) (ac (ag 1) (ac (ag 1) (ac (ag 1) aj))))) (vC (.bool true))))))
noncomputable def dP:FM:=hZ 4 7 (([4]++([5]++([6]++(([7]++([8]++([]++[])))++([8]++([9]++([10]++(([]++[])++(([]++[])++([]++[]))))))))))++[]) mx
theorem oO:aJ ["_law_web_here","_law_kept","_law_other","_law_numbers","_law_number","_law_row_here","_law_at","_law_odd_here","_law_thing","_law_handed","_law_due"] ["_law_web_here","_law_kept","_law_other","_law_numbers"] (ao iR):=⟨rfl,rfl,rfl,by decide+kernel,rfl,by decide+kernel,by decide+kernel⟩
theorem ul(h:bz K mg "_law_right" iR f fd ["_law_web_here","_law_kept","_law_other","_law_numbers"])(T:i8 mg){fLrow:Addr}{eLrow:FuncData}(hLrow:bz K mg "_law_row" l5 fLrow eLrow ["_law_web_here","_law_kept","_law_other","_law_number"])(GLrow:aP P w K mg base bY 2 fLrow eLrow ["_law_web_here","_law_kept","_law_other","_law_number"] (cj K 4 og)){fLbent:Addr}{eLbent:FuncData}(hLbent:bz K mg "_law_bent" jo fLbent eLbent ["_law_web_here","_law_row_here","_law_other","_law_number","_law_odd_here"])(GLbent:aP P w K mg base bY 1 fLbent eLbent ["_law_web_here","_law_row_here","_law_other","_law_number","_law_odd_here"] (cj K 5 kj)){fLcharges:Addr}{eLcharges:FuncData}(hLcharges:bz K mg "_law_charges" eZ fLcharges eLcharges ["_law_web_here","_law_kept","_law_other","_law_thing"])(GLcharges:aP P w K mg base bY 2 fLcharges eLcharges ["_law_web_here","_law_kept","_law_other","_law_thing"] (cj K 4 cc)){fLodd:Addr}{eLodd:FuncData}(hLodd:bz K mg "_law_odd" oH fLodd eLodd ["_law_number"])(GLodd:aP P w K mg base bY 1 fLodd eLodd ["_law_number"] (cj K 1 oa)){fLsays:Addr}{eLsays:FuncData}(hLsays:bz K mg "_law_says" kO fLsays eLsays ["_law_found","_law_due"])(GLsays:aP P w K mg base bY 1 fLsays eLsays ["_law_found","_law_due"] (cj K 2 hX)){f_charges_hold:Addr}{e_charges_hold:FuncData}(h_charges_hold:bz K mg "charges_hold" bG f_charges_hold e_charges_hold ["web","kept","other","thing"])(G_charges_hold:aP P w K mg base bY 3 f_charges_hold e_charges_hold ["web","kept","other","thing"] (cj K 4 aR)){fLsum_of:Addr}{eLsum_of:FuncData}(hLsum_of:bz K mg "_law_sum_of" ff fLsum_of eLsum_of ["_law_web_here","_law_ties_here"])(GLsum_of:aP P w K mg base bY 1 fLsum_of eLsum_of ["_law_web_here","_law_ties_here"] (cj K 2 eW)):aP P w K mg base bY 4 f fd ["_law_web_here","_law_kept","_law_other","_law_numbers"] (cj K 4 dP):=by
  have nd:=oO.nd
  exact h.fn oO rfl rfl (fun cdv A outer s H E hr=>(@ah _ _ _ _ _ _ _ _ (@dD _ _ _ _ _ _ _ _ _ _ _ PassesOwn.never rfl (@fH _ _ _ _ _ rfl (¬3)) (@aX _ _ _ 4 _ nd rfl (Or.inl rfl) (by trivial))
      (@ah _ _ _ _ _ _ _ _ (@aC _ _ _ _ _ 5 _ _ nd rfl (Or.inl rfl) (@a7 _ _ _ _ _ _ _ _ _ _ _ _ _ _ _ hLrow GLrow (hr.mono (by decide)) ((¬0)∘((¬1)∘((¬2)∘((¬4)∘ae)))) (by rfl) (by decide) (by rfl) (by rfl)) (by rfl) (by trivial))
      (@ah _ _ _ _ _ _ _ _ (@aC _ _ _ _ _ 6 _ _ nd rfl (Or.inl rfl) (@aO _ _ _ _ _ _ _ (¬4) (@aU _ _ _ _ _ _ _ rfl (@aV _ _ _ _ _ _ _ _ _ (@b_len _ _ rfl) (by rfl) T.b_len ((¬5)∘ae) (by decide) (by decide) (by rfl) (by rfl)) af)) (by rfl) (by trivial))
      (@ah _ _ _ _ _ _ _ _ (@dD _ _ _ _ _ _ _ _ _ _ _ PassesOwn.never rfl (@fH _ _ _ _ _ rfl (@aS _ _ _ _ _ ((@aS _ _ _ _ _ ae)∘((@oz _ _ _)∘((@aS _ _ _ _ _ (af∘ae))∘((@oA _ _ _ _ _ _ _ _ _)∘ae)))))) (@aX _ _ _ 7 _ nd rfl (Or.inl rfl) (by trivial))
      (@am _ _ _ _ _ (@dD _ _ _ _ _ _ _ _ _ _ _ PassesOwn.never rfl (@fH _ _ _ _ _ rfl (@aS _ _ _ _ _ ((@aU _ _ _ _ _ _ _ rfl (@aU _ _ _ _ _ _ _ rfl (@bJ _ _ _ _ _ _ _ _ _ _ rfl (¬5) (@bK _ _) (@bL _ _ _ _ (¬6))) (@av _ _ _ _ _ _ ((¬7)∘ae))) (@bJ _ _ _ _ _ _ _ _ _ _ rfl (¬5) (@bL _ _ _ _ (¬6)) (@bK _ _)))∘((@aU _ _ _ _ _ _ _ rfl (@aU _ _ _ _ _ _ _ rfl (@bJ _ _ _ _ _ _ _ _ _ _ rfl (¬5) (@bK _ _) (@bL _ _ _ _ (¬6))) (@av _ _ _ _ _ _ ((¬7)∘ae))) (@bJ _ _ _ _ _ _ _ _ _ _ rfl (¬5) (@bL _ _ _ _ (@aU _ _ _ _ _ _ _ rfl (¬6) af)) (@bK _ _)))∘ae)))) (@aX _ _ _ 8 _ nd rfl (Or.inl rfl) (by trivial))
      (@am _ _ _ _ _ (@cM _ _ _ _ _ _ _ _ _ _ _ (@eG _ _ _ _ _ (@cN _ _ _ _ (@a7 _ _ _ _ _ _ _ _ _ _ _ _ _ _ _ hLsays GLsays (hr.mono (by decide)) ((@a7 _ _ _ _ _ _ _ _ _ _ _ _ _ _ _ h_charges_hold G_charges_hold (hr.mono (by decide)) ((¬0)∘((¬1)∘((¬2)∘((¬8)∘ae)))) (by rfl) (by decide) (by rfl) (by rfl))∘((@cv _ _ _ _ _)∘ae)) (by rfl) (by decide) (by rfl) (by rfl)) (by intro _;rfl)))
      (@am _ _ _ _ _ (@aF _ _ _ _ _ (@cv _ _ _ _ _)))
      (@bh _ _))) (by intro _;rfl))) (by intro _;rfl))
      (@ah _ _ _ _ _ _ _ _ (@aC _ _ _ _ _ 8 _ _ nd rfl (Or.inl rfl) (@a7 _ _ _ _ _ _ _ _ _ _ _ _ _ _ _ hLbent GLbent (hr.mono (by decide)) ((¬0)∘((¬5)∘((¬2)∘((@cL _ _ _ _ _ _ _ (¬4) af)∘((@a7 _ _ _ _ _ _ _ _ _ _ _ _ _ _ _ hLodd GLodd (hr.mono (by decide)) ((@cL _ _ _ _ _ _ _ (¬4) af)∘ae) (by rfl) (by decide) (by rfl) (by rfl))∘ae))))) (by rfl) (by decide) (by rfl) (by rfl)) (by rfl) (by trivial))
      (@ah _ _ _ _ _ _ _ _ (@aC _ _ _ _ _ 9 _ _ nd rfl (Or.inl rfl) (@aV _ _ _ _ _ _ _ _ _ (@b_repr _ _ _ rfl hr) (by rfl) T.b_repr ((@av _ _ _ _ _ _ ((¬0)∘((¬1)∘((¬2)∘((¬8)∘ae)))))∘ae) (by decide) (by decide) (by rfl) (by rfl)) (by rfl) (by trivial))
      (@ah _ _ _ _ _ _ _ _ (@aC _ _ _ _ _ 10 _ _ nd rfl (Or.inl rfl) (@a7 _ _ _ _ _ _ _ _ _ _ _ _ _ _ _ hLcharges GLcharges (hr.mono (by decide)) ((¬0)∘((¬1)∘((¬2)∘((¬8)∘ae)))) (by rfl) (by decide) (by rfl) (by rfl)) (by rfl) (by trivial))
      (@ah _ _ _ _ _ _ _ _ (@cM _ _ _ _ _ _ _ _ _ _ _ (@oB _ _ _ _ (@l0 _ _ _ _ _ _ _ _ (@eG _ _ _ _ _ (@cN _ _ _ _ (@a7 _ _ _ _ _ _ _ _ _ _ _ _ _ _ _ hLsays GLsays (hr.mono (by decide)) ((@a7 _ _ _ _ _ _ _ _ _ _ _ _ _ _ _ h_charges_hold G_charges_hold (hr.mono (by decide)) ((¬0)∘((¬1)∘((¬2)∘((¬8)∘ae)))) (by rfl) (by decide) (by rfl) (by rfl))∘((¬10)∘ae)) (by rfl) (by decide) (by rfl) (by rfl)) (by intro _;rfl))) (@m6 _ _ _ _ _ (@bE _ _ _ _ _ _ _ _ _ (@vL _ _ _ rfl hr) (@aV _ _ _ _ _ _ _ _ _ (@b_repr _ _ _ rfl hr) (by rfl) T.b_repr ((@av _ _ _ _ _ _ ((¬0)∘((¬1)∘((¬2)∘((¬8)∘ae)))))∘ae) (by decide) (by decide) (by rfl) (by rfl)) (¬9) (aZ _)))))
      (@am _ _ _ _ _ (@aF _ _ _ _ _ (@cv _ _ _ _ _)))
      (@bh _ _))
      (@ah _ _ _ _ _ _ _ _ (@cM _ _ _ _ _ _ _ _ _ _ _ (@oB _ _ _ _ (@kG _ _ _ _ _ _ _ _ (@cN _ _ _ _ (¬10) (by intro _;rfl)) (@jW _ _ _ _ _ (@bE _ _ _ _ _ _ _ _ _ (@yD _ _) (@a7 _ _ _ _ _ _ _ _ _ _ _ _ _ _ _ hLsum_of GLsum_of (hr.mono (by decide)) ((¬0)∘((¬2)∘ae)) (by rfl) (by decide) (by rfl) (by rfl)) (@iM _ _ _ _ _ _ _ rfl af (@a7 _ _ _ _ _ _ _ _ _ _ _ _ _ _ _ hLsum_of GLsum_of (hr.mono (by decide)) ((¬0)∘((¬1)∘ae)) (by rfl) (by decide) (by rfl) (by rfl))) (aZ _)))))
      (@am _ _ _ _ _ (@aF _ _ _ _ _ (@cv _ _ _ _ _)))
      (@bh _ _))
      (@am _ _ _ _ _ (@cM _ _ _ _ _ _ _ _ _ _ _ (@eG _ _ _ _ _ (@cN _ _ _ _ (@a7 _ _ _ _ _ _ _ _ _ _ _ _ _ _ _ hLsays GLsays (hr.mono (by decide)) ((@a7 _ _ _ _ _ _ _ _ _ _ _ _ _ _ _ h_charges_hold G_charges_hold (hr.mono (by decide)) ((¬0)∘((¬1)∘((¬2)∘((¬5)∘ae)))) (by rfl) (by decide) (by rfl) (by rfl))∘((@a7 _ _ _ _ _ _ _ _ _ _ _ _ _ _ _ hLcharges GLcharges (hr.mono (by decide)) ((¬0)∘((¬1)∘((¬2)∘((¬5)∘ae)))) (by rfl) (by decide) (by rfl) (by rfl))∘ae)) (by rfl) (by decide) (by rfl) (by rfl)) (by intro _;rfl)))
      (@am _ _ _ _ _ (@aF _ _ _ _ _ (@cv _ _ _ _ _)))
      (@bh _ _))))))))))) (by intro _;rfl))
      (@am _ _ _ _ _ (@aF _ _ _ _ _ (@kB _ _ _ _ _ _ _ _ (@ef _ _ _ _ _ _ _ _ _ (@vK _ _) (@a7 _ _ _ _ _ _ _ _ _ _ _ _ _ _ _ h_charges_hold G_charges_hold (hr.mono (by decide)) ((¬0)∘((¬1)∘((@av _ _ _ _ _ _ ae)∘((@av _ _ _ _ _ _ ae)∘ae)))) (by rfl) (by decide) (by rfl) (by rfl)) (@cv _ _ _ _ _) (aZ _)) (@jn _ _ _ _ _ _ (@ef _ _ _ _ _ _ _ _ _ (@vK _ _) (@a7 _ _ _ _ _ _ _ _ _ _ _ _ _ _ _ h_charges_hold G_charges_hold (hr.mono (by decide)) ((¬0)∘((¬1)∘((¬1)∘((¬1)∘ae)))) (by rfl) (by decide) (by rfl) (by rfl)) (@cv _ _ _ _ _) (aZ _))))))))
noncomputable def CU:FI:=(dc (ac (vC (.int 5)) aj))
noncomputable def Bi:FE:=(cy 2 eu (ac (cy 1 a_ (ac (ag 0) aj)) (ac (au a' (ag 1) (vC (.int 2))) aj)))
noncomputable def DT:FI:=(dc (ac (vC (.int 4)) aj))
noncomputable def AN:FS:=(aH (a8 3 (au cg (bV (ac (cy 3 oh (ac (ag 1) (ac (vC (.int 12)) (ac (vC (.int 16)) aj)))) (ac (cy 1 eV (ac (cy 1 a_ (ac (ag 1) aj)) aj)) aj))) (au aN (ag 2) (vC (.int 2)))))
    (aH (a8 4 (au cg (bV (ac (aW (ac (cy 2 dX (ac (ag 1) (ac (ag 3) aj))) (ac (cy 2 dX (ac (ag 1) (ac (ag 3) aj))) aj))) (ac (aW (ac (aW (ac (vC (.int 1)) aj)) (ac (aW (ac (vC (.int 0)) (ac (vC (.int 2)) aj))) aj))) aj))) (au aN (ag 2) (vC (.int 2)))))
    (aH (a8 5 (dJ [(1,"_law_drawn")] 1 CU (aq 1) dy Bi))
    (iP (sj (gC (aQ (cy 4 dP (ac (ag 3) (ac (au cg (ag 4) (vC (.int 0))) (ac (au cg (ag 4) (vC (.int 1))) (ac (ag 5) aj))))))) (gC (aQ (cy 4 dP (ac (ag 3) (ac (au cg (ag 4) (vC (.int 1))) (ac (au cg (ag 4) (vC (.int 0))) (ac (ls (ag 5) cK (cC (vC (.int 2)))) aj))))))))
    (bx (vC (.bool false)))
    dQ))))
noncomputable def xU:FS:=(aH (a8 1 (cy 1 iI (ac (ag 0) aj)))
    (aH (cR ([2]++([3]++([4]++([5]++([]++[]))))) DT (aq 2) AN)
    (bx (vC (.bool true)))))
noncomputable def kr:FM:=hZ 1 5 ([1]++(([2]++([3]++([4]++([5]++([]++[])))))++[])) xU
theorem vj:aJ ["_law_script","_law_drawn","_law_k","_law_web_here","_law_pairs","_law_numbers"] ["_law_script"] (ao jE):=⟨rfl,rfl,rfl,by decide+kernel,rfl,by decide+kernel,by decide+kernel⟩
theorem zm(h:bz K mg "law" jE f fd ["_law_script"])(T:i8 mg){fLdraws:Addr}{eLdraws:FuncData}(hLdraws:bz K mg "_law_draws" iQ fLdraws eLdraws ["_law_script"])(GLdraws:aP P w K mg base bY 2 fLdraws eLdraws ["_law_script"] (cj K 1 iI)){fLmixed:Addr}{eLmixed:FuncData}(hLmixed:bz K mg "_law_mixed" gU fLmixed eLmixed ["_law_cell","_law_k"])(GLmixed:aP P w K mg base bY 1 fLmixed eLmixed ["_law_cell","_law_k"] (cj K 2 eu)){fLweb:Addr}{eLweb:FuncData}(hLweb:bz K mg "_law_web" oI fLweb eLweb ["_law_drawn","_law_most","_law_ties_here"])(GLweb:aP P w K mg base bY 5 fLweb eLweb ["_law_drawn","_law_most","_law_ties_here"] (cj K 3 oh)){fLcrossed:Addr}{eLcrossed:FuncData}(hLcrossed:bz K mg "_law_crossed" e6 fLcrossed eLcrossed ["_law_number"])(GLcrossed:aP P w K mg base bY 1 fLcrossed eLcrossed ["_law_number"] (cj K 1 eV)){fLnext:Addr}{eLnext:FuncData}(hLnext:bz K mg "_law_next" fJ fLnext eLnext ["_law_drawn"])(GLnext:aP P w K mg base bY 1 fLnext eLnext ["_law_drawn"] (cj K 1 a_)){fLright:Addr}{eLright:FuncData}(hLright:bz K mg "_law_right" iR fLright eLright ["_law_web_here","_law_kept","_law_other","_law_numbers"])(GLright:aP P w K mg base bY 4 fLright eLright ["_law_web_here","_law_kept","_law_other","_law_numbers"] (cj K 4 dP)){fLpairing:Addr}{eLpairing:FuncData}(hLpairing:bz K mg "_law_pairing" e_ fLpairing eLpairing ["_law_drawn","_law_web_here"])(GLpairing:aP P w K mg base bY 3 fLpairing eLpairing ["_law_drawn","_law_web_here"] (cj K 2 dX)):aP P w K mg base bY 6 f fd ["_law_script"] (cj K 1 kr):=by
  have nd:=vj.nd
  exact h.fn vj rfl rfl (fun cdv A outer s H E hr=>(@ah _ _ _ _ _ _ _ _ (@aC _ _ _ _ _ 1 _ _ nd rfl (Or.inr rfl) (@a7 _ _ _ _ _ _ _ _ _ _ _ _ _ _ _ hLdraws GLdraws (hr.mono (by decide)) ((¬0)∘ae) (by rfl) (by decide) (by rfl) (by rfl)) (by rfl) (by trivial))
      (@ah _ _ _ _ _ _ _ _ (@dD _ _ _ _ _ _ _ _ _ _ _ PassesOwn.never rfl (@dZ _ _ _ _ _ _ _ rfl T.b_range (af∘ae) (by rfl)) (@aX _ _ _ 2 _ nd rfl (Or.inl rfl) (by trivial))
      (@ah _ _ _ _ _ _ _ _ (@aC _ _ _ _ _ 3 _ _ nd rfl (Or.inl rfl) (@ba _ _ _ _ _ _ _ rfl (@aS _ _ _ _ _ ((@a7 _ _ _ _ _ _ _ _ _ _ _ _ _ _ _ hLweb GLweb (hr.mono (by decide)) ((¬1)∘(af∘(af∘ae))) (by rfl) (by decide) (by rfl) (by rfl))∘((@a7 _ _ _ _ _ _ _ _ _ _ _ _ _ _ _ hLcrossed GLcrossed (hr.mono (by decide)) ((@a7 _ _ _ _ _ _ _ _ _ _ _ _ _ _ _ hLnext GLnext (hr.mono (by decide)) ((¬1)∘ae) (by rfl) (by decide) (by rfl) (by rfl))∘ae) (by rfl) (by decide) (by rfl) (by rfl))∘ae))) (@aO _ _ _ _ _ _ _ (¬2) af) (fun _ _=>rfl)) (by rfl) (by trivial))
      (@ah _ _ _ _ _ _ _ _ (@aC _ _ _ _ _ 4 _ _ nd rfl (Or.inl rfl) (@ba _ _ _ _ _ _ _ rfl (@aS _ _ _ _ _ ((@av _ _ _ _ _ _ ((@a7 _ _ _ _ _ _ _ _ _ _ _ _ _ _ _ hLpairing GLpairing (hr.mono (by decide)) ((¬1)∘((¬3)∘ae)) (by rfl) (by decide) (by rfl) (by rfl))∘((@a7 _ _ _ _ _ _ _ _ _ _ _ _ _ _ _ hLpairing GLpairing (hr.mono (by decide)) ((¬1)∘((¬3)∘ae)) (by rfl) (by decide) (by rfl) (by rfl))∘ae)))∘((@av _ _ _ _ _ _ ((@av _ _ _ _ _ _ (af∘ae))∘((@av _ _ _ _ _ _ (af∘(af∘ae)))∘ae)))∘ae))) (@aO _ _ _ _ _ _ _ (¬2) af) (fun _ _=>rfl)) (by rfl) (by trivial))
      (@ah _ _ _ _ _ _ _ _ (@lY _ _ _ (5) _ _ _ _ _ _ _ _ _ _ _ _ _ (ao jE) ["_law_script","_law_drawn","_law_k","_law_web_here","_law_pairs","_law_numbers"] [(1,"_law_drawn")] ["_law_j"] rfl rfl rfl (@dZ _ _ _ _ _ _ _ rfl T.b_range (af∘ae) (by rfl))
        (fun C s0 H0 fp=>(@aX _ _ _ 1 _ (show List.Nodup (["_law_drawn","_law_j"]:List Str) by decide+kernel) rfl (Or.inl rfl) (by trivial))) (fun C s0 H0 fp=>(@iN _ _))
        (fun C s0 H0 fp=>(@a7 _ _ _ _ _ _ _ _ _ _ _ _ _ _ _ hLmixed GLmixed (hr.mono (by decide)) ((@a7 _ _ _ _ _ _ _ _ _ _ _ _ _ _ _ hLnext GLnext (hr.mono (by decide)) ((¬0)∘ae) (by rfl) (by decide) (by rfl) (by rfl))∘((@aU _ _ _ _ _ _ _ rfl (¬1) af)∘ae)) (by rfl) (by decide) (by rfl) (by rfl))) rfl (by decide+kernel) (by decide+kernel) (by decide+kernel) (by decide+kernel) (by decide+kernel) (by decide+kernel) (by decide+kernel) nd rfl rfl (by rfl) (by intro _;rfl))
      (@am _ _ _ _ _ (@cM _ _ _ _ _ _ _ _ _ _ _ (@oB _ _ _ _ (@l0 _ _ _ _ _ _ _ _ (@eG _ _ _ _ _ (@cN _ _ _ _ (@a7 _ _ _ _ _ _ _ _ _ _ _ _ _ _ _ hLright GLright (hr.mono (by decide)) ((¬3)∘((@ba _ _ _ _ _ _ _ rfl (¬4) af (fun _ _=>rfl))∘((@ba _ _ _ _ _ _ _ rfl (¬4) af (fun _ _=>rfl))∘((¬5)∘ae)))) (by rfl) (by decide) (by rfl) (by rfl)) (by intro _;rfl))) (@m6 _ _ _ _ _ (@eG _ _ _ _ _ (@cN _ _ _ _ (@a7 _ _ _ _ _ _ _ _ _ _ _ _ _ _ _ hLright GLright (hr.mono (by decide)) ((¬3)∘((@ba _ _ _ _ _ _ _ rfl (¬4) af (fun _ _=>rfl))∘((@ba _ _ _ _ _ _ _ rfl (¬4) af (fun _ _=>rfl))∘((@bJ _ _ _ _ _ _ _ _ _ _ rfl (¬5) (@bK _ _) (@bL _ _ _ _ af))∘ae)))) (by rfl) (by decide) (by rfl) (by rfl)) (by intro _;rfl))))))
      (@am _ _ _ _ _ (@aF _ _ _ _ _ (@cv _ _ _ _ _)))
      (@bh _ _)))))) (by intro _;rfl))
      (@am _ _ _ _ _ (@aF _ _ _ _ _ (@cv _ _ _ _ _))))))
local macro_rules | `(tactic| simp? [$ts,*]) => `(tactic| simp [$ts,*, hZ, om, aH, iP, bx, dQ, a8, gv, vc, vd, xg, aQ, au, oZ, ag, vC, bV, aj, ac, aW, aL, cy, lr, sj, gC, D2, iZ, rZ, oX, ls, cK, cC, dz, b_, BH, h_, iA, pA, eD, bS, vR, rX, er, be, aq, dI, cF, aK, bg, za, ek, cq, ke, gL, qB, qz, qu, qt, nR, nQ, nS, lM, nL, ye, tJ, tI, yf, tM, qA, tK, tL, nV, nU, lS, nW, yg, sv, pe, sx, sy, xW, lG, lF, ec, jT, List.replicate, -List.map_nil, -List.map_cons, -List.nil_append, -List.cons_append, -Option.bind_some, -Option.map_some, -getElem?_pos, -List.append_nil, x_, x9, x4, xZ, x6, x8, x5, ya])
theorem nu{n k:Int}(h:0 < k):0≤n % k:=Int.emod_nonneg _ (Int.ne_of_gt h)
theorem nv{n k:Int}(h:0 < k):n % k < k:=Int.emod_lt_of_pos _ h
def nx:List Int→Int
  | []=>0
  | d::_=>d
def fw(ds:List Int):Prop:=∀d∈ds,0≤d∧d < 2147483648
theorem yk{ds:List Int}(h:fw ds):0≤nx ds∧nx ds < 2147483648:=by
  cases ds with
  | nil=>exact⟨Int.le_refl 0,by show(0:Int) < 2147483648;decide⟩
  | cons d r=>exact h d (by simp)
theorem CH{ds:List Int}(h:fw ds):fw ds.tail:=fun d hd=>h d (List.mem_of_mem_tail hd)
theorem Ax(ds:List Int):a_ [.l (ds.map .int)]=some (.d (.int (nx ds)),[.l (ds.tail.map .int)]):=by
  have hq:∀e:En,e[0]?=some (some (.l (ds.map .int)))→cD false e (.s 0) (.l [])=some (.d (.bool (ds.map PyData.int).isEmpty)):=fun e he=>kc he (gy ds).1
  cases ds with
  | nil=>simp? [a_,ph,hq,nx]
  | cons d r=>simp? [a_,ph,hq,nx]
theorem gA{ds:List Int}(hd:fw ds):∃(n:Int) (ds':List Int),a_ [.l (ds.map .int)]=some (.d (.int n),[.l (ds'.map .int)])∧0≤n∧n < 2147483648∧fw ds':=⟨nx ds,ds.tail,Ax ds,(yk hd).1,(yk hd).2,CH hd⟩
theorem nh(cell k:Int)(h0:0≤k)(h1:k≤1000):∃r,eu [.d (.int cell),.d (.int k)]=some (.d (.int r),[.d (.int cell),.d (.int k)])∧0≤r∧r < 2147483648:=by
  have a1:ji (cell % 2147483647) 48271=true:=mS (by decide) (by decide)
  have a2:ji 7919 k=true:=pL (by decide) (by decide)
  have a3:ji (7919*k) k=true:=mS (by lia) (by lia)
  have a4:ji ((cell % 2147483647*48271+7919*k*k+104729) % 2147483647) ((cell % 2147483647*48271+7919*k*k+104729) % 2147483647)=true:=mS (by lia) (by lia)
  refine⟨_,by simp? [eu,qk,aB,iC,a1,a2,a3,a4];rfl,?_,?_⟩
  · lia
  · lia
theorem mF{ds:List Int}(h:fw ds){r:Int}(h0:0≤r)(h1:r < 2147483648):fw (ds++[r]):=fun d hd=>by
  rcases List.mem_append.mp hd with hd | hd
  · exact h d hd
  · simp at hd;subst hd;exact⟨h0,h1⟩
abbrev dE(ns ds:List Int)(v2 v3 v4:Option Sv):En:=[some (.d (.list (ns.map .int))),some (.l (ds.map .int)),v2,v3,v4]
inductive DI (ns:List Int) (i:Nat):En→Prop
  | mk {ds v2 v3 v4} (hd:fw ds) (hl:ds.length≤1000*i):DI ns i (dE ns ds v2 v3 v4)
inductive DJ (ns:List Int) (k cell:Int) (n i:Nat):En→Prop
  | mk {ds v4} (hd:fw ds) (hl:ds.length=n+i):DJ ns k cell n i (dE ns ds (some (.d (.int k))) (some (.d (.int cell))) v4)
inductive DW (ns:List Int) (k:Int) (v4:Option Sv) (n:Nat):En→Prop
  | mk {cell ds} (hc:0≤cell) (hd:fw ds) (hl:ds.length≤max n 900):DW ns k v4 n (dE ns ds (some (.d (.int k))) (some (.d (.int cell))) v4)
theorem xw(ns:List Int)(hn:ns.length≤63):∃ds,iI [.d (.list (ns.map .int))]=some (.l (ds.map .int),[.d (.list (ns.map .int))])∧fw ds:=by
  have inner:∀(cell k:Int) (ds:List Int) (v4:Option Sv),0≤k→k≤63→fw ds→ds.length≤63000→∃ds' v4',(∀W,cR W gM (aq 4) eP (dE ns ds (some (.d (.int k))) (some (.d (.int cell))) v4)=some (.nx (dE ns ds' (some (.d (.int k))) (some (.d (.int cell))) v4')))∧fw ds'∧ds'.length=ds.length+12:=by
    intro cell k ds v4 k0 k1 hd hl
    obtain⟨e',h1,h2⟩:=bN (own:=[]) (g:=aq 4) (f:=eP) (DJ ns k cell ds.length) (bF 0 12) 0 (dE ns ds (some (.d (.int k))) (some (.d (.int cell))) v4) (fun i x e hx hI=>by
      obtain⟨rfl,hi⟩:=c8 hx
      obtain⟨hd',hl'⟩:=hI
      rename_i ds' v4'
      obtain⟨r1,c1,_,_⟩:=nh cell (3*(0+(i:Int))+1) (by lia) (by lia)
      obtain⟨r2,c2,c3,c4⟩:=nh r1 (0+(i:Int)+k+2) (by lia) (by lia)
      have a1:ji 3 (0+(i:Int))=true:=pL (by decide) (by decide)
      refine⟨_,dE ns (ds'++[r2]) (some (.d (.int k))) (some (.d (.int cell))) (some (.d (.int (0+(i:Int))))),rfl,?_,br,.mk (mF hd' c3 c4) (by simp;lia)⟩
      have hlen:ds'.length < 1000000:=by lia
      simp only [Int.zero_add] at a1 c1 c2
      simp? [dE,eP,c1,c2,iC,a1,hlen]) (.mk hd rfl)
    obtain⟨hd',hl'⟩:=h2
    rename_i ds' v4'
    rw [eg] at hl'
    refine⟨ds',v4',fun W=>?_,hd',by lia⟩
    rw [cP (show gM _=some (bF 0 12,[],_) from fy (n:=12) rfl (by decide) (by decide))]
    exact h1
  have wh:∀(cell k:Int) (ds:List Int) (v4:Option Sv),0≤cell→fw ds→ds.length≤63100→∃cell' ds',ic (2 ^ 4200) dU gD (dE ns ds (some (.d (.int k))) (some (.d (.int cell))) v4)=some (.nx (dE ns ds' (some (.d (.int k))) (some (.d (.int cell'))) v4))∧0≤cell'∧fw ds'∧ds'.length≤max ds.length 900:=by
    intro cell k ds v4 hc hd hl
    have tst:∀(cell:Int) (ds:List Int),dU (dE ns ds (some (.d (.int k))) (some (.d (.int cell))) v4)=some (decide (1000000000000000000≤cell)&&decide ((ds.length:Int) < 900),dE ns ds (some (.d (.int k))) (some (.d (.int cell))) v4):=by
      intro cell ds
      by_cases h:(1000000000000000000:Int)≤cell
      · simp? [dE,dU,gb,iL,h]
      · simp? [dE,dU,gb,iL,h]
    obtain⟨e0,e',h1,hI,h3⟩:=ii (ft:=dU) (f:=gD) (DW ns k v4 ds.length)
      (fun e=>1000000 - yi 1 e) (fun e hI=>by
        obtain⟨hc',hd',hl'⟩:=hI
        rename_i cell' ds'
        rw [tst]
        by_cases c1:(1000000000000000000:Int)≤cell'
        · by_cases c2:(ds'.length:Int) < 900
          · refine .inr ⟨_,dE ns (ds'++[cell' % 2147483629]) (some (.d (.int k))) (some (.d (.int (cell' / 2147483629)))) v4,by rw [decide_eq_true c1,decide_eq_true c2];rfl,?_,.mk (by lia) (mF hd' (by lia) (by lia)) (by simp;lia),?_⟩
            · have hlen:ds'.length < 1000000:=by lia
              have b8:Bt 8000 2147483629:=dA (by decide) (by decide)
              simp? [dE,gD,aB,bA,b8,hlen]
            · simp [yi,dE];lia
          · exact .inl ⟨_,by rw [decide_eq_true c1,decide_eq_false c2];rfl,trivial⟩
        · exact .inl ⟨_,by rw [decide_eq_false c1];rfl,trivial⟩) (2 ^ 4200) _ (.mk hc hd (by lia)) (qH (m:=20) (Nat.lt_of_le_of_lt (Nat.sub_le _ _) (by decide)) (by decide))
    obtain⟨hc',hd',hl'⟩:=hI
    rename_i cell' ds'
    rw [tst] at h3
    have h4:=(Prod.mk.inj (Option.some.inj h3)).2
    subst h4
    exact⟨cell',ds',h1,hc',hd',hl'⟩
  have turn:∀(i:Nat) (ds:List Int) (v3 v4:Option Sv) (hi:i < ns.length),fw ds→ds.length≤1000*i→∃ds2 v3' v4',dR (dE ns ds (some (.d (.int (i:Int)))) v3 v4)=some (.nx (dE ns ds2 (some (.d (.int (i:Int)))) v3' v4'))∧fw ds2∧ds2.length≤1000*(i+1):=by
    intro i ds v3 v4 hi hd hl
    have hcell:atI (ns.map PyData.int) (i:Int)=some (.int ns[i]):=by
      rw [fU (by lia) (by rw [List.length_map];lia)]
      simp [hi]
    have c0:(0:Int)≤(ns[i].natAbs:Int):=by lia
    have st:a8 3 (aL (g1 rp) (ac (au cg (ag 0) (ag 2)) aj)) (dE ns ds (some (.d (.int (i:Int)))) v3 v4)=some (.nx (dE ns ds (some (.d (.int (i:Int)))) (some (.d (.int (ns[i].natAbs:Int)))) v4)):=by
      simp? [dE,hcell]
    generalize (ns[i].natAbs:Int)=cell at c0 st
    have mid:∃ds1 v4',iP (aQ (au tN (ag 3) (au mL (vC (.int 10)) (vC (.int 18))))) (cR ([4]++[]) gM (aq 4) eP) dQ (dE ns ds (some (.d (.int (i:Int)))) (some (.d (.int cell))) v4)=some (.nx (dE ns ds1 (some (.d (.int (i:Int)))) (some (.d (.int cell))) v4'))∧fw ds1∧ds1.length≤ds.length+12:=by
      by_cases cb:cell < 1000000000000000000
      · obtain⟨ds1,v4',f1,f2,f3⟩:=inner cell (i:Int) ds v4 (by lia) (by lia) hd (by lia)
        refine⟨ds1,v4',?_,f2,by lia⟩
        rw [Cf (e1:=dE ns ds (some (.d (.int (i:Int)))) (some (.d (.int cell))) v4) (by simp? [dE,gb,iL,cb])]
        exact f1 _
      · refine⟨ds,v4,?_,hd,by lia⟩
        rw [Ce (e1:=dE ns ds (some (.d (.int (i:Int)))) (some (.d (.int cell))) v4) (by simp? [dE,gb,iL,cb])]
        rfl
    obtain⟨ds1,v4',m1,m2,m3⟩:=mid
    obtain⟨cell2,ds2,w1,w2,w3,w4⟩:=wh cell (i:Int) ds1 v4' c0 m2 (by lia)
    by_cases c2:(2147483629:Int)≤cell2
    · refine⟨ds2++[cell2 % 2147483629],some (.d (.int cell2)),v4',?_,mF w3 (by lia) (by lia),by simp;lia⟩
      have hlen:ds2.length < 1000000:=by lia
      unfold dR
      rw [bw st,bw m1,bw w1]
      simp? [dE,c2,aB,hlen]
    · refine⟨ds2,some (.d (.int cell2)),v4',?_,w3,by lia⟩
      unfold dR
      rw [bw st,bw m1,bw w1]
      simp? [dE,c2]
  obtain⟨e',h1,hI⟩:=bN (own:=[]) (g:=aq 2) (f:=dR) (DI ns) (bF 0 (min (ns.length:Int) 63).toNat) 0 (dE ns [] none none none) (fun i x e hx hI=>by
    obtain⟨rfl,hi⟩:=c8 hx
    obtain⟨hd,hl⟩:=hI
    rename_i ds v2 v3 v4
    rw [Nat.zero_add] at hl ⊢
    obtain⟨ds2,v3',v4',t1,t2,t3⟩:=turn i ds v3 v4 (by lia) hd hl
    exact⟨dE ns ds (some (.d (.int (i:Int)))) v3 v4,_,by simp [aq,dE],t1,br,.mk t2 t3⟩) (.mk (fun d hd=>by cases hd) (by simp))
  obtain⟨hd,hl⟩:=hI
  rename_i ds v2 v3 v4
  refine⟨ds,?_,hd⟩
  have hf:∀W,cR W je (aq 2) dR (dE ns [] none none none)=some (.nx (dE ns ds v2 v3 v4)):=fun W=>by
    rw [cP (show je _=some (bF 0 (min (ns.length:Int) 63).toNat,[],dE ns [] none none none) from fy (n:=min (ns.length:Int) 63) (by simp? [dE]) (by lia) (by lia))]
    exact h1
  unfold dE at hf
  simp only [List.map_nil] at hf
  simp? [iI,qj,hf]
theorem Cz(a b:Int)(hb:Bt 4000 b):n_ [.d (.int a),.d (.int b)]=some (.d (.int (Int.gcd a b)),[.d (.int a),.d (.int b)]):=by
  have tst:∀x y:Int,iu [some (.d (.int x)),some (.d (.int y))]=some (!(y==0),[some (.d (.int x)),some (.d (.int y))]):=fun x y=>by simp? [iu]
  obtain⟨e0,e',h1,⟨x,y,he,hg,hy⟩,h3⟩:=ii (ft:=iu) (f:=jO) (fun e=>∃x y,e=[some (.d (.int x)),some (.d (.int y))]∧Int.gcd x y=Int.gcd a b∧Bt 4000 y) (uc 1) (fun e ⟨x,y,he,hg,hy⟩=>by
    subst he
    rw [tst]
    by_cases c:y=0
    · subst c;exact .inl ⟨_,rfl,trivial⟩
    · refine .inr ⟨_,[some (.d (.int y)),some (.d (.int (x.fmod y)))],by rw [beq_false_of_ne c];rfl,by simp? [jO,yO c],⟨y,x.fmod y,rfl,by rw [tS,hg],?_⟩,?_⟩
      · have:=jA x c
        exact Bt.of_le hy (by lia)
      · have:=jA x c
        simpa [uc] using this) (2 ^ 4200) _ ⟨a,b,rfl,rfl,hb⟩ (qH (m:=4000) (by simpa [uc,Bt] using hb) (by decide))
  subst he
  rw [tst] at h3
  have h4:=Prod.mk.inj (Option.some.inj h3)
  have hy0:y=0:=by simpa using h4.1
  subst hy0
  have h5:=h4.2
  subst h5
  have hs:ic (2 ^ 4200) iu jO [some (.d (.int a)),some (.d (.int b))]=some (.nx [some (.d (.int x)),some (.d (.int 0))]):=h1
  have hg':(x.natAbs:Int)=(Int.gcd a b:Int):=by rw [←hg];simp
  simp only [n_,xP,hZ,om,aH,iP,bx,dQ,a8,gv,vc,vd,xg,aQ,au,oZ,ag,vC,bV,aj,ac,aW,aL,cy,lr,sj,gC,D2,iZ,rZ,oX,ls,cK,cC,dz,b_,BH,h_,iA,pA,eD,bS,vR,rX,er,be,aq,dI,cF,aK,bg,za,ek,cq,ke,gL,qB,qz,qu,qt,nR,nQ,nS,lM,nL,ye,tJ,tI,yf,tM,qA,tK,tL,nV,nU,lS,nW,yg,sv,pe,sx,sy,xW,lG,lF,ec,jT,List.replicate, -List.map_nil, -List.map_cons, -List.nil_append, -List.cons_append, -Option.bind_some, -Option.map_some, -getElem?_pos, -List.append_nil,x_,x9,x4,xZ,x6,x8,x5,ya]
  simp? [hs,hg']
theorem yq(t b:Int)(hb:0 < b)(h:Bt 4000 b):lW [.d (.int t),.d (.int b)]=some (.d (.tuple [.int (dC t b).1,.int (dC t b).2]),[.d (.int t),.d (.int b)]):=by
  have g0:=qD (t:=t) (b:=b) (by lia)
  have g1:(Int.gcd t b:Int)≠0:=by lia
  have g8:Bt 8000 (Int.gcd t b:Int):=(yR (t:=t) (by lia) h).mono (by decide)
  have e:dC t b=(t.fdiv (Int.gcd t b:Int),b.fdiv (Int.gcd t b:Int)):=by unfold dC;rw [if_neg (by lia)]
  rw [e]
  simp? [lW,xQ,Cz t b h,vX g1 g8]
theorem xV{i:Int}{n:Nat}(h1: -2147483648 < i)(h2:i < 2147483648)(hn:31≤n):Bt n i:=Bt.mono (m:=31) (by unfold Bt;lia) hn
def sW(t b:Int):Prop:=0≤t∧t≤b∧1≤b∧b≤100∧Int.gcd t b=1
theorem vp(n k:Int)(hn:0≤n):∃t b,dj [.d (.int n),.d (.int k)]=some (.d (.tuple [.int t,.int b]),[.d (.int n),.d (.int k)])∧sW t b:=by
  have b9:Bt 8000 9:=dA (by decide) (by decide)
  have b100:Bt 8000 100:=dA (by decide) (by decide)
  have low:∀t b:Int,0 < b→0≤t→t≤b→b≤100→sW (dC t b).1 (dC t b).2:=fun t b hb h0 h1 h2=>by
    obtain⟨r1,r2,r3,r4⟩:=pJ hb h0 h1 h2
    exact⟨r1,r2,r3,r4,t_ (by lia)⟩
  by_cases c0:k=0
  · subst c0
    obtain⟨x,hx,ha⟩:=fR (xs:=[PyData.tuple [.int 1,.int 2],.tuple [.int 1,.int 3],.tuple [.int 2,.int 3],.tuple [.int 1,.int 1],.tuple [.int 0,.int 1],.tuple [.int 3,.int 4]]) (i:=n % 6) (by lia) (by simp;lia)
    obtain⟨t,b,rfl,hc⟩:∃t b,x=.tuple [.int t,.int b]∧sW t b:=by
      simp only [List.mem_cons,List.not_mem_nil,or_false] at hx
      rcases hx with rfl | rfl | rfl | rfl | rfl | rfl<;>exact⟨_,_,rfl,by unfold sW;decide⟩
    exact⟨t,b,by simp? [dj,fV,aB,ha],hc⟩
  · by_cases c1:k=1
    · subst c1
      have hm:(n / 9) % (2+n % 9 - 1) < 2+n % 9 - 1:=Int.emod_lt_of_pos _ (by lia)
      have hm0:0≤(n / 9) % (2+n % 9 - 1):=Int.emod_nonneg _ (by lia)
      refine⟨_,_,?_,low (1+(n / 9) % (2+n % 9 - 1)) (2+n % 9) (by lia) (by lia) (by lia) (by lia)⟩
      have hpos:∀e:En,aN e (.d (.int (n / 9))) (.d (.int (2+n % 9 - 1)))=_:=fun e=>aB (by lia)
      have hl:=yq (1+(n / 9) % (2+n % 9 - 1)) (2+n % 9) (by lia) (xV (by lia) (by lia) (by decide))
      simp? [dj,fV,aB,bA,b9,hpos,hl]
    · by_cases c2:k=2
      · subst c2
        have hm:(n / 100) % (1+n % 100+1) < 1+n % 100+1:=Int.emod_lt_of_pos _ (by lia)
        have hm0:0≤(n / 100) % (1+n % 100+1):=Int.emod_nonneg _ (by lia)
        refine⟨_,_,?_,low ((n / 100) % (1+n % 100+1)) (1+n % 100) (by lia) (by lia) (by lia) (by lia)⟩
        have hpos:∀e:En,aN e (.d (.int (n / 100))) (.d (.int (1+n % 100+1)))=_:=fun e=>aB (by lia)
        have hl:=yq ((n / 100) % (1+n % 100+1)) (1+n % 100) (by lia) (xV (by lia) (by lia) (by decide))
        simp? [dj,fV,aB,bA,b100,hpos,hl]
      · refine⟨1,1,?_,by unfold sW;decide⟩
        simp? [dj,fV,c0,c1,c2]
theorem xx(n k:Int):∃r,iJ [.d (.int n),.d (.int k)]=some (.d (.int r),[.d (.int n),.d (.int k)])∧0≤r∧r≤1000:=by
  obtain⟨x,hx,ha⟩:=fR (xs:=[PyData.int (n % 7),.int (5+n % 2),.int (n % 1001),.int (1000 - n % 3)]) (i:=k % 4) (by lia) (by simp;lia)
  obtain⟨r,rfl,hr⟩:∃r,x=.int r∧0≤r∧r≤1000:=by
    simp only [List.mem_cons,List.not_mem_nil,or_false] at hx
    rcases hx with rfl | rfl | rfl | rfl<;>exact⟨_,rfl,by lia,by lia⟩
  exact⟨r,by simp? [iJ,qm,aB,ha],hr⟩
abbrev tE(ds:List Int)(things many shape odds ws:Int)(ts:List mn)(v7 v8 v9 v10 v11 v12:Option Sv):En:=[some (.l (ds.map .int)),some (.d (.int things)),some (.d (.int many)),some (.d (.int shape)),some (.d (.int odds)),some (.d (.int ws)),some (.l (ts.map dh)),v7,v8,v9,v10,v11,v12]
inductive TR (things many shape odds ws:Int) (ts:List mn) (k:Option Sv):En→Prop
  | mk {t ds w8 w9 w10 w11 w12} (hd:fw ds) (ht:t.Ok things):TR things many shape odds ws ts k (tE ds things many shape odds ws (ts++[t]) k w8 w9 w10 w11 w12)
inductive TI (things many a b c:Int) (i:Nat):En→Prop
  | mk {ts ds w7 w8 w9 w10 w11 w12} (hd:fw ds) (hl:ts.length=i) (ht:∀t∈ts,t.Ok things):TI things many a b c i (tE ds things many a b c ts w7 w8 w9 w10 w11 w12)
theorem CF(ds:List Int)(things many shape odds ws:Int)(ts:List mn)(k:Int)(v8 v9 v10 v11 v12:Option Sv)(hd:fw ds)(h2:2≤things)(h12:things≤100)(s0:0≤shape)(s1:shape < 6)(k0:0≤k)(hl:ts.length≤1000):
    ∃e',eR (tE ds things many shape odds ws ts (some (.d (.int k))) v8 v9 v10 v11 v12)=some (.nx e')∧TR things many shape odds ws ts (some (.d (.int k))) e':=by
  obtain⟨n,d1,tn, -, -,hd1⟩:=gA hd
  obtain⟨m,d2,tm,m0, -,hd2⟩:=gA hd1
  obtain⟨x,hx,ha⟩:=fR (xs:=[PyData.int (n % things),.int 0,.int (k % things),.int (n % things),.int (n % 2),.int (n % things)]) (i:=shape) s0 (by simp;lia)
  have tp:0 < things:=Int.lt_of_lt_of_le (by decide) h2
  have tq:0 < things - 1:=Int.sub_pos_of_lt (Int.lt_of_lt_of_le (by decide) h2)
  have nt:0≤n % things∧n % things < things:=⟨nu tp,nv tp⟩
  have kt:0≤k % things∧k % things < things:=⟨nu tp,nv tp⟩
  obtain⟨one,rfl,o0,o1⟩:∃r,x=.int r∧0≤r∧r < things:=by
    simp only [List.mem_cons,List.not_mem_nil,or_false] at hx
    rcases hx with rfl | rfl | rfl | rfl | rfl | rfl<;>exact⟨_,rfl,by lia,by lia⟩
  have r0:0≤(n / 12) % (things - 1):=nu tq
  have r1:(n / 12) % (things - 1) < things - 1:=nv tq
  have q0:0≤(one+1+(n / 12) % (things - 1)) % things:=nu tp
  have q1:(one+1+(n / 12) % (things - 1)) % things < things:=nv tp
  have qn:(one+1+(n / 12) % (things - 1)) % things≠one:=fun z=>by
    by_cases c:one+1+(n / 12) % (things - 1) < things
    · rw [Int.emod_eq_of_lt (by lia) c] at z;lia
    · have e:(one+1+(n / 12) % (things - 1)) % things=(one+1+(n / 12) % (things - 1) - things) % things:=by rw [Int.sub_emod_right]
      rw [e,Int.emod_eq_of_lt (by lia) (by lia)] at z;lia
  obtain⟨t,b,c1,c2,c3,c4,c5,c6⟩:=vp m odds m0
  obtain⟨w,w1,w2,w3⟩:=xx (m / 10007) ws
  have b12:Bt 8000 12:=dA (by decide) (by decide)
  have b107:Bt 8000 10007:=dA (by decide) (by decide)
  have g1:∀(e:En) (i:Int),aN e (.d (.int i)) (.d (.int things))=some (.d (.int (i % things))):=fun e i=>aB tp
  have g2:∀(e:En) (i:Int),aN e (.d (.int i)) (.d (.int (things - 1)))=some (.d (.int (i % (things - 1)))):=fun e i=>aB tq
  have hlen:ts.length < 1000000:=by lia
  by_cases c:shape=4
  · subst c
    refine⟨tE d2 things many 4 odds ws (ts++[⟨0,1,t,b,w⟩]) (some (.d (.int k))) (some (.d (.int n))) (some (.d (.int 0))) (some (.d (.int 1))) (some (.d (.int m))) (some (.d (.tuple [.int 0,.int 1]))),?_,.mk hd2 ⟨by show(0:Int)≤0;decide,by show(0:Int) < 1;decide,by show(1:Int) < things;lia,c2,c3,c4,c5,w2,w3,c6⟩⟩
    simp? [tE,eR,tn,tm,aB,g1,g2,bA,b12,b107,ha,c1,w1,mK,dh,hlen]
    decide
  · refine⟨tE d2 things many shape odds ws (ts++[⟨min one ((one+1+(n / 12) % (things - 1)) % things),max one ((one+1+(n / 12) % (things - 1)) % things),t,b,w⟩]) (some (.d (.int k))) (some (.d (.int n))) (some (.d (.int one))) (some (.d (.int ((one+1+(n / 12) % (things - 1)) % things)))) (some (.d (.int m))) (some (.d (.tuple [.int (min one ((one+1+(n / 12) % (things - 1)) % things)),.int (max one ((one+1+(n / 12) % (things - 1)) % things))]))),?_,.mk hd2 ⟨by show 0≤min _ _;lia,by show min _ _ < max _ _;lia,by show max _ _ < _;lia,c2,c3,c4,c5,w2,w3,c6⟩⟩
    simp? [tE,eR,tn,tm,aB,g1,g2,bA,b12,b107,ha,c1,w1,mK,dh,hlen,c]
theorem Az(ds:List Int)(things many:Int)(hd:fw ds)(h2:2≤things)(h12:things≤100)(m0:0≤many)(m1:many≤1000):∃(ts:List mn) (ds':List Int),ko [.l (ds.map .int),.d (.int things),.d (.int many)]=some (.d (.tuple (ts.map dh)),[.l (ds'.map .int),.d (.int things),.d (.int many)])∧fw ds'∧(ts.length:Int)=many∧∀t∈ts,t.Ok things:=by
  obtain⟨n0,d1,t0, -, -,hd1⟩:=gA hd
  obtain⟨n1,d2,t1, -, -,hd2⟩:=gA hd1
  obtain⟨n2,d3,t2, -, -,hd3⟩:=gA hd2
  obtain⟨e',h1,hI⟩:=bN (own:=[]) (g:=aq 7) (f:=eR) (TI things many (n0 % 6) (n1 % 4) (n2 % 4)) (bF 0 many.toNat) 0 (tE d3 things many (n0 % 6) (n1 % 4) (n2 % 4) [] none none none none none none) (fun i x e hx hI=>by
    obtain⟨rfl,hi⟩:=c8 hx
    obtain⟨hd',hl,ht⟩:=hI
    rename_i ts ds' w7 w8 w9 w10 w11 w12
    obtain⟨e9,s1,⟨s2,s3⟩⟩:=CF ds' things many (n0 % 6) (n1 % 4) (n2 % 4) ts (0+(i:Int)) w8 w9 w10 w11 w12 hd' h2 h12 (nu (by decide)) (nv (by decide)) (by lia) (by lia)
    exact⟨_,_,rfl,s1,br,.mk s2 (by simp;lia) fun z hz=>by
      rcases List.mem_append.mp hz with hz | hz
      · exact ht z hz
      · simp at hz;subst hz;exact s3⟩) (.mk hd3 rfl fun t ht=>by cases ht)
  obtain⟨hd',hl,ht⟩:=hI
  rename_i ts ds' w7 w8 w9 w10 w11 w12
  refine⟨ts,ds',?_,hd',by rw [hl,eg];lia,ht⟩
  have hf:∀W,cR W kg (aq 7) eR (tE d3 things many (n0 % 6) (n1 % 4) (n2 % 4) [] none none none none none none)=some (.nx (tE ds' things many (n0 % 6) (n1 % 4) (n2 % 4) ts w7 w8 w9 w10 w11 w12)):=fun W=>by
    rw [cP (show kg _=some (bF 0 many.toNat,[],tE d3 things many (n0 % 6) (n1 % 4) (n2 % 4) [] none none none none none none) from fy (n:=many) (by simp? [tE]) (by lia) (by lia))]
    exact h1
  unfold tE at hf
  simp only [List.map_nil] at hf
  simp? [ko,sI,t0,t1,t2,aB,hf]
abbrev wE(ds:List Int)(most tn things many:Int)(ts:List mn)(way:Int)(ps:List Int)(v8 v9:Option Sv):En:=[some (.l (ds.map .int)),some (.d (.int most)),some (.d (.int tn)),some (.d (.int things)),some (.d (.int many)),some (.d (.tuple (ts.map dh))),some (.d (.int way)),some (.l (ps.map .int)),v8,v9]
inductive WI (most tn things many:Int) (ts:List mn) (way:Int) (i:Nat):En→Prop
  | mk {ps ds w8} (hd:fw ds) (hpl:ps.length=i) (hps:∀p∈ps,0≤p∧p≤20):WI most tn things many ts way i (wE ds most tn things many ts way ps w8 none)
theorem CG(ds:List Int)(most tn:Int)(hd:fw ds)(m0:0≤most)(m1:most≤12)(k0:0≤tn)(k1:tn≤16):∃(W:bf) (ds':List Int),oh [.l (ds.map .int),.d (.int most),.d (.int tn)]=some (.d (aD W),[.l (ds'.map .int),.d (.int most),.d (.int tn)])∧fw ds'∧W.Ok∧W.things≤most∧(W.ties.length:Int)≤tn:=by
  obtain⟨n0,d1,t0, -, -,hd1⟩:=gA hd
  obtain⟨n1,d2,t1, -, -,hd2⟩:=gA hd1
  have mp:0 < most+1:=Int.lt_add_one_of_le m0
  have kp:0 < tn+1:=Int.lt_add_one_of_le k0
  have g0:∀(e:En),aN e (.d (.int n0)) (.d (.int (most+1)))=some (.d (.int (n0 % (most+1)))):=fun e=>aB mp
  have g1':∀(e:En),aN e (.d (.int n1)) (.d (.int (tn+1)))=some (.d (.int (n1 % (tn+1)))):=fun e=>aB kp
  have th0:0≤n0 % (most+1):=nu mp
  have th1:n0 % (most+1) < most+1:=nv mp
  have ti0:0≤n1 % (tn+1):=nu kp
  have ti1:n1 % (tn+1) < tn+1:=nv kp
  clear mp kp
  generalize n0 % (most+1)=things at th0 th1 g0
  generalize n1 % (tn+1)=tm at ti0 ti1 g1'
  obtain⟨many,hmany,mm,m00,m01⟩:∃many:Int,many=tm*(if decide (1 < things)=true then 1 else 0)∧(1 < things∨many=0)∧0≤many∧many≤tn:=by
    by_cases c:1 < things
    · exact⟨tm,by simp [c],.inl c,ti0,by lia⟩
    · exact⟨0,by simp [c],.inr rfl,by lia,by lia⟩
  have gm:∀e:En,eF e (.d (.int tm)) (.d (.int (if decide (1 < things)=true then 1 else 0)))=some (.d (.int many)):=fun e=>by
    rw [iC (mS (by split<;>decide) (by split<;>decide)),hmany]
  have gi:∀e:En,g1 lj e [.d (.bool (decide (1 < things)))]=some (.d (.int (if decide (1 < things)=true then 1 else 0))):=fun e=>rfl
  generalize (if decide (1 < things)=true then 1 else 0:Int)=one at gm gi
  obtain⟨ts,d3,t3,hd3,hlen,hts⟩:=Az d2 (max 2 things) many hd2 (by lia) (by lia) m00 (by lia)
  obtain⟨n4,d4,t4, -, -,hd4⟩:=gA hd3
  obtain⟨e',h1,hI⟩:=bN (own:=[]) (g:=aq 8) (f:=jP) (WI most tn things many ts (n4 % 3)) (bF 0 things.toNat) 0 (wE d4 most tn things many ts (n4 % 3) [] none none) (fun i x e hx hI=>by
    obtain⟨rfl,hi⟩:=c8 hx
    obtain⟨hd5,hpl,hps⟩:=hI
    rename_i ps d5 w8
    obtain⟨p1,d6,t6, -, -,hd6⟩:=gA hd5
    obtain⟨p2,d7,t7, -, -,hd7⟩:=gA hd6
    obtain⟨z,hz,ha⟩:=fR (xs:=[PyData.int 20,.int (1+p1 % 3),.int (p2 % 21)]) (i:=n4 % 3) (nu (by decide)) (nv (k:=3) (by decide))
    obtain⟨p,rfl,hp⟩:∃r,z=.int r∧0≤r∧r≤20:=by
      simp only [List.mem_cons,List.not_mem_nil,or_false] at hz
      rcases hz with rfl | rfl | rfl<;>exact⟨_,rfl,by lia,by lia⟩
    refine⟨wE d5 most tn things many ts (n4 % 3) ps (some (.d (.int (0+(i:Int))))) none,wE d7 most tn things many ts (n4 % 3) (ps++[p]) (some (.d (.int (0+(i:Int))))) none,rfl,?_,br,.mk hd7 (by simp;lia) fun q hq=>by
      rcases List.mem_append.mp hq with hq | hq
      · exact hps q hq
      · simp at hq;subst hq;exact hp⟩
    have hlen:ps.length < 1000000:=by lia
    simp? [wE,jP,t6,t7,aB,ha,hlen]) (.mk hd4 rfl fun p hp=>by cases hp)
  obtain⟨hd5,hpl,hps⟩:=hI
  rename_i ps d5 w8
  have hf:∀W,cR W mP (aq 8) jP (wE d4 most tn things many ts (n4 % 3) [] none none)=some (.nx (wE d5 most tn things many ts (n4 % 3) ps w8 none)):=fun W=>by
    rw [cP (show mP _=some (bF 0 things.toNat,[],wE d4 most tn things many ts (n4 % 3) [] none none) from fy (n:=things) (by simp? [wE]) (by lia) (by lia))]
    exact h1
  obtain⟨p1,d6,t6, -, -,hd6⟩:=gA hd5
  obtain⟨p2,d7,t7, -, -,hd7⟩:=gA hd6
  obtain⟨p3,d8,t8, -, -,hd8⟩:=gA hd7
  have xp:0 < max 1 many:=Int.lt_of_lt_of_le Int.zero_lt_one (Int.le_max_left _ _)
  have gx:∀(e:En),aN e (.d (.int p1)) (.d (.int (max 1 many)))=some (.d (.int (p1 % max 1 many))):=fun e=>aB xp
  have x0:0≤p1 % max 1 many:=nu xp
  have x1:p1 % max 1 many < max 1 many:=nv xp
  obtain⟨z,hz,ha⟩:=fR (xs:=[PyData.int 40,.int (1+p1 % max 1 many),.int (p2 % 41)]) (i:=p3 % 3) (nu (by decide)) (nv (k:=3) (by decide))
  obtain⟨asks,rfl,hasks⟩:∃r,z=.int r∧0≤r∧r≤40:=by
    simp only [List.mem_cons,List.not_mem_nil,or_false] at hz
    rcases hz with rfl | rfl | rfl<;>exact⟨_,rfl,by lia,by lia⟩
  rw [eg] at hpl
  refine⟨⟨things,ts,ps,asks⟩,d8,?_,hd8,⟨th0,by show things≤12;lia,fun t ht=>?_,by show ts.length≤16;lia,by show(ps.length:Int)=things;lia,hps,hasks.1,hasks.2⟩,by show things≤most;lia,by show(ts.length:Int)≤tn;lia⟩
  · unfold wE at hf
    simp only [List.map_nil] at hf
    simp? [oh,xT,t0,t1,g0,g1',gm,gi,t3,t4,aB,hf,t6,t7,t8,gx,ha,aD]
  · rcases mm with c | c
    · have:=hts t ht
      rw [show max 2 things=things by lia] at this
      exact this
    · have:ts=[]:=List.length_eq_zero_iff.mp (by lia)
      subst this;cases ht
def pE:PyData→Bool
  | .int _=>true
  | .bool _=>true
  | _=>false
def rC:PyData→Bool
  | .bool _=>true
  | _=>false
def v_:PyData→Bool
  | .tuple _=>true
  | _=>false
theorem yc{e:En}{d:PyData}:jK "int" e (.d d)=some (.d (.bool (pE d))):=by cases d<;>rfl
theorem Bl{e:En}{d:PyData}:jK "bool" e (.d d)=some (.d (.bool (rC d))):=by cases d<;>rfl
theorem tR{e:En}{d:PyData}:jK "tuple" e (.d d)=some (.d (.bool (v_ d))):=by cases d<;>rfl
theorem qG{d:PyData}(h:v_ d=true):∃ds,d=.tuple ds:=by cases d<;>first | exact⟨_,rfl⟩ | cases h
theorem yY(d:PyData):Dj d=(pE d&& !rC d):=by cases d<;>rfl
theorem Ay(d:PyData):dk [.d d]=some (.d (.bool (Dj d)),[.d d]):=by
  rw [yY]
  have g1:=fun e=>yc (e:=e) (d:=d)
  have g2:=fun e=>Bl (e:=e) (d:=d)
  generalize pE d=a at*
  generalize rC d=b at*
  cases a<;>simp? [dk,jv,g1,g2]
def ug:List PyData:=[.none,.bool true,.bool false,.int 0,.int 1,.int (-1),.int 5,.str "",.str "a",.str "0",.tuple [],.tuple [.int 0],.tuple [.int 0,.int 1],.tuple [.tuple [],.tuple []],.list [],.list [.int 0],.dict [],.dict [(.int 0,.int 1)],.tuple [.none],.tuple [.tuple []],.list [.tuple []],.tuple [.bool true,.bool false],.tuple [.tuple [.int 0,.int 1],.tuple [.int 1,.int 2]],.tuple [.tuple [.tuple [],.tuple []]],.tuple [.str "a",.int 1],.tuple [.tuple [.int 0,.int 1]],.int (10 ^ 30)]
theorem CB(n:Int):∃d∈ug,oa [.d (.int n)]=some (.d d,[.d (.int n)]):=by
  have m0:0≤n % 27:=Int.emod_nonneg _ (by decide)
  have m1:n % 27 < 27:=Int.emod_lt_of_pos _ (by decide)
  obtain⟨d,hd,ha⟩:=fR (xs:=ug) m0 (by show n % 27 < 27;exact m1)
  have gm:∀e,aN e (.d (.int n)) (.d (.int 27))=some (.d (.int (n % 27))):=fun e=>aB (by decide)
  have gp:∀e,mL e (.d (.int 10)) (.d (.int 30))=some (.d (.int (10 ^ 30))):=fun e=>gb (i:=10) (j:=30) (by decide)
  refine⟨d,hd,?_⟩
  generalize n % 27=k at*
  generalize hb:(10 ^ 30:Int)=big at*
  rw [show ug=[.none,.bool true,.bool false,.int 0,.int 1,.int (-1),.int 5,.str "",.str "a",.str "0",.tuple [],.tuple [.int 0],.tuple [.int 0,.int 1],.tuple [.tuple [],.tuple []],.list [],.list [.int 0],.dict [],.dict [(.int 0,.int 1)],.tuple [.none],.tuple [.tuple []],.list [.tuple []],.tuple [.bool true,.bool false],.tuple [.tuple [.int 0,.int 1],.tuple [.int 1,.int 2]],.tuple [.tuple [.tuple [],.tuple []]],.tuple [.str "a",.int 1],.tuple [.tuple [.int 0,.int 1]],.int big] by rw [←hb];rfl] at ha
  have gc:∀(e:En) (xs ys:List PyData),e[1]?=some (some (.l xs))→xs.length+ys.length≤1000000→a' e (.s 1) (.l ys)=some (.l (xs++ys)):=fun e xs ys he h=>jS he h
  simp? [oa,xR,gm,gp,gc,ha,jH]
theorem p4(a b:Bool):hX [.d (.bool a),.d (.bool b)]=some (.d (.bool (a==b)),[.d (.bool a),.d (.bool b)]):=by
  have gi:∀(e:En) (x y:Bool),yd e (.d (.bool x)) (.d (.bool y))=some (.d (.bool (x==y))):=fun e x y=>rfl
  cases a<;>cases b<;>simp? [hX,sG,gi]
theorem rV(d:PyData)(n:Int):cA [.d d,.d (.int n)]=some (.d (.bool (pV n d)),[.d d,.d (.int n)]):=by
  have g:=fun e=>tR (e:=e) (d:=d)
  cases c:v_ d with
  | false=>
    rw [c] at g
    have e:pV n d=false:=by cases d<;>first | rfl | cases c
    rw [e]
    simp? [cA,fX,g]
  | true=>
    rw [c] at g
    obtain⟨ds,rfl⟩:=qG c
    simp? [cA,fX,g,pV]
theorem jG{W:bf}{k:Int}(hk:dG W k):cB [.d (aD W),.d (.int k)]=some (.d (.tuple [.int (W.tie k).one,.int (W.tie k).other]),[.d (aD W),.d (.int k)]):=by
  rw [j_]
  simp? [cB,jw,dg hk,dh]
theorem yS{W:bf}(e:En):cg e (.d (aD W)) (.d (.int 1))=some (.d (.tuple (W.ties.map dh))):=by rw [j_,tJ,pe];rfl
theorem gJ{α:Type}(l:List α):l.filter (fun _=>true)=l:=List.filter_eq_self.mpr fun _ _=>rfl
def Al(W:bf)(a b:Int):Bool:=((W.tie b).one==(W.tie a).one || (W.tie b).other==(W.tie a).one) || ((W.tie b).one==(W.tie a).other || (W.tie b).other==(W.tie a).other)
def lc(W:bf)(a b:Int):Bool:=Al W a b&&decide ((W.tie b).worth≤(W.tie a).worth)
theorem CA{W:bf}(ok:W.Ok){a b:Int}(ha:dG W a)(hb:dG W b):bt [.d (aD W),.d (.int a),.d (.int b)]=some (.d (.bool (lc W a b)),[.d (aD W),.d (.int a),.d (.int b)]):=by
  have g1':=yS (W:=W)
  have ta:=jG ha
  have tb:=jG hb
  have aa:=dg ha
  have ab:=dg hb
  have i1:∀(e:En) (z:Int),k9 false e (.d (.int z)) (.d (.tuple [.int (W.tie b).one,.int (W.tie b).other]))=some (.d (.bool ((W.tie b).one==z || (W.tie b).other==z))):=fun e z=>jT
  obtain⟨t',hf⟩:=dW (cs:=[some (.d (aD W)),some (.d (.int b))]) (ft:=dy) (fe:=bv) (b:=fun _=>true) (y:=fun x=>.bool (match x with | .int z=>(W.tie b).one==z || (W.tie b).other==z | _=>false)) [.int (W.tie a).one,.int (W.tie a).other] none [] (fun x _=>rfl) (fun x hx _=>by
    obtain⟨z,rfl⟩:∃z,x=.int z:=by
      simp only [List.mem_cons,List.not_mem_nil,or_false] at hx
      rcases hx with rfl | rfl<;>exact⟨_,rfl⟩
    have i2:=fun e=>i1 e z
    show bv [some (.d (aD W)),some (.d (.int b)),some (.d (.int z))]=some (.d (.bool ((W.tie b).one==z || (W.tie b).other==z)),[some (.d (aD W)),some (.d (.int b)),some (.d (.int z))])
    generalize ((W.tie b).one==z || (W.tie b).other==z)=bb at*
    simp? [bv,tb,i2]) (by simp)
  have hv:=gB (cp:=[(0,"web"),(2,"other")]) (nT:=1) (fi:=ed) (g:=aq 2) (ft:=dy) (fe:=bv) (e:=[some (.d (aD W)),some (.d (.int a)),some (.d (.int b))]) (e1:=[some (.d (aD W)),some (.d (.int a)),some (.d (.int b))]) (items:=[.int (W.tie a).one,.int (W.tie a).other]) (cs:=[some (.d (aD W)),some (.d (.int b))]) (t:=[none]) (t':=[t']) (tV (by simp? [ta])) rfl rfl hf
  rw [List.nil_append,gJ] at hv
  have ga:∀e:En,g1 (cI lL) e [.l ([PyData.int (W.tie a).one,.int (W.tie a).other].map fun x=>.bool (match x with | .int z=>(W.tie b).one==z || (W.tie b).other==z | _=>false))]=some (.d (.bool (Al W a b))):=fun e=>by
    rw [tG]
    simp [Al]
  generalize ([PyData.int (W.tie a).one,.int (W.tie a).other].map fun x=>PyData.bool (match x with | .int z=>(W.tie b).one==z || (W.tie b).other==z | _=>false))=M at*
  unfold lc
  cases c:Al W a b with
  | false=>
    rw [c] at ga
    simp? [bt,cW,hv,ga]
  | true=>
    rw [c] at ga
    unfold dh at aa ab g1'
    have gg:∀e:En,yK e (.d (.int (W.tie a).worth)) (.d (.int (W.tie b).worth))=some (.d (.bool (decide ((W.tie b).worth≤(W.tie a).worth)))):=fun e=>rfl
    rw [Bool.true_and]
    generalize decide ((W.tie b).worth≤(W.tie a).worth)=bb at*
    generalize (W.ties.map fun t=>PyData.tuple [.int t.one,.int t.other,.tuple [.int t.top,.int t.bot],.int t.worth])=TT at*
    simp? [bt,cW,hv,ga,g1',aa,ab,gg]
theorem ng{W:bf}(ok:W.Ok){a b:Int}(ha:dG W a)(hb:dG W b):et [.d (aD W),.d (.int a),.d (.int b)]=some (.d (.bool (lc W a b)),[.d (aD W),.d (.int a),.d (.int b)]):=by
  have g1':=yS (W:=W)
  have aa:=dg ha
  have ab:=dg hb
  have cu:L2.cutD [PyData.int (W.tie b).one,.int (W.tie b).other,.tuple [.int (W.tie b).top,.int (W.tie b).bot],.int (W.tie b).worth] none (some 2)=[.int (W.tie b).one,.int (W.tie b).other]:=rfl
  have i1:∀(e:En) (z:Int),k9 false e (.d (.int z)) (.d (.tuple [.int (W.tie b).one,.int (W.tie b).other]))=some (.d (.bool ((W.tie b).one==z || (W.tie b).other==z))):=fun e z=>jT
  unfold dh at aa ab g1'
  generalize (W.ties.map fun t=>PyData.tuple [.int t.one,.int t.other,.tuple [.int t.top,.int t.bot],.int t.worth])=TT at*
  unfold lc
  by_cases c:(W.tie a).worth < (W.tie b).worth
  · rw [decide_eq_false (show ¬(W.tie b).worth≤(W.tie a).worth by lia),Bool.and_false]
    simp? [et,mw,g1',aa,ab,c]
  · rw [decide_eq_true (show(W.tie b).worth≤(W.tie a).worth by lia),Bool.and_true]
    unfold Al
    have i2:=fun e=>i1 e (W.tie a).one
    have i3:=fun e=>i1 e (W.tie a).other
    generalize ((W.tie b).one==(W.tie a).one || (W.tie b).other==(W.tie a).one)=p at*
    generalize ((W.tie b).one==(W.tie a).other || (W.tie b).other==(W.tie a).other)=q at*
    cases p<;>simp? [et,mw,g1',aa,ab,c,cu,i2,i3]
def lh(W:bf)(ks:List Int):PyData→Bool
  | .tuple [.int a,.int b]=>ks.contains a&&lc W a b
  | _=>false
def jb(W:bf)(ks os:List Int):PyData→Bool
  | .tuple ds=>((ds.length:Int)==(os.length:Int))&&(cS ds (os.map .int)).all (lh W ks)
  | _=>false
theorem nq{ds:List PyData}{os:List Int}{x:PyData}(h:x∈cS ds (os.map .int)):∃d b,b∈os∧x=.tuple [d,.int b]:=by
  obtain⟨i,hi⟩:=List.getElem?_of_mem h
  obtain⟨d,y,h1,h2,rfl⟩:=k8 hi
  rw [List.getElem?_map] at h2
  obtain⟨b,hb,rfl⟩:=Option.map_eq_some_iff.mp h2
  exact⟨d,b,List.mem_of_getElem? hb,rfl⟩
theorem fm{W:bf}(ok:W.Ok){ks os:List Int}(hk:∀k∈ks,dG W k)(ho:∀k∈os,dG W k)(hl:os.length≤1000)(d:PyData):aR [.d (aD W),.d (.tuple (ks.map .int)),.d (.tuple (os.map .int)),.d d]=some (.d (.bool (jb W ks os d)),[.d (aD W),.d (.tuple (ks.map .int)),.d (.tuple (os.map .int)),.d d]):=by
  have tr:=rV d (os.length:Int)
  have ql:((os.map PyData.int).length:Int)=(os.length:Int):=by simp
  cases c:pV (os.length:Int) d with
  | false=>
    rw [c] at tr
    have e:jb W ks os d=false:=by
      cases d with
      | tuple ds=>simp only [pV] at c;simp only [jb,c,Bool.false_and]
      | _=>rfl
    rw [e]
    generalize os.map PyData.int=OO at*
    generalize ks.map PyData.int=KK at*
    simp? [aR,d9,ql,tr]
  | true=>
    rw [c] at tr
    cases d with
    | tuple ds=>
      have hd:(ds.length:Int)=(os.length:Int):=by simpa [pV] using c
      obtain⟨t2,ht2,hf2⟩:=hJ (cs:=[some (.d (.tuple (ks.map .int))),some (.d (aD W))]) (g:=er (be (aq 2) (be (aq 3) dI))) (ft:=dy) (fe:=a9) (b:=fun _=>true) (y:=fun x=>.bool (lh W ks x)) (u:=fun x=>match x with | .tuple [a,b]=>[some (.d a),some (.d b)] | _=>[]) 2 (cS ds (os.map .int)) [none,none] [] rfl (fun x hx t ht=>by
        obtain⟨a,b,_,rfl⟩:=nq hx
        rcases t with _ | ⟨a1,_ | ⟨a2,_ | ⟨a3,r⟩⟩⟩
        · simp at ht
        · simp at ht
        · rfl
        · simp at ht) (fun x hx=>by
        obtain⟨a,b,_,rfl⟩:=nq hx
        rfl) (fun x _=>rfl) (fun x hx _=>by
        obtain⟨a,b,hb,rfl⟩:=nq hx
        have tn:=Ay a
        show a9 [some (.d (.tuple (ks.map .int))),some (.d (aD W)),some (.d a),some (.d (.int b))]=some (.d (.bool (lh W ks (.tuple [a,.int b]))),[some (.d (.tuple (ks.map .int))),some (.d (aD W)),some (.d a),some (.d (.int b))])
        cases hn:Dj a with
        | false=>
          rw [hn] at tn
          have e:lh W ks (.tuple [a,.int b])=false:=by cases a<;>first | rfl | cases hn
          rw [e]
          generalize ks.map PyData.int=KK at*
          simp? [a9,tn]
        | true=>
          rw [hn] at tn
          cases a with
          | int i=>
            have gi:∀e:En,k9 false e (.d (.int i)) (.d (.tuple (ks.map .int)))=some (.d (.bool (ks.contains i))):=fun e=>ec
            rw [show lh W ks (.tuple [.int i,.int b])=(ks.contains i&&lc W i b) from rfl]
            cases hc:ks.contains i with
            | false=>
              rw [hc] at gi
              generalize ks.map PyData.int=KK at*
              simp? [a9,tn,gi]
            | true=>
              rw [hc] at gi
              have tm:=CA ok (hk i (List.contains_iff_mem.mp hc)) (ho b hb)
              generalize lc W i b=bb at*
              generalize ks.map PyData.int=KK at*
              simp? [a9,tn,gi,tm]
          | _=>cases hn) (by
        have:=L2.zipD_len ds (os.map .int)
        simp at this ⊢
        lia)
      have hv:=gB (cp:=[(1,"kept"),(0,"web")]) (nT:=2) (fi:=cY) (g:=er (be (aq 2) (be (aq 3) dI))) (ft:=dy) (fe:=a9) (e:=[some (.d (aD W)),some (.d (.tuple (ks.map .int))),some (.d (.tuple (os.map .int))),some (.d (.tuple ds))]) (e1:=[some (.d (aD W)),some (.d (.tuple (ks.map .int))),some (.d (.tuple (os.map .int))),some (.d (.tuple ds))]) (items:=cS ds (os.map .int)) (cs:=[some (.d (.tuple (ks.map .int))),some (.d (aD W))]) (t:=[none,none]) (t':=t2) (by
        generalize os.map PyData.int=OO at*
        generalize ks.map PyData.int=KK at*
        simp? [cY,lT,m9]) rfl rfl hf2
      rw [List.nil_append,gJ] at hv
      have ga:=fun e=>tu (e:=e) (lh W ks) (cS ds (os.map .int))
      have e:jb W ks os (.tuple ds)=(cS ds (os.map .int)).all (lh W ks):=by simp only [jb,hd,beq_self_eq_true,Bool.true_and]
      rw [e]
      generalize (cS ds (os.map .int)).all (lh W ks)=bb at*
      generalize ((cS ds (os.map .int)).map fun x=>PyData.bool (lh W ks x))=M at*
      generalize os.map PyData.int=OO at*
      generalize ks.map PyData.int=KK at*
      simp? [aR,d9,ql,tr,hv,ga]
    | _=>simp [pV] at c
theorem kZ{W:bf}(ok:W.Ok){ks os:List Int}(hk:∀k∈ks,dG W k)(ho:∀k∈os,dG W k)(d:PyData):cc [.d (aD W),.d (.tuple (ks.map .int)),.d (.tuple (os.map .int)),.d d]=some (.d (.bool (jb W ks os d)),[.d (aD W),.d (.tuple (ks.map .int)),.d (.tuple (os.map .int)),.d d]):=by
  have gt:=fun e=>tR (e:=e) (d:=d)
  have ql:((os.map PyData.int).length:Int)=(os.length:Int):=by simp
  cases c0:v_ d with
  | false=>
    rw [c0] at gt
    have e:jb W ks os d=false:=by cases d<;>first | rfl | cases c0
    rw [e]
    simp? [cc,eM,gt]
  | true=>
    rw [c0] at gt
    obtain⟨ds,rfl⟩:=qG c0
    by_cases hd:(ds.length:Int)=(os.length:Int)
    case neg=>
      have e:jb W ks os (.tuple ds)=false:=by
        have:((ds.length:Int)==(os.length:Int))=false:=by simpa using hd
        simp only [jb,this,Bool.false_and]
      rw [e]
      have gn:∀e:En,cD true e (.d (.int ds.length)) (.d (.int os.length))=some (.d (.bool true)):=fun e=>by rw [gL];simp [hd]
      generalize os.map PyData.int=OO at*
      generalize ks.map PyData.int=KK at*
      simp? [cc,eM,gt,ql,gn]
    case pos=>
      have gn:∀e:En,cD true e (.d (.int ds.length)) (.d (.int os.length))=some (.d (.bool false)):=fun e=>by rw [gL];simp [hd]
      have tst:=lK (own:=[]) (g:=er (be (aq 4) (be (aq 5) dI))) (f:=bI) (Z:=.d (.bool false)) (lh W ks) (fun e=>∃v4 v5,e=[some (.d (aD W)),some (.d (.tuple (ks.map .int))),some (.d (.tuple (os.map .int))),some (.d (.tuple ds)),v4,v5]) (fun e=>∃v4 v5,e=[some (.d (aD W)),some (.d (.tuple (ks.map .int))),some (.d (.tuple (os.map .int))),some (.d (.tuple ds)),v4,v5]) (cS ds (os.map .int)) [some (.d (aD W)),some (.d (.tuple (ks.map .int))),some (.d (.tuple (os.map .int))),some (.d (.tuple ds)),none,none] (fun x hx e ⟨v4,v5,he⟩=>by
        subst he
        obtain⟨a,b,hb,rfl⟩:=nq hx
        have q1:=fun e=>yc (e:=e) (d:=a)
        have q2:=fun e=>Bl (e:=e) (d:=a)
        refine⟨[some (.d (aD W)),some (.d (.tuple (ks.map .int))),some (.d (.tuple (os.map .int))),some (.d (.tuple ds)),some (.d a),some (.d (.int b))],rfl,fun h=>?_,fun h=>?_⟩
        · refine⟨_,?_,br,some (.d a),some (.d (.int b)),rfl⟩
          cases a with
          | int i=>
            simp only [lh,Bool.and_eq_true] at h
            have gi:∀e:En,k9 true e (.d (.int i)) (.d (.tuple (ks.map .int)))=some (.d (.bool (!ks.contains i))):=fun e=>ec
            rw [h.1] at gi
            have tb:=ng ok (hk i (List.contains_iff_mem.mp h.1)) (ho b hb)
            rw [h.2] at tb
            rw [show pE (.int i)=true from rfl] at q1
            rw [show rC (.int i)=false from rfl] at q2
            generalize os.map PyData.int=OO at*
            generalize ks.map PyData.int=KK at*
            simp? [bI,q1,q2,gi,tb]
          | _=>cases h
        · refine⟨_,?_,some (.d a),some (.d (.int b)),rfl⟩
          cases a with
          | int i=>
            have gi:∀e:En,k9 true e (.d (.int i)) (.d (.tuple (ks.map .int)))=some (.d (.bool (!ks.contains i))):=fun e=>ec
            rw [show pE (.int i)=true from rfl] at q1
            rw [show rC (.int i)=false from rfl] at q2
            cases hc:ks.contains i with
            | false=>
              rw [hc] at gi
              generalize os.map PyData.int=OO at*
              generalize ks.map PyData.int=KK at*
              simp? [bI,q1,q2,gi]
            | true=>
              rw [hc] at gi
              have tb:=ng ok (hk i (List.contains_iff_mem.mp hc)) (ho b hb)
              simp only [lh,hc,Bool.true_and] at h
              rw [h] at tb
              generalize os.map PyData.int=OO at*
              generalize ks.map PyData.int=KK at*
              simp? [bI,q1,q2,gi,tb]
          | bool b'=>
            rw [show pE (.bool b')=true from rfl] at q1
            rw [show rC (.bool b')=true from rfl] at q2
            generalize os.map PyData.int=OO at*
            generalize ks.map PyData.int=KK at*
            simp? [bI,q1,q2]
          | _=>
            simp only [pE] at q1
            generalize os.map PyData.int=OO at*
            generalize ks.map PyData.int=KK at*
            simp? [bI,q1]) ⟨none,none,rfl⟩
      have hi:gf [some (.d (aD W)),some (.d (.tuple (ks.map .int))),some (.d (.tuple (os.map .int))),some (.d (.tuple ds)),none,none]=some (cS ds (os.map .int),[],[some (.d (aD W)),some (.d (.tuple (ks.map .int))),some (.d (.tuple (os.map .int))),some (.d (.tuple ds)),none,none]):=by
        generalize os.map PyData.int=OO at*
        generalize ks.map PyData.int=KK at*
        simp? [gf,lT,m9]
      have hg:=fun Wl=>cP (W:=Wl) (g:=er (be (aq 4) (be (aq 5) dI))) (f:=bI) hi
      have e:jb W ks os (.tuple ds)=(cS ds (os.map .int)).all (lh W ks):=by simp only [jb,hd,beq_self_eq_true,Bool.true_and]
      rw [e]
      cases c:(cS ds (os.map .int)).all (lh W ks) with
      | true=>
        obtain⟨e',h1,v4,v5,rfl⟩:=tst.1 c
        rw [h1] at hg
        generalize os.map PyData.int=OO at*
        generalize ks.map PyData.int=KK at*
        simp? [cc,eM,gt,ql,gn,hg]
      | false=>
        obtain⟨e',h1,v4,v5,rfl⟩:=tst.2 c
        rw [h1] at hg
        generalize os.map PyData.int=OO at*
        generalize ks.map PyData.int=KK at*
        simp? [cc,eM,gt,ql,gn,hg]
theorem va{n:Nat}{x:Int}(h:x∈iO n):0≤x∧x < (n:Int):=by
  unfold iO at h
  obtain⟨i,hi,rfl⟩:=List.mem_map.mp h
  have:=List.mem_range.mp hi
  have e:(Int.ofNat i)=(i:Int):=rfl
  simp only [e]
  lia
theorem xl(n:Nat):(iO n).Nodup:=by
  unfold iO
  exact List.pairwise_map.mpr (List.Pairwise.imp (fun h e=>by have:_=_:=e;simp at this;lia) List.nodup_range)
abbrev fx(ds:List Int)(W:bf)(lf fd:List Int):En:=[some (.l (ds.map .int)),some (.d (aD W)),some (.d (.int 16)),some (.l (lf.map .int)),some (.l (fd.map .int))]
inductive FK (W:bf):En→Prop
  | mk {ds lf fd} (hd:fw ds) (nd:(fd++lf).Nodup) (hr:∀k∈fd++lf,dG W k) (hl:fd.length≤16):FK W (fx ds W lf fd)
def Bj(e:En):Nat:=match e[3]? with
  | some (some (Sv.l xs))=>xs.length
  | _=>0
theorem mI{W:bf}{ds lf fd:List Int}:Bj (fx ds W lf fd)=lf.length:=by
  show(lf.map PyData.int).length=_
  rw [List.length_map]
theorem Aw{W:bf}(ok:W.Ok){ds:List Int}(hd:fw ds):∃(fs ds':List Int),kn [.l (ds.map .int),.d (aD W),.d (.int 16)]=some (.d (.tuple (fs.map .int)),[.l (ds'.map .int),.d (aD W),.d (.int 16)])∧fw ds'∧fs.Nodup∧(∀k∈fs,dG W k)∧fs.length≤16:=by
  have wl:=ok.len
  have g1':=yS (W:=W)
  have q3:∀(xs:List Int) (e:En),e[3]?=some (some (.l (xs.map .int)))→cD true e (.s 3) (.l [])=some (.d (.bool (!(xs.map PyData.int).isEmpty))):=fun xs e he=>kc he (gy _).1
  obtain⟨e0,e',hw,hP,hft⟩:=ii (ft:=cG) (f:=io) (FK W) Bj (fun e hP=>by
    obtain⟨hd,nd,hr,hl⟩:=hP
    rename_i ds lf fd
    have qf:((fd.map PyData.int).length:Int)=(fd.length:Int):=by simp
    by_cases c:lf=[]
    · subst c
      left
      refine⟨fx ds W [] fd,?_,trivial⟩
      have q:=fun e he=>q3 [] e he
      simp only [fx,List.map_nil,List.isEmpty_nil,Bool.not_true] at q ⊢
      simp? [cG,q]
    · have q:=fun e he=>q3 lf e he
      rw [show(lf.map PyData.int).isEmpty=false by
        rcases lf with _ | ⟨x,r⟩
        · exact absurd rfl c
        · rfl] at q
      by_cases c2:fd.length < 16
      · right
        obtain⟨n,d1,t1, -, -,hd1⟩:=gA hd
        have lp:0 < (lf.length:Int):=by have:=List.length_pos_iff.mpr c;lia
        have gm:∀e:En,aN e (.d (.int n)) (.d (.int (lf.length:Int)))=some (.d (.int (n % (lf.length:Int)))):=fun e=>aB lp
        have a0:=nu (n:=n) lp;have a1:=nv (n:=n) lp
        generalize n % (lf.length:Int)=k at*
        have hk:k.toNat < lf.length:=by lia
        have hp:=j9 lf k.toNat hk
        have hx:(lf.map PyData.int)[k.toNat]?=some (.int lf[k.toNat]):=by rw [List.getElem?_map,List.getElem?_eq_getElem hk];rfl
        have he:(lf.map PyData.int).eraseIdx k.toNat=(lf.eraseIdx k.toNat).map .int:=lI
        have pp:((fd++[lf[k.toNat]])++lf.eraseIdx k.toNat).Perm (fd++lf):=by
          rw [List.append_assoc]
          exact List.Perm.append_left _ hp
        have hle:=hp.length_eq
        rw [List.length_cons] at hle
        generalize lf[k.toNat]=x at*
        generalize lf.eraseIdx k.toNat=lf' at*
        refine⟨fx ds W lf fd,fx d1 W lf' (fd++[x]),?_,?_,.mk hd1 (pp.nodup_iff.mpr nd) (fun z hz=>hr z (pp.mem_iff.mp hz)) (by simp;lia),by rw [mI,mI];lia⟩
        · have c3:(fd.length:Int) < 16:=by lia
          simp only [fx]
          generalize lf.map PyData.int=LL at*
          simp? [cG,q,qf,c3]
        · have ql:((lf.map PyData.int).length:Int)=(lf.length:Int):=by simp
          have nl:=ot W.ties.length (fd++lf) nd hr
          rw [List.length_append] at nl
          have kb:k < 1000000000:=by lia
          have lt:fd.length < 1000000:=by lia
          simp only [fx,List.map_append,List.map_cons,List.map_nil,←he]
          generalize (lf.length:Int)=M0 at*
          generalize lf.map PyData.int=LL at*
          simp? [io,t1,ql,gm,a0,kb,hx,lt]
      · left
        refine⟨fx ds W lf fd,?_,trivial⟩
        have c3:¬(fd.length:Int) < 16:=by lia
        simp only [fx]
        generalize lf.map PyData.int=LL at*
        simp? [cG,q,qf,c3]) (2 ^ 4200) (fx ds W (iO W.ties.length) []) (.mk hd (xl _) (fun k hk=>va hk) (by simp)) (by
    rw [mI,oE]
    exact Nat.lt_of_le_of_lt wl (by decide))
  obtain⟨hd2,nd,hr,hl⟩:=hP
  rename_i ds2 lf fd
  have key:∀b e'',cG (fx ds2 W lf fd)=some (b,e'')→e''=fx ds2 W lf fd:=fun b e'' h=>by
    have q:=fun e he=>q3 lf e he
    have qf:((fd.map PyData.int).length:Int)=(fd.length:Int):=by simp
    generalize (!(lf.map PyData.int).isEmpty)=bb at*
    have:cG (fx ds2 W lf fd)=some (bb&&decide ((fd.length:Int) < 16),fx ds2 W lf fd):=by
      simp only [fx]
      generalize lf.map PyData.int=LL at*
      cases bb<;>simp? [cG,q,qf]
    rw [this] at h
    exact(Prod.mk.inj (Option.some.inj h)).2.symm
  have he:=key _ _ hft
  subst he
  refine⟨fd,ds2,?_,hd2,(List.nodup_append.mp nd).1,fun k hk=>hr k (by simp [hk]),hl⟩
  have hw':ic (2 ^ 4200) cG io (fx ds W (iO W.ties.length) [])=some (.nx (fx ds2 W lf fd)):=hw
  have ql:(((W.ties.map dh).length:Nat):Int)=(W.ties.length:Int):=by simp
  have q2:(W.ties.length:Int)≤100000:=by lia
  have q4:((W.ties.length:Int)).toNat=W.ties.length:=by lia
  simp only [fx,List.map_nil] at hw'
  generalize fd.map PyData.int=FF at*
  generalize lf.map PyData.int=LL at*
  generalize W.ties.map dh=TT at*
  simp? [kn,sE,g1',ql,jZ,q2,q4,hw']
def bc(W:bf)(ns:List Int):List Int:=ns.flatMap fun k=>[(W.tie k).one,(W.tie k).other]
theorem sY(W:bf)(ns:List Int):(bc W ns).length=2*ns.length:=by
  unfold bc
  induction ns with
  | nil=>rfl
  | cons x r ih=>rw [List.flatMap_cons,List.length_append,ih,List.length_cons];simp;lia
theorem nJ(W:bf)(a b:List Int):bc W (a++b)=bc W a++bc W b:=by
  unfold bc
  rw [List.flatMap_append]
inductive EK (W:bf) (ks:List Int) (i:Nat):En→Prop
  | mk {v3}:EK W ks i [some (.d (aD W)),some (.l (ks.map .int)),some (.l ((bc W (ks.take i)).map .int)),v3]
theorem Av{W:bf}{ks:List Int}(hk:∀k∈ks,dG W k)(hl:ks.length≤100):km [.d (aD W),.l (ks.map .int)]=some (.l ((bc W ks).map .int),[.d (aD W),.l (ks.map .int)]):=by
  have g1':=yS (W:=W)
  have gl:∀(e:En) (xs:List PyData),g1 jB e [.d (.tuple xs)]=some (.l xs):=fun e xs=>rfl
  have ca:∀(e:En) (xs ys:List PyData),e[2]?=some (some (.l xs))→xs.length+ys.length≤1000000→a' e (.s 2) (.l ys)=some (.l (xs++ys)):=fun e xs ys he h=>jS he h
  obtain⟨e',h1,hI⟩:=bN (own:=[(1,ks.map .int)]) (g:=aq 3) (f:=fW) (EK W ks) (ks.map .int) 0 [some (.d (aD W)),some (.l (ks.map .int)),some (.l []),none] (fun i x e hx hI=>by
    obtain⟨⟩:=hI
    rename_i v3
    rw [Nat.zero_add] at*
    rw [List.getElem?_map] at hx
    obtain⟨k,hki,rfl⟩:=Option.map_eq_some_iff.mp hx
    have ai:=dg (hk k (List.mem_of_getElem? hki))
    have e2:bc W (ks.take (i+1))=bc W (ks.take i)++[(W.tie k).one,(W.tie k).other]:=by
      rw [List.take_succ,hki,nJ]
      rfl
    have hle:=sY W (ks.take i)
    rw [List.length_take] at hle
    have lt:((bc W (ks.take i)).map PyData.int).length+2≤1000000:=by rw [List.length_map];lia
    have cu:L2.cutD [PyData.int (W.tie k).one,.int (W.tie k).other,.tuple [.int (W.tie k).top,.int (W.tie k).bot],.int (W.tie k).worth] none (some 2)=[.int (W.tie k).one,.int (W.tie k).other]:=rfl
    refine⟨[some (.d (aD W)),some (.l (ks.map .int)),some (.l ((bc W (ks.take i)).map .int)),some (.d (.int k))],[some (.d (aD W)),some (.l (ks.map .int)),some (.l ((bc W (ks.take (i+1))).map .int)),some (.d (.int k))],rfl,?_,fun p hp=>by simp at hp;subst hp;rfl,.mk⟩
    rw [e2,List.map_append]
    simp only [List.map_cons,List.map_nil]
    generalize (bc W (ks.take i)).map PyData.int=EE at*
    unfold dh at ai g1'
    generalize (W.ties.map fun t=>PyData.tuple [.int t.one,.int t.other,.tuple [.int t.top,.int t.bot],.int t.worth])=TT at*
    generalize ks.map PyData.int=KK at*
    simp? [fW,g1',ai,cu,gl,ca,lt]) .mk
  obtain⟨⟩:=hI
  rename_i v3
  rw [Nat.zero_add,List.length_map,List.take_length] at h1
  have hf:cR ([3]++[2]) iE (aq 3) fW [some (.d (aD W)),some (.l (ks.map .int)),some (.l []),none]=some (.nx [some (.d (aD W)),some (.l (ks.map .int)),some (.l ((bc W ks).map .int)),v3]):=by
    unfold cR
    rw [show iE [some (.d (aD W)),some (.l (ks.map .int)),some (.l []),none]=some (ks.map .int,[(1,ks.map .int)],[some (.d (aD W)),some (.l (ks.map .int)),some (.l []),none]) from rfl]
    exact h1
  generalize (bc W ks).map PyData.int=EE at*
  generalize ks.map PyData.int=KK at*
  have hf':cR [3,2] iE (aq 3) fW [some (.d (aD W)),some (.l KK),some (.l []),none]=_:=hf
  simp? [km,sD,hf']
abbrev fD(ds:List Int)(W:bf)(fd:List Int)(v3 v4:Option Sv):En:=[some (.l (ds.map .int)),some (.d (aD W)),some (.l (fd.map .int)),v3,v4]
inductive AZ (W:bf) (fs:List Int) (i:Nat):En→Prop
  | mk {ds fd v3 v4} (hd:fw ds) (hs:List.Sublist fd (fs.take i)) (he:(bc W fd).Nodup):AZ W fs i (fD ds W fd v3 v4)
theorem AA{W:bf}(ok:W.Ok){k:Int}(h:dG W k):(W.tie k).one≠(W.tie k).other:=by
  have hk:k.toNat < W.ties.length:=by have:=h.2;have:=h.1;lia
  have:W.tie k∈W.ties:=by
    unfold bf.tie
    rw [List.getD_eq_getElem?_getD,List.getElem?_eq_getElem hk]
    exact List.getElem_mem _
  have:=(ok.ties _ this).o1
  lia
theorem rj{W:bf}{a b:List Int}(h:a.Perm b):(bc W a).Perm (bc W b):=h.flatMap_right _
theorem kY{W:bf}(ok:W.Ok){ds:List Int}(hd:fw ds):∃(ks ds':List Int),dX [.l (ds.map .int),.d (aD W)]=some (.d (.tuple (ks.map .int)),[.l (ds'.map .int),.d (aD W)])∧fw ds'∧ks.Nodup∧(∀k∈ks,dG W k)∧ks.length≤16∧(bc W ks).Nodup:=by
  have g1':=yS (W:=W)
  obtain⟨fs,d1,tf,hd1,nf,rf,lf⟩:=Aw ok hd
  obtain⟨e',h1,hI⟩:=bN (own:=[]) (g:=aq 3) (f:=bW) (AZ W fs) (fs.map .int) 0 (fD d1 W [] none none) (fun i x e hx hI=>by
    obtain⟨hd,hs,he⟩:=hI
    rename_i ds fd v3 v4
    rw [Nat.zero_add] at*
    rw [List.getElem?_map] at hx
    obtain⟨k,hki,rfl⟩:=Option.map_eq_some_iff.mp hx
    have hik:=rf k (List.mem_of_getElem? hki)
    have ai:=dg hik
    have hsl:=hs.length_le
    rw [List.length_take] at hsl
    have hfk:∀z∈fd,dG W z:=fun z hz=>rf z (List.mem_of_mem_take (hs.subset hz))
    have te:=Av hfk (by lia)
    have tk:fs.take (i+1)=fs.take i++[k]:=by rw [List.take_succ,hki];rfl
    have i4:∀(e:En) (z:Int),e[4]?=some (some (.l ((bc W fd).map .int)))→k9 true e (.d (.int z)) (.s 4)=some (.d (.bool (!(bc W fd).contains z))):=fun e z h=>yL h
    have i5:=fun e h=>i4 e (W.tie k).one h
    have i6:=fun e h=>i4 e (W.tie k).other h
    have lt:fd.length < 1000000:=by lia
    unfold dh at ai g1'
    have stay:List.Sublist fd (fs.take (i+1)):=by rw [tk];exact hs.trans (List.sublist_append_left _ _)
    cases c1:(bc W fd).contains (W.tie k).one with
    | true=>
      rw [c1] at i5
      refine⟨fD ds W fd (some (.d (.int k))) v4,fD ds W fd (some (.d (.int k))) (some (.l ((bc W fd).map .int))),rfl,?_,br,.mk hd stay he⟩
      simp only [fD]
      generalize (bc W fd).map PyData.int=EE at*
      generalize fd.map PyData.int=FF at*
      generalize (W.ties.map fun t=>PyData.tuple [.int t.one,.int t.other,.tuple [.int t.top,.int t.bot],.int t.worth])=TT at*
      simp? [bW,te,g1',ai,i5]
    | false=>
      rw [c1] at i5
      cases c2:(bc W fd).contains (W.tie k).other with
      | true=>
        rw [c2] at i6
        refine⟨fD ds W fd (some (.d (.int k))) v4,fD ds W fd (some (.d (.int k))) (some (.l ((bc W fd).map .int))),rfl,?_,br,.mk hd stay he⟩
        simp only [fD]
        generalize (bc W fd).map PyData.int=EE at*
        generalize fd.map PyData.int=FF at*
        generalize (W.ties.map fun t=>PyData.tuple [.int t.one,.int t.other,.tuple [.int t.top,.int t.bot],.int t.worth])=TT at*
        simp? [bW,te,g1',ai,i5,i6]
      | false=>
        rw [c2] at i6
        obtain⟨n,d2,t2, -, -,hd2⟩:=gA hd
        have gm:∀e:En,aN e (.d (.int n)) (.d (.int 8))=some (.d (.int (n % 8))):=fun e=>aB (by decide)
        by_cases c3:n % 8 > 0
        · have n1:(W.tie k).one∉bc W fd:=fun h=>by rw [List.contains_iff_mem.mpr h] at c1;cases c1
          have n2:(W.tie k).other∉bc W fd:=fun h=>by rw [List.contains_iff_mem.mpr h] at c2;cases c2
          have ne:=AA ok hik
          have he2:(bc W (fd++[k])).Nodup:=by
            rw [nJ,List.nodup_append]
            refine⟨he,by simp [bc,ne],fun a ha b hb e=>?_⟩
            subst e
            simp only [bc,List.flatMap_cons,List.flatMap_nil,List.append_nil,List.mem_cons,List.not_mem_nil,or_false] at hb
            rcases hb with rfl | rfl
            · exact n1 ha
            · exact n2 ha
          refine⟨fD ds W fd (some (.d (.int k))) v4,fD d2 W (fd++[k]) (some (.d (.int k))) (some (.l ((bc W fd).map .int))),rfl,?_,br,.mk hd2 (by rw [tk];exact hs.append (List.Sublist.refl _)) he2⟩
          have gg:∀e:En,vY e (.d (.int (n % 8))) (.d (.int 0))=some (.d (.bool true)):=fun e=>by
            have:decide ((0:Int) < n % 8)=true:=decide_eq_true c3
            rw [←this];rfl
          simp only [fD,List.map_append,List.map_cons,List.map_nil]
          generalize (bc W fd).map PyData.int=EE at*
          generalize (W.ties.map fun t=>PyData.tuple [.int t.one,.int t.other,.tuple [.int t.top,.int t.bot],.int t.worth])=TT at*
          simp? [bW,te,g1',ai,i5,i6,t2,gm,gg,lt]
        · refine⟨fD ds W fd (some (.d (.int k))) v4,fD d2 W fd (some (.d (.int k))) (some (.l ((bc W fd).map .int))),rfl,?_,br,.mk hd2 stay he⟩
          have gg:∀e:En,vY e (.d (.int (n % 8))) (.d (.int 0))=some (.d (.bool false)):=fun e=>by
            have:decide ((0:Int) < n % 8)=false:=decide_eq_false c3
            rw [←this];rfl
          simp only [fD]
          generalize (bc W fd).map PyData.int=EE at*
          generalize fd.map PyData.int=FF at*
          generalize (W.ties.map fun t=>PyData.tuple [.int t.one,.int t.other,.tuple [.int t.top,.int t.bot],.int t.worth])=TT at*
          simp? [bW,te,g1',ai,i5,i6,t2,gm,gg]) (.mk hd1 (List.nil_sublist _) List.nodup_nil)
  obtain⟨hd2,hs,he⟩:=hI
  rename_i d2 fd v3 v4
  have hsub:List.Sublist fd fs:=hs.trans (List.take_sublist _ _)
  have hl:=hsub.length_le
  have hp:=ig fd
  refine⟨eC fd,d2,?_,hd2,hp.nodup_iff.mpr (hsub.nodup nf),fun k hk=>rf k (hsub.subset (hp.mem_iff.mp hk)),by rw [hp.length_eq];lia,(rj hp).nodup_iff.mpr he⟩
  have hf:∀Wl,cR Wl gh (aq 3) bW (fD ds W [] none none)=some (.nx (fD d2 W fd v3 v4)):=fun Wl=>by
    rw [cP (items:=fs.map .int) (e1:=fD d1 W [] none none) (show gh _=_ from tV (by simp? [fD,tf]))]
    exact h1
  have gs:∀e:En,e[2]?=some (some (.l (fd.map .int)))→g1 hR e [.s 2]=some (.l ((eC fd).map .int)):=fun e h=>tQ h (by lia)
  simp only [fD,List.map_nil] at hf
  generalize (eC fd).map PyData.int=SS at*
  generalize fd.map PyData.int=FF at*
  simp? [dX,lx,hf,gs]
def o6(W:bf)(ns:List Int):Int:=(ns.map fun k=>(W.tie k).worth).sum
theorem uv{l m:List Int}(h:l.Perm m):l.sum=m.sum:=by
  induction h with
  | nil=>rfl
  | cons x _ ih=>simp only [List.sum_cons,ih]
  | swap x y r=>simp only [List.sum_cons];lia
  | trans _ _ a b=>exact a.trans b
theorem qR{f:Int × Int→Int}:∀(ps Q:List (Int × Int)),(∀x∈Q,0≤f x)→ps.Nodup→(∀p∈ps,p∈Q)→(ps.map f).sum≤(Q.map f).sum
  | [],Q,h0,_,_=>by
    have:∀l:List (Int × Int),(∀x∈l,0≤f x)→0≤(l.map f).sum:=fun l=>by
      induction l with
      | nil=>intro _;simp
      | cons x r ih=>intro h;simp only [List.map_cons,List.sum_cons];have:=h x (by simp);have:=ih fun y hy=>h y (by simp [hy]);lia
    simpa using this Q h0
  | p::r,Q,h0,nd,hs=>by
    have nd':=List.nodup_cons.mp nd
    have hp:=hs p (by simp)
    have pm:=List.perm_cons_erase hp
    have ih:=qR r (Q.erase p) (fun x hx=>h0 x (List.mem_of_mem_erase hx)) nd'.2 (fun x hx=>by
      have hx':=pm.mem_iff.mp (hs x (by simp [hx]))
      rcases List.mem_cons.mp hx' with e | e
      · exact absurd (e ▸ hx) nd'.1
      · exact e)
    have e:=uv (pm.map f)
    simp only [List.map_cons,List.sum_cons] at e ⊢
    lia
theorem BZ{W:bf}:∀(os cs:List Int),cs.length=os.length→(bc W os).Nodup→(∀i,i < os.length→lc W (cs.getD i 0) (os.getD i 0)=true)→
    ∃ps:List (Int × Int),ps.map (·.1)=cs∧(ps.map (·.2)).Nodup∧(∀p∈ps,p.2∈bc W os∧(p.2=(W.tie p.1).one∨p.2=(W.tie p.1).other))∧o6 W os≤o6 W cs
  | [],[],_,_,_=>⟨[],rfl,List.nodup_nil,(fun _ h=>by cases h),Int.le_refl _⟩
  | [],_::_,h,_,_=>by simp at h
  | _::_,[],h,_,_=>by simp at h
  | o::os,c::cs,hl,nd,hb=>by
    have e0:bc W (o::os)=[(W.tie o).one,(W.tie o).other]++bc W os:=rfl
    rw [e0] at nd ⊢
    have nd':=List.nodup_append.mp nd
    obtain⟨ps,h1,h2,h3,h4⟩:=BZ os cs (by simpa using hl) nd'.2.1 fun i hi=>by have:=hb (i+1) (by simp;lia);simpa using this
    have b0:lc W c o=true:=by simpa using hb 0 (by simp)
    simp only [lc,Bool.and_eq_true,decide_eq_true_eq] at b0
    obtain⟨x,hx,hy⟩:∃x,x∈[(W.tie o).one,(W.tie o).other]∧(x=(W.tie c).one∨x=(W.tie c).other):=by
      have s:=b0.1
      simp only [Al,Bool.or_eq_true,beq_iff_eq] at s
      rcases s with (s | s) | (s | s)
      · exact⟨(W.tie o).one,by simp,.inl s⟩
      · exact⟨(W.tie o).other,by simp,.inl s⟩
      · exact⟨(W.tie o).one,by simp,.inr s⟩
      · exact⟨(W.tie o).other,by simp,.inr s⟩
    refine⟨(c,x)::ps,by rw [List.map_cons,h1],?_,fun p hp=>?_,?_⟩
    · rw [List.map_cons,List.nodup_cons]
      refine⟨fun h=>?_,h2⟩
      obtain⟨p,hp,e⟩:=List.mem_map.mp h
      exact nd'.2.2 x hx p.2 (h3 p hp).1 e.symm
    · rcases List.mem_cons.mp hp with rfl | hp
      · exact⟨List.mem_append_left _ hx,hy⟩
      · exact⟨List.mem_append_right _ (h3 p hp).1,(h3 p hp).2⟩
    · simp only [o6,List.map_cons,List.sum_cons] at h4 ⊢
      lia
theorem AB{W:bf}(ok:W.Ok){k:Int}(h:dG W k):0≤(W.tie k).worth:=by
  have hk:k.toNat < W.ties.length:=by have:=h.2;have:=h.1;lia
  have:W.tie k∈W.ties:=by
    unfold bf.tie
    rw [List.getD_eq_getElem?_getD,List.getElem?_eq_getElem hk]
    exact List.getElem_mem _
  exact(ok.ties _ this).w0
theorem yT{W:bf}(ok:W.Ok){ks os cs:List Int}(hk:∀k∈ks,dG W k)(hl:cs.length=os.length)(nd:(bc W os).Nodup)(hc:∀i,i < os.length→cs.getD i 0∈ks∧lc W (cs.getD i 0) (os.getD i 0)=true):o6 W os≤2*o6 W ks:=by
  obtain⟨ps,h1,h2,h3,h4⟩:=BZ os cs hl nd fun i hi=>(hc i hi).2
  have cm:∀c∈cs,c∈ks:=fun c hcc=>by
    obtain⟨i,hi⟩:=List.getElem?_of_mem hcc
    have il:=(List.getElem?_eq_some_iff.mp hi).1
    have:=(hc i (by lia)).1
    rw [List.getD_eq_getElem?_getD,hi] at this
    exact this
  have ndp:ps.Nodup:=by
    have:=h2
    unfold List.Nodup at this ⊢
    rw [List.pairwise_map] at this
    exact this.imp fun h e=>h (by rw [e])
  have s:=qR (f:=fun p=>(W.tie p.1).worth) ps (ks.flatMap fun k=>[(k,(W.tie k).one),(k,(W.tie k).other)]) (fun x hx=>by
    obtain⟨k,hkk,hx⟩:=List.mem_flatMap.mp hx
    simp only [List.mem_cons,List.not_mem_nil,or_false] at hx
    rcases hx with rfl | rfl<;>exact AB ok (hk k hkk)) ndp fun p hp=>by
    have hpk:p.1∈ks:=cm _ (by rw [←h1];exact List.mem_map.mpr ⟨p,hp,rfl⟩)
    refine List.mem_flatMap.mpr ⟨p.1,hpk,?_⟩
    rcases(h3 p hp).2 with e | e
    · rw [←e];simp
    · rw [←e];simp
  have e1:(ps.map fun p=>(W.tie p.1).worth).sum=o6 W cs:=by
    rw [←h1]
    unfold o6
    rw [List.map_map]
    rfl
  have e2:∀l:List Int,((l.flatMap fun k=>[(k,(W.tie k).one),(k,(W.tie k).other)]).map fun p=>(W.tie p.1).worth).sum=2*o6 W l:=fun l=>by
    induction l with
    | nil=>rfl
    | cons x r ih=>
      unfold o6 at ih ⊢
      simp only [List.flatMap_cons,List.map_append,List.sum_append,ih,List.map_cons,List.sum_cons,List.map_nil,List.sum_nil]
      lia
  rw [e1,e2] at s
  lia
def Bs:PyData→Int
  | .int i=>i
  | _=>0
theorem oT{W:bf}{ks:List Int}(hk:∀k∈ks,dG W k)(hl:ks.length≤1000):eW [.d (aD W),.d (.tuple (ks.map .int))]=some (.d (.int (o6 W ks)),[.d (aD W),.d (.tuple (ks.map .int))]):=by
  have g1':=yS (W:=W)
  obtain⟨t1,hf1⟩:=dW (cs:=[some (.d (aD W))]) (ft:=dy) (fe:=d_) (b:=fun _=>true) (y:=fun x=>.int (W.tie (Bs x)).worth) (ks.map .int) none [] (fun x hx=>rfl) (fun x hx _=>by
    obtain⟨k,hk',rfl⟩:=List.mem_map.mp hx
    have ai:=dg (W:=W) (k:=k) (hk k hk')
    show d_ [some (.d (aD W)),some (.d (.int k))]=some (.d (.int (W.tie k).worth),[some (.d (aD W)),some (.d (.int k))])
    unfold dh at ai g1'
    generalize (W.tie k).worth=w at*
    generalize (W.ties.map fun t=>PyData.tuple [.int t.one,.int t.other,.tuple [.int t.top,.int t.bot],.int t.worth])=TT at*
    simp? [d_,g1',ai]) (by simp;lia)
  have hv1:=gB (cp:=[(0,"_law_web_here")]) (nT:=1) (fi:=kf) (g:=aq 1) (ft:=dy) (fe:=d_) (e:=[some (.d (aD W)),some (.d (.tuple (ks.map .int)))]) (cs:=[some (.d (aD W))]) (t:=[none]) (t':=[t1]) rfl rfl rfl hf1
  rw [List.nil_append,gJ,show((ks.map PyData.int).map fun x=>PyData.int (W.tie (Bs x)).worth)=(ks.map fun k=>(W.tie k).worth).map .int by rw [List.map_map,List.map_map];rfl] at hv1
  have s3:∀(e:En) (ws:List Int),g1 (cI lR) e [.l (ws.map .int)]=some (.d (.int ws.sum)):=fun e ws=>by simp [g1,cI,cw,lR,jg]
  have s2:∀e:En,g1 (cI lR) e [.l ((ks.map fun k=>(W.tie k).worth).map .int)]=some (.d (.int (o6 W ks))):=fun e=>s3 e _
  generalize (ks.map fun k=>(W.tie k).worth).map PyData.int=MW at*
  generalize o6 W ks=w at*
  generalize ks.map PyData.int=KK at*
  simp? [eW,nB,hv1,s2]
theorem rT{n:Int}(hn:0≤n)(hb:n < 2147483648):∃W:bf,eV [.d (.int n)]=some (.d (aD W),[.d (.int n)])∧W.Ok∧W.ties.length=3∧(bc W [1]).Nodup∧(bc W [0,2]).Nodup:=by
  have g1:∀e:En,aN e (.d (.int n)) (.d (.int 900))=some (.d (.int (n % 900))):=fun e=>aB (by decide)
  have a0:=nu (n:=n) (k:=900) (by decide);have a1:=nv (n:=n) (k:=900) (by decide)
  generalize n % 900=m at*
  have b1:Bt 8000 1000:=dA (by decide) (by decide)
  have b3:Bt 8000 3000:=dA (by decide) (by decide)
  have f1:∀e:En,bD e (.d (.int n)) (.d (.int 1000))=some (.d (.int (n / 1000))):=fun e=>bA (by decide) b1
  have f3:∀e:En,bD e (.d (.int n)) (.d (.int 3000))=some (.d (.int (n / 3000))):=fun e=>bA (by decide) b3
  have g3:∀e:En,aN e (.d (.int (n / 1000))) (.d (.int 3))=some (.d (.int (n / 1000 % 3))):=fun e=>aB (by decide)
  have c0:=nu (n:=n / 1000) (k:=3) (by decide);have c1:=nv (n:=n / 1000) (k:=3) (by decide)
  have g2:∀e:En,aN e (.d (.int (n / 3000))) (.d (.int 2))=some (.d (.int (n / 3000 % 2))):=fun e=>aB (by decide)
  have d0:=nu (n:=n / 3000) (k:=2) (by decide);have d1:=nv (n:=n / 3000) (k:=2) (by decide)
  generalize n / 1000 % 3=q3 at*
  generalize n / 3000 % 2=q2 at*
  obtain⟨z,hz,ha⟩:=fR (xs:=[PyData.int (1+m),.int (1+m+1),.int (1+m - 1)]) (i:=q3) c0 (by simpa using c1)
  obtain⟨h,rfl,h0,h1⟩:∃h:Int,z=.int h∧0≤h∧h≤1000:=by
    simp only [List.mem_cons,List.not_mem_nil,or_false] at hz
    rcases hz with rfl | rfl | rfl
    · exact⟨_,rfl,by lia,by lia⟩
    · exact⟨_,rfl,by lia,by lia⟩
    · exact⟨_,rfl,by lia,by lia⟩
  have rep:∀e:En,eF e (.d (.tuple [.int 20])) (.d (.int 4))=some (.d (.tuple ((List.replicate 4 (20:Int)).map .int))):=fun e=>by rw [List.map_replicate];exact yQ (by decide) (by decide)
  refine⟨⟨4,[⟨0,1,1,1,1+m⟩,⟨1,2,1,2,h⟩,⟨2,3,0,1,1+m - q2⟩],List.replicate 4 20,40⟩,?_,⟨by show(0:Int)≤4;decide,by show(4:Int)≤12;decide,fun t ht=>?_,by show 3≤16;decide,rfl,fun p hp=>by have:=(List.mem_replicate.mp hp).2;lia,by show(0:Int)≤40;decide,by show(40:Int)≤40;decide⟩,rfl,by show([1,2]:List Int).Nodup;decide,by show([0,1,2,3]:List Int).Nodup;decide⟩
  · rw [j_]
    simp only [List.map_cons,List.map_nil,dh]
    simp only [List.map_replicate] at rep ⊢
    generalize List.replicate 4 (PyData.int 20)=RP at*
    simp? [eV,lw,g1,f1,f3,g3,g2,ha,rep]
  · simp only [List.mem_cons,List.not_mem_nil,or_false] at ht
    rcases ht with rfl | rfl | rfl
    · exact⟨by show(0:Int)≤0;decide,by show(0:Int) < 1;decide,by show(1:Int) < 4;decide,by show(0:Int)≤1;decide,by show(1:Int)≤1;decide,by show(1:Int)≤1;decide,by show(1:Int)≤100;decide,by show 0≤1+m;lia,by show 1+m≤1000;lia,by show Int.gcd 1 1=1;decide⟩
    · exact⟨by show(0:Int)≤1;decide,by show(1:Int) < 2;decide,by show(2:Int) < 4;decide,by show(0:Int)≤1;decide,by show(1:Int)≤2;decide,by show(1:Int)≤2;decide,by show(2:Int)≤100;decide,h0,h1,by show Int.gcd 1 2=1;decide⟩
    · exact⟨by show(0:Int)≤2;decide,by show(2:Int) < 3;decide,by show(3:Int) < 4;decide,by show(0:Int)≤0;decide,by show(0:Int)≤1;decide,by show(1:Int)≤1;decide,by show(1:Int)≤100;decide,by show 0≤1+m - q2;lia,by show 1+m - q2≤1000;lia,by show Int.gcd 0 1=1;decide⟩
abbrev ib(W:bf)(ks os:List Int)(n:Int)(fd:List Int)(v5 v6 v7:Option Sv):En:=[some (.d (aD W)),some (.d (.tuple (ks.map .int))),some (.d (.tuple (os.map .int))),some (.d (.int n)),some (.l (fd.map .int)),v5,v6,v7]
inductive A0 (W:bf) (ks os:List Int) (n:Int) (i:Nat):En→Prop
  | mk {fd v5 v6 v7} (hl:fd.length=i) (hr:∀r∈fd,0≤r∧r < 16):A0 W ks os n i (ib W ks os n fd v5 v6 v7)
theorem yP{e:En}{xs:List PyData}{k:Int}(h0:0≤k)(h1:k≤1)(hl:xs.length≤1000):eF e (.l xs) (.d (.int k))=some (.l (List.replicate k.toNat xs).flatten):=by
  have hk:k.toNat≤1:=by lia
  have hm:xs.length*k.toNat≤1000000:=Nat.le_trans (Nat.mul_le_mul hl hk) (by decide)
  have hb: -100000≤k∧k≤100000:=by lia
  simp [eF,se,lP,gI,lQ,qC,bS,cw,pK,hb,hm]
theorem vb{W:bf}(ok:W.Ok){ks os fd:List Int}{n k:Int}{i:Nat}{v7:Option Sv}(hk:∀k∈ks,dG W k)(hb:dG W k)(hl:ks.length≤16)(hn:0≤n)(hf:fd.length≤100):
    ∃y v7',(0≤y∧y < 16)∧ip (ib W ks os n fd (some (.d (.int (i:Int)))) (some (.d (.int k))) v7)=some (.nx (ib W ks os n (fd++[y]) (some (.d (.int (i:Int)))) (some (.d (.int k))) v7')):=by
  obtain⟨t1,hf1⟩:=dW (cs:=[some (.d (aD W)),some (.d (.int k))]) (ft:=iv) (fe:=jR) (b:=fun x=>match x with | .int a=>lc W a k | _=>false) (y:=fun x=>x) (ks.map .int) none [] (fun x hx=>by
    obtain⟨a,ha,rfl⟩:=List.mem_map.mp hx
    have tb:=ng ok (hk a ha) hb
    show iv [some (.d (aD W)),some (.d (.int k)),some (.d (.int a))]=some (lc W a k,[some (.d (aD W)),some (.d (.int k)),some (.d (.int a))])
    generalize lc W a k=bb at*
    simp? [iv,tb]) (fun x hx _=>by simp? [jR]) (by simp;lia)
  have hv:=gB (cp:=[(0,"_law_web_here"),(6,"_law_tie")]) (nT:=1) (fi:=qF) (g:=aq 2) (ft:=iv) (fe:=jR) (e:=ib W ks os n fd (some (.d (.int (i:Int)))) (some (.d (.int k))) v7) (cs:=[some (.d (aD W)),some (.d (.int k))]) (t:=[none]) (t':=[t1]) rfl rfl rfl hf1
  rw [List.nil_append,List.map_id'] at hv
  obtain⟨ss,hss,lss,css⟩:∃ss:List Int,(ks.map PyData.int).filter (fun x=>match x with | .int a=>lc W a k | _=>false)=ss.map .int∧ss.length≤16∧∀z∈ss,z∈ks:=by
    rw [List.filter_map]
    exact⟨_,rfl,Nat.le_trans (List.length_filter_le _ _) hl,fun z hz=>(List.mem_filter.mp hz).1⟩
  rw [hss] at hv
  have q7:∀(e:En),e[7]?=some (some (.l (ss.map .int)))→cD false e (.s 7) (.l [])=some (.d (.bool ((ss.map PyData.int).isEmpty))):=fun e he=>kc he (gy _).1
  have gl:∀(e:En) (xs:List PyData),g1 jB e [.d (.tuple xs)]=some (.l xs):=fun e xs=>rfl
  have ca:∀(e:En) (xs ys:List PyData),e[7]?=some (some (.l xs))→xs.length+ys.length≤1000000→a' e (.s 7) (.l ys)=some (.l (xs++ys)):=fun e xs ys he h=>jS he h
  have sh:∀e:En,rq e (.d (.int n)) (.d (.int (i:Int)))=some (.d (.int (n / 2 ^ i))):=fun e=>by
    simp [rq,gI,bS]
  have p0:0≤n / 2 ^ i:=Int.ediv_nonneg hn (by have:(0:Int) < 2 ^ i:=Int.pow_pos (by decide);lia)
  have an:∀e:En,tD e (.d (.int (n / 2 ^ i))) (.d (.int 7))=some (.d (.int (n / 2 ^ i % 8))):=fun e=>by rw [tF,Da p0]
  generalize n / 2 ^ i=s at*
  have ge:∀e:En,cD false e (.d (.int (s % 8))) (.d (.int 7))=some (.d (.bool (s % 8==7))):=fun e=>by rw [gL];rfl
  generalize (ss.map PyData.int).isEmpty=b1 at*
  generalize (s % 8==7)=b2 at*
  generalize s % 8=s8 at*
  obtain⟨bb,hbb⟩:∃bb:Bool,bb=(b1 || b2):=⟨_,rfl⟩
  have gi:∀e:En,g1 lj e [.d (.bool bb)]=some (.d (.int (if bb=true then 1 else 0))):=fun e=>by cases bb<;>rfl
  have gm:∀e:En,eF e (.l (ks.map .int)) (.d (.int (if bb=true then 1 else 0)))=some (.l (List.replicate (if bb=true then(1:Int) else 0).toNat (ks.map .int)).flatten):=fun e=>yP (by split<;>decide) (by split<;>decide) (by simp;lia)
  obtain⟨rs,hrs,lrs,crs⟩:∃rs:List Int,(List.replicate (if bb=true then(1:Int) else 0).toNat (ks.map PyData.int)).flatten=rs.map .int∧rs.length≤16∧∀z∈rs,z∈ks:=by
    cases bb
    · exact⟨[],rfl,by simp,fun z hz=>by cases hz⟩
    · exact⟨ks,by simp,hl,fun z hz=>hz⟩
  rw [hrs] at gm
  generalize (if bb=true then(1:Int) else 0)=b01 at*
  have t8:Bt 8000 8:=dA (by decide) (by decide)
  have fd8:∀e:En,bD e (.d (.int s)) (.d (.int 8))=some (.d (.int (s / 8))):=fun e=>bA (by decide) t8
  have mp:0 < max 1 ((ss++rs).length:Int):=by lia
  have gmo:∀e:En,aN e (.d (.int (s / 8))) (.d (.int (max 1 ((ss++rs).length:Int))))=some (.d (.int (s / 8 % max 1 ((ss++rs).length:Int)))):=fun e=>aB mp
  have x0:=nu (n:=s / 8) mp;have x1:=nv (n:=s / 8) mp
  have at1:=sC (ns:=(ss++rs)++[0]) (k:=s / 8 % max 1 ((ss++rs).length:Int)) x0 (by simp at x1 ⊢;lia)
  have yr:∀j:Nat,0≤((ss++rs)++[0]).getD j 0∧((ss++rs)++[0]).getD j 0 < 16:=fun j=>by
    have wl:=ok.len
    rw [List.getD_eq_getElem?_getD]
    cases hj:((ss++rs)++[0])[j]? with
    | none=>decide
    | some z=>
      have hz:=List.mem_of_getElem? hj
      show 0≤z∧z < 16
      have inK:z∈ks→0≤z∧z < 16:=fun h=>by have:=hk z h;exact⟨this.1,by have:=this.2;lia⟩
      rcases List.mem_append.mp hz with h | h
      · rcases List.mem_append.mp h with h | h
        · exact inK (css z h)
        · exact inK (crs z h)
      · simp at h;lia
  refine⟨((ss++rs)++[0]).getD (s / 8 % max 1 ((ss++rs).length:Int)).toNat 0,some (.l ((ss++rs).map .int)),yr _,?_⟩
  unfold ip
  refine(bw (e1:=ib W ks os n fd (some (.d (.int (i:Int)))) (some (.d (.int k))) (some (.l (ss.map .int)))) ?_).trans ?_
  · simp only [ib] at hv ⊢
    simp? [hv]
  refine(bw (e1:=ib W ks os n fd (some (.d (.int (i:Int)))) (some (.d (.int k))) (some (.l ((ss++rs).map .int)))) ?_).trans ?_
  · have l7:(ss.map PyData.int).length+(rs.map PyData.int).length≤1000000:=by simp;lia
    rw [List.map_append]
    simp only [ib]
    generalize ss.map PyData.int=SS at*
    generalize rs.map PyData.int=RS at*
    generalize ks.map PyData.int=KK at*
    generalize os.map PyData.int=OO at*
    generalize fd.map PyData.int=FF at*
    cases b1 with
    | true=>
      rw [Bool.true_or] at hbb
      subst hbb
      simp? [gl,q7,gi,gm,ca,l7]
    | false=>
      rw [Bool.false_or] at hbb
      subst hbb
      simp? [gl,q7,sh,an,ge,gi,gm,ca,l7]
  · have ql:(((ss++rs).map PyData.int).length:Int)=((ss++rs).length:Int):=by simp
    have l8:((ss++rs).map PyData.int).length+1≤1000000:=by simp;lia
    have lf:fd.length < 1000000:=by lia
    rw [List.map_append (l₁:=ss++rs)] at at1
    simp only [ib,List.map_append (l₁:=fd),List.map_cons,List.map_nil] at at1 ⊢
    generalize ((ss++rs)++[0]).getD (s / 8 % max 1 ((ss++rs).length:Int)).toNat 0=y at*
    generalize s / 8 % max 1 ((ss++rs).length:Int)=j at*
    generalize ((ss++rs).length:Int)=L at*
    generalize (ss++rs).map PyData.int=SR at*
    generalize ks.map PyData.int=KK at*
    generalize os.map PyData.int=OO at*
    simp? [ca,l8,sh,fd8,ql,gmo,at1,lf]
theorem CD{W:bf}(ok:W.Ok){ks os:List Int}{n:Int}(hk:∀k∈ks,dG W k)(ho:∀k∈os,dG W k)(hl:ks.length≤16)(ol:os.length≤16)(hn:0≤n):∃rs:List Int,og [.d (aD W),.d (.tuple (ks.map .int)),.d (.tuple (os.map .int)),.d (.int n)]=some (.d (.tuple (rs.map .int)),[.d (aD W),.d (.tuple (ks.map .int)),.d (.tuple (os.map .int)),.d (.int n)])∧rs.length=os.length∧∀r∈rs,0≤r∧r < 16:=by
  have el:∀(xs:List PyData) (m:Nat),(em m xs).length=xs.length:=fun xs=>by
    induction xs with
    | nil=>intro m;rfl
    | cons x r ih=>intro m;simp [em,ih]
  obtain⟨e',h1,hI⟩:=bN (own:=[]) (g:=er (be (aq 5) (be (aq 6) dI))) (f:=ip) (A0 W ks os n) (em 0 (os.map .int)) 0 (ib W ks os n [] none none none) (fun i x e hx hI=>by
    obtain⟨hf,hr⟩:=hI
    rename_i fd v5 v6 v7
    rw [Nat.zero_add] at*
    rw [gG,List.getElem?_map] at hx
    obtain⟨y,hy,rfl⟩:=Option.map_eq_some_iff.mp hx
    obtain⟨k,hki,rfl⟩:=Option.map_eq_some_iff.mp hy
    have il:=(List.getElem?_eq_some_iff.mp hki).1
    obtain⟨y,v7',yr,ht⟩:=vb ok (os:=os) (fd:=fd) (i:=i) (v7:=v7) hk (ho k (List.mem_of_getElem? hki)) hl hn (by lia)
    rw [Nat.zero_add]
    exact⟨ib W ks os n fd (some (.d (.int (i:Int)))) (some (.d (.int k))) v7,_,rfl,ht,br,.mk (by rw [List.length_append];simp;lia) (fun r h=>by
      rcases List.mem_append.mp h with h | h
      · exact hr r h
      · simp at h;subst h;exact yr)⟩) (.mk rfl fun r h=>by cases h)
  obtain⟨hf,hr⟩:=hI
  rename_i fd v5 v6 v7
  rw [Nat.zero_add,el,List.length_map] at hf
  refine⟨fd,?_,hf,hr⟩
  have hi:mO (ib W ks os n [] none none none)=some (em 0 (os.map .int),[],ib W ks os n [] none none none):=by
    simp only [ib]
    generalize os.map PyData.int=OO
    generalize ks.map PyData.int=KK
    simp? [mO,qE,m9]
  have hg:=fun Wl=>cP (W:=Wl) (g:=er (be (aq 5) (be (aq 6) dI))) (f:=ip) hi
  rw [h1] at hg
  simp only [ib,List.map_nil] at hg
  generalize fd.map PyData.int=FF at*
  generalize os.map PyData.int=OO at*
  generalize ks.map PyData.int=KK at*
  simp? [og,xS,hg]
theorem zc{W:bf}{ks:List Int}:∀(ds:List PyData) (os:List Int),ds.length=os.length→(cS ds (os.map .int)).all (lh W ks)=true→∃cs:List Int,ds=cs.map .int∧cs.length=os.length∧∀i,i < os.length→cs.getD i 0∈ks∧lc W (cs.getD i 0) (os.getD i 0)=true
  | [],[],_,_=>⟨[],rfl,rfl,fun i h=>by simp at h⟩
  | [],_::_,h,_=>by simp at h
  | _::_,[],h,_=>by simp at h
  | d::ds,o::os,hl,h=>by
    have h':(lh W ks (.tuple [d,.int o])&&(cS ds (os.map .int)).all (lh W ks))=true:=h
    rw [Bool.and_eq_true] at h'
    obtain⟨cs,rfl,hc,hb⟩:=zc ds os (by simpa using hl) h'.2
    cases d with
    | int a=>
      have ha:(ks.contains a&&lc W a o)=true:=h'.1
      rw [Bool.and_eq_true,List.contains_iff_mem] at ha
      refine⟨a::cs,rfl,by simp [hc],fun i hi=>?_⟩
      cases i with
      | zero=>simpa using ha
      | succ i=>simpa using hb i (by simpa using hi)
    | _=>cases h'.1
theorem nF{W:bf}{ks os:List Int}{d:PyData}(h:jb W ks os d=true):∃cs:List Int,d=.tuple (cs.map .int)∧cs.length=os.length∧∀i,i < os.length→cs.getD i 0∈ks∧lc W (cs.getD i 0) (os.getD i 0)=true:=by
  cases d with
  | tuple ds=>
    simp only [jb,Bool.and_eq_true,beq_iff_eq] at h
    obtain⟨cs,rfl,h1,h2⟩:=zc ds os (by lia) h.2
    exact⟨cs,rfl,h1,h2⟩
  | _=>cases h
theorem sU{W:bf}(ok:W.Ok){ks os:List Int}{d:PyData}(hk:∀k∈ks,dG W k)(nd:(bc W os).Nodup)(h:jb W ks os d=true):o6 W os≤2*o6 W ks:=by
  obtain⟨cs,rfl,h1,h2⟩:=nF h
  exact yT ok hk h1 nd h2
theorem vN{W:bf}{ks os:List Int}{A B:List PyData}{x:PyData}(hx:∀i,x≠.int i):jb W ks os (.tuple (A++[x]++B))=false:=by
  cases h:jb W ks os (.tuple (A++[x]++B)) with
  | false=>rfl
  | true=>
    obtain⟨cs,e,_,_⟩:=nF h
    have hm:x∈cs.map PyData.int:=by
      rw [←PyData.tuple.inj e]
      simp
    obtain⟨i,_,rfl⟩:=List.mem_map.mp hm
    exact absurd rfl (hx i)
theorem sM{W:bf}(k:Int):lc W k k=true:=by
  simp [lc,Al]
theorem sV{W:bf}{ks:List Int}:jb W ks ks (.tuple (ks.map .int))=true:=by
  have key:∀l:List Int,(∀k∈l,k∈ks)→(cS (l.map .int) (l.map .int)).all (lh W ks)=true:=fun l=>by
    induction l with
    | nil=>intro _;rfl
    | cons x r ih=>
      intro h
      show(lh W ks (.tuple [.int x,.int x])&&(cS (r.map .int) (r.map .int)).all (lh W ks))=true
      rw [ih fun k hk=>h k (by simp [hk]),Bool.and_true]
      show(ks.contains x&&lc W x x)=true
      rw [sM,Bool.and_true,List.contains_iff_mem]
      exact h x (by simp)
  simp only [jb,List.length_map,beq_self_eq_true,Bool.true_and]
  exact key ks fun k h=>h
theorem vM{W:bf}{ks:List Int}:jb W ks [] (.tuple [])=true:=rfl
theorem Ao:∀d∈ug,∃b,Sw b 1000 4 d:=fun d h=>by
  have s0:PyData.strOk ""=true:=bH _
  have s1:PyData.strOk "a"=true:=bH _
  have s2:PyData.strOk "0"=true:=bH _
  have k0:("":Str).length≤10:=by decide
  have k1:("a":Str).length≤10:=by decide
  have k2:("0":Str).length≤10:=by decide
  have yes:∀d,si 4 d=true→wt d≤9→∃b,Sw b 1000 4 d:=fun d hd hw=>⟨false,(j4 hd).sw.mono (by lia) (by lia)⟩
  unfold ug at h
  simp only [List.mem_cons,List.not_mem_nil,or_false] at h
  rcases h with rfl | rfl | rfl | rfl | rfl | rfl | rfl | rfl | rfl | rfl | rfl | rfl | rfl | rfl | rfl | rfl | rfl | rfl | rfl | rfl | rfl | rfl | rfl | rfl | rfl | rfl | rfl
  all_goals first
    | exact yes _ (by first | rfl | decide | (simp only [si,kz,s0,s1,s2,k0,k1,k2];first | done | decide)) (by first | decide | (simp only [wt,k7];decide))
    | exact⟨true,⟨rfl,by decide+kernel,by simp [PyData.depth,PyData.depthKv],by decide+kernel,by decide+kernel⟩⟩
theorem jU{x:PyData}{xs:List PyData}{lo hi:Option Int}(h:x∈L2.cutD xs lo hi):x∈xs:=List.mem_of_mem_drop (List.mem_of_mem_take h)
def vB(x:PyData):PyData:=match x with
  | .int i=>if i < 2 then .bool (i==1) else .int i
  | d=>d
def CS(NN OO:List PyData)(at_ tie:Int)(o:PyData):List PyData:=[.tuple NN,.tuple NN,.tuple (NN++L2.cutD NN (some (-1)) none),.tuple (L2.cutD NN none (some (-1))),.tuple NN.reverse,.list NN,.tuple (L2.cutD NN none (some at_)++[.int tie]++L2.cutD NN (some (at_+1)) none),o,.tuple (L2.cutD NN none (some at_)++[o]++L2.cutD NN (some (at_+1)) none),.tuple OO,.tuple (NN++[.int tie]),.tuple [.tuple NN],.tuple (NN.map vB)]
theorem yB{rs os:List Int}{at_ tie:Int}{o:PyData}(hr:∀r∈rs,0≤r∧r < 16)(hrl:rs.length≤16)(ho:∀r∈os,0≤r∧r < 16)(ol:os.length≤16)(ht:0≤tie∧tie < 16)(hO:∃b,Sw b 1000 4 o):∀d∈CS (rs.map .int) (os.map .int) at_ tie o,∃b,Sw b 40005 5 d:=fun d hd=>by
  have eN:∀b,∀d∈rs.map PyData.int,Sw b 1000 4 d:=fun b d hd=>by
    obtain⟨r,hr',rfl⟩:=List.mem_map.mp hd
    exact(Sw.int (by have:=hr r hr';lia)).mono (by decide) (by decide)
  have eN3:∀b,∀d∈rs.map PyData.int,Sw b 1000 3 d:=fun b d hd=>by
    obtain⟨r,hr',rfl⟩:=List.mem_map.mp hd
    exact(Sw.int (by have:=hr r hr';lia)).mono (by decide) (by decide)
  have eO:∀b,∀d∈os.map PyData.int,Sw b 1000 4 d:=fun b d hd=>by
    obtain⟨r,hr',rfl⟩:=List.mem_map.mp hd
    exact(Sw.int (by have:=ho r hr';lia)).mono (by decide) (by decide)
  have eT:∀b,Sw b 1000 4 (.int tie):=fun b=>(Sw.int (by lia)).mono (by decide) (by decide)
  have eB:∀b,∀d∈(rs.map PyData.int).map vB,Sw b 1000 4 d:=fun b d hd=>by
    obtain⟨x,hx,rfl⟩:=List.mem_map.mp hd
    obtain⟨r,hr',rfl⟩:=List.mem_map.mp hx
    unfold vB
    simp only
    split
    · exact Sw.bool.mono (by decide) (by decide)
    · exact(Sw.int (by have:=hr r hr';lia)).mono (by decide) (by decide)
  have lN:(rs.map PyData.int).length≤16:=by simpa using hrl
  have lO:(os.map PyData.int).length≤16:=by simpa using ol
  have lB:((rs.map PyData.int).map vB).length≤16:=by simpa using hrl
  have up:∀{b xs},(∀d∈xs,Sw b 1000 4 d)→xs.length≤40→Sw b 40005 5 (.tuple xs):=fun h l=>Sw.tup (n:=1000) (dep:=4) (m:=40) h l
  unfold CS at hd
  generalize (rs.map PyData.int).map vB=BB at*
  generalize rs.map PyData.int=NN at*
  generalize os.map PyData.int=OO at*
  have cl:∀lo hi,(L2.cutD NN lo hi).length≤16:=fun lo hi=>Nat.le_trans L2.cut_len lN
  obtain⟨bo,hO⟩:=hO
  have mid:∀{b x},Sw b 1000 4 x→Sw b 40005 5 (.tuple (L2.cutD NN none (some at_)++[x]++L2.cutD NN (some (at_+1)) none)):=fun{b x} hx=>by
    have l1:=cl none (some at_);have l2:=cl (some (at_+1)) none
    refine up (fun d hd=>?_) (by simp only [List.length_append,List.length_cons,List.length_nil];lia)
    rcases List.mem_append.mp hd with h | h
    · rcases List.mem_append.mp h with h | h
      · exact eN b d (jU h)
      · simp at h;subst h;exact hx
    · exact eN b d (jU h)
  simp only [List.mem_cons,List.not_mem_nil,or_false] at hd
  rcases hd with rfl | rfl | rfl | rfl | rfl | rfl | rfl | rfl | rfl | rfl | rfl | rfl | rfl
  · exact⟨true,up (eN _) (by lia)⟩
  · exact⟨true,up (eN _) (by lia)⟩
  · refine⟨true,up (fun d hd=>?_) (by have:=cl (some (-1)) none;simp only [List.length_append];lia)⟩
    rcases List.mem_append.mp hd with h | h
    · exact eN _ d h
    · exact eN _ d (jU h)
  · exact⟨true,up (fun d hd=>eN _ d (jU hd)) (by have:=cl none (some (-1));lia)⟩
  · exact⟨true,up (fun d hd=>eN _ d (List.mem_reverse.mp hd)) (by rw [List.length_reverse];lia)⟩
  · exact⟨false,Sw.lst (n:=1000) (dep:=4) (m:=40) (eN _) (by lia)⟩
  · exact⟨true,mid (eT _)⟩
  · exact⟨bo,hO.mono (by decide) (by decide)⟩
  · exact⟨bo,mid hO⟩
  · exact⟨true,up (eO _) (by lia)⟩
  · refine⟨true,up (fun d hd=>?_) (by simp only [List.length_append,List.length_cons,List.length_nil];lia)⟩
    rcases List.mem_append.mp hd with h | h
    · exact eN _ d h
    · simp at h;subst h;exact eT _
  · refine⟨true,(Sw.tup (n:=16005) (dep:=4) (m:=1) (fun d hd=>?_) (by simp)).mono (by decide) (by decide)⟩
    simp at hd;subst hd
    exact Sw.tup (n:=1000) (dep:=3) (m:=16) (eN3 _) lN
  · exact⟨true,up (eB _) (by lia)⟩
theorem vo{W:bf}(ok:W.Ok){rs os:List Int}{n:Int}{o:PyData}(hn:0≤n)(hr:∀r∈rs,0≤r∧r < 16)(hrl:rs.length≤16)(ho:∀r∈os,0≤r∧r < 16)(ol:os.length≤16)(hO:∃b,Sw b 1000 4 o):
    ∃d,kj [.d (aD W),.d (.tuple (rs.map .int)),.d (.tuple (os.map .int)),.d (.int n),.d o]=some (.d d,[.d (aD W),.d (.tuple (rs.map .int)),.d (.tuple (os.map .int)),.d (.int n),.d o])∧∃b,Sw b 40005 5 d:=by
  have g1':=yS (W:=W)
  have wl:=ok.len
  have lp:0 < (rs.length:Int)+1:=by lia
  have gm1:∀e:En,aN e (.d (.int n)) (.d (.int ((rs.length:Int)+1)))=some (.d (.int (n % ((rs.length:Int)+1)))):=fun e=>aB lp
  generalize n % ((rs.length:Int)+1)=at_ at*
  have b17:Bt 8000 17:=dA (by decide) (by decide)
  have b300:Bt 8000 300:=dA (by decide) (by decide)
  have f17:∀e:En,bD e (.d (.int n)) (.d (.int 17))=some (.d (.int (n / 17))):=fun e=>bA (by decide) b17
  have f300:∀e:En,bD e (.d (.int n)) (.d (.int 300))=some (.d (.int (n / 300))):=fun e=>bA (by decide) b300
  have mp:0 < max 1 (W.ties.length:Int):=by lia
  have gm2:∀e:En,aN e (.d (.int (n / 17))) (.d (.int (max 1 (W.ties.length:Int))))=some (.d (.int (n / 17 % max 1 (W.ties.length:Int)))):=fun e=>aB mp
  have x0:=nu (n:=n / 17) mp;have x1:=nv (n:=n / 17) mp
  have ht:0≤n / 17 % max 1 (W.ties.length:Int)∧n / 17 % max 1 (W.ties.length:Int) < 16:=⟨x0,by lia⟩
  generalize n / 17 % max 1 (W.ties.length:Int)=tie at*
  have gm3:∀e:En,aN e (.d (.int (n / 300))) (.d (.int 13))=some (.d (.int (n / 300 % 13))):=fun e=>aB (by decide)
  have c0:=nu (n:=n / 300) (k:=13) (by decide);have c1:=nv (n:=n / 300) (k:=13) (by decide)
  generalize n / 300 % 13=q at*
  obtain⟨d,hd,ha⟩:=fR (xs:=CS (rs.map .int) (os.map .int) at_ tie o) (i:=q) c0 c1
  refine⟨d,?_,yB hr hrl ho ol ht hO d hd⟩
  have qtl:((W.ties.map dh).length:Int)=(W.ties.length:Int):=by simp
  have qrl:((rs.map PyData.int).length:Int)=(rs.length:Int):=by simp
  have lN:(rs.map PyData.int).length≤16:=by simpa using hrl
  obtain⟨t1,hf1⟩:=dW (cs:=[]) (ft:=dy) (fe:=eS) (b:=fun _=>true) (y:=vB) (rs.map .int) none [] (fun x hx=>rfl) (fun x hx _=>by
    obtain⟨z,hz,rfl⟩:=List.mem_map.mp hx
    have gi:∀(e:En) (b:Bool),g1 lj e [.d (.bool b)]=some (.d (.int (if b=true then 1 else 0))):=fun e b=>by cases b<;>rfl
    have ge:∀e:En,cD false e (.d (.int z)) (.d (.int 1))=some (.d (.bool (z==1))):=fun e=>by rw [gL];rfl
    show eS [some (.d (.int z))]=some (.d (vB (.int z)),[some (.d (.int z))])
    unfold vB
    simp only
    generalize (z==1)=b1 at*
    by_cases c:z < 2
    · have gl:∀e:En,tN e (.d (.int z)) (.d (.int 2))=some (.d (.bool true)):=fun e=>by
        have:decide (z < 2)=true:=decide_eq_true c
        rw [←this];rfl
      rw [if_pos c]
      simp? [eS,gl,gi,ge]
    · have gl:∀e:En,tN e (.d (.int z)) (.d (.int 2))=some (.d (.bool false)):=fun e=>by
        have:decide (z < 2)=false:=decide_eq_false c
        rw [←this];rfl
      rw [if_neg c]
      simp? [eS,gl,gi,ge]) (by simp;lia)
  have hv:=fun v7=>gB (cp:=[]) (nT:=1) (fi:=nX) (g:=aq 0) (ft:=dy) (fe:=eS) (e:=[some (.d (aD W)),some (.d (.tuple (rs.map .int))),some (.d (.tuple (os.map .int))),some (.d (.int n)),some (.d o),some (.d (.int at_)),some (.d (.int tie)),v7]) (cs:=[]) (t:=[none]) (t':=[t1]) rfl rfl rfl hf1
  rw [List.nil_append,gJ] at hv
  have lB:((rs.map PyData.int).map vB).length≤16:=by simpa using hrl
  unfold CS at ha
  generalize (rs.map PyData.int).map vB=BB at*
  generalize rs.map PyData.int=NN at*
  generalize os.map PyData.int=OO at*
  generalize W.ties.map dh=TT at*
  generalize (rs.length:Int)=RL at*
  generalize (W.ties.length:Int)=TL at*
  have cl:∀lo hi,(L2.cutD NN lo hi).length≤16:=fun lo hi=>Nat.le_trans L2.cut_len lN
  have l1:=cl none (some at_);have l2:=cl (some (at_+1)) none;have l3:=cl (some (-1)) none
  have gc:∀(xs ys:List PyData),xs.length≤100→ys.length≤100→∀e:En,a' e (.d (.tuple xs)) (.d (.tuple ys))=some (.d (.tuple (xs++ys))):=fun xs ys h1 h2 e=>mK (by lia)
  have gr:∀e:En,Dd e (.d (.tuple NN)) (.d (.int (-1)))=some (.d (.tuple NN.reverse)):=fun e=>rfl
  have gl:∀(e:En),g1 jB e [.d (.tuple NN)]=some (.l NN):=fun e=>rfl
  have ca:∀(e:En) (xs ys:List PyData),e[7]?=some (some (.l xs))→xs.length+ys.length≤1000000→a' e (.s 7) (.l ys)=some (.l (xs++ys)):=fun e xs ys he h=>jS he h
  have k1:=gc NN (L2.cutD NN (some (-1)) none) (by lia) (by lia)
  have k2:=gc (L2.cutD NN none (some at_)) [.int tie] (by lia) (by simp)
  have k3:=gc (L2.cutD NN none (some at_)++[.int tie]) (L2.cutD NN (some (at_+1)) none) (by simp;lia) (by lia)
  have k4:=gc (L2.cutD NN none (some at_)) [o] (by lia) (by simp)
  have k5:=gc (L2.cutD NN none (some at_)++[o]) (L2.cutD NN (some (at_+1)) none) (by simp;lia) (by lia)
  have k6:=gc NN [.int tie] (by lia) (by simp)
  generalize L2.cutD NN none (some at_)++[.int tie]++L2.cutD NN (some (at_+1)) none=E1 at*
  generalize L2.cutD NN none (some at_)++[o]++L2.cutD NN (some (at_+1)) none=E2 at*
  generalize hE3:L2.cutD NN none (some at_)++[.int tie]=E3 at*
  generalize hE4:L2.cutD NN none (some at_)++[o]=E4 at*
  generalize NN++[.int tie]=E5 at*
  generalize hA:L2.cutD NN none (some at_)=A at*
  generalize hB:L2.cutD NN (some (at_+1)) none=B at*
  generalize NN++L2.cutD NN (some (-1)) none=E6 at*
  generalize hC:L2.cutD NN (some (-1)) none=C at*
  generalize hD:L2.cutD NN none (some (-1))=D at*
  generalize NN.reverse=NR at*
  have hm:∀(v5 v6 v7:Option Sv),pf [some (.d (aD W)),some (.d (.tuple NN)),some (.d (.tuple OO)),some (.d (.int n)),some (.d o),v5,v6,v7]=some (.rt (.d d) [some (.d (aD W)),some (.d (.tuple NN)),some (.d (.tuple OO)),some (.d (.int n)),some (.d o),some (.d (.int at_)),some (.d (.int tie)),some (.l [.tuple NN,.tuple NN,.tuple E6,.tuple D,.tuple NR,.list NN,.tuple E1,o,.tuple E2,.tuple OO,.tuple E5,.tuple [.tuple NN]])]):=fun v5 v6 v7=>by
    unfold pf
    refine(bw (e1:=[some (.d (aD W)),some (.d (.tuple NN)),some (.d (.tuple OO)),some (.d (.int n)),some (.d o),some (.d (.int at_)),v6,v7]) ?_).trans ?_
    · simp? [qrl,gm1]
    refine(bw (e1:=[some (.d (aD W)),some (.d (.tuple NN)),some (.d (.tuple OO)),some (.d (.int n)),some (.d o),some (.d (.int at_)),some (.d (.int tie)),v7]) ?_).trans ?_
    · simp? [qtl,g1',f17,gm2]
    refine(bw (e1:=[some (.d (aD W)),some (.d (.tuple NN)),some (.d (.tuple OO)),some (.d (.int n)),some (.d o),some (.d (.int at_)),some (.d (.int tie)),some (.l [.tuple NN,.tuple NN,.tuple E6,.tuple D,.tuple NR,.list NN,.tuple E1,o])]) ?_).trans ?_
    · simp? [hA,hB,hC,hD,k1,k2,k3,gr,gl,CL, -cq,cq]
    refine(bw (e1:=[some (.d (aD W)),some (.d (.tuple NN)),some (.d (.tuple OO)),some (.d (.int n)),some (.d o),some (.d (.int at_)),some (.d (.int tie)),some (.l [.tuple NN,.tuple NN,.tuple E6,.tuple D,.tuple NR,.list NN,.tuple E1,o,.tuple E2,.tuple OO,.tuple E5,.tuple [.tuple NN]])]) ?_).trans ?_
    · simp? [hA,hB,k4,k5,k6,ca, -cq,cq]
    · simp? [hv,ca,f300,gm3,ha, -cq,cq]
  simp? [kj,hm]
abbrev bQ(W:bf)(ks os:List Int)(N:Sv)(v4 v5 v6 v7 v8 v9 v10:Option Sv):En:=[some (.d (aD W)),some (.d (.tuple (ks.map .int))),some (.d (.tuple (os.map .int))),some N,v4,v5,v6,v7,v8,v9,v10]
theorem uh{W:bf}(ok:W.Ok){ks os rs:List Int}{N:Sv}{at_:Int}{v4 v8 v9 v10:Option Sv}{x:PyData}(hk:∀k∈ks,dG W k)(ho:∀k∈os,dG W k)(ol:os.length≤16)(rl:rs.length≤16)(hx:∀i,x≠.int i):
    ∃w8,eQ (bQ W ks os N v4 (some (.d (.tuple (rs.map .int)))) (some (.d (.int at_))) (some (.d x)) v8 v9 v10)=some (.nx (bQ W ks os N v4 (some (.d (.tuple (rs.map .int)))) (some (.d (.int at_))) (some (.d x)) w8 v9 v10)):=by
  have lN:(rs.map PyData.int).length≤16:=by simpa using rl
  have cl:∀lo hi,(L2.cutD (rs.map PyData.int) lo hi).length≤16:=fun lo hi=>Nat.le_trans L2.cut_len lN
  obtain⟨e3,h3,⟨w8,he3⟩⟩:=bN (own:=[]) (g:=aq 8) (f:=gE) (fun i e=>∃v8,e=bQ W ks os N v4 (some (.d (.tuple (rs.map .int)))) (some (.d (.int at_))) (some (.d x)) v8 v9 v10) [.tuple (L2.cutD (rs.map .int) none (some at_)++[x]++L2.cutD (rs.map .int) (some at_) none),.tuple (L2.cutD (rs.map .int) none (some at_)++[x]++L2.cutD (rs.map .int) (some (at_+1)) none)] 0 (bQ W ks os N v4 (some (.d (.tuple (rs.map .int)))) (some (.d (.int at_))) (some (.d x)) v8 v9 v10) (fun i y e hy ⟨v8,he⟩=>by
    subst he
    have hy':=List.mem_of_getElem? hy
    have cf:jb W ks os y=false:=by
      simp only [List.mem_cons,List.not_mem_nil,or_false] at hy'
      rcases hy' with rfl | rfl<;>exact vN hx
    have tc:=fm ok hk ho (by lia) y
    rw [cf] at tc
    have ts:=p4 false false
    rw [beq_self_eq_true] at ts
    refine⟨bQ W ks os N v4 (some (.d (.tuple (rs.map .int)))) (some (.d (.int at_))) (some (.d x)) (some (.d y)) v9 v10,bQ W ks os N v4 (some (.d (.tuple (rs.map .int)))) (some (.d (.int at_))) (some (.d x)) (some (.d y)) v9 v10,rfl,?_,br,_,rfl⟩
    simp only [bQ]
    generalize rs.map PyData.int=NN at*
    generalize ks.map PyData.int=KK at*
    generalize os.map PyData.int=OO at*
    simp? [gE,tc,ts]) ⟨v8,rfl⟩
  subst he3
  refine⟨w8,?_⟩
  have gc:∀(xs ys:List PyData),xs.length≤100→ys.length≤100→∀e:En,a' e (.d (.tuple xs)) (.d (.tuple ys))=some (.d (.tuple (xs++ys))):=fun xs ys h1 h2 e=>mK (by lia)
  have hi:jf (bQ W ks os N v4 (some (.d (.tuple (rs.map .int)))) (some (.d (.int at_))) (some (.d x)) v8 v9 v10)=some ([.tuple (L2.cutD (rs.map .int) none (some at_)++[x]++L2.cutD (rs.map .int) (some at_) none),.tuple (L2.cutD (rs.map .int) none (some at_)++[x]++L2.cutD (rs.map .int) (some (at_+1)) none)],[],bQ W ks os N v4 (some (.d (.tuple (rs.map .int)))) (some (.d (.int at_))) (some (.d x)) v8 v9 v10):=by
    unfold jf
    refine tW ?_
    have l1:=cl none (some at_);have l2:=cl (some (at_+1)) none;have l3:=cl (some at_) none
    simp only [bQ]
    generalize rs.map PyData.int=NN at*
    generalize ks.map PyData.int=KK at*
    generalize os.map PyData.int=OO at*
    have k4:=gc (L2.cutD NN none (some at_)) [x] (by lia) (by simp)
    have k5:=gc (L2.cutD NN none (some at_)++[x]) (L2.cutD NN (some (at_+1)) none) (by simp;lia) (by lia)
    have k6:=gc (L2.cutD NN none (some at_)++[x]) (L2.cutD NN (some at_) none) (by simp;lia) (by lia)
    generalize L2.cutD NN none (some at_)++[x]++L2.cutD NN (some (at_+1)) none=E2 at*
    generalize L2.cutD NN none (some at_)++[x]++L2.cutD NN (some at_) none=E1 at*
    generalize hE4:L2.cutD NN none (some at_)++[x]=E4 at*
    generalize hA:L2.cutD NN none (some at_)=A at*
    generalize hB:L2.cutD NN (some (at_+1)) none=B at*
    generalize hC:L2.cutD NN (some at_) none=C at*
    simp? [hA,hB,hC,k4,k5,k6, -cq,cq]
  have hg:=fun Wl=>cP (W:=Wl) (g:=aq 8) (f:=gE) hi
  rw [h3] at hg
  exact hg _
theorem ro{W:bf}(ok:W.Ok){ks os rs:List Int}{N:Sv}{at_:Int}{v4 v7 v8 v9 v10:Option Sv}(hk:∀k∈ks,dG W k)(ho:∀k∈os,dG W k)(ol:os.length≤16)(rl:rs.length≤16):
    ∃w7 w8,∀Wl,cR Wl gN (aq 7) eQ (bQ W ks os N v4 (some (.d (.tuple (rs.map .int)))) (some (.d (.int at_))) v7 v8 v9 v10)=some (.nx (bQ W ks os N v4 (some (.d (.tuple (rs.map .int)))) (some (.d (.int at_))) w7 w8 v9 v10)):=by
  obtain⟨e3,h3,⟨w7,w8,he3⟩⟩:=bN (own:=[]) (g:=aq 7) (f:=eQ) (fun i e=>∃v7 v8,e=bQ W ks os N v4 (some (.d (.tuple (rs.map .int)))) (some (.d (.int at_))) v7 v8 v9 v10) [.list [],.dict [],.list [.int 0],.dict [(.int 0,.int 1)]] 0 (bQ W ks os N v4 (some (.d (.tuple (rs.map .int)))) (some (.d (.int at_))) v7 v8 v9 v10) (fun i y e hy ⟨v7,v8,he⟩=>by
    subst he
    have hy':=List.mem_of_getElem? hy
    have hx:∀i,y≠.int i:=fun i e=>by
      simp only [List.mem_cons,List.not_mem_nil,or_false] at hy'
      rcases hy' with rfl | rfl | rfl | rfl<;>cases e
    obtain⟨w8,h⟩:=uh ok (N:=N) (at_:=at_) (v4:=v4) (v8:=v8) (v9:=v9) (v10:=v10) hk ho ol rl hx
    exact⟨_,_,rfl,h,br,_,_,rfl⟩) ⟨v7,v8,rfl⟩
  subst he3
  refine⟨w7,w8,fun Wl=>?_⟩
  have hi:gN (bQ W ks os N v4 (some (.d (.tuple (rs.map .int)))) (some (.d (.int at_))) v7 v8 v9 v10)=some ([.list [],.dict [],.list [.int 0],.dict [(.int 0,.int 1)]],[],bQ W ks os N v4 (some (.d (.tuple (rs.map .int)))) (some (.d (.int at_))) v7 v8 v9 v10):=by
    unfold gN
    refine tW ?_
    simp? [jH]
  have hg:=fun Wl=>cP (W:=Wl) (g:=aq 7) (f:=eQ) hi
  rw [h3] at hg
  exact hg _
theorem AI{W:bf}(ok:W.Ok)(b:Bool):Sw b 64025 5 (aD W):=by
  have t0:=ok.t0;have t1:=ok.t1;have a0:=ok.a0;have a1:=ok.a1;have wl:=ok.len;have pl:=ok.pl
  have T2:∀d∈W.ties.map dh,Sw b 1000 3 d:=fun d hd=>by
    obtain⟨t,ht,rfl⟩:=List.mem_map.mp hd
    have o:=ok.ties t ht
    have o0:=o.o0;have o1:=o.o1;have o2:=o.o2;have c0:=o.c0;have c1:=o.c1;have b1:=o.b1;have w0:=o.w0;have w1:=o.w1
    have hd:si 2 (dh t)=true:=by
      simp only [dh,si,kz,Bool.and_eq_true,decide_eq_true_eq,Nat.reducePow]
      exact⟨by decide,by lia,by lia,⟨by decide,by lia,by lia,trivial⟩,by lia,trivial⟩
    exact((j4 hd).swF rfl b).mono (by simp [dh,wt,k7]) (by decide)
  have T3:Sw b 16005 4 (.tuple (W.ties.map dh)):=Sw.tup (n:=1000) (dep:=3) (m:=16) T2 (by simpa using wl)
  have P1:Sw b 16005 4 (.tuple (W.pat.map .int)):=(Sw.ints (m:=12) (fun r hr=>by have:=ok.pat r hr;lia) (by lia)).mono (by decide) (by decide)
  have i1:Sw b 16005 4 (.int W.things):=(Sw.int (by lia)).mono (by decide) (by decide)
  have i2:Sw b 16005 4 (.int W.asks):=(Sw.int (by lia)).mono (by decide) (by decide)
  exact Sw.tup (n:=16005) (dep:=4) (m:=4) (fun d hd=>by
    simp only [List.mem_cons,List.not_mem_nil,or_false] at hd
    rcases hd with rfl | rfl | rfl | rfl
    · exact i1
    · exact T3
    · exact P1
    · exact i2) (by simp)
theorem pU{W:bf}(ok:W.Ok){ks os:List Int}{N:Sv}{n:Int}{v5 v6 v7 v8 v9 v10:Option Sv}(hk:∀k∈ks,dG W k)(ho:∀k∈os,dG W k)(kl:ks.length≤16)(ol:os.length≤16)(nd:(bc W os).Nodup)(hn:0≤n):
    ∃w5 w6 w7 w8 w9 w10,cV (bQ W ks os N (some (.d (.int n))) v5 v6 v7 v8 v9 v10)=some (.nx (bQ W ks os N (some (.d (.int n))) w5 w6 w7 w8 w9 w10)):=by
  have wl:=ok.len
  have rng:∀{l:List Int},(∀k∈l,dG W k)→∀k∈l,0≤k∧k < 16:=fun h k hkk=>⟨(h k hkk).1,by have:=(h k hkk).2;lia⟩
  obtain⟨rs,tr,rl,hr⟩:=CD ok hk ho kl ol hn
  rw [rl.symm] at ol
  have lp:0 < (rs.length:Int)+1:=by lia
  have gm1:∀e:En,aN e (.d (.int n)) (.d (.int ((rs.length:Int)+1)))=some (.d (.int (n % ((rs.length:Int)+1)))):=fun e=>aB lp
  generalize n % ((rs.length:Int)+1)=at_ at*
  obtain⟨w7,w8,h4⟩:=ro ok (N:=N) (rs:=rs) (at_:=at_) (v4:=some (.d (.int n))) (v7:=v7) (v8:=v8) (v9:=v9) (v10:=v10) hk ho (by lia) ol
  have b8:Bt 8000 8:=dA (by decide) (by decide)
  have b5:Bt 8000 100000:=dA (by decide) (by decide)
  have f8:∀e:En,bD e (.d (.int n)) (.d (.int 8))=some (.d (.int (n / 8))):=fun e=>bA (by decide) b8
  have f5:∀e:En,bD e (.d (.int n)) (.d (.int 100000))=some (.d (.int (n / 100000))):=fun e=>bA (by decide) b5
  obtain⟨o,hoo,to⟩:=CB (n / 100000)
  obtain⟨d,tb,b,sd⟩:=vo ok (rs:=rs) (os:=os) (n:=n / 8) (o:=o) (by lia) hr ol (rng ho) (by lia) (Ao o hoo)
  have sK:Sw b 64025 5 (.tuple (ks.map .int)):=(Sw.ints (m:=16) (fun r h=>by have:=rng hk r h;lia) kl).mono (by decide) (by decide)
  have sO:Sw b 64025 5 (.tuple (os.map .int)):=(Sw.ints (m:=16) (fun r h=>by have:=rng ho r h;lia) (by lia)).mono (by decide) (by decide)
  have sA:Sw b (4*64025+5) 6 (.tuple [aD W,.tuple (ks.map .int),.tuple (os.map .int),d]):=Sw.tup (n:=64025) (dep:=5) (m:=4) (fun x hx=>by
    simp only [List.mem_cons,List.not_mem_nil,or_false] at hx
    rcases hx with rfl | rfl | rfl | rfl
    · exact AI ok b
    · exact sK
    · exact sO
    · exact sd.mono (by decide) (by decide)) (by simp)
  have gr:=sA.repr (by decide) (by decide)
  have ge:=fun e=>tH (e:=e) sA.so
  have c1:=fm ok hk ho (by lia) d
  have c2:=kZ ok hk ho d
  have s1:=p4 (jb W ks os d) (jb W ks os d)
  rw [beq_self_eq_true] at s1
  have c3:=fm ok hk ho (by lia) (.tuple (rs.map .int))
  have c4:=kZ ok hk ho (.tuple (rs.map .int))
  have s2:=p4 (jb W ks os (.tuple (rs.map .int))) (jb W ks os (.tuple (rs.map .int)))
  rw [beq_self_eq_true] at s2
  have u1:=oT ho (by lia)
  have u2:=oT hk (by lia)
  have yT:=sU ok (d:=d) hk nd
  have lnn:((rs.map PyData.int).length:Int)=(rs.length:Int):=by simp
  refine⟨some (.d (.tuple (rs.map .int))),some (.d (.int at_)),w7,some (.d d),some (.d (.str (PyData.tuple [aD W,.tuple (ks.map .int),.tuple (os.map .int),d]).shown)),some (.d (.bool (jb W ks os d))),?_⟩
  generalize (PyData.tuple [aD W,.tuple (ks.map .int),.tuple (os.map .int),d]).shown=SH at*
  generalize jb W ks os (.tuple (rs.map .int))=bb2 at*
  generalize (rs.length:Int)=RL at*
  unfold cV
  refine(bw (e1:=bQ W ks os N (some (.d (.int n))) (some (.d (.tuple (rs.map .int)))) v6 v7 v8 v9 v10) ?_).trans ?_
  · simp? [bQ,tr]
  refine(bw (e1:=bQ W ks os N (some (.d (.int n))) (some (.d (.tuple (rs.map .int)))) (some (.d (.int at_))) v7 v8 v9 v10) ?_).trans ?_
  · simp only [bQ]
    generalize rs.map PyData.int=NN at*
    simp? [lnn,gm1]
  refine(bw (h4 _)).trans ?_
  refine(bw (e1:=bQ W ks os N (some (.d (.int n))) (some (.d (.tuple (rs.map .int)))) (some (.d (.int at_))) w7 (some (.d d)) v9 v10) ?_).trans ?_
  · simp only [bQ]
    generalize rs.map PyData.int=NN at*
    generalize ks.map PyData.int=KK at*
    generalize os.map PyData.int=OO at*
    simp? [f8,f5,to,tb]
  simp only [bQ]
  generalize rs.map PyData.int=NN at*
  generalize ks.map PyData.int=KK at*
  generalize os.map PyData.int=OO at*
  generalize hW:aD W=WW at*
  generalize jb W ks os d=bb at*
  cases bb with
  | false=>simp? [gr,ge,c1,c2,c3,c4,s1,s2]
  | true=>
    have hh:=yT rfl
    generalize o6 W os=wo at*
    generalize o6 W ks=wk at*
    have gmm:∀e:En,eF e (.d (.int 2)) (.d (.int wk))=some (.d (.int (2*wk))):=fun e=>iC (pL (by decide) (by decide))
    have gg:∀e:En,vY e (.d (.int wo)) (.d (.int (2*wk)))=some (.d (.bool false)):=fun e=>by
      have:decide (2*wk < wo)=false:=decide_eq_false (by lia)
      rw [←this];rfl
    simp? [gr,ge,c1,c2,c3,c4,s1,s2,u1,u2,gmm,gg]
theorem qU{W:bf}(ok:W.Ok){ks os ms:List Int}{N:Sv}(hN:N=.l (ms.map .int)∨N=.d (.list (ms.map .int)))(hk:∀k∈ks,dG W k)(ho:∀k∈os,dG W k)(kl:ks.length≤16)(ol:os.length≤16)(nd:(bc W os).Nodup)(hm:∀n∈ms,0≤n):
    dP [.d (aD W),.d (.tuple (ks.map .int)),.d (.tuple (os.map .int)),N]=some (.d (.bool true),[.d (aD W),.d (.tuple (ks.map .int)),.d (.tuple (os.map .int)),N]):=by
  have step:∀(own:List (Nat × List PyData)) (ho:own=[]∨own=[(3,ms.map .int)]∧N=.l (ms.map .int)),∃w4 w5 w6 w7 w8 w9 w10,gZ own (aq 4) cV (ms.map .int) (bQ W ks os N none none none none none none none)=some (.nx (bQ W ks os N w4 w5 w6 w7 w8 w9 w10)):=fun own hown=>by
    obtain⟨e3,h3,⟨w4,w5,w6,w7,w8,w9,w10,he3⟩⟩:=bN (own:=own) (g:=aq 4) (f:=cV) (fun i e=>∃v4 v5 v6 v7 v8 v9 v10,e=bQ W ks os N v4 v5 v6 v7 v8 v9 v10) (ms.map .int) 0 (bQ W ks os N none none none none none none none) (fun i y e hy ⟨v4,v5,v6,v7,v8,v9,v10,he⟩=>by
      subst he
      obtain⟨n,hn,rfl⟩:=List.mem_map.mp (List.mem_of_getElem? hy)
      obtain⟨w5,w6,w7,w8,w9,w10,h⟩:=pU ok (N:=N) (v5:=v5) (v6:=v6) (v7:=v7) (v8:=v8) (v9:=v9) (v10:=v10) hk ho kl ol nd (hm n hn)
      exact⟨_,_,rfl,h,fun p hp=>by
        rcases hown with rfl | ⟨rfl,rfl⟩
        · cases hp
        · simp at hp;subst hp;rfl,_,_,_,_,_,_,_,rfl⟩) ⟨none,none,none,none,none,none,none,rfl⟩
    subst he3
    exact⟨_,_,_,_,_,_,_,h3⟩
  have c1:=fm ok (ks:=ks) (os:=[]) hk (fun k h=>by cases h) (by decide) (.tuple [])
  rw [vM] at c1
  have c2:=fm ok (ks:=ks) (os:=ks) hk hk (by lia) (.tuple (ks.map .int))
  rw [sV] at c2
  have it:∀e:En,yd e (.d (.bool true)) (.d (.bool true))=some (.d (.bool true)):=fun e=>rfl
  simp only [List.map_nil] at c1
  rcases hN with rfl | rfl
  · obtain⟨w4,w5,w6,w7,w8,w9,w10,h3⟩:=step [(3,ms.map .int)] (.inr ⟨rfl,rfl⟩)
    have hf:∀Wl,3∉Wl→cR Wl gP (aq 4) cV (bQ W ks os (.l (ms.map .int)) none none none none none none none)=some (.nx (bQ W ks os (.l (ms.map .int)) w4 w5 w6 w7 w8 w9 w10)):=fun Wl hW=>by
      unfold cR
      rw [show gP (bQ W ks os (.l (ms.map .int)) none none none none none none none)=some (ms.map .int,[(3,ms.map .int)],bQ W ks os (.l (ms.map .int)) none none none none none none none) from rfl]
      simpa [hW] using h3
    simp only [bQ] at hf
    generalize ks.map PyData.int=KK at*
    generalize os.map PyData.int=OO at*
    generalize ms.map PyData.int=MM at*
    generalize aD W=WW at*
    simp? [dP,mx,hf,c1,c2,it]
  · obtain⟨w4,w5,w6,w7,w8,w9,w10,h3⟩:=step [] (.inl rfl)
    have hg:=fun Wl=>cP (W:=Wl) (g:=aq 4) (f:=cV) (show gP (bQ W ks os (.d (.list (ms.map .int))) none none none none none none none)=some (ms.map .int,[],bQ W ks os (.d (.list (ms.map .int))) none none none none none none none) from rfl)
    rw [h3] at hg
    simp only [bQ] at hg
    generalize ks.map PyData.int=KK at*
    generalize os.map PyData.int=OO at*
    generalize ms.map PyData.int=MM at*
    generalize aD W=WW at*
    simp? [dP,mx,hg,c1,c2,it]
def AW(ei:En)(o:Option Nat)(s:Option Sv):Option Sv:=match s with
  | some (.l xs)=>match o with
    | some k=>(ei[k]?).join
    | none=>some (.l xs)
  | s=>s
theorem CK{ei:En}{s:Option Sv}:AW ei none s=s:=by rcases s with _ | (_ | _ | _)<;>rfl
abbrev DV(ms:List Int):Prop:=∀n∈ms,0≤n
theorem zb{ns ds:List Int}{v2 v3 v4 v5:Option Sv}(hd:fw ds):∃(ds' ms:List Int),dJ [(1,"_law_drawn")] 1 CU (aq 1) dy Bi [some (.d (.list (ns.map .int))),some (.l (ds.map .int)),v2,v3,v4,v5]=some (.l (ms.map .int),[some (.d (.list (ns.map .int))),some (.l (ds'.map .int)),v2,v3,v4,v5])∧fw ds'∧DV ms∧ms.length=5:=by
  obtain⟨out,e',h1,h2,h3,⟨ds',v,he,hd'⟩⟩:=lE (g:=aq 1) (ft:=dy) (fe:=Bi) (fun i e=>∃ds v,e=[some (.l (ds.map .int)),v]∧fw ds) (fun d=>∃n:Int,d=.int n∧0≤n) (bF 0 5) 0 [some (.l (ds.map .int)),none] [] (fun i x e hx ⟨ds,v,he,hd⟩=>by
    subst he
    obtain⟨rfl,hi⟩:=c8 hx
    obtain⟨n,d1,t1,a1,b1,hd1⟩:=gA hd
    obtain⟨m,tm,hm, -⟩:=nh n (0+(i:Int)+2) (by lia) (by lia)
    generalize (0+(i:Int))=q at*
    refine⟨_,.d (.int m),.int m,_,rfl,rfl,?_,rfl,⟨m,rfl,hm⟩,d1,some (.d (.int q)),rfl,hd1⟩
    simp? [Bi,t1,tm]) ⟨ds,none,rfl,hd⟩ (by simp [eg])
  subst he
  rw [List.nil_append] at h1
  obtain⟨ms,rfl,hm⟩:∃ms:List Int,out=ms.map .int∧DV ms:=by
    clear h1 h2
    induction out with
    | nil=>exact⟨[],rfl,fun n h=>by cases h⟩
    | cons d r ih=>
      obtain⟨ms,rfl,hm⟩:=ih fun x hx=>h3 x (by simp [hx])
      obtain⟨n,rfl,hn⟩:=h3 d (by simp)
      exact⟨n::ms,rfl,fun z hz=>by
        rcases List.mem_cons.mp hz with rfl | hz
        · exact hn
        · exact hm z hz⟩
  refine⟨ds',ms,?_,hd',hm,by rw [eg,List.length_map] at h2;exact h2⟩
  rw [rY (cp:=[(1,"_law_drawn")]) (nT:=1) (fi:=CU) (e:=[some (.d (.list (ns.map .int))),some (.l (ds.map .int)),v2,v3,v4,v5]) (e1:=[some (.d (.list (ns.map .int))),some (.l (ds.map .int)),v2,v3,v4,v5]) (items:=bF 0 5) rfl h1 rfl]
  refine congrArg (fun z=>some (Rv.l (ms.map .int),z)) ?_
  have u:jr (jk [(1,"_law_drawn")]) [some (.l (ds'.map .int)),v] [some (.d (.list (ns.map .int))),some (.l (ds.map .int)),v2,v3,v4,v5]=[some (.d (.list (ns.map .int))),some (.l (ds'.map .int)),AW [] none v2,AW [] none v3,AW [] none v4,AW [] none v5]:=rfl
  simp only [CK] at u
  exact u
theorem Ai{ns ds ks os:List Int}{W:bf}{v2 v5:Option Sv}(ok:W.Ok)(hd:fw ds)(hk:∀k∈ks,dG W k)(ho:∀k∈os,dG W k)(kl:ks.length≤16)(ol:os.length≤16)(kd:(bc W ks).Nodup)(od:(bc W os).Nodup):
    ∃d2 w5,(aH (a8 5 (dJ [(1,"_law_drawn")] 1 CU (aq 1) dy Bi))
    (iP (sj (gC (aQ (cy 4 dP (ac (ag 3) (ac (au cg (ag 4) (vC (.int 0))) (ac (au cg (ag 4) (vC (.int 1))) (ac (ag 5) aj))))))) (gC (aQ (cy 4 dP (ac (ag 3) (ac (au cg (ag 4) (vC (.int 1))) (ac (au cg (ag 4) (vC (.int 0))) (ac (ls (ag 5) cK (cC (vC (.int 2)))) aj))))))))
    (bx (vC (.bool false)))
    dQ)) [some (.d (.list (ns.map .int))),some (.l (ds.map .int)),v2,some (.d (aD W)),some (.d (.tuple [.tuple (ks.map .int),.tuple (os.map .int)])),v5]=some (.nx [some (.d (.list (ns.map .int))),some (.l (d2.map .int)),v2,some (.d (aD W)),some (.d (.tuple [.tuple (ks.map .int),.tuple (os.map .int)])),w5])∧fw d2:=by
  obtain⟨d2,ms,hv,hd2,hm,hl⟩:=zb (ns:=ns) (v2:=v2) (v3:=some (.d (aD W))) (v4:=some (.d (.tuple [.tuple (ks.map .int),.tuple (os.map .int)]))) (v5:=v5) hd
  have r1:=qU ok (ms:=ms) (.inl rfl) hk ho kl ol od hm
  have cu:L2.cutD (ms.map PyData.int) none (some 2)=(ms.take 2).map .int:=by
    rcases ms with _ | ⟨a,_ | ⟨b,_ | ⟨c,_ | ⟨d,_ | ⟨e,_ | _⟩⟩⟩⟩⟩<;>simp at hl
    rfl
  have r2:=qU ok (ms:=ms.take 2) (.inr rfl) ho hk ol kl kd fun n hn=>hm n (List.mem_of_mem_take hn)
  rw [←cu] at r2
  have sl:=fun(e:En) h=>Bo (e:=e) (i:=5) (xs:=ms.map .int) (lo:=none) (hi:=some 2) h
  refine⟨d2,some (.l (ms.map .int)),?_,hd2⟩
  generalize hC:L2.cutD (ms.map PyData.int) none (some 2)=CC at*
  generalize ms.map PyData.int=MM at*
  generalize ks.map PyData.int=KK at*
  generalize os.map PyData.int=OO at*
  generalize aD W=WW at*
  simp? [hv,r1,r2,sl,hC]
inductive LI (ns:List Int):En→Prop
  | mk {ds v2 v3 v4 v5} (hd:fw ds):LI ns [some (.d (.list (ns.map .int))),some (.l (ds.map .int)),v2,v3,v4,v5]
theorem t5{ns ds:List Int}{i:Nat}{v3 v4 v5:Option Sv}(hd:fw ds):∃e2,AN [some (.d (.list (ns.map .int))),some (.l (ds.map .int)),some (.d (.int (0+(i:Int)))),v3,v4,v5]=some (.nx e2)∧LI ns e2:=by
  obtain⟨W0,d1,tw,hd1,ok0, -, -⟩:=CG ds 12 16 hd (by decide) (by decide) (by decide) (by decide)
  obtain⟨n,d2,t2,a2,b2,hd2⟩:=gA hd1
  obtain⟨W1,tc,ok1,l3,e1,e2⟩:=rT a2 b2
  have g2':∀e:En,aN e (.d (.int (0+(i:Int)))) (.d (.int 2))=some (.d (.int ((0+(i:Int)) % 2))):=fun e=>aB (by decide)
  have q0:=nu (n:=0+(i:Int)) (k:=2) (by decide);have q1:=nv (n:=0+(i:Int)) (k:=2) (by decide)
  generalize (0+(i:Int)) % 2=q at*
  generalize (0+(i:Int))=j at*
  have fin:∀{W:bf} (ok:W.Ok),atI [aD W0,aD W1] q=some (aD W)→(∀(ks os:List Int),(∀k∈ks,dG W k)→(∀k∈os,dG W k)→ks.length≤16→os.length≤16→(bc W ks).Nodup→(bc W os).Nodup→∃(k' o':List Int),atI [PyData.tuple [.tuple (ks.map .int),.tuple (os.map .int)],.tuple [.tuple [.int 1],.tuple [.int 0,.int 2]]] q=some (.tuple [.tuple (k'.map .int),.tuple (o'.map .int)])∧(∀k∈k',dG W k)∧(∀k∈o',dG W k)∧k'.length≤16∧o'.length≤16∧(bc W k').Nodup∧(bc W o').Nodup)→∃e2,AN [some (.d (.list (ns.map .int))),some (.l (ds.map .int)),some (.d (.int j)),v3,v4,v5]=some (.nx e2)∧LI ns e2:=fun{W} ok aw pk=>by
    obtain⟨ks,d3,t3,hd3, -,hk,kl,kd⟩:=kY ok hd2
    obtain⟨os,d4,t4,hd4, -,ho,ol,od⟩:=kY ok hd3
    obtain⟨k',o',ap,hk',ho',kl',ol',kd',od'⟩:=pk ks os hk ho kl ol kd od
    obtain⟨d5,w5,h5,hd5⟩:=Ai (ns:=ns) (v2:=some (.d (.int j))) (v5:=v5) ok hd4 hk' ho' kl' ol' kd' od'
    refine⟨[some (.d (.list (ns.map .int))),some (.l (d5.map .int)),some (.d (.int j)),some (.d (aD W)),some (.d (.tuple [.tuple (k'.map .int),.tuple (o'.map .int)])),w5],?_,.mk hd5⟩
    unfold AN
    refine(bw (e1:=[some (.d (.list (ns.map .int))),some (.l (d2.map .int)),some (.d (.int j)),some (.d (aD W)),v4,v5]) ?_).trans ?_
    · simp? [tw,t2,tc,g2',aw]
    refine(bw (e1:=[some (.d (.list (ns.map .int))),some (.l (d4.map .int)),some (.d (.int j)),some (.d (aD W)),some (.d (.tuple [.tuple (k'.map .int),.tuple (o'.map .int)])),v5]) ?_).trans ?_
    · generalize ks.map PyData.int=KK at*
      generalize os.map PyData.int=OO at*
      generalize k'.map PyData.int=K1 at*
      generalize o'.map PyData.int=O1 at*
      simp? [t3,t4,g2',ap]
    exact h5
  rcases(by lia:q=0∨q=1) with rfl | rfl
  · exact fin ok0 rfl fun ks os a b c d e f=>⟨ks,os,rfl,a,b,c,d,e,f⟩
  · exact fin ok1 rfl fun ks os _ _ _ _ _ _=>⟨[1],[0,2],rfl,fun k h=>by simp at h;subst h;exact⟨by decide,by lia⟩,fun k h=>by
      simp at h
      rcases h with rfl | rfl
      · exact⟨by decide,by lia⟩
      · exact⟨by decide,by lia⟩,by decide,by decide,e1,e2⟩
theorem tZ(ns:List Int)(hl:ns.length≤63):∃as',kr [.d (.list (ns.map .int))]=some (.d (.bool true),as'):=by
  obtain⟨ds,td,hd⟩:=xw ns hl
  obtain⟨e2,h1,hI⟩:=bN (own:=[]) (g:=aq 2) (f:=AN) (fun _=>LI ns) (bF 0 4) 0 [some (.d (.list (ns.map .int))),some (.l (ds.map .int)),none,none,none,none] (fun i x e hx hI=>by
    obtain⟨hd⟩:=hI
    rename_i ds v2 v3 v4 v5
    obtain⟨rfl, -⟩:=c8 hx
    obtain⟨e2,k1,k2⟩:=t5 (ns:=ns) (i:=i) (v3:=v3) (v4:=v4) (v5:=v5) hd
    exact⟨_,e2,rfl,k1,br,k2⟩) (.mk hd)
  obtain⟨hd2⟩:=hI
  rename_i ds2 v2 v3 v4 v5
  have hfor:=fun Wl=>cP (W:=Wl) (g:=aq 2) (f:=AN) (show DT [some (.d (.list (ns.map .int))),some (.l (ds.map .int)),none,none,none,none]=some (bF 0 4,[],[some (.d (.list (ns.map .int))),some (.l (ds.map .int)),none,none,none,none]) from rfl)
  rw [h1] at hfor
  simp? [kr,xU,td,hfor]
def kE(P:Params)(k:Str)(t:Tok)(v:Value):DictEntry:=⟨PyData.keyHash P k,.str k t,v⟩
def kF(n:Str)(s:Stmt)(doc pm:Value)(c:Addr):Obj:=⟨.type "function",none,.func (W.fnOf n n (cH s) (bZ s) (ao s) .none .none doc pm none (.ref c) .none),#[]⟩
def kI(n:Int):Value:=.int n 0
def kC(n:Str)(a:Nat)(l:List Value)(z:Nat):Obj:=⟨.type "code",none,.fields (Value.str n a::Value.str n (a+1)::Value.str "/claim/cut.py" (a+2)::l++[Value.str "/claim/cut.py" z]).toArray,#[]⟩
def CV:Value:=.str "askedpairs.forms" 187
def DU:Value:=.str "askedpairs.stands" 204
def CW:Value:=.str "askedpairs.chargepaper" 214
def ej:Value:=.str "law_askedpairs_k58_charges_right_and_bent" 228
def kK(P:Params):W.Frag:=[(3,⟨.type "dict",none,.dict (List.toArray [kE P "__name__" 165 (.str "law_askedpairs_k58_charges_right_and_bent" 228),kE P "__doc__" 166 (.none),kE P "__package__" 167 (.none),kE P "__loader__" 168 (.builtin "__main__.__loader__#opaque"),kE P "__spec__" 169 (.none),kE P "__annotations__" 170 (.ref 6),kE P "__builtins__" 171 (.ref 4),kE P "__file__" 173 (.str "/claim/cut.py" 172),kE P "__cached__" 174 (.none),kE P "is_number" 195 (.ref 21),kE P "is_row_of" 203 (.ref 28),kE P "things_of" 213 (.ref 35),kE P "may_be_charged" 221 (.ref 40),kE P "charges_hold" 227 (.ref 45),kE P "_law_mixed" 238 (.ref 52),kE P "_law_draws" 249 (.ref 59),kE P "_law_next" 256 (.ref 66),kE P "_law_gcd" 264 (.ref 73),kE P "_law_low" 273 (.ref 80),kE P "_law_says" 281 (.ref 87),kE P "_law_chance" 290 (.ref 94),kE P "_law_worth" 298 (.ref 101),kE P "_law_ties" 317 (.ref 108),kE P "_law_web" 333 (.ref 115),kE P "_law_odd" 341 (.ref 122),kE P "_law_full" 352 (.ref 129),kE P "_law_pairing" 363 (.ref 136),kE P "_law_ends" 373 (.ref 143),kE P "_law_bears" 382 (.ref 150),kE P "_law_charges" 394 (.ref 157),kE P "_law_sum_of" 400 (.ref 162),kE P "_law_row" 406 (.ref 167),kE P "_law_bent" 412 (.ref 172),kE P "_law_crossed" 422 (.ref 179),kE P "_law_right" 439 (.ref 186),kE P "law" 445 (.ref 191)]) 36,#[]⟩),
  (21,kF "is_number" dt (.none) CV 20),
  (20,kC "is_number" 189 [kI 2,kI 1,kI 0,kI 0,kI 3,.ref 15,.bool true,kI 181,.ref 16,.none,.ref 17,.ref 18,.ref 19,kI 193,kI 2] 194),
  (28,kF "is_row_of" du (.none) CV 27),
  (27,kC "is_row_of" 196 [kI 4,kI 2,kI 0,kI 0,kI 3,.ref 22,.bool true,kI 181,.ref 23,.none,.ref 24,.ref 25,.ref 26,kI 201,kI 4] 202),
  (35,kF "things_of" dw (.none) DU 34),
  (34,kC "things_of" 206 [kI 7,kI 2,kI 0,kI 0,kI 3,.ref 29,.bool true,kI 181,.ref 30,.none,.ref 31,.ref 32,.ref 33,kI 211,kI 7] 212),
  (40,kF "may_be_charged" bu (.none) CW 39),
  (39,kC "may_be_charged" 216 [kI 10,kI 3,kI 0,kI 0,kI 3,.ref 36,.bool true,kI 181,.ref 37,.none,.none,.none,.ref 38,kI 219,kI 10] 220),
  (45,kF "charges_hold" bG (.none) CW 44),
  (44,kC "charges_hold" 222 [kI 14,kI 4,kI 0,kI 0,kI 3,.ref 41,.bool true,kI 181,.ref 42,.none,.none,.none,.ref 43,kI 225,kI 14] 226),
  (52,kF "_law_mixed" gU (.none) ej 51),
  (51,kC "_law_mixed" 230 [kI 19,kI 2,kI 0,kI 0,kI 3,.ref 46,.bool true,kI 181,.ref 47,.none,.ref 48,.ref 49,.ref 50,kI 236,kI 19] 237),
  (59,kF "_law_draws" iQ (.none) ej 58),
  (58,kC "_law_draws" 239 [kI 22,kI 1,kI 0,kI 0,kI 3,.ref 53,.bool true,kI 181,.ref 54,.none,.ref 55,.ref 56,.ref 57,kI 247,kI 22] 248),
  (66,kF "_law_next" fJ (.none) ej 65),
  (65,kC "_law_next" 250 [kI 35,kI 1,kI 0,kI 0,kI 3,.ref 60,.bool true,kI 181,.ref 61,.none,.ref 62,.ref 63,.ref 64,kI 254,kI 35] 255),
  (73,kF "_law_gcd" oF (.none) ej 72),
  (72,kC "_law_gcd" 257 [kI 39,kI 2,kI 0,kI 0,kI 3,.ref 67,.bool true,kI 181,.ref 68,.none,.ref 69,.ref 70,.ref 71,kI 262,kI 39] 263),
  (80,kF "_law_low" oG (.none) ej 79),
  (79,kC "_law_low" 265 [kI 43,kI 2,kI 0,kI 0,kI 3,.ref 74,.bool true,kI 181,.ref 75,.none,.ref 76,.ref 77,.ref 78,kI 271,kI 43] 272),
  (87,kF "_law_says" kO (.none) ej 86),
  (86,kC "_law_says" 274 [kI 46,kI 2,kI 0,kI 0,kI 3,.ref 81,.bool true,kI 181,.ref 82,.none,.ref 83,.ref 84,.ref 85,kI 279,kI 46] 280),
  (94,kF "_law_chance" gw (.none) ej 93),
  (93,kC "_law_chance" 282 [kI 50,kI 2,kI 0,kI 0,kI 3,.ref 88,.bool true,kI 181,.ref 89,.none,.ref 90,.ref 91,.ref 92,kI 288,kI 50] 289),
  (101,kF "_law_worth" iS (.none) ej 100),
  (100,kC "_law_worth" 291 [kI 60,kI 2,kI 0,kI 0,kI 3,.ref 95,.bool true,kI 181,.ref 96,.none,.ref 97,.ref 98,.ref 99,kI 296,kI 60] 297),
  (108,kF "_law_ties" kP (.none) ej 107),
  (107,kC "_law_ties" 299 [kI 62,kI 3,kI 0,kI 0,kI 3,.ref 102,.bool true,kI 181,.ref 103,.none,.ref 104,.ref 105,.ref 106,kI 315,kI 62] 316),
  (115,kF "_law_web" oI (.none) ej 114),
  (114,kC "_law_web" 318 [kI 77,kI 3,kI 0,kI 0,kI 3,.ref 109,.bool true,kI 181,.ref 110,.none,.ref 111,.ref 112,.ref 113,kI 331,kI 77] 332),
  (122,kF "_law_odd" oH (.none) ej 121),
  (121,kC "_law_odd" 334 [kI 87,kI 1,kI 0,kI 0,kI 3,.ref 116,.bool true,kI 181,.ref 117,.none,.ref 118,.ref 119,.ref 120,kI 339,kI 87] 340),
  (129,kF "_law_full" kN (.none) ej 128),
  (128,kC "_law_full" 342 [kI 91,kI 3,kI 0,kI 0,kI 3,.ref 123,.bool true,kI 181,.ref 124,.none,.ref 125,.ref 126,.ref 127,kI 350,kI 91] 351),
  (136,kF "_law_pairing" e_ (.none) ej 135),
  (135,kC "_law_pairing" 353 [kI 97,kI 2,kI 0,kI 0,kI 3,.ref 130,.bool true,kI 181,.ref 131,.none,.ref 132,.ref 133,.ref 134,kI 361,kI 97] 362),
  (143,kF "_law_ends" kM (.none) ej 142),
  (142,kC "_law_ends" 364 [kI 104,kI 2,kI 0,kI 0,kI 3,.ref 137,.bool true,kI 181,.ref 138,.none,.ref 139,.ref 140,.ref 141,kI 371,kI 104] 372),
  (150,kF "_law_bears" gS (.none) ej 149),
  (149,kC "_law_bears" 374 [kI 109,kI 3,kI 0,kI 0,kI 3,.ref 144,.bool true,kI 181,.ref 145,.none,.ref 146,.ref 147,.ref 148,kI 380,kI 109] 381),
  (157,kF "_law_charges" eZ (.none) ej 156),
  (156,kC "_law_charges" 383 [kI 113,kI 4,kI 0,kI 0,kI 3,.ref 151,.bool true,kI 181,.ref 152,.none,.ref 153,.ref 154,.ref 155,kI 392,kI 113] 393),
  (162,kF "_law_sum_of" ff (.none) ej 161),
  (161,kC "_law_sum_of" 395 [kI 120,kI 2,kI 0,kI 0,kI 3,.ref 158,.bool true,kI 181,.ref 159,.none,.none,.none,.ref 160,kI 398,kI 120] 399),
  (167,kF "_law_row" l5 (.none) ej 166),
  (166,kC "_law_row" 401 [kI 122,kI 4,kI 0,kI 0,kI 3,.ref 163,.bool true,kI 181,.ref 164,.none,.none,.none,.ref 165,kI 404,kI 122] 405),
  (172,kF "_law_bent" jo (.none) ej 171),
  (171,kC "_law_bent" 407 [kI 129,kI 5,kI 0,kI 0,kI 3,.ref 168,.bool true,kI 181,.ref 169,.none,.none,.none,.ref 170,kI 410,kI 129] 411),
  (179,kF "_law_crossed" e6 (.none) ej 178),
  (178,kC "_law_crossed" 413 [kI 135,kI 1,kI 0,kI 0,kI 3,.ref 173,.bool true,kI 181,.ref 174,.none,.ref 175,.ref 176,.ref 177,kI 420,kI 135] 421),
  (186,kF "_law_right" iR (.none) ej 185),
  (185,kC "_law_right" 423 [kI 140,kI 4,kI 0,kI 0,kI 3,.ref 180,.bool true,kI 181,.ref 181,.none,.ref 182,.ref 183,.ref 184,kI 437,kI 140] 438),
  (191,kF "law" jE (.none) ej 190),
  (190,kC "law" 440 [kI 158,kI 1,kI 0,kI 0,kI 3,.ref 187,.bool true,kI 181,.ref 188,.none,.none,.none,.ref 189,kI 443,kI 158] 444)]
def kA:List Addr:=[3,21,20,28,27,35,34,40,39,45,44,52,51,59,58,66,65,73,72,80,79,87,86,94,93,101,100,108,107,115,114,122,121,129,128,136,135,143,142,150,149,157,156,162,161,167,166,172,171,179,178,186,185,191,190]
def kq:Program:={PySem.Challenge.pw_askedpairs_k58_charges_right_and_bent with main:={PySem.Challenge.pw_askedpairs_k58_charges_right_and_bent.main with body:=[top 1,top 2,top 4,top 6,top 7,top 9,top 10,top 11,top 12,top 13,top 14,top 15,top 16,top 17,top 18,top 19,top 20,top 21,top 22,top 23,top 24,top 25,top 26,top 27,top 28,top 29,top 30]}}
def kH:W.Hook:=W.kHook kK kA (fun _=>by kernel_rfl)
theorem left:W.LeftO PySem.Challenge.pw_askedpairs_k58_charges_right_and_bent kq [] (fun s=>W.xlAt kq [] s&&W.recOk (W.RowW.records (W.OpenRow.toRowW (W.OpenLaw.row PySem.Challenge.rw_askedpairs_k58_charges_right_and_bent))) s) (W.Hook.obs kH) (W.Hook.val kH) 1864:=fun w=>by kernel_rfl
theorem AO{P:List Value→Prop}(h:∀a0,P [a0]):∀us:List Value,us.length=1→P us:=fun us e=>match us,e with | [a0],_=>h a0
theorem t9{P:List Value→Prop}(h:∀a0 a1,P [a0,a1]):∀us:List Value,us.length=2→P us:=fun us e=>match us,e with | [a0,a1],_=>h a0 a1
theorem BG{P:List Value→Prop}(h:∀a0 a1 a2,P [a0,a1,a2]):∀us:List Value,us.length=3→P us:=fun us e=>match us,e with | [a0,a1,a2],_=>h a0 a1 a2
theorem CY{P:List Value→Prop}(h:∀a0 a1 a2 a3,P [a0,a1,a2,a3]):∀us:List Value,us.length=4→P us:=fun us e=>match us,e with | [a0,a1,a2,a3],_=>h a0 a1 a2 a3
theorem Ee{P:List Value→Prop}(h:∀a0 a1 a2 a3 a4,P [a0,a1,a2,a3,a4]):∀us:List Value,us.length=5→P us:=fun us e=>match us,e with | [a0,a1,a2,a3,a4],_=>h a0 a1 a2 a3 a4
theorem hm{w:World}{h:Heap}{mg:Str→Option Value}{n:Str}{s:Stmt}{a:Addr}{ps:List Str}(c:Addr)(d p:Value)(X:(kK w.params).In h)(G:h.Ns mainGlobals mg)
    (e:(W.nsIn (kK w.params) mainGlobals n,List.lookup a (kK w.params),W.codeIn (kK w.params) (.ref c) n,W.keepIn (kK w.params) (.ref a))=(some (some (.ref a)),some (kF n s d p c),true,true))
    (b:∀(kV doc pm:Value) (an:Option Addr) (cdv ct:Value) (us:List Value),us.length=ps.length→bindArgs (W.fnOf n n (cH s) (bZ s) (ao s) .none kV doc pm an cdv ct) ⟨us,[]⟩=pure (ps.zip us)):
    bz (kK w.params) mg n s a (W.fnOf n n (cH s) (bZ s) (ao s) .none .none d p none (.ref c) .none) ps:=yU X G (congrArg (·.1) e) (congrArg (·.2.1) e) (congrArg (·.2.2.1) e) (congrArg (·.2.2.2) e) b
theorem all_mk{l:W.OpenLaw}{w:World}{h:Heap}{mg:Str→Option Value}{fa:Addr}(X:(kK w.params).In h)(G:h.Ns mainGlobals mg)(hfa:mg "law"=some (.ref fa)):
    ∃fd:FuncData,(∀(s:Shared) (v:Value),BindsTo s fd ⟨[v],[]⟩ [("_law_script",v)])∧∀base:Heap,(kK w.params).In base→base.Ns mainGlobals mg→aP l.prog w (kK w.params) mg base bY 6 fa fd ["_law_script"] (cj (kK w.params) 1 kr):=by
  have e:=hfa.symm.trans (W.mg_of X G (show W.nsIn (kK w.params) mainGlobals "law"=some (some (.ref 191)) by kernel_rfl))
  cases e
  have T:i8 mg:=⟨W.mg_none_of X G (show W.nsIn (kK w.params) mainGlobals "abs"=some none by kernel_rfl),W.mg_none_of X G (show W.nsIn (kK w.params) mainGlobals "len"=some none by kernel_rfl),W.mg_none_of X G (show W.nsIn (kK w.params) mainGlobals "min"=some none by kernel_rfl),W.mg_none_of X G (show W.nsIn (kK w.params) mainGlobals "max"=some none by kernel_rfl),W.mg_none_of X G (show W.nsIn (kK w.params) mainGlobals "range"=some none by kernel_rfl),W.mg_none_of X G (show W.nsIn (kK w.params) mainGlobals "repr"=some none by kernel_rfl),W.mg_none_of X G (show W.nsIn (kK w.params) mainGlobals "tuple"=some none by kernel_rfl),W.mg_none_of X G (show W.nsIn (kK w.params) mainGlobals "int"=some none by kernel_rfl),W.mg_none_of X G (show W.nsIn (kK w.params) mainGlobals "sorted"=some none by kernel_rfl),W.mg_none_of X G (show W.nsIn (kK w.params) mainGlobals "zip"=some none by kernel_rfl),W.mg_none_of X G (show W.nsIn (kK w.params) mainGlobals "enumerate"=some none by kernel_rfl),W.mg_none_of X G (show W.nsIn (kK w.params) mainGlobals "isinstance"=some none by kernel_rfl),W.mg_none_of X G (show W.nsIn (kK w.params) mainGlobals "bool"=some none by kernel_rfl),W.mg_none_of X G (show W.nsIn (kK w.params) mainGlobals "sum"=some none by kernel_rfl),W.mg_none_of X G (show W.nsIn (kK w.params) mainGlobals "any"=some none by kernel_rfl),W.mg_none_of X G (show W.nsIn (kK w.params) mainGlobals "all"=some none by kernel_rfl),W.mg_none_of X G (show W.nsIn (kK w.params) mainGlobals "list"=some none by kernel_rfl)⟩
  have h_is_number:bz (kK w.params) mg "is_number" dt 21 _ ["thing"]:=hm 20 (.none) CV X G (by kernel_rfl) fun _ _ _ _ _ _=>AO fun _=>rfl
  have h_is_row_of:bz (kK w.params) mg "is_row_of" du 28 _ ["thing","many"]:=hm 27 (.none) CV X G (by kernel_rfl) fun _ _ _ _ _ _=>t9 fun _ _=>rfl
  have h_things_of:bz (kK w.params) mg "things_of" dw 35 _ ["web","tie"]:=hm 34 (.none) DU X G (by kernel_rfl) fun _ _ _ _ _ _=>t9 fun _ _=>rfl
  have h_may_be_charged:bz (kK w.params) mg "may_be_charged" bu 40 _ ["web","tie","other"]:=hm 39 (.none) CW X G (by kernel_rfl) fun _ _ _ _ _ _=>BG fun _ _ _=>rfl
  have h_charges_hold:bz (kK w.params) mg "charges_hold" bG 45 _ ["web","kept","other","thing"]:=hm 44 (.none) CW X G (by kernel_rfl) fun _ _ _ _ _ _=>CY fun _ _ _ _=>rfl
  have hLmixed:bz (kK w.params) mg "_law_mixed" gU 52 _ ["_law_cell","_law_k"]:=hm 51 (.none) ej X G (by kernel_rfl) fun _ _ _ _ _ _=>t9 fun _ _=>rfl
  have hLdraws:bz (kK w.params) mg "_law_draws" iQ 59 _ ["_law_script"]:=hm 58 (.none) ej X G (by kernel_rfl) fun _ _ _ _ _ _=>AO fun _=>rfl
  have hLnext:bz (kK w.params) mg "_law_next" fJ 66 _ ["_law_drawn"]:=hm 65 (.none) ej X G (by kernel_rfl) fun _ _ _ _ _ _=>AO fun _=>rfl
  have hLgcd:bz (kK w.params) mg "_law_gcd" oF 73 _ ["_law_one","_law_other"]:=hm 72 (.none) ej X G (by kernel_rfl) fun _ _ _ _ _ _=>t9 fun _ _=>rfl
  have hLlow:bz (kK w.params) mg "_law_low" oG 80 _ ["_law_top","_law_bottom"]:=hm 79 (.none) ej X G (by kernel_rfl) fun _ _ _ _ _ _=>t9 fun _ _=>rfl
  have hLsays:bz (kK w.params) mg "_law_says" kO 87 _ ["_law_found","_law_due"]:=hm 86 (.none) ej X G (by kernel_rfl) fun _ _ _ _ _ _=>t9 fun _ _=>rfl
  have hLchance:bz (kK w.params) mg "_law_chance" gw 94 _ ["_law_number","_law_kind"]:=hm 93 (.none) ej X G (by kernel_rfl) fun _ _ _ _ _ _=>t9 fun _ _=>rfl
  have hLworth:bz (kK w.params) mg "_law_worth" iS 101 _ ["_law_number","_law_kind"]:=hm 100 (.none) ej X G (by kernel_rfl) fun _ _ _ _ _ _=>t9 fun _ _=>rfl
  have hLties:bz (kK w.params) mg "_law_ties" kP 108 _ ["_law_drawn","_law_things","_law_many"]:=hm 107 (.none) ej X G (by kernel_rfl) fun _ _ _ _ _ _=>BG fun _ _ _=>rfl
  have hLweb:bz (kK w.params) mg "_law_web" oI 115 _ ["_law_drawn","_law_most","_law_ties_here"]:=hm 114 (.none) ej X G (by kernel_rfl) fun _ _ _ _ _ _=>BG fun _ _ _=>rfl
  have hLodd:bz (kK w.params) mg "_law_odd" oH 122 _ ["_law_number"]:=hm 121 (.none) ej X G (by kernel_rfl) fun _ _ _ _ _ _=>AO fun _=>rfl
  have hLfull:bz (kK w.params) mg "_law_full" kN 129 _ ["_law_drawn","_law_web_here","_law_most"]:=hm 128 (.none) ej X G (by kernel_rfl) fun _ _ _ _ _ _=>BG fun _ _ _=>rfl
  have hLpairing:bz (kK w.params) mg "_law_pairing" e_ 136 _ ["_law_drawn","_law_web_here"]:=hm 135 (.none) ej X G (by kernel_rfl) fun _ _ _ _ _ _=>t9 fun _ _=>rfl
  have hLends:bz (kK w.params) mg "_law_ends" kM 143 _ ["_law_web_here","_law_ties_here"]:=hm 142 (.none) ej X G (by kernel_rfl) fun _ _ _ _ _ _=>t9 fun _ _=>rfl
  have hLbears:bz (kK w.params) mg "_law_bears" gS 150 _ ["_law_web_here","_law_own","_law_other"]:=hm 149 (.none) ej X G (by kernel_rfl) fun _ _ _ _ _ _=>BG fun _ _ _=>rfl
  have hLcharges:bz (kK w.params) mg "_law_charges" eZ 157 _ ["_law_web_here","_law_kept","_law_other","_law_thing"]:=hm 156 (.none) ej X G (by kernel_rfl) fun _ _ _ _ _ _=>CY fun _ _ _ _=>rfl
  have hLsum_of:bz (kK w.params) mg "_law_sum_of" ff 162 _ ["_law_web_here","_law_ties_here"]:=hm 161 (.none) ej X G (by kernel_rfl) fun _ _ _ _ _ _=>t9 fun _ _=>rfl
  have hLrow:bz (kK w.params) mg "_law_row" l5 167 _ ["_law_web_here","_law_kept","_law_other","_law_number"]:=hm 166 (.none) ej X G (by kernel_rfl) fun _ _ _ _ _ _=>CY fun _ _ _ _=>rfl
  have hLbent:bz (kK w.params) mg "_law_bent" jo 172 _ ["_law_web_here","_law_row_here","_law_other","_law_number","_law_odd_here"]:=hm 171 (.none) ej X G (by kernel_rfl) fun _ _ _ _ _ _=>Ee fun _ _ _ _ _=>rfl
  have hLcrossed:bz (kK w.params) mg "_law_crossed" e6 179 _ ["_law_number"]:=hm 178 (.none) ej X G (by kernel_rfl) fun _ _ _ _ _ _=>AO fun _=>rfl
  have hLright:bz (kK w.params) mg "_law_right" iR 186 _ ["_law_web_here","_law_kept","_law_other","_law_numbers"]:=hm 185 (.none) ej X G (by kernel_rfl) fun _ _ _ _ _ _=>CY fun _ _ _ _=>rfl
  have h_law:bz (kK w.params) mg "law" jE 191 _ ["_law_script"]:=hm 190 (.none) ej X G (by kernel_rfl) fun _ _ _ _ _ _=>AO fun _=>rfl
  refine⟨W.fnOf "law" "law" (cH jE) (bZ jE) (ao jE) .none .none (.none) ej none (.ref 190) .none,fun s v=>.of_eq rfl,fun base _ _=>?_⟩
  have G_is_number:=mT (P:=l.prog) (w:=w) (base:=base) h_is_number T
  have G_is_row_of:=mU (P:=l.prog) (w:=w) (base:=base) h_is_row_of T
  have G_things_of:=mV (P:=l.prog) (w:=w) (base:=base) h_things_of T
  have G_may_be_charged:=iK (P:=l.prog) (w:=w) (base:=base) h_may_be_charged T h_things_of G_things_of
  have G_charges_hold:=jM (P:=l.prog) (w:=w) (base:=base) h_charges_hold T h_is_row_of G_is_row_of h_is_number G_is_number h_may_be_charged G_may_be_charged
  have GLmixed:=uk (P:=l.prog) (w:=w) (base:=base) hLmixed T
  have GLdraws:=uj (P:=l.prog) (w:=w) (base:=base) hLdraws T hLmixed GLmixed
  have GLnext:=wu (P:=l.prog) (w:=w) (base:=base) hLnext T
  have GLgcd:=ze (P:=l.prog) (w:=w) (base:=base) hLgcd T
  have GLlow:=zg (P:=l.prog) (w:=w) (base:=base) hLlow T hLgcd GLgcd
  have GLsays:=ww (P:=l.prog) (w:=w) (base:=base) hLsays T
  have GLchance:=rJ (P:=l.prog) (w:=w) (base:=base) hLchance T hLlow GLlow
  have GLworth:=um (P:=l.prog) (w:=w) (base:=base) hLworth T
  have GLties:=wx (P:=l.prog) (w:=w) (base:=base) hLties T hLnext GLnext hLchance GLchance hLworth GLworth
  have GLweb:=zl (P:=l.prog) (w:=w) (base:=base) hLweb T hLties GLties hLnext GLnext
  have GLodd:=zh (P:=l.prog) (w:=w) (base:=base) hLodd T
  have GLfull:=wq (P:=l.prog) (w:=w) (base:=base) hLfull T hLnext GLnext
  have GLends:=wn (P:=l.prog) (w:=w) (base:=base) hLends T
  have GLpairing:=pO (P:=l.prog) (w:=w) (base:=base) hLpairing T hLfull GLfull hLends GLends hLnext GLnext
  have GLbears:=ui (P:=l.prog) (w:=w) (base:=base) hLbears T
  have GLcharges:=pM (P:=l.prog) (w:=w) (base:=base) hLcharges T hLbears GLbears
  have GLsum_of:=rK (P:=l.prog) (w:=w) (base:=base) hLsum_of T
  have GLrow:=zi (P:=l.prog) (w:=w) (base:=base) hLrow T hLbears GLbears
  have GLbent:=wm (P:=l.prog) (w:=w) (base:=base) hLbent T
  have GLcrossed:=pN (P:=l.prog) (w:=w) (base:=base) hLcrossed T
  have GLright:=ul (P:=l.prog) (w:=w) (base:=base) hLright T hLrow GLrow hLbent GLbent hLcharges GLcharges hLodd GLodd hLsays GLsays h_charges_hold G_charges_hold hLsum_of GLsum_of
  have G_law:=zm (P:=l.prog) (w:=w) (base:=base) h_law T hLdraws GLdraws hLmixed GLmixed hLweb GLweb hLcrossed GLcrossed hLnext GLnext hLright GLright hLpairing GLpairing
  exact G_law
def Ci(K:W.Frag):Sp:=fun vs H Q _=>∃(a:Addr) (ns:List Int),vs=[.ref a]∧bR K H a (ns.map V.int)∧ns.length≤63∧∀H',Q (.bl true) H'
theorem y6{K:W.Frag}{vs:List V}{H:Hp}{Q:VK}{E:XK}(h:Ci K vs H Q E):cj K 1 kr vs H Q E:=by
  obtain⟨a,ns,rfl,hS,hl,q⟩:=h
  obtain⟨as',hm⟩:=tZ ns hl
  exact pZ hS hm q
theorem walk{l:W.OpenLaw}{q:Program}{loose:List Str}{XP:(Str→Option Value)→Heap→Prop}{YP:World→Heap→Prop}{d:DefRec}{K:Params→W.Frag}(hn:l.most=some 63)(hdf:d.params.defaults=[])
    (hY:∀(w:World) (h:Heap),YP w h→(K w.params).In h)
    (F:∀(w:World) (mg:Str→Option Value) (fa:Addr) (h:Heap),(K w.params).In h→h.Ns mainGlobals mg→mg d.name=some (.ref fa)→
      ∃fd:FuncData,(∀(s:Shared) (u:Value),BindsTo s fd ⟨[u],[]⟩ [("_law_script",u)])∧∀base:Heap,(K w.params).In base→base.Ns mainGlobals mg→aP l.prog w (K w.params) mg base bY 6 fa fd ["_law_script"] (cj (K w.params) 1 kr)):
    W.WalkO q loose XP YP l.row.toRowW d [] (fun f vs=>PySem.call f vs):=
  L2.walk_of (n:=63) (k:=6) (x:="_law_script") (CX:=fun _=>bY) (sp:=fun w=>cj (K w.params) 1 kr) hn (by decide) hdf ⟨rfl,by decide,by decide,rfl⟩ hY F (fun _ _ a ns hl _ hS=>y6 ⟨a,ns,rfl,hS,hl,fun _=>rfl⟩) fun _ _ _ _ _ z=>z
end V58
open PySem PySem.W PyProof.Rows
set_option maxRecDepth 100000 in
set_option maxHeartbeats 0 in
theorem PySem.Challenge.cw_askedpairs_k58_charges_right_and_bent_holds : PySem.Challenge.rw_askedpairs_k58_charges_right_and_bent.Holds := by
  w_on;o_law
  refine holds_open (q:=V58.kq) (loose:=[]) (Xt:=fun s=>xlAt V58.kq [] s&&recOk (RowW.records (OpenRow.toRowW (OpenLaw.row PySem.Challenge.rw_askedpairs_k58_charges_right_and_bent))) s) (XP:=XL V58.kq []) (Yf:=Hook.obs V58.kH) (Ya:=Hook.val V58.kH) (YP:=Hook.says V58.kH) (N:=1864) V58.left (Hook.of V58.kH) (Hook.keeps V58.kH) (fun s e=>xl_of s (Bool.and_eq_true_iff.mp e).1) XL.keeps (by rfl) (by rfl) (by rfl) (fun s e=>recFacts_of (Bool.and_eq_true_iff.mp e).2) (by rfl) (by assumption) (by decide+kernel) ⟨rfl,rfl,rfl,rfl,rfl,by decide+kernel⟩ ?hw ?hc
  case hw=>w_witness2
  case hc=>exact V58.walk (l:=PySem.Challenge.rw_askedpairs_k58_charges_right_and_bent) rfl rfl (fun w h Y=>kIn_of Y) (fun w mg fa h KX G hmg=>V58.all_mk KX G hmg)
