import PyProof.Rows.All
import Wide.All
import OpenK.AllK
import Wide.FinOn
import Lean
import PyProof.EqAt
import PyProof.EqKinds
import PyProof.TupleCall
import PyProof.ReprRoads
import PyProof.IsInstance
import PyProof.IsInstanceH
import PyProof.FitsBits
import PyProof.CompFree
import PyProof.Rows.SumAny
import PyProof.Rows.SortShell
import PyProof.Rows.TupAdd
import PyProof.NeKinds
import PyProof.ConsumeWalk
import PyProof.ZipIter
import PyProof.TupleIter
import PyProof.LayNew
import PyProof.Draws
import PyProof.EnumFor
import PyProof.EnumMake
import PyProof.ListRange
import PyProof.CollectIter
import KE.KRevIter
import PyProof.ListMulRoad
import PyProof.TupleOps
import PyProof.TupleOfStr
import PyProof.WalksMore
import PyProof.FactsAll.range_iterator
import PyProof.IsRules
import PyProof.CompUse
import PyProof.P3In
import PyProof.EqLayable
import KE.KIsAll
import PyProof.Rows.FactsN_isinstance
import PyProof.CallStr
import PyProof.Rows.StrWeight2
import PyProof.Rows.FStr
import PyProof.StrLawsRepr
import PyProof.Rows.SetFrom
import KE.KIntText
import KE.KRevSl
import PyProof.Rows.SeqMore2
import PySem.Challenge.RW_askedpairs_k22_whole_shares_by_answers
set_option Elab.async false
set_option linter.all false
set_option maxRecDepth 100000
namespace L2
open PySem PySem.Spec PyProof.Rows
abbrev oq:=Sum Int Str
def yW:oq→Value→Bool
  | .inl k,v=>Value.isInt k v
  | .inr x,v=>Value.isStrOf x v
def GL(w:World):oq→Int
  | .inl k=>hashInt k
  | .inr x=>hashStr w x
theorem bx:∀{k:oq} {v:Value},yW k v=true→(∃i t,k=Sum.inl i∧v=Value.int i t)∨(∃x t,k=Sum.inr x∧v=Value.str x t)
  | .inl i,v,h=>by
    obtain⟨t,e⟩:=Value.isInt_shape (k:=i) (v:=v) h
    exact .inl ⟨i,t,rfl,e⟩
  | .inr x,v,h=>by
    obtain⟨t,e⟩:=Value.isStrOf_shape (x:=x) (v:=v) h
    exact .inr ⟨x,t,rfl,e⟩
theorem Dr(a b:Int):decide ((Sum.inl a:oq)=Sum.inl b)=(a==b):=by
  by_cases e:a=b
  · subst e;simp
  · have h:¬(Sum.inl a:oq)=Sum.inl b:=fun q=>e (Sum.inl.inj q)
    rw [decide_eq_false h]
    exact(beq_eq_false_iff_ne.mpr e).symm
theorem Du(a b:Str):decide ((Sum.inr a:oq)=Sum.inr b)=decide (a=b):=by
  by_cases e:a=b
  · subst e;simp
  · have h:¬(Sum.inr a:oq)=Sum.inr b:=fun q=>e (Sum.inr.inj q)
    rw [decide_eq_false h,decide_eq_false e]
theorem Ds(a:Int)(b:Str):decide ((Sum.inl a:oq)=Sum.inr b)=false:=decide_eq_false (fun q=>nomatch q)
theorem Dt(a:Str)(b:Int):decide ((Sum.inr a:oq)=Sum.inl b)=false:=decide_eq_false (fun q=>nomatch q)
def rK(prog:Program)(w:World):PySem.KeyKind prog w oq where
  is:=yW
  hash:=GL w
  inj:=fun v a b ha hb=>by
    rcases bx ha with ⟨i,t,rfl,rfl⟩ | ⟨x,t,rfl,rfl⟩
    · rcases bx hb with ⟨j,u,rfl,e⟩ | ⟨y,u,rfl,e⟩
      · injection e with e1 _;rw [e1]
      · exact nomatch e
    · rcases bx hb with ⟨j,u,rfl,e⟩ | ⟨y,u,rfl,e⟩
      · exact nomatch e
      · injection e with e1 _;rw [e1]
  byValue:=fun k v h=>by
    rcases bx h with ⟨i,t,rfl,rfl⟩ | ⟨x,t,rfl,rfl⟩<;>rfl
  pyHash:=fun hv h=>by
    rcases bx hv with ⟨i,t,rfl,rfl⟩ | ⟨x,t,rfl,rfl⟩
    · exact wpAny_pyHash_int h
    · exact wpAny_pyHash_str h
  eqBool:=fun hu hv h=>by
    rcases bx hu with ⟨i,t,rfl,rfl⟩ | ⟨x,t,rfl,rfl⟩
    · rcases bx hv with ⟨j,u,rfl,rfl⟩ | ⟨y,u,rfl,rfl⟩
      · rw [Dr] at h;exact wpAny_eqBool_int h
      · rw [Ds] at h;exact SeqAt.EqAt.int_str i t y u _ _ _ _ h
    · rcases bx hv with ⟨j,u,rfl,rfl⟩ | ⟨y,u,rfl,rfl⟩
      · rw [Dt] at h;exact SeqAt.EqAt.str_int x t j u _ _ _ _ h
      · rw [Du] at h;exact wpAny_eqBool_str h
  «strs»:=fun k x t v h=>by
    rcases bx h with ⟨i,u,rfl,e⟩ | ⟨y,u,rfl,e⟩
    · exact nomatch e
    · injection e with e1 _
      subst e1
      cases v<;>rfl
end L2
namespace L2
open PySem PySem.Spec PyProof.Rows
inductive V where
  | non | bl (b:Bool) | int (i:Int) | str (x:Str) | byt (b:Array UInt8) | flt (b:UInt64) | ref (a:Addr) | ty (n:String)
  deriving DecidableEq
def bA:V→Value→Prop
  | .non,u=>u=Value.none
  | .bl b,u=>u=Value.bool b
  | .int i,u=>∃t,u=Value.int i t
  | .str x,u=>∃t,u=Value.str x t
  | .byt b,u=>∃t,u=Value.bytes b t
  | .flt b,u=>∃t,u=Value.float b t
  | .ref a,u=>u=Value.ref a
  | .ty n,u=>u=Value.type n
abbrev aM:List V→List Value→Prop:=Paired bA
theorem aM.length{xs:List V}{us:List Value}(r:aM xs us):xs.length=us.length:=Paired.length r
theorem aM.get:∀{xs:List V} {us:List Value} {i:Nat} {x:V},aM xs us→xs[i]?=some x→∃u,us[i]?=some u∧bA x u
  | _,_,_,_,.nil,e=>by simp at e
  | _,_,0,_,.cons r _,e=>by simp at e;subst e;exact⟨_,rfl,r⟩
  | _,_,i+1,x,.cons _ t,e=>by
    obtain⟨u,h1,h2⟩:=aM.get (i:=i) (x:=x) t (by simpa using e)
    exact⟨u,by simpa using h1,h2⟩
theorem aM.set{x:V}{u:Value}(r:bA x u):∀{xs:List V} {us:List Value} (i:Nat),aM xs us→aM (xs.set i x) (us.set i u)
  | _,_,_,.nil=>.nil
  | _,_,0,.cons _ t=>.cons r t
  | _,_,i+1,.cons q t=>.cons q (aM.set r i t)
theorem aM.append:∀{xs ys:List V} {us ws:List Value},aM xs us→aM ys ws→aM (xs++ys) (us++ws)
  | _,_,_,_,.nil,s=>s
  | _,_,_,_,.cons r t,s=>.cons r (aM.append t s)
theorem aM.take:∀{xs:List V} {us:List Value} (n:Nat),aM xs us→aM (xs.take n) (us.take n)
  | _,_,0,_=>.nil
  | _,_,_+1,.nil=>.nil
  | _,_,n+1,.cons r t=>.cons r (aM.take n t)
theorem aM.drop:∀{xs:List V} {us:List Value} (n:Nat),aM xs us→aM (xs.drop n) (us.drop n)
  | _,_,0,r=>r
  | _,_,_+1,.nil=>.nil
  | _,_,n+1,.cons _ t=>aM.drop n t
def EQ:Option V→Option Value→Prop
  | some v,some u=>bA v u
  | none,none=>True
  | _,_=>False
def KV{κ:Type}:List (κ × V)→List (κ × Value)→Prop:=Paired fun(p:κ × V) (q:κ × Value)=>p.1=q.1∧bA p.2 q.2
def kV:oq→V
  | .inl i=>.int i
  | .inr x=>.str x
inductive HO where
  /-- a list -/
  | lst (xs:List V)
  /-- a tuple (never changes) -/
  | tup (xs:List V)
  /-- a dict whose keys are ints and texts; one whose keys are tuples of ints and texts (the empty one is both) -/
  | dK (kvs:List (oq × V)) | dT (kvs:List (List oq × V))
  /-- a set of ints: its members, its size -/
  | set (S:Int→Bool) (n:Nat)
  /-- an instance of the class at C, its dict at dx, its attributes -/
  | ins (C dx:Addr) (fs:List (Str × V))
  /-- the dict of the instance at x -/
  | own (x:Addr)
  /-- the dict of an exception -/
  | xd (fs:List (Str × V))
  /-- a bound method, f of x -/
  | met (f x:Addr)
  /-- a range object lo, lo + 1, .. below hi -/
  | rng (lo hi:Int)
  /-- a thing that is known to the object (the script; a dict while a loop walks it): read, never written while it is so -/
  | frz (o:Obj) (u:HO)
  /-- a code object's table -/
  | tbl (ps:Array Value)
  /-- any other thing, by what is true of its one object (a def of one's own: SetO a S n := HO.ext fun h => ..) -/
  | ext (φ:Heap→Prop)
abbrev Hp:=Addr→Option HO
def bi(H:Hp)(a:Addr)(o:HO):Hp:=fun b=>if b=a then some o else H b
theorem aA{H:Hp}{a:Addr}{o:HO}:bi H a o a=some o:=by unfold bi;rw [if_pos rfl]
theorem au{H:Hp}{a b:Addr}{o:HO}(h:b≠a):bi H a o b=H b:=by unfold bi;rw [if_neg h]
theorem eA{H:Hp}{a b:Addr}{o:HO}(h:H a=some o)(h':H b=none):a≠b:=by
  intro e;subst e;rw [h] at h';cases h'
def kO(h:Heap)(a:Addr)(items:Array Value):Prop:=∃o,h.get? a=some o∧o.cls=.type "tuple"∧∃n,o.data=.seq items n∧o.dict=none
theorem kO.tup{h:Heap}{a:Addr}{items:Array Value}(x:kO h a items):IsTup h a items:=let ⟨o,ho,hc,n,hd,_⟩:=x;⟨o,ho,hc,n,hd⟩
theorem kO.new(h:Heap)(items:Array Value):kO (h.push {cls:=.type "tuple",data:=.seq items}) h.objs.size items:=⟨_,Heap.get?_push_size _ rfl,rfl,_,rfl,rfl⟩
section
variable(P:Program)(w:World)
def gX(H:Hp)(h:Heap)(a:Addr):HO→Prop
  | .lst xs=>xs.length≤sizeLine∧∃(its:List Value) (n:Nat),aM xs its∧h.get? a=some {cls:=.type "list",data:=.seq its.toArray n}
  | .tup xs=>xs.length≤sizeLine∧∃its:List Value,aM xs its∧kO h a its.toArray
  | .dK kvs=>kvs.length≤sizeLine∧(a==sysModules)=false∧∃vs,KV kvs vs∧h.DictOf (rK P w) a vs
  | .dT kvs=>kvs.length≤sizeLine∧(a==sysModules)=false∧∃xs:List (List oq × Addr × Value),
      Paired (fun(p:List oq × V) (q:List oq × Addr × Value)=>p.1=q.1∧H q.2.1=some (.tup (p.1.map kV))∧bA p.2 q.2.2) kvs xs∧
      ∃o es ep,h.get? a=some o∧o.ExactDict∧o.data=.dict es ep∧es.toList=xs.map (entryOfKey (tupleKind (rK P w)))∧(xs.map (·.1)).Nodup
  | .set S n=>h.SetOf (intKind P w) a S n
  | .ins C dx fs=>H dx=some (.own a)∧fs.length≤1000∧dx≠a∧h.get? a=some (PySem.W.instObj C dx)∧
      ∃mA,h.Ns1 dx mA∧(∀f,EQ (fs.lookup f) (mA f))∧PySem.Within mA (fs.map (·.1))
  | .own _=>∃o,h.get? a=some o
  | .xd fs=>∃mA,h.Ns1 a mA∧∀f,EQ (fs.lookup f) (mA f)
  | .rng lo hi=>∃t u v,h.get? a=some {cls:=.type "range",data:=.fields #[.int lo t,.int hi u,.int 1 v]}
  | .frz o u=>h.get? a=some o∧gX H h a u
  | .tbl ps=>h.get? a=some {cls:=.none,data:=.fields ps}
  | .met f x=>h.get? a=some (PySem.W.methodObj (.ref f) (.ref x))
  | .ext φ=>φ h∧(∃o,h.get? a=some o)∧∀h1 h2:Heap,φ h1→(∀o,h1.get? a=some o→h2.get? a=some o)→φ h2
def oo(H:Hp)(h:Heap):Prop:=∀a o,H a=some o→gX P w H h a o
end
section
variable{P:Program}{w:World}{H H':Hp}{h h':Heap}{a:Addr}{o:HO}
theorem gX.lt(x:gX P w H h a o):a < h.objs.size:=by
  cases o with
  | lst xs=>obtain⟨_,_,_,_,e⟩:=x;exact Heap.lt_size e
  | tup xs=>obtain⟨_,_,_,p⟩:=x;exact p.tup.lt
  | dK kvs=>obtain⟨_,_,_,_,o,_,_,e,_⟩:=x;exact Heap.lt_size e
  | dT kvs=>obtain⟨_,_,_,_,o,_,_,e,_⟩:=x;exact Heap.lt_size e
  | set S n=>obtain⟨o,_,_,_,e,_⟩:=x;exact Heap.lt_size e
  | ins C dx fs=>obtain⟨_,_,_,e,_⟩:=x;exact Heap.lt_size e
  | own y=>obtain⟨_,e⟩:=x;exact Heap.lt_size e
  | xd fs=>obtain⟨_,⟨_,_,_,e,_⟩,_⟩:=x;exact Heap.lt_size e
  | rng lo hi=>obtain⟨_,_,_,e⟩:=x;exact Heap.lt_size e
  | frz ob u=>obtain⟨e,_⟩:=x;exact Heap.lt_size e
  | tbl ps=>exact Heap.lt_size (show h.get? a=some _ from x)
  | met f y=>exact Heap.lt_size (show h.get? a=some _ from x)
  | ext φ=>obtain⟨_,⟨_,e⟩,_⟩:=x;exact Heap.lt_size e
theorem Paired.mapP{α β:Type}{F G:α→β→Prop}:∀{l₁:List α} {l₂:List β},Paired F l₁ l₂→(∀a b,F a b→G a b)→Paired G l₁ l₂
  | _,_,.nil,_=>.nil
  | _,_,.cons r t,f=>.cons (f _ _ r) (Paired.mapP t f)
theorem gX.stay(x:gX P w H h a o)(k:∀b u,(b=a∨H b=some (.own a))→h.get? b=some u→h'.get? b=some u)
    (ho:∀b,H b=some (.own a)→H' b=some (.own a))(ht:∀b xs,H b=some (.tup xs)→H' b=some (.tup xs)):gX P w H' h' a o:=by
  induction o with
  | lst xs=>obtain⟨z,its,n,r,e⟩:=x;exact⟨z,its,n,r,k _ _ (.inl rfl) e⟩
  | tup xs=>obtain⟨z,its,r,ob,e,c⟩:=x;exact⟨z,its,r,ob,k _ _ (.inl rfl) e,c⟩
  | dK kvs=>obtain⟨z,y,vs,r,ob,es,ep,e,c⟩:=x;exact⟨z,y,vs,r,ob,es,ep,k _ _ (.inl rfl) e,c⟩
  | dT kvs=>
    obtain⟨z,y,xs,r,ob,es,ep,e,c⟩:=x
    exact⟨z,y,xs,Paired.mapP r fun p q z=>⟨z.1,ht _ _ z.2.1,z.2.2⟩,ob,es,ep,k _ _ (.inl rfl) e,c⟩
  | set S n=>obtain⟨ob,es,ep,t,e,c⟩:=x;exact⟨ob,es,ep,t,k _ _ (.inl rfl) e,c⟩
  | ins C dx fs=>
    obtain⟨d,z,ne,e,mA,⟨od,es,ep,e2,c⟩,r⟩:=x
    exact⟨ho _ d,z,ne,k _ _ (.inl rfl) e,mA,⟨od,es,ep,k _ _ (.inr d) e2,c⟩,r⟩
  | own y=>obtain⟨ob,e⟩:=x;exact⟨ob,k _ _ (.inl rfl) e⟩
  | xd fs=>obtain⟨mA,⟨od,es,ep,e,c⟩,r⟩:=x;exact⟨mA,⟨od,es,ep,k _ _ (.inl rfl) e,c⟩,r⟩
  | rng lo hi=>obtain⟨t,u,v,e⟩:=x;exact⟨t,u,v,k _ _ (.inl rfl) e⟩
  | frz ob u ih=>obtain⟨e,q⟩:=x;exact⟨k _ _ (.inl rfl) e,ih q⟩
  | tbl ps=>
    have e:h.get? a=some {cls:=.none,data:=.fields ps}:=x
    show h'.get? a=some {cls:=.none,data:=.fields ps}
    exact k a _ (.inl rfl) e
  | met f y=>
    have e:h.get? a=some (PySem.W.methodObj (.ref f) (.ref y)):=x
    show h'.get? a=some (PySem.W.methodObj (.ref f) (.ref y))
    exact k a _ (.inl rfl) e
  | ext φ=>obtain⟨p,⟨o,e⟩,st⟩:=x;exact⟨st _ _ p fun o q=>k _ _ (.inl rfl) q,⟨o,k _ _ (.inl rfl) e⟩,st⟩
theorem oo.lt(x:oo P w H h)(e:H a=some o):a < h.objs.size:=(x a o e).lt
theorem oo.fresh(x:oo P w H h)(e:h.objs.size≤a):H a=none:=by
  cases q:H a with
  | none=>rfl
  | some u=>exact absurd (Nat.lt_of_lt_of_le (x.lt q) e) (Nat.lt_irrefl _)
theorem oo.kept(x:oo P w H h)(k:∀b u,h.get? b=some u→h'.get? b=some u):oo P w H h':=fun a o e=>
  (x a o e).stay (fun b u _ q=>k b u q) (fun _ q=>q) fun _ _ q=>q
theorem oo.laid(x:oo P w H h)(k:∀b u,h.get? b=some u→h'.get? b=some u)(hp:h.objs.size≤a)(new:gX P w (bi H a o) h' a o):oo P w (bi H a o) h':=fun b u e=>by
  have hn:=x.fresh hp
  by_cases hb:b=a
  · subst hb;rw [aA] at e;cases e;exact new
  · rw [au hb] at e
    exact(x b u e).stay (fun c v _ q=>k c v q) (fun c q=>by rw [au (eA q hn)];exact q) fun c xs q=>by rw [au (eA q hn)];exact q
end
def Rd(H:Hp)(a:Addr)(u:HO):Prop:=H a=some u∨∃o,H a=some (.frz o u)
theorem Rd.ok{P:Program}{w:World}{H:Hp}{h:Heap}{a:Addr}{u:HO}(r:Rd H a u)(x:oo P w H h):gX P w H h a u:=by
  rcases r with r | ⟨o,r⟩
  · exact x a u r
  · obtain⟨_,q⟩:=x a _ r
    exact q
def Gd:Option HO→Prop
  | some (.lst _)=>True
  | some (.dK _)=>True
  | some (.dT _)=>True
  | some (.set _ _)=>True
  | some (.ins _ _ _)=>True
  | some (.ext _)=>True
  | _=>False
section
variable{P:Program}{w:World}{H:Hp}{h h':Heap}{x e:Addr}{o':HO}
theorem oo.write(ok:oo P w H h)(mu:Gd (H x))(he:e=x∨H e=some (.own x))(k:∀b u,b≠e→h.get? b=some u→h'.get? b=some u)(heo:∃u,h'.get? e=some u)
    (new:gX P w (bi H x o') h' x o'):oo P w (bi H x o') h':=fun b u q=>by
  have nown:∀c y,H c=some (.own y)→c≠x:=fun c y r z=>by subst z;rw [r] at mu;exact mu
  have ntup:∀c xs,H c=some (.tup xs)→c≠x:=fun c xs r z=>by subst z;rw [r] at mu;exact mu
  by_cases hb:b=x
  · subst hb;rw [aA] at q;cases q;exact new
  · rw [au hb] at q
    by_cases hbe:b=e
    · have q':H b=some (.own x):=by
        rcases he with z | z
        · exact absurd (hbe.trans z) hb
        · rw [hbe];exact z
      rw [q] at q';cases q'
      obtain⟨v,hv⟩:=heo
      exact⟨v,by rw [hbe];exact hv⟩
    · refine(ok b u q).stay (fun c v hc r=>k c v ?_ r) (fun c r=>by rw [au (nown c b r)];exact r) fun c xs r=>by rw [au (ntup c xs r)];exact r
      rcases hc with rfl | hc
      · exact hbe
      · rintro rfl
        rcases he with z | z
        · exact nown c b hc z
        · rw [hc] at z;cases z;exact hb rfl
end
structure Un (fs ex:List Addr) (H H':Hp) (h h':Heap):Prop where
  keep:∀b o,h.get? b=some o→H b=none→b∉fs→b∉ex→h'.get? b=some o
  slot:∀b o,h.get? b=some o→H b=none→b∈fs→b∉ex→∃sl,h'.get? b=some {o with slots:=sl}
  free:∀b o,h.get? b=some o→H b=none→b∉ex→H' b=none
  there:∀b o,h.get? b=some o→b∉ex→∃o',h'.get? b=some o'
  tups:∀b xs,H b=some (.tup xs)→H' b=some (.tup xs)
  frzs:∀b o u,H b=some (.frz o u)→H' b=some (.frz o u)
  tbls:∀b ps,H b=some (.tbl ps)→∃more,H' b=some (.tbl (ps++more))
section
variable{fs fs' ex ex':List Addr}{H H1 H2:Hp}{h h1 h2 h':Heap}{a x e:Addr}{o:HO}
theorem Un.any(u:Un fs ex H H1 h h1){b:Addr}{ob:Obj}(q:h.get? b=some ob)(n:H b=none)(hx:b∉ex):∃sl,h1.get? b=some {ob with slots:=sl}:=by
  by_cases hb:b∈fs
  · exact u.slot b ob q n hb hx
  · exact⟨ob.slots,u.keep b ob q n hb hx⟩
theorem Un.kept(k:∀b u,h.get? b=some u→h'.get? b=some u):Un fs ex H H h h':=
  ⟨fun b ob q _ _ _=>k b ob q,fun b ob q _ _ _=>⟨ob.slots,k b ob q⟩,fun _ _ _ n _=>n,fun b ob q _=>⟨ob,k b ob q⟩,fun _ _ q=>q,fun _ _ _ q=>q,fun _ ps q=>⟨#[],by rw [q];simp⟩⟩
theorem Un.refl:Un fs ex H H h h:=Un.kept fun _ _ q=>q
theorem Un.laid(k:∀b u,h.get? b=some u→h'.get? b=some u)(hp:h.objs.size≤a)(hn:H a=none):Un fs ex H (bi H a o) h h' where
  keep:=fun b u q _ _ _=>k b u q
  slot:=fun b u q _ _ _=>⟨u.slots,k b u q⟩
  free:=fun b u q n _=>by rw [au (Nat.ne_of_lt (Nat.lt_of_lt_of_le (Heap.lt_size q) hp))];exact n
  there:=fun b u q _=>⟨u,k b u q⟩
  tups:=fun b xs q=>by rw [au (eA q hn)];exact q
  frzs:=fun b u xs q=>by rw [au (eA q hn)];exact q
  tbls:=fun b ps q=>⟨#[],by rw [au (eA q hn),q];simp⟩
theorem Un.write(mu:Gd (H x))(he:e=x∨H e=some (.own x))(k:∀b u,b≠e→h.get? b=some u→h'.get? b=some u)(heo:∃u,h'.get? e=some u):Un fs ex H (bi H x o) h h':=by
  have hx:∀b,H b=none→b≠x:=fun b n z=>by subst z;rw [n] at mu;exact mu
  have hb:∀b,H b=none→b≠e:=fun b n z=>by
    subst z
    rcases he with r | r
    · exact hx b n r
    · rw [n] at r;cases r
  have hm:∀b u,H b=some u→¬Gd (some u)→b≠x:=fun b u q nm z=>by subst z;rw [q] at mu;exact nm mu
  refine⟨fun b u q n _ _=>k b u (hb b n) q,fun b u q n _ _=>⟨u.slots,k b u (hb b n) q⟩,fun b u q n _=>by rw [au (hx b n)];exact n,fun b u q _=>?_,
    fun b xs q=>by rw [au (hm b _ q fun z=>z)];exact q,fun b u xs q=>by rw [au (hm b _ q fun z=>z)];exact q,fun b ps q=>⟨#[],by rw [au (hm b _ q fun z=>z),q];simp⟩⟩
  by_cases hbe:b=e
  · subst hbe;exact heo
  · exact⟨u,k b u hbe q⟩
end
def Gk(h:Heap)(H:Hp):List Addr:=(List.range h.objs.size).filter fun a=>(H a).isSome
def rB(h:Heap)(H:Hp):Heap:=PySem.W.hideAll h (Gk h H)
theorem xx(h:Heap)(H:Hp):(rB h H).objs.size=h.objs.size:=PySem.W.hideAll_size _ _
theorem yR{h:Heap}{H:Hp}{b:Addr}{o:Obj}(e:h.get? b=some o)(n:H b=none):(rB h H).get? b=some o:=
  PySem.W.hideAll_get _ e fun hm=>by
    have q:(H b).isSome=true:=(List.mem_filter.mp hm).2
    rw [n] at q;simp at q
theorem Bk{h:Heap}{H:Hp}{b:Addr}{o:Obj}(e:(rB h H).get? b=some o):h.get? b=some o∧H b=none:=by
  have e':h.get? b=some o:=PySem.W.of_hideAll (Gk h H) e
  refine⟨e',?_⟩
  cases q:H b with
  | none=>rfl
  | some x=>
    have hm:b∈Gk h H:=List.mem_filter.mpr ⟨List.mem_range.mpr (Heap.lt_size e'),by simp [q]⟩
    have z:(rB h H).get? b=none:=PySem.W.hideAll_none (Gk h H) hm
    rw [z] at e;cases e
def q_(g h:Heap)(L:Addr):List (Addr × Obj):=(List.range h.objs.size).filterMap fun a=>if a=L∨(g.get? a).isSome=true then none else(h.get? a).map fun o=>(a,o)
theorem oU{g h:Heap}{L:Addr}{p:Addr × Obj}(hp:p∈q_ g h L):p.1≠L∧g.get? p.1=none∧h.get? p.1=some p.2:=by
  obtain⟨b,_,e⟩:=List.mem_filterMap.mp hp
  split at e
  · cases e
  · rename_i hn
    cases q:h.get? b with
    | none=>rw [q] at e;simp at e
    | some u=>
      rw [q] at e
      simp only [Option.map_some,Option.some.injEq] at e
      subst e
      refine⟨fun z=>hn (.inl z),?_,q⟩
      show g.get? b=none
      cases r:g.get? b with
      | none=>rfl
      | some v=>exact(hn (.inr (by simp [r]))).elim
def jj(g h:Heap)(L d:Addr):List (Addr × Obj):=(q_ g h L).filter fun p=>decide (p.1≠d)
theorem y9{g h:Heap}{L:Addr}:News g L h (q_ g h L):=fun p hp=>let ⟨a,b,c⟩:=oU hp;⟨c,a,b⟩
end L2
namespace L2
open PySem PySem.Spec PyProof.Rows
structure Mod (K:PySem.W.Frag) (mg:Str→Option Value) (base:Heap):Prop where
  kin:K.In base
  glob:base.Ns mainGlobals mg
  blt:∃mb,base.Ns builtinsNs mb∧∀x:Str,x≠"__name__"→mb x=bootBuiltins x
  nolimit:base.NoLimit
structure Cx where
  prog:Program
  w:World
  K:PySem.W.Frag
  mg:Str→Option Value
  base:Heap
  A:Around
  N:List Str
  s₀:Shared
  H₀:Hp
  env:Env
  outer:List Env
  stack:List Env
  ex:List Addr
  fn:Str→Bool
  calm:Bool
  pn:List (Addr × Obj)
  xe:Value→Shared→Prop
def yI(l:List Env):List Addr:=l.filterMap (·.frame)
abbrev Cx.fs(X:Cx):List Addr:=yI X.outer
def AI(sc:Scope)(x:Str):Prop:=sc.names.lookup x=some .local∨sc.names.lookup x=some .cell∨sc.names.lookup x=some .free
def C8(sc:Scope)(x:Str):Prop:=sc.names.lookup x=some .local∨sc.names.lookup x=some .cell
def Gs(env:Env)(h:Heap)(m:Str→Option Value)(x:Str)(u:Value):Prop:=
  (env.kindOf x=some .local∧m x=some u)∨((env.kindOf x=some .cell∨env.kindOf x=some .free)∧∃c,env.cells.lookup x=some c∧h.IsCell c (some u))
structure Cx.Ok (X:Cx):Prop where
  mod:Mod X.K X.mg X.base
  kind:X.env.scope.kind=.function
  glob:X.env.globals=mainGlobals
  blt:X.env.builtins=builtinsNs
  above:X.s₀.heap.objs.size≤X.env.locals
  inj:∀x y c,X.env.cells.lookup x=some c→X.env.cells.lookup y=some c→x=y
  has:∀x,(X.env.kindOf x=some .cell∨X.env.kindOf x=some .free)→∃c,X.env.cells.lookup x=some c
  cab:∀x c,X.fn x=true→X.env.cells.lookup x=some c→X.s₀.heap.objs.size≤c
  hd:X.calm=true→X.A.handled=none
  frames:X.A.frames=some X.stack
  stk:X.stack=X.outer∨(X.stack=X.env::X.outer∧X.env.frame=some X.env.locals)
  exf:∀b∈X.ex,b≠X.env.locals∧∀x c,X.env.cells.lookup x=some c→c≠b
  bs:∀b o,X.base.get? b=some o→X.s₀.heap.get? b=some o∧X.H₀ b=none
  bsz:X.base.objs.size≤X.s₀.heap.objs.size
  noex:∀b o,X.base.get? b=some o→b∉X.ex
  exfs:∀b∈X.ex,b∉X.fs
  funs:X.s₀.heap.FunFrames X.base X.outer
  frf:∀b∈X.fs,X.H₀ b=none
structure aE (X:Cx) (pins:List (Addr × Obj)) (σ:List (Option V)) (H:Hp) (s:Shared):Prop where
  ok:X.Ok
  os:s.os=X.s₀.os
  bare:AllBare s.gens
  base:Un X.fs X.ex X.H₀ H X.s₀.heap s.heap
  loc:∃m,s.heap.Ns X.env.locals m∧∀(i:Nat) (x:Str) (v:V),X.N[i]?=some x→σ[i]?=some (some v)→AI X.env.scope x→∃u,bA v u∧Gs X.env s.heap m x u
  cell:∀x c,X.env.cells.lookup x=some c→∃v,s.heap.IsCell c v
  free:H X.env.locals=none
  freeC:∀x c,X.env.cells.lookup x=some c→H c=none
  pin:∀p∈X.pn++pins,s.heap.get? p.1=some p.2∧H p.1=none∧p.1≠X.env.locals∧p.1∉X.fs∧∀v,p.2.data≠.cell v
  hok:oo X.prog X.w H s.heap
  len:σ.length=X.N.length
section
variable{X:Cx}{pins:List (Addr × Obj)}{σ:List (Option V)}{H H':Hp}{s:Shared}{h':Heap}
theorem Cx.Ok.nofr(ok:X.Ok){b:Addr}{o:Obj}(e:X.base.get? b=some o):b∉X.fs:=fun hb=>by
  have:=(ok.funs.mem hb).1
  rw [e] at this;cases this
theorem aE.bs(I:aE X pins σ H s):∀b o,X.base.get? b=some o→s.heap.get? b=some o∧H b=none:=fun b o e=>
  ⟨I.base.keep b o (I.ok.bs b o e).1 (I.ok.bs b o e).2 (I.ok.nofr e) (I.ok.noex b o e),I.base.free b o (I.ok.bs b o e).1 (I.ok.bs b o e).2 (I.ok.noex b o e)⟩
theorem aE.bk(I:aE X pins σ H s):∀b o,X.base.get? b=some o→s.heap.get? b=some o:=fun b o e=>(I.bs b o e).1
theorem aE.mod(I:aE X pins σ H s):Mod X.K X.mg X.base:=I.ok.mod
theorem aE.kIn(I:aE X pins σ H s):X.K.In s.heap:=I.ok.mod.kin.keeps I.bk
theorem aE.fr(I:aE X pins σ H s):∃m,Fr X.base X.env.locals s.heap m:=
  let ⟨m,hn,_⟩:=I.loc
  ⟨m,hn,I.bk,Nat.le_trans I.ok.bsz I.ok.above⟩
theorem aE.lt(I:aE X pins σ H s):X.env.locals < s.heap.objs.size:=let ⟨_,hn,_⟩:=I.loc;hn.lt
theorem aE.sz(I:aE X pins σ H s):X.s₀.heap.objs.size≤s.heap.objs.size:=Nat.le_trans I.ok.above (Nat.le_of_lt I.lt)
theorem aE.nofs(I:aE X pins σ H s){a:Addr}(h:s.heap.objs.size≤a):a∉X.fs:=fun hb=>by
  obtain⟨_,o,ho,_⟩:=I.ok.funs.mem hb
  exact absurd (Nat.lt_of_lt_of_le (Heap.lt_size ho) (Nat.le_trans I.sz h)) (Nat.lt_irrefl _)
theorem aE.cne(I:aE X pins σ H s):∀x c,X.env.cells.lookup x=some c→c≠X.env.locals:=fun x c e z=>by
  obtain⟨v,o,ho,hd⟩:=I.cell x c e
  obtain⟨m,⟨o',es,ep,ho',hd',_⟩,_⟩:=I.loc
  rw [z,ho'] at ho;cases ho;rw [hd'] at hd;cases hd
theorem aE.funs(I:aE X pins σ H s):s.heap.FunFrames X.base X.outer:=by
  have all:∀(l:List Env),(∀b∈yI l,b∈X.fs)→X.s₀.heap.FunFrames X.base l→s.heap.FunFrames X.base l:=by
    intro l
    induction l with
    | nil=>intro _ _;trivial
    | cons env r ih=>
      intro hs hl
      obtain⟨hk,⟨L,o,hf,hn,ho,hd⟩,hr⟩:=hl
      have hL:L∈X.fs:=hs L (by unfold yI;rw [List.filterMap_cons,hf];exact List.mem_cons_self)
      obtain⟨sl,e⟩:=I.base.slot L o ho (I.ok.frf L hL) hL fun z=>I.ok.exfs L z hL
      exact⟨hk,⟨L,_,hf,hn,e,hd⟩,ih (fun b hb=>hs b (by unfold yI;rw [List.filterMap_cons,hf];exact List.mem_cons_of_mem _ hb)) hr⟩
  exact all X.outer (fun _ hb=>hb) I.ok.funs
theorem aE.stack(I:aE X pins σ H s):s.heap.FunFrames X.base X.stack:=by
  rcases I.ok.stk with e | ⟨e,hf⟩
  · rw [e];exact I.funs
  · rw [e]
    obtain⟨m,hn,_⟩:=I.loc
    refine .cons (by rw [I.ok.kind];decide) hf hn ?_ I.funs
    exact Heap.get?_none_of_le (Nat.le_trans I.ok.bsz I.ok.above)
theorem aE.stkSub(I:aE X pins σ H s):∀b∈yI X.stack,b∈X.env.locals::X.fs:=fun b hb=>by
  rcases I.ok.stk with e | ⟨e,hf⟩
  · rw [e] at hb;exact List.mem_cons_of_mem _ hb
  · rw [e] at hb
    unfold yI at hb
    rw [List.filterMap_cons,hf] at hb
    exact hb
theorem aE.stkFree(I:aE X pins σ H s):∀b∈yI X.stack,H b=none:=fun b hb=>by
  rcases List.mem_cons.mp (I.stkSub b hb) with e | hb
  · rw [e];exact I.free
  · obtain⟨_,o,ho,_⟩:=I.ok.funs.mem hb
    exact I.base.free b o ho (I.ok.frf b hb) fun z=>I.ok.exfs b z hb
theorem aE.step{g':Array GenState}{t':Nat}{d':Drawn}{ch:List Addr}(I:aE X pins σ H s)
    (hch:∀b∈ch,(b∈X.ex∨X.s₀.heap.objs.size≤b)∧b≠X.env.locals∧(∀x c,X.env.cells.lookup x=some c→c≠b)∧∀p∈X.pn++pins,p.1≠b)
    (keep:∀b o,b≠X.env.locals→b∉X.fs→b∉ch→s.heap.get? b=some o→H b=none→h'.get? b=some o)
    (slot:∀b o,b≠X.env.locals→b∈X.fs→b∉ch→s.heap.get? b=some o→H b=none→∃sl,h'.get? b=some {o with slots:=sl})(free:∀b o,b∉ch→s.heap.get? b=some o→H b=none→H' b=none)
    (there:∀b o,b∉ch→s.heap.get? b=some o→∃o',h'.get? b=some o')
    (tups:∀b xs,H b=some (.tup xs)→H' b=some (.tup xs))(frzs:∀b o u,H b=some (.frz o u)→H' b=some (.frz o u))(tbls:∀b ps,H b=some (.tbl ps)→∃more,H' b=some (.tbl (ps++more)))
    (ns:∀m,s.heap.Ns X.env.locals m→h'.Ns X.env.locals m)(hok:oo X.prog X.w H' h')(hg:AllBare g'):
    aE X pins σ H' {s with heap:=h',gens:=g',drawn:=d',toks:=t'}:=by
  have neL:∀b o,X.s₀.heap.get? b=some o→b≠X.env.locals:=fun b o e=>Nat.ne_of_lt (Nat.lt_of_lt_of_le (Heap.lt_size e) I.ok.above)
  have neC:∀b o,X.s₀.heap.get? b=some o→b∉X.ex→b∉ch:=fun b o e hx hb=>by
    rcases(hch b hb).1 with z | z
    · exact hx z
    · exact absurd (Nat.lt_of_lt_of_le (Heap.lt_size e) z) (Nat.lt_irrefl _)
  have cellK:∀x c,X.env.cells.lookup x=some c→∀v,s.heap.IsCell c v→h'.IsCell c v:=fun x c e v ⟨o,ho,hd⟩=>by
    have nch:c∉ch:=fun z=>(hch c z).2.2.1 x c e rfl
    by_cases hc:c∈X.fs
    · obtain⟨sl,q⟩:=slot c o (I.cne x c e) hc nch ho (I.freeC x c e)
      exact⟨_,q,hd⟩
    · exact⟨o,keep c o (I.cne x c e) hc nch ho (I.freeC x c e),hd⟩
  refine⟨I.ok,I.os,hg,⟨fun b o e n hb hx=>?_,fun b o e n hb hx=>?_,fun b o e n hx=>?_,fun b o e hx=>?_,fun b xs e=>tups b xs (I.base.tups b xs e),fun b o xs e=>frzs b o xs (I.base.frzs b o xs e),fun b ps e=>?_⟩,?_,fun x c e=>?_,?_,fun x c e=>?_,fun p hp=>?_,hok,I.len⟩
  · exact keep b o (neL b o e) hb (neC b o e hx) (I.base.keep b o e n hb hx) (I.base.free b o e n hx)
  · obtain⟨sl,e1⟩:=I.base.slot b o e n hb hx
    obtain⟨sl',e2⟩:=slot b _ (neL b o e) hb (neC b o e hx) e1 (I.base.free b o e n hx)
    exact⟨sl',e2⟩
  · obtain⟨o',e1⟩:=I.base.there b o e hx
    exact free b o' (neC b o e hx) e1 (I.base.free b o e n hx)
  · obtain⟨o',e1⟩:=I.base.there b o e hx
    exact there b o' (neC b o e hx) e1
  · obtain⟨m1,e1⟩:=I.base.tbls b ps e
    obtain⟨m2,e2⟩:=tbls b _ e1
    exact⟨m1++m2,by rw [e2,Array.append_assoc]⟩
  · obtain⟨m,hn,hl⟩:=I.loc
    refine⟨m,ns m hn,fun i x v e1 e2 e3=>?_⟩
    obtain⟨u,r,l⟩:=hl i x v e1 e2 e3
    refine⟨u,r,?_⟩
    rcases l with l | ⟨k,c,e,z⟩
    · exact .inl l
    · exact .inr ⟨k,c,e,cellK x c e _ z⟩
  · obtain⟨v,z⟩:=I.cell x c e
    exact⟨v,cellK x c e v z⟩
  · obtain⟨m,⟨o,_,_,ho,_⟩,_⟩:=I.loc
    exact free _ o (fun z=>(hch _ z).2.1 rfl) ho I.free
  · obtain⟨v,o,ho,hd⟩:=I.cell x c e
    exact free c o (fun z=>(hch c z).2.2.1 x c e rfl) ho (I.freeC x c e)
  · obtain⟨e,n,ne,nf,d⟩:=I.pin p hp
    have nch:p.1∉ch:=fun z=>(hch p.1 z).2.2.2 p hp rfl
    exact⟨keep p.1 p.2 ne nf nch e n,free p.1 p.2 nch e n,ne,nf,d⟩
theorem aE.un{t':Nat}(I:aE X pins σ H s)(u:Un X.fs [] H H' s.heap h')(hok:oo X.prog X.w H' h'):aE X pins σ H' {s with heap:=h',toks:=t'}:=by
  obtain⟨m,⟨o,es,ep,ho,r⟩,_⟩:=id I.loc
  obtain⟨sl,hL⟩:=u.any ho I.free (by simp)
  exact I.step (g':=s.gens) (d':=s.drawn) (ch:=[]) (fun _ z=>nomatch z) (fun b o _ hb _ e n=>u.keep b o e n hb (by simp)) (fun b o _ hb _ e n=>u.slot b o e n hb (by simp)) (fun b o _ e n=>u.free b o e n (by simp)) (fun b o _ e=>u.there b o e (by simp)) u.tups u.frzs u.tbls (fun m' hm=>by
    obtain⟨o',es',ep',ho',r'⟩:=hm
    rw [ho] at ho';cases ho'
    exact⟨_,es',ep',hL,r'⟩) hok I.bare
theorem aE.call{g':Array GenState}{t':Nat}{d':Drawn}{ch:List Addr}(I:aE X pins σ H s)(u:Un (yI X.stack) ch H H' s.heap h')(hok:oo X.prog X.w H' h')(hg:AllBare g')
    (hch:∀b∈ch,(b∈X.ex∨X.s₀.heap.objs.size≤b)∧b≠X.env.locals∧(∀x c,X.env.cells.lookup x=some c→c≠b)∧∀p∈X.pn++pins,p.1≠b):
    aE X pins σ H' {s with heap:=h',gens:=g',drawn:=d',toks:=t'}:=by
  obtain⟨m,⟨o,es,ep,ho,r⟩,_⟩:=id I.loc
  obtain⟨sl,hL⟩:=u.any ho I.free fun z=>(hch _ z).2.1 rfl
  exact I.step (ch:=ch) hch (fun b o hL hb hc e n=>u.keep b o e n (fun z=>(List.mem_cons.mp (I.stkSub b z)).elim hL hb) hc) (fun b o _ _ hc e n=>u.any e n hc) (fun b o hc e n=>u.free b o e n hc) (fun b o hc e=>u.there b o e hc) u.tups u.frzs u.tbls (fun m' hm=>by
    obtain⟨o',es',ep',ho',r'⟩:=hm
    rw [ho] at ho';cases ho'
    exact⟨_,es',ep',hL,r'⟩) hok hg
theorem aE.turned{t':Nat}{it:Addr}(I:aE X pins σ H s)(k:∀b o,b≠it→s.heap.get? b=some o→h'.get? b=some o)(hn:H it=none)(hL:it≠X.env.locals)
    (h1:it∈X.ex∨X.s₀.heap.objs.size≤it)(h2:∀x c,X.env.cells.lookup x=some c→c≠it)(h3:∀p∈X.pn++pins,p.1≠it):aE X pins σ H {s with heap:=h',toks:=t'}:=by
  have nit:∀b u,H b=some u→b≠it:=fun b u e z=>by rw [z,hn] at e;cases e
  refine I.step (g':=s.gens) (d':=s.drawn) (ch:=[it]) (fun b hb=>?_) (fun b o _ _ hc e _=>k b o (fun z=>hc (by simp [z])) e) (fun b o _ _ hc e _=>⟨o.slots,k b o (fun z=>hc (by simp [z])) e⟩) (fun _ _ _ _ n=>n)
    (fun b o hc e=>⟨o,k b o (fun z=>hc (by simp [z])) e⟩) (fun _ _ e=>e) (fun _ _ _ e=>e) (fun b ps e=>⟨#[],by rw [e];simp⟩) (fun m hm=>?_) (fun b u e=>?_) I.bare
  · have e:b=it:=by simpa using hb
    subst e
    exact⟨h1,hL,h2,h3⟩
  · obtain⟨o,es,ep,ho,r⟩:=hm
    exact⟨o,es,ep,k _ o (Ne.symm hL) ho,r⟩
  · refine(I.hok b u e).stay (fun c v hc q=>k c v ?_ q) (fun _ q=>q) fun _ _ q=>q
    rcases hc with z | z
    · rw [z];exact nit b u e
    · exact nit c _ z
theorem aE.tok(I:aE X pins σ H s)(t:Nat):aE X pins σ H {s with toks:=t}:=I.un (h':=s.heap) (t':=t) Un.refl I.hok
theorem aE.kept{t':Nat}(I:aE X pins σ H s)(k:∀b u,s.heap.get? b=some u→h'.get? b=some u):aE X pins σ H {s with heap:=h',toks:=t'}:=I.un (Un.kept k) (I.hok.kept k)
theorem aE.laid{a:Addr}{o:HO}{t':Nat}(I:aE X pins σ H s)(k:∀b u,s.heap.get? b=some u→h'.get? b=some u)(hp:s.heap.objs.size≤a)(new:gX X.prog X.w (bi H a o) h' a o):
    aE X pins σ (bi H a o) {s with heap:=h',toks:=t'}:=I.un (Un.laid k hp (I.hok.fresh hp)) (I.hok.laid k hp new)
theorem aE.write{x e:Addr}{o:HO}{t':Nat}(I:aE X pins σ H s)(mu:Gd (H x))(he:e=x∨H e=some (.own x))(k:∀b u,b≠e→s.heap.get? b=some u→h'.get? b=some u)(heo:∃u,h'.get? e=some u)
    (new:gX X.prog X.w (bi H x o) h' x o):aE X pins σ (bi H x o) {s with heap:=h',toks:=t'}:=I.un (Un.write mu he k heo) (I.hok.write mu he k heo new)
theorem aE.pins_of{pins':List (Addr × Obj)}(I:aE X pins σ H s)(h:∀p∈pins',s.heap.get? p.1=some p.2∧H p.1=none∧p.1≠X.env.locals∧p.1∉X.fs∧∀v,p.2.data≠.cell v):aE X pins' σ H s:=
  ⟨I.ok,I.os,I.bare,I.base,I.loc,I.cell,I.free,I.freeC,fun p hp=>(List.mem_append.mp hp).elim (fun z=>I.pin p (List.mem_append_left _ z)) (h p),I.hok,I.len⟩
theorem tH{N:List Str}(hN:N.Nodup){i j:Nat}{x:Str}(a:N[i]?=some x)(b:N[j]?=some x):i=j:=by
  obtain⟨h1,e1⟩:=List.getElem?_eq_some_iff.mp a
  obtain⟨h2,e2⟩:=List.getElem?_eq_some_iff.mp b
  exact(List.getElem_inj hN).mp (e1.trans e2.symm)
theorem qP{M:Model}{A:Around}{E:Value→Shared→Prop}{i:Nat}{x:Str}{v:V}{u:Value}{Q:Unit→Shared→Prop}(I:aE X pins σ H s)(hN:X.N.Nodup)(hi:X.N[i]?=some x)(hx:C8 X.env.scope x)(r:bA v u)
    (h:∀s',aE X pins (σ.set i (some v)) H s'→(∃a,Heap.SameBut a s.heap s'.heap∧(a=X.env.locals∨X.env.cells.lookup x=some a))→Q () s')(hf:X.fn x=true∨X.env.scope.names.lookup x=some .local:=by first | exact .inl rfl | exact .inr rfl | assumption):wpAny M A (storeName X.env x u) Q E s:=by
  obtain⟨m,hn,hl⟩:=id I.loc
  have hcls:(X.env.scope.kind==.class || (X.env.scope.kind==.module&&X.env.locals != X.env.globals))=false:=by rw [I.ok.kind];rfl
  have hiσ:i < σ.length:=by rw [I.len];exact(List.getElem?_eq_some_iff.mp hi).1
  have cne:=I.cne
  have tracked:∀{a:Addr} {h':Heap},(∃o,s.heap.get? a=some o∧H a=none)→Heap.SameBut a s.heap h'→oo X.prog X.w H h':=fun{a h'} ha hs b ob e=>by
    obtain⟨_,_,hfree⟩:=ha
    refine(I.hok b ob e).stay (fun c w' hc q=>(hs.2 c ?_).trans q) (fun _ q=>q) fun _ _ q=>q
    rintro rfl
    rcases hc with rfl | hc
    · rw [hfree] at e;cases e
    · rw [hfree] at hc;cases hc
  rcases hx with hk | hk
  · refine wpAny_storeName_local hk hn (fun h' hn' hs=>?_) hcls
    obtain⟨oL,_,_,hoL,_⟩:=id hn
    refine h _ ⟨I.ok,I.os,I.bare,⟨fun b o e n hb hx=>?_,fun b o e n hb hx=>?_,I.base.free,fun b o e hx=>?_,I.base.tups,I.base.frzs,I.base.tbls⟩,⟨_,hn',fun j y v' e1 e2 e3=>?_⟩,fun y c e=>?_,I.free,I.freeC,fun p hp=>?_,tracked ⟨oL,hoL,I.free⟩ hs,by simpa using I.len⟩ ⟨_,hs,.inl rfl⟩
    · exact(hs.2 b (Nat.ne_of_lt (Nat.lt_of_lt_of_le (Heap.lt_size e) I.ok.above))).trans (I.base.keep b o e n hb hx)
    · obtain⟨sl,e1⟩:=I.base.slot b o e n hb hx
      exact⟨sl,(hs.2 b (Nat.ne_of_lt (Nat.lt_of_lt_of_le (Heap.lt_size e) I.ok.above))).trans e1⟩
    · obtain⟨o',e1⟩:=I.base.there b o e hx
      exact⟨o',(hs.2 b (Nat.ne_of_lt (Nat.lt_of_lt_of_le (Heap.lt_size e) I.ok.above))).trans e1⟩
    · by_cases hj:j=i
      · subst hj
        rw [hi] at e1;cases e1
        rw [List.getElem?_set_self hiσ] at e2
        cases e2
        exact⟨u,r,.inl ⟨hk,by simp⟩⟩
      · rw [List.getElem?_set_ne (Ne.symm hj)] at e2
        obtain⟨u',r',q⟩:=hl j y v' e1 e2 e3
        refine⟨u',r',?_⟩
        rcases q with ⟨k,e⟩ | ⟨k,c,e,z⟩
        · refine .inl ⟨k,?_⟩
          have:y≠x:=fun e=>hj (tH hN e1 (e ▸ hi))
          simp [this,e]
        · exact .inr ⟨k,c,e,z.sameBut hs (cne y c e)⟩
    · obtain⟨w',z⟩:=I.cell y c e
      exact⟨w',z.sameBut hs (cne y c e)⟩
    · obtain⟨e,n,ne,nf,d⟩:=I.pin p hp
      exact⟨(hs.2 p.1 ne).trans e,n,ne,nf,d⟩
  · have hfn:X.fn x=true:=by
      rcases hf with z | z
      · exact z
      · rw [z] at hk;cases hk
    obtain⟨c,hc⟩:=I.ok.has x (.inl hk)
    obtain⟨w',z⟩:=I.cell x c hc
    refine wpAny_storeName_cell I.ok.kind hk hc z (fun h' hc' hs=>?_)
    obtain⟨oc,hoc,hocd⟩:=id z
    refine h {s with heap:=h'} ⟨I.ok,I.os,I.bare,⟨fun b o e n hb hx=>?_,fun b o e n hb hx=>?_,I.base.free,fun b o e hx=>?_,I.base.tups,I.base.frzs,I.base.tbls⟩,⟨m,hn.sameBut hs (Ne.symm (cne x c hc)),fun j y v' e1 e2 e3=>?_⟩,fun y c' e=>?_,I.free,I.freeC,fun p hp=>?_,tracked ⟨oc,hoc,I.freeC x c hc⟩ hs,by simpa using I.len⟩ ⟨c,hs,.inr hc⟩
    · exact(hs.2 b (Nat.ne_of_lt (Nat.lt_of_lt_of_le (Heap.lt_size e) (I.ok.cab x c hfn hc)))).trans (I.base.keep b o e n hb hx)
    · obtain⟨sl,e1⟩:=I.base.slot b o e n hb hx
      exact⟨sl,(hs.2 b (Nat.ne_of_lt (Nat.lt_of_lt_of_le (Heap.lt_size e) (I.ok.cab x c hfn hc)))).trans e1⟩
    · obtain⟨o',e1⟩:=I.base.there b o e hx
      exact⟨o',(hs.2 b (Nat.ne_of_lt (Nat.lt_of_lt_of_le (Heap.lt_size e) (I.ok.cab x c hfn hc)))).trans e1⟩
    · by_cases hj:j=i
      · subst hj
        rw [hi] at e1;cases e1
        rw [List.getElem?_set_self hiσ] at e2
        cases e2
        exact⟨u,r,.inr ⟨.inl hk,c,hc,hc'⟩⟩
      · rw [List.getElem?_set_ne (Ne.symm hj)] at e2
        obtain⟨u',r',q⟩:=hl j y v' e1 e2 e3
        refine⟨u',r',?_⟩
        rcases q with q | ⟨k,c',e,z'⟩
        · exact .inl q
        · refine .inr ⟨k,c',e,z'.sameBut hs ?_⟩
          rintro rfl
          exact hj (tH hN e1 (I.ok.inj _ _ _ e hc ▸ hi))
    · by_cases hcc:c'=c
      · subst hcc;exact⟨_,hc'⟩
      · obtain⟨w2,z2⟩:=I.cell y c' e
        exact⟨w2,z2.sameBut hs hcc⟩
    · obtain⟨e,n,ne,nf,d⟩:=I.pin p hp
      refine⟨(hs.2 p.1 ?_).trans e,n,ne,nf,d⟩
      intro q
      rw [q,hoc] at e
      have q':oc=p.2:=Option.some.inj e
      exact d w' (by rw [←q'];exact hocd)
theorem md{M:Model}{A:Around}{E:Value→Shared→Prop}{i:Nat}{x:Str}{v:V}{u:Value}{Q:Unit→Shared→Prop}(I:aE X pins σ H s)(hN:X.N.Nodup)(hi:X.N[i]?=some x)(hx:C8 X.env.scope x)(r:bA v u)
    (h:∀s',aE X pins (σ.set i (some v)) H s'→Q () s')(hf:X.fn x=true∨X.env.scope.names.lookup x=some .local:=by first | exact .inl rfl | exact .inr rfl | assumption):wpAny M A (storeName X.env x u) Q E s:=
  qP I hN hi hx r (fun s' I' _=>h s' I') hf
theorem aE.call'{s':Shared}{ch:List Addr}(I:aE X pins σ H s)(ho:s'.os=s.os)(u:Un (yI X.stack) ch H H' s.heap s'.heap)(hok:oo X.prog X.w H' s'.heap)(hg:AllBare s'.gens)
    (hch:∀b∈ch,(b∈X.ex∨X.s₀.heap.objs.size≤b)∧b≠X.env.locals∧(∀x c,X.env.cells.lookup x=some c→c≠b)∧∀p∈X.pn++pins,p.1≠b):aE X pins σ H' s':=by
  obtain⟨h',g',d',t',o'⟩:=s'
  have e:o'=s.os:=ho
  subst e
  exact I.call (g':=g') (t':=t') (d':=d') u hok hg hch
end
abbrev XK:=Value→Option Addr→Hp→Prop
abbrev St:=List (Option V)
abbrev VK:=V→Hp→Prop
abbrev TE:=St→Hp→VK→Prop
abbrev TT:=St→Hp→(Bool→Hp→Prop)→Prop
abbrev TA:=St→Hp→(List V→Hp→Prop)→Prop
structure uC where
  nx:St→Hp→Prop
  rt:VK
  bk:St→Hp→Prop:=fun _ _=>False
  ct:St→Hp→Prop:=fun _ _=>False
abbrev TS:=uC→St→Hp→Prop
def EP(X:Cx)(pins:List (Addr × Obj))(σ:St)(Q:VK)(u:Value)(s':Shared):Prop:=∃v H',aE X pins σ H' s'∧bA v u∧Q v H'
def TP(X:Cx)(pins:List (Addr × Obj))(σ:St)(Q:Bool→Hp→Prop)(b:Bool)(s':Shared):Prop:=∃H',aE X pins σ H' s'∧Q b H'
def AP(X:Cx)(pins:List (Addr × Obj))(σ:St)(Q:List V→Hp→Prop)(us:List Value)(s':Shared):Prop:=∃vs H',aE X pins σ H' s'∧aM vs us∧Q vs H'
def SP(X:Cx)(pins:List (Addr × Obj))(D:uC)(f:Flow)(s':Shared):Prop:=
  match f with
  | .next=>∃σ' H',aE X pins σ' H' s'∧D.nx σ' H'
  | .brk=>∃σ' H',aE X pins σ' H' s'∧D.bk σ' H'
  | .cont=>∃σ' H',aE X pins σ' H' s'∧D.ct σ' H'
  | .ret u=>∃v σ' H',aE X pins σ' H' s'∧bA v u∧D.rt v H'
def PE(X:Cx)(e:Expr)(t:TE):Prop:=
  ∀(pins:List (Addr × Obj)) (s:Shared) (σ:St) (H:Hp) (Q:VK),aE X pins σ H s→t σ H Q→wpAny (model X.prog X.w) X.A (eval e X.env) (EP X pins σ Q) X.xe s
def PT(X:Cx)(e:Expr)(t:TT):Prop:=
  ∀(pins:List (Addr × Obj)) (s:Shared) (σ:St) (H:Hp) (Q:Bool→Hp→Prop),aE X pins σ H s→t σ H Q→wpAny (model X.prog X.w) X.A (isTrue e X.env (eval e X.env)) (TP X pins σ Q) X.xe s
def PW(X:Cx)(e:Expr)(t:TT):Prop:=
  ∀(whole:Sem Value) (pins:List (Addr × Obj)) (s:Shared) (σ:St) (H:Hp) (Q:Bool→Hp→Prop),aE X pins σ H s→t σ H Q→wpAny (model X.prog X.w) X.A (isTrue e X.env whole) (TP X pins σ Q) X.xe s
theorem PW.pt{X:Cx}{e:Expr}{t:TT}(h:PW X e t):PT X e t:=h _
def PA(X:Cx)(es:List Expr)(t:TA):Prop:=
  ∀(pos:Pos) (pins:List (Addr × Obj)) (s:Shared) (σ:St) (H:Hp) (Q:List V→Hp→Prop),aE X pins σ H s→t σ H Q→wpAny (model X.prog X.w) X.A (spliced (backTo pos (starEach es X.env))) (AP X pins σ Q) X.xe s
def PS(X:Cx)(st:Stmt)(t:TS):Prop:=
  ∀(pins:List (Addr × Obj)) (s:Shared) (σ:St) (H:Hp) (D:uC),aE X pins σ H s→t D σ H→wpAny (model X.prog X.w) X.A (exec st X.env) (SP X pins D) X.xe s
def nJ(X:Cx)(st:List Stmt)(t:TS):Prop:=
  ∀(pins:List (Addr × Obj)) (s:Shared) (σ:St) (H:Hp) (D:uC),aE X pins σ H s→t D σ H→wpAny (model X.prog X.w) X.A (execs st X.env) (SP X pins D) X.xe s
theorem cA{α:Type}{t:Sem α}{Q Q':α→Shared→Prop}{M:Model}{A:Around}{E:Value→Shared→Prop}{s:Shared}(h:wpAny M A t Q E s)(hQ:∀a s,Q a s→Q' a s):wpAny M A t Q' E s:=wpAny_mono h hQ fun _ _ x=>x
end L2
namespace L2
open PySem PySem.Spec PyProof.Rows
section
variable{X:Cx}
def F7(i:Nat):TE:=fun σ H Q=>∃v,σ[i]?=some (some v)∧Q v H
def tC(v:V):TE:=fun _ H Q=>Q v H
theorem mE{i:Nat}{x:Str}{pos:Pos}(hN:X.N[i]?=some x)(hv:AI X.env.scope x)(hd:(x==("__debug__":Str))=false:=by decide)(hcd:(x==("__classdict__":Str))=false:=by decide):PE X (.Name x pos) (F7 i):=by
  intro pins s σ H Q I h
  obtain⟨v,e,h⟩:=h
  obtain⟨m,hn,hl⟩:=I.loc
  obtain⟨u,r,l⟩:=hl i x v hN e hv
  have fin:EP X pins σ Q u s:=⟨v,H,I,r,h⟩
  rcases l with ⟨hk,hm⟩ | ⟨hk,c,hc,hcell⟩
  · exact wpAny_Name (wpAny_loadName_local I.ok.kind hk hn hm fin) hd
  · rcases hk with hk | hk
    · exact wpAny_Name (wpAny_loadName_cell I.ok.kind hk hc hcell fin) hd
    · exact wpAny_Name (wpAny_loadName_free I.ok.kind hk hc hcell fin hcd) hd
theorem zu{i j pos}:PE X (.Constant (.int i) j pos) (tC (.int i)):=fun _ _ _ H _ I h=>wpAny_Constant_int ⟨.int i,H,I.tok _,⟨_,rfl⟩,h⟩
theorem Fq{b j pos}:PE X (.Constant (.bool b) j pos) (tC (.bl b)):=fun _ _ _ H _ I h=>Constant_bool ⟨.bl b,H,I,rfl,h⟩
def Gl(X:Cx)(x:Str):Prop:=X.env.kindOf x=some .globalImplicit
theorem wC{E:Value→Shared→Prop}{pins:List (Addr × Obj)}{s:Shared}{σ:St}{H:Hp}{x:Str}{u:Value}{pos:Pos}{Q:Value→Shared→Prop}(I:aE X pins σ H s)(hg:Gl X x)(hm:X.mg x=some u)(h:Q u s)
    (hd:(x==("__debug__":Str))=false:=by decide):wpAny (model X.prog X.w) X.A (eval (.Name x pos) X.env) Q E s:=
  Calls.Name_function_global I.ok.kind hg (Calls.loadGlobal_global (by rw [I.ok.glob];exact I.mod.glob.keeps I.bk) hm h) hd
theorem gD{E:Value→Shared→Prop}{pins:List (Addr × Obj)}{s:Shared}{σ:St}{H:Hp}{x:Str}{u:Value}{pos:Pos}{Q:Value→Shared→Prop}(I:aE X pins σ H s)(hg:Gl X x)(hm:X.mg x=none)(hv:bootBuiltins x=some u)(h:Q u s)
    (hn:x≠"__name__":=by decide)(hd:(x==("__debug__":Str))=false:=by decide):wpAny (model X.prog X.w) X.A (eval (.Name x pos) X.env) Q E s:=by
  obtain⟨mb,h1,h2⟩:=I.mod.blt
  exact Calls.Name_function_global I.ok.kind hg (Calls.loadGlobal_builtin (by rw [I.ok.glob];exact I.mod.glob.keeps I.bk) hm (by rw [I.ok.blt];exact h1.keeps I.bk) ((h2 x hn).trans hv) h) hd
theorem BH{x:Str}{v:V}{u:Value}{pos:Pos}(hg:Gl X x)(hm:X.mg x=some u)(r:bA v u)(hd:(x==("__debug__":Str))=false:=by decide):PE X (.Name x pos) (tC v):=
  fun _ _ _ H _ I h=>wC I hg hm ⟨v,H,I,r,h⟩ hd
variable{a b:Expr}{ta tb:TE}{pos:Pos}
def tB(t:TE):TT:=fun σ H Q=>t σ H fun x H1=>∃c,x=.bl c∧Q c H1
theorem D6{e:Expr}{t:TE}(h:PE X e t)(he:∀whole,isTrue e X.env whole=(do let v ←whole;standAt e.pos;holding [v] (truthy v)):=by intro _;rfl):PT X e (tB t):=by
  intro pins s σ H Q I hw
  refine isTrue_plain (cA (h pins s σ H _ I hw) fun v s1 ⟨x,H1,I1,r1,q1⟩=>?_) (he _)
  obtain⟨d,rfl,q⟩:=q1
  cases r1
  exact wpAny_truthy_bool ⟨H1,I1,q⟩
variable{tA tB':TT}{jj:List Expr}
def FQ(t u:TT):TT:=fun σ H Q=>t σ H fun c H1=>if c=true then u σ H1 Q else Q false H1
def Ha(t u:TT):TT:=fun σ H Q=>t σ H fun c H1=>if c=true then Q true H1 else u σ H1 Q
def FV(t:TT):TT:=fun σ H Q=>t σ H fun c H1=>Q (!c) H1
theorem BZ(ha:PT X a tA):PW X (.BoolOp .And [a] pos) tA:=by
  intro wh pins s σ H Q I h
  refine isTrue_and (cA (ha pins s σ H Q I h) fun c s1 e=>?_)
  cases c with
  | true=>exact isTrue_and_nil e
  | false=>exact e
theorem D8(ha:PT X a tA):PW X (.BoolOp .Or [a] pos) tA:=by
  intro wh pins s σ H Q I h
  refine isTrue_or (cA (ha pins s σ H Q I h) fun c s1 e=>?_)
  cases c with
  | false=>exact isTrue_or_nil e
  | true=>exact e
theorem D7(ha:PT X a tA)(hb:PW X (.BoolOp .And (b::jj) pos) tB'):PW X (.BoolOp .And (a::b::jj) pos) (FQ tA tB'):=by
  intro wh pins s σ H Q I h
  refine isTrue_and (cA (ha pins s σ H _ I h) fun c s1 ⟨H1,I1,q1⟩=>?_)
  cases c with
  | true=>exact hb wh pins s1 σ H1 Q I1 q1
  | false=>exact⟨H1,I1,q1⟩
theorem Fv(ha:PT X a tA)(hb:PW X (.BoolOp .Or (b::jj) pos) tB'):PW X (.BoolOp .Or (a::b::jj) pos) (Ha tA tB'):=by
  intro wh pins s σ H Q I h
  refine isTrue_or (cA (ha pins s σ H _ I h) fun c s1 ⟨H1,I1,q1⟩=>?_)
  cases c with
  | true=>exact⟨H1,I1,q1⟩
  | false=>exact hb wh pins s1 σ H1 Q I1 q1
theorem DZ(ha:PT X a tA):PT X (.UnaryOp .Not a pos) (FV tA):=by
  intro pins s σ H Q I h
  exact isTrue_not (ha pins s σ H (fun c H1=>Q (!c) H1) I h)
def Hk(t:TT)(ta tb:TE):TE:=fun σ H Q=>t σ H fun c H1=>if c=true then ta σ H1 Q else tb σ H1 Q
theorem zt{c:Expr}(hc:PT X c tA)(ha:PE X a ta)(hb:PE X b tb):PE X (.IfExp c a b pos) (Hk tA ta tb):=by
  intro pins s σ H Q I h
  refine wpAny_IfExp (cA (hc pins s σ H _ I h) fun d s1 ⟨H1,I1,q1⟩=>?_)
  cases d with
  | true=>exact ha pins s1 σ H1 Q I1 q1
  | false=>exact hb pins s1 σ H1 Q I1 q1
end
end L2
namespace L2
open PySem PySem.Spec PyProof.Rows
def d_(K:PySem.W.Frag)(H:Hp)(a:Addr)(xs:List V):Prop:=
  Rd H a (.lst xs)∨
    ∃(o:Obj) (its:Array Value) (n:Nat),K.lookup a=some o∧o.cls=.type "list"∧o.dict=none∧o.data=.seq its n∧its.size≤sizeLine∧aM xs its.toList
def bX(K:PySem.W.Frag)(H:Hp)(a:Addr)(xs:List V):Prop:=
  Rd H a (.tup xs)∨
    ∃(o:Obj) (its:Array Value) (n:Nat),K.lookup a=some o∧o.cls=.type "tuple"∧o.dict=none∧o.data=.seq its n∧its.size≤sizeLine∧aM xs its.toList
def Gw:Value→Option V
  | .none=>some .non
  | .bool b=>some (.bl b)
  | .int i _=>some (.int i)
  | .str x _=>some (.str x)
  | .bytes b _=>some (.byt b)
  | .float b _=>some (.flt b)
  | .ref a=>some (.ref a)
  | .type n=>some (.ty n)
  | _=>none
theorem bA.abs{x:V}{u:Value}(r:bA x u):Gw u=some x:=by
  cases x with
  | non=>cases r;rfl
  | bl _=>cases r;rfl
  | int _=>obtain⟨t,rfl⟩:=r;rfl
  | str _=>obtain⟨t,rfl⟩:=r;rfl
  | byt _=>obtain⟨t,rfl⟩:=r;rfl
  | flt _=>obtain⟨t,rfl⟩:=r;rfl
  | ref _=>cases r;rfl
  | ty _=>cases r;rfl
theorem bA.inj{x y:V}{u:Value}(r:bA x u)(q:bA y u):x=y:=Option.some.inj (r.abs.symm.trans q.abs)
theorem aM.inj:∀{xs ys:List V} {us:List Value},aM xs us→aM ys us→xs=ys
  | _,_,_,.nil,.nil=>rfl
  | _,_,_,.cons r t,.cons r' t'=>by rw [r.inj r',aM.inj t t']
section
variable{X:Cx}{pins:List (Addr × Obj)}{σ:St}{H:Hp}{s:Shared}{a:Addr}{xs ys:List V}
theorem bX.of{K:PySem.W.Frag}(h:H a=some (.tup xs)):bX K H a xs:=.inl (.inl h)
theorem aE.list(I:aE X pins σ H s)(h:d_ X.K H a xs):∃its:List Value,aM xs its∧PlainL s.heap a its.toArray∧xs.length≤sizeLine:=by
  rcases h with h | ⟨o,its,n,hk,hc,hd,hs,hz,r⟩
  · obtain⟨z,its,n,r,e⟩:=h.ok I.hok
    exact⟨its,r,⟨_,n,e,rfl,rfl,rfl⟩,z⟩
  · refine⟨its.toList,r,⟨o,n,I.kIn a o hk,hc,hd,by simpa using hs⟩,?_⟩
    have e:=r.length
    simp only [Array.length_toList] at e
    lia
theorem aE.tuple(I:aE X pins σ H s)(h:bX X.K H a xs):∃its:List Value,aM xs its∧IsTup s.heap a its.toArray∧xs.length≤sizeLine:=by
  rcases h with h | ⟨o,its,n,hk,hc,_,hs,hz,r⟩
  · obtain⟨z,its,r,p⟩:=h.ok I.hok
    exact⟨its,r,p.tup,z⟩
  · refine⟨its.toList,r,⟨o,I.kIn a o hk,hc,n,by simpa using hs⟩,?_⟩
    have e:=r.length
    simp only [Array.length_toList] at e
    lia
theorem aE.list_inj(I:aE X pins σ H s)(h:d_ X.K H a xs)(h':d_ X.K H a ys):xs=ys:=by
  obtain⟨its,r,⟨o,n,e,_,_,d⟩,_⟩:=I.list h
  obtain⟨its',r',⟨o',n',e',_,_,d'⟩,_⟩:=I.list h'
  rw [e] at e';cases e'
  rw [d] at d'
  injection d' with d1 _
  have:its=its':=by simpa using congrArg Array.toList d1
  subst this
  exact r.inj r'
theorem aE.tuple_inj(I:aE X pins σ H s)(h:bX X.K H a xs)(h':bX X.K H a ys):xs=ys:=by
  obtain⟨its,r,⟨o,e,_,n,d⟩,_⟩:=I.tuple h
  obtain⟨its',r',⟨o',e',_,n',d'⟩,_⟩:=I.tuple h'
  rw [e] at e';cases e'
  rw [d] at d'
  injection d' with d1 _
  have:its=its':=by simpa using congrArg Array.toList d1
  subst this
  exact r.inj r'
end
abbrev Cx.wish(X:Cx)(E:Value→Shared→Prop):Cx:={X with xe:=E}
abbrev Cx.nox(X:Cx):Cx:=X.wish fun _ _=>False
theorem Cx.Ok.wish{X:Cx}(ok:X.Ok)(E:Value→Shared→Prop):(X.wish E).Ok:=
  ⟨ok.mod,ok.kind,ok.glob,ok.blt,ok.above,ok.inj,ok.has,ok.cab,ok.hd,ok.frames,ok.stk,ok.exf,ok.bs,ok.bsz,ok.noex,ok.exfs,ok.funs,ok.frf⟩
theorem Cx.Ok.unwish{X:Cx}{E:Value→Shared→Prop}(ok:(X.wish E).Ok):X.Ok:=
  ⟨ok.mod,ok.kind,ok.glob,ok.blt,ok.above,ok.inj,ok.has,ok.cab,ok.hd,ok.frames,ok.stk,ok.exf,ok.bs,ok.bsz,ok.noex,ok.exfs,ok.funs,ok.frf⟩
section
variable{X:Cx}{pins:List (Addr × Obj)}{σ:St}{H:Hp}{s:Shared}{E:Value→Shared→Prop}
theorem aE.wish(I:aE X pins σ H s)(E:Value→Shared→Prop):aE (X.wish E) pins σ H s:=⟨I.ok.wish E,I.os,I.bare,I.base,I.loc,I.cell,I.free,I.freeC,I.pin,I.hok,I.len⟩
theorem aE.unwish(I:aE (X.wish E) pins σ H s):aE X pins σ H s:=⟨I.ok.unwish,I.os,I.bare,I.base,I.loc,I.cell,I.free,I.freeC,I.pin,I.hok,I.len⟩
theorem SP.unwish{D:uC}{f:Flow}{s':Shared}(h:SP (X.wish E) pins D f s'):SP X pins D f s':=by
  cases f with
  | next=>obtain⟨σ',H',I,q⟩:=h;exact⟨σ',H',I.unwish,q⟩
  | brk=>obtain⟨σ',H',I,q⟩:=h;exact⟨σ',H',I.unwish,q⟩
  | cont=>obtain⟨σ',H',I,q⟩:=h;exact⟨σ',H',I.unwish,q⟩
  | ret u=>obtain⟨v,σ',H',I,r,q⟩:=h;exact⟨v,σ',H',I.unwish,r,q⟩
theorem nJ.nox{st:List Stmt}{t:TS}(h:nJ X.nox st t):nJ X st t:=fun pins s σ H D I hw=>
  wpAny_mono (h pins s σ H D (I.wish _) hw) (fun _ _ q=>q.unwish) fun _ _ z=>False.elim z
end
section
variable{X:Cx}{st:Stmt}{jj:List Stmt}{t u:TS}{e:Expr}{te:TE}{pos:Pos}
def FU:TS:=fun D σ H=>D.nx σ H
def G2(t u:TS):TS:=fun D σ H=>t {D with nx:=u D} σ H
theorem BU:nJ X [] FU:=fun _ _ σ H _ I h=>wpAny_execs_nil ⟨σ,H,I,h⟩
theorem zK(h1:PS X st t)(h2:nJ X jj u):nJ X (st::jj) (G2 t u):=by
  intro pins s σ H D I h
  refine wpAny_execs_cons (cA (h1 pins s σ H {D with nx:=u D} I h) fun f s1 q=>?_)
  cases f with
  | next=>
    obtain⟨σ',H',I',q⟩:=q
    exact h2 pins s1 σ' H' D I' q
  | ret v=>exact q
  | brk=>exact q
  | cont=>exact q
theorem BV(h1:PS X st t):nJ X [st] t:=by
  intro pins s σ H D I h
  refine wpAny_execs_cons (cA (h1 pins s σ H D I h) fun f s1 q=>?_)
  cases f with
  | next=>exact wpAny_execs_nil q
  | ret v=>exact q
  | brk=>exact q
  | cont=>exact q
theorem aE.quiet{pins:List (Addr × Obj)}{σ:St}{H:Hp}{s:Shared}(I:aE X pins σ H s):interactive X.env=false:=by simp [interactive,I.ok.kind]
def FR(te:TE):TS:=fun D σ H=>te σ H fun _ H1=>D.nx σ H1
theorem BS(he:PE X e te)(hs:swapsWith e none pos.line X.env=pure false:=by rfl):PS X (.Expr e pos) (FR te):=by
  intro pins s σ H D I h
  exact wpAny_Expr_any (cA (he pins s σ H _ I h) fun v s1 ⟨x,H1,I1,r1,q1⟩=>⟨σ,H1,I1,q1⟩) I.quiet hs
def G1(te:TE):TS:=fun D σ H=>te σ H D.rt
theorem DY(he:PE X e te):PS X (.Return (some e) pos) (G1 te):=by
  intro pins s σ H D I h
  exact wpAny_Return_some (cA (he pins s σ H _ I h) fun v s1 ⟨x,H1,I1,r1,q1⟩=>⟨x,σ,H1,I1,r1,q1⟩)
def GX(c:TT)(t u:TS):TS:=fun D σ H=>c σ H fun b H1=>if b=true then t D σ H1 else u D σ H1
theorem Fu{c:Expr}{a b:List Stmt}{tc:TT}(hc:PT X c tc)(ha:nJ X a t)(hb:nJ X b u):PS X (.If c a b pos) (GX tc t u):=by
  intro pins s σ H D I h
  refine wpAny_If (cA (hc pins s σ H _ I h) fun d s1 ⟨H1,I1,q1⟩=>?_)
  cases d with
  | true=>exact ha pins s1 σ H1 D I1 q1
  | false=>exact hb pins s1 σ H1 D I1 q1
end
abbrev TG:=V→St→Hp→(St→Hp→Prop)→Prop
abbrev AH:=List V→St→Hp→(St→Hp→Prop)→Prop
def PG(X:Cx)(target:Expr)(t:TG):Prop:=
  ∀(pins:List (Addr × Obj)) (s:Shared) (σ:St) (H:Hp) (v:V) (u:Value) (Q:St→Hp→Prop),aE X pins σ H s→bA v u→t v σ H Q→
    wpAny (model X.prog X.w) X.A (assign target X.env u) (fun _ s'=>∃σ' H',aE X pins σ' H' s'∧Q σ' H') X.xe s
def yi(X:Cx)(ts:List Expr)(t:AH):Prop:=
  ∀(pins:List (Addr × Obj)) (s:Shared) (σ:St) (H:Hp) (vs:List V) (us:List Value) (Q:St→Hp→Prop),aE X pins σ H s→aM vs us→t vs σ H Q→
    wpAny (model X.prog X.w) X.A (assignInOrder ((assignEach ts X.env).map (·.2)) us) (fun _ s'=>∃σ' H',aE X pins σ' H' s'∧Q σ' H') X.xe s
abbrev C':=V→V→V→Hp→(Hp→Prop)→Prop
def EO(X:Cx)(t:C'):Prop:=
  ∀(pins:List (Addr × Obj)) (s:Shared) (σ:St) (H:Hp) (o i v:V) (ov iv u:Value) (Q:Hp→Prop),aE X pins σ H s→bA o ov→bA i iv→bA v u→t o i v H Q→
    wpAny (model X.prog X.w) X.A (setItem ov iv u) (fun _ s'=>∃H',aE X pins σ H' s'∧Q H') X.xe s
section
variable{X:Cx}{pos:Pos}
def yP(i:Nat):TG:=fun v σ H Q=>Q (σ.set i (some v)) H
theorem BJ{i:Nat}{x:Str}(hN:X.N.Nodup)(hi:X.N[i]?=some x)(hx:C8 X.env.scope x)(hf:X.fn x=true∨X.env.scope.names.lookup x=some .local:=by first | exact .inl rfl | exact .inr rfl | assumption):PG X (.Name x pos) (yP i):=by
  intro pins s σ H v u Q I r h
  exact wpAny_assign_Name (md I hN hi hx r (fun s' I'=>⟨_,H,I',h⟩) hf)
def Gx:AH:=fun vs σ H Q=>vs=[]∧Q σ H
def E1(t:TG)(u:AH):AH:=fun vs σ H Q=>∃v r,vs=v::r∧t v σ H fun σ' H'=>u r σ' H' Q
theorem BL:yi X [] Gx:=by
  intro pins s σ H vs us Q I r h
  obtain⟨e,h⟩:=h
  subst e
  cases r
  exact assignInOrder_nil ⟨σ,H,I,h⟩
theorem zy{e:Expr}{es:List Expr}{t:TG}{u:AH}(h1:PG X e t)(h2:yi X es u)
    (hs:(assignEach (e::es) X.env).map (·.2)=assign e X.env::(assignEach es X.env).map (·.2):=by rfl):yi X (e::es) (E1 t u):=by
  intro pins s σ H vs us Q I r h
  obtain⟨v,vr,e1,h⟩:=h
  subst e1
  cases r with
  | cons r rr=>
    rw [hs]
    refine assignInOrder_cons (cA (h1 pins s σ H _ _ _ I r h) fun _ s1 ⟨σ1,H1,I1,q1⟩=>?_)
    exact h2 pins s1 σ1 H1 _ _ Q I1 rr q1
def E3(K:PySem.W.Frag)(n:Nat)(t:AH):TG:=fun v σ H Q=>∃a xs,v=.ref a∧bX K H a xs∧xs.length=n∧t xs σ H Q
theorem DR{es:List Expr}{k:Nat}{t:AH}{n:Nat}(hc:X.calm=true)(h:yi X es t)
    (hn:(assignEach es X.env).length=n:=by rfl)(hst:(assignEach es X.env).findIdx? (·.1)=none:=by rfl):PG X (.Tuple es k pos) (E3 X.K n t):=by
  intro pins s σ H v u Q I r hw
  obtain⟨a,xs,e1,hq,hl,hw⟩:=hw
  subst e1
  cases r
  obtain⟨its,rv,ht,hz⟩:=I.tuple hq
  refine assign_Tuple_tuple (I.ok.hd hc) ht (by simp [hn,←hl,rv.length]) hst fun h' hx=>?_
  have I1:aE X pins σ H {s with heap:=h'}:=I.kept (t':=s.toks) fun b o e=>hx b o (Nat.ne_of_lt (Heap.lt_size e)) e
  exact h pins _ σ H xs _ Q I1 (by simpa using rv) hw
def Gy(to ti:TE)(t:C'):TG:=fun v σ H Q=>to σ H fun o H1=>ti σ H1 fun i H2=>t o i v H2 fun H3=>Q σ H3
theorem zx{o i:Expr}{to ti:TE}{t:C'}(ho:PE X o to)(hi:PE X i ti)(hs:EO X t)
    (ha:∀v,assign (.Subscript o i pos) X.env v=(do
      let ov ←holding [v] (eval o X.env)
      let iv ←holding [v,ov] (eval i X.env)
      standAt pos
      holding [v,ov,iv] (setItem ov iv v)
      release [v,ov,iv] []):=by intro _;rfl):PG X (.Subscript o i pos) (Gy to ti t):=by
  intro pins s σ H v u Q I r h
  rw [ha]
  refine wpAny_bind (wpAny_holding (cA (ho pins s σ H _ I h) fun ov s1 ⟨x,H1,I1,r1,q1⟩=>?_))
  refine wpAny_bind (wpAny_holding (cA (hi pins s1 σ H1 _ I1 q1) fun iv s2 ⟨y,H2,I2,r2,q2⟩=>?_))
  refine wpAny_bind (wpAny_standAt (wpAny_bind (wpAny_holding (cA (hs pins s2 σ H2 x y v ov iv u _ I2 r1 r2 r q2) fun _ s3 ⟨H3,I3,q3⟩=>?_))))
  exact wpAny_release ⟨σ,H3,I3,q3⟩
def Es(te:TE)(g:TG):TS:=fun D σ H=>te σ H fun x H1=>g x σ H1 D.nx
theorem vj{tg e:Expr}{te:TE}{g:TG}(he:PE X e te)(hg:PG X tg g)(hs:swapsWithSole [tg] e pos.line X.env=pure false:=by rfl)(hw:swappedStores [tg] e X.env=pure none:=by rfl)
    (h1:(assignEach [tg] X.env).map (·.2)=[assign tg X.env]:=by rfl):PS X (.Assign [tg] e pos) (Es te g):=by
  intro pins s σ H D I h
  refine wpAny_Assign_stores (cA (he pins s σ H _ I h) fun v s1 ⟨x,H1,I1,r1,q1⟩=>?_) hs hw
  rw [h1]
  exact cA (hg pins s1 σ H1 x v _ I1 r1 q1) fun _ s2 q=>q
theorem zI{i:Nat}{x:Str}{e:Expr}{te:TE}{pos':Pos}(hN:X.N.Nodup)(hi:X.N[i]?=some x)(hx:C8 X.env.scope x)(he:PE X e te)(hs:swapsWith e (some (.Name x pos')) pos.line X.env=pure false:=by rfl)(hf:X.fn x=true∨X.env.scope.names.lookup x=some .local:=by first | exact .inl rfl | exact .inr rfl | assumption):
    PS X (.Assign [.Name x pos'] e pos) (Es te (yP i)):=by
  intro pins s σ H D I h
  refine wpAny_Assign_Name (cA (he pins s σ H _ I h) fun v s1 ⟨y,H1,I1,r1,q1⟩=>?_) hs
  exact md I1 hN hi hx r1 (fun s2 I2=>⟨_,H1,I2,q1⟩) hf
def G0(i j:Nat)(ta:TA):TS:=fun D σ H=>ta σ H fun vs H1=>∃v w,vs=[v,w]∧D.nx ((σ.set i (some v)).set j (some w)) H1
theorem DX{i j:Nat}{x y:Str}{a b:Expr}{ta:TA}{px py pt:Pos}{kt k2 pt2}(hc:X.calm=true)(hN:X.N.Nodup)(hi:X.N[i]?=some x)(hj:X.N[j]?=some y)(hij:i≠j)
    (hx:X.env.scope.names.lookup x=some .local)(hy:X.env.scope.names.lookup y=some .local)(ha:PA X [a,b] ta)
    (hw:swappedStores [.Tuple [.Name x px,.Name y py] kt pt] (.Tuple [a,b] k2 pt2) X.env=pure (some [x,y]))
    (hs:swapsWithSole [.Tuple [.Name x px,.Name y py] kt pt] (.Tuple [a,b] k2 pt2) pos.line X.env=pure false:=by rfl):
    PS X (.Assign [.Tuple [.Name x px,.Name y py] kt pt] (.Tuple [a,b] k2 pt2) pos) (G0 i j ta):=by
  intro pins s σ H D I h
  rw [exec_Assign_arm]
  refine wpAny_bind (wpAny_standAt ?_)
  rw [hs]
  refine wpAny_bind (wpAny_pure ?_)
  rw [if_neg (by decide)]
  refine wpAny_bind (Tuple_ (cA (ha _ pins s σ H _ I h) fun us s1 ⟨vs,H1,I1,r1,q1⟩=>?_))
  obtain⟨v,w,e1,q1⟩:=q1
  subst e1
  obtain⟨u1,u2,rfl,rv,rw'⟩:∃u1 u2,us=[u1,u2]∧bA v u1∧bA w u2:=by
    cases r1 with
    | cons p q=>
      cases q with
      | cons p' q'=>
        cases q'
        exact⟨_,_,rfl,p,p'⟩
  refine wpAny_newObj_type ?_ (by show 2≤sizeLine;decide)
  have I2:aE X pins σ H1 {s1 with heap:=s1.heap.push {cls:=.type "tuple",data:=.seq [u1,u2].toArray}}:=I1.kept (t':=s1.toks) fun b o e=>Heap.get?_push_of_some _ e
  rw [hw]
  refine wpAny_bind (wpAny_pure ?_)
  show wpAny (model X.prog X.w) X.A (do rule "assign.swapped-stores";let items ←unpackItems (.ref s1.heap.objs.size) 2 none;assignInOrder [fun v=>bindName X.env y v,fun v=>bindName X.env x v] items.reverse;pure Flow.next) _ _ _
  refine wpAny_bind (wpAny_rule (wpAny_bind (unpackItems_tuple (items:=#[u1,u2]) (I.ok.hd hc) (IsTup.new s1.heap _) fun h' hx'=>?_)))
  have I3:=I2.kept (h':=h') (t':=s1.toks) fun b o e=>hx' b o (Nat.ne_of_lt (Heap.lt_size e)) e
  show wpAny _ _ (assignInOrder [fun v=>bindName X.env y v,fun v=>bindName X.env x v] [u2,u1] >>= fun _=>pure Flow.next) _ _ _
  refine wpAny_bind (assignInOrder_cons (wpAny_bindName (md I3 hN hj (.inl hy) rw' (fun s2 I4=>?_) (.inr hy))))
  refine assignInOrder_cons (wpAny_bindName (md I4 hN hi (.inl hx) rv (fun s3 I5=>assignInOrder_nil (wpAny_pure ?_)) (.inr hx)))
  rw [List.set_comm _ _ (Ne.symm hij)] at I5
  exact⟨_,H1,I5,q1⟩
end
section
variable{X:Cx}{pos:Pos}
def Ew(c:TT)(tb:TS):TS:=fun D σ H=>∃W:Nat→St→Hp→Prop,(∃m,W m σ H)∧∀m σ H,W m σ H→
  c σ H fun b H1=>if b=true then ∃N:St→Hp→Prop,(∀σ' H',N σ' H'→∃m',m' < m∧W m' σ' H')∧tb {D with nx:=N,ct:=N,bk:=D.nx} σ H1 else D.nx σ H1
theorem zJ{c:Expr}{body:List Stmt}{tc:TT}{tb:TS}(hp:PassesOwn (model X.prog X.w) X.A X.env X.xe)(hc:PT X c tc)(hb:nJ X body tb):PS X (.While c body [] pos) (Ew tc tb):=by
  intro pins s σ H D I h
  obtain⟨W,⟨m0,w0⟩,turn⟩:=h
  refine wpAny_While (codeAny_whileLoop (fun n s'=>∃σ' H',aE X pins σ' H' s'∧W n σ' H') ?_ m0 ⟨σ,H,I,w0⟩)
  rintro n s1 ⟨σ1,H1,I1,w1⟩
  refine wpAny_passesOwn hp (cA (hc pins s1 σ1 H1 _ I1 (turn n σ1 H1 w1)) fun b s2 ⟨H2,I2,q2⟩=>?_)
  cases b with
  | true=>
    obtain⟨N,hN,q2⟩:=q2
    rw [if_pos rfl]
    refine wpAny_passesOwn hp (cA (hb pins s2 σ1 H2 _ I2 q2) fun f s3 q3=>?_)
    cases f with
    | next=>
      obtain⟨σ3,H3,I3,n3⟩:=q3
      obtain⟨m',hm,w3⟩:=hN σ3 H3 n3
      exact⟨m',hm,σ3,H3,I3,w3⟩
    | cont=>
      obtain⟨σ3,H3,I3,n3⟩:=q3
      obtain⟨m',hm,w3⟩:=hN σ3 H3 n3
      exact⟨m',hm,σ3,H3,I3,w3⟩
    | brk=>exact q3
    | ret v=>exact q3
  | false=>
    rw [if_neg Bool.false_ne_true]
    exact wpAny_execs_nil ⟨σ1,H2,I2,q2⟩
end
structure It where
  go:Nat→Hp→Prop
  yld:Nat→Hp→V→Hp→Prop
  stop:Nat→Hp→Prop
def iB(X:Cx)(pins:List (Addr × Obj))(H:Hp)(b:Addr):Prop:=
  H b=none∧b≠X.env.locals∧b∉X.fs∧(b∈X.ex∨X.s₀.heap.objs.size≤b)∧(∀x c,X.env.cells.lookup x=some c→c≠b)∧∀p∈X.pn++pins,p.1≠b
theorem aE.fpOk{X:Cx}{pins:List (Addr × Obj)}{σ:St}{H H':Hp}{s:Shared}{b:Addr}(I:aE X pins σ H s)(hb:s.heap.objs.size≤b)(hn:H' b=none):iB X pins H' b:=by
  refine⟨hn,Nat.ne_of_gt (Nat.lt_of_lt_of_le I.lt hb),I.nofs hb,.inr (Nat.le_trans I.sz hb),fun x c e z=>?_,fun p hp z=>?_⟩
  · obtain⟨v,q⟩:=I.cell x c e
    exact absurd (Nat.lt_of_lt_of_le q.lt (by rw [z];exact hb)) (Nat.lt_irrefl _)
  · exact absurd (Nat.lt_of_lt_of_le (Heap.lt_size (I.pin p hp).1) (by rw [z];exact hb)) (Nat.lt_irrefl _)
structure ou (P:Program) (w:World) (K:PySem.W.Frag) (tg:Expr) (J:It) (fp:List Addr) (it:Addr) (tn:Nat→Heap→Prop):Prop where
  mem:it∈fp
  obj:∀i h,tn i h→∀b∈fp,∃o,h.get? b=some o∧∀v,o.data≠.cell v
  keep:∀i h h',tn i h→(∀b∈fp,∀o,h.get? b=some o→h'.get? b=some o)→tn i h'
  item:∀(X:Cx),X.prog=P→X.w=w→X.K=K→X.calm=true→∀(i:Nat) (pins:List (Addr × Obj)) (s:Shared) (σ:St) (H:Hp) (E:Value→Shared→Prop),aE X pins σ H s→(∀b∈fp,iB X pins H b)→tn i s.heap→J.go i H→
    wpAny (model P w) X.A (pyNext (.ref it)) (fun r s1=>∃u,r=some u∧
      wpAny (model P w) X.A (letOwnedTupleGo tg (.ref it) u) (fun _ s2=>∃x H',aE X pins σ H' s2∧bA x u∧J.yld i H x H'∧tn (i+1) s2.heap∧∀b∈fp,H' b=none) E s1) E s
  done:∀(X:Cx),X.prog=P→X.w=w→X.K=K→X.calm=true→∀(i:Nat) (pins:List (Addr × Obj)) (s:Shared) (σ:St) (H:Hp) (E:Value→Shared→Prop),aE X pins σ H s→(∀b∈fp,iB X pins H b)→tn i s.heap→J.stop i H→
    wpAny (model P w) X.A (pyNext (.ref it)) (fun r s1=>r=none∧aE X pins σ H s1) E s
  self:∀(A:Around) (i:Nat) (s:Shared) (Q:Value→Shared→Prop) (E:Value→Shared→Prop),tn i s.heap→Q (.ref it) s→wpAny (model P w) A (pyIter (.ref it)) Q E s
abbrev TI:=St→Hp→(It→Hp→Prop)→Prop
def G6(X:Cx)(pins:List (Addr × Obj))(σ:St)(tg:Expr)(R:It→Hp→Prop)(itv:Value)(s2:Shared):Prop:=
  ∃(it:Addr) (fp:List Addr) (tn:Nat→Heap→Prop) (J:It) (H':Hp),itv=.ref it∧aE X pins σ H' s2∧ou X.prog X.w X.K tg J fp it tn∧tn 0 s2.heap∧(∀b∈fp,iB X pins H' b)∧R J H'
def PI(X:Cx)(tg iter:Expr)(wi:TI):Prop:=
  ∀(pins:List (Addr × Obj)) (s:Shared) (σ:St) (H:Hp) (R:It→Hp→Prop),aE X pins σ H s→wi σ H R→
    wpAny (model X.prog X.w) X.A (eval iter X.env) (fun v s1=>wpAny (model X.prog X.w) X.A (pyIter v) (G6 X pins σ tg R) X.xe s1) X.xe s
theorem ww{M:Model}{A:Around}{E:Value→Shared→Prop}{s:Shared}{tg:Expr}{it:Addr}{u:Value}{o:Obj}{n:String}{vs:Array Value}{Q:Unit→Shared→Prop}(ho:s.heap.get? it=some o)(hc:o.cls=.type n)(hd:o.data=.fields vs)
    (hn:["enumerate","zip","dict_itemiterator","dict_reverseitemiterator","odict_iterator","itertools.zip_longest","itertools.pairwise"].contains n=false)(hQ:Q () s):wpAny M A (letOwnedTupleGo tg (.ref it) u) Q E s:=by
  unfold letOwnedTupleGo
  cases tg<;>first
    | exact wpAny_pure hQ
    | (cases u<;>first
        | exact wpAny_pure hQ
        | (refine wpAny_bind (wpAny_load ho ?_)
           rw [hc,hd]
           show wpAny M A (if (["enumerate","zip","dict_itemiterator","dict_reverseitemiterator","odict_iterator","itertools.zip_longest","itertools.pairwise"].contains n&&vs[0]?==some (rawInt _))=true then _ else _) Q E s
           rw [if_neg (by intro h;rw [hn,Bool.false_and] at h;cases h)]
           exact wpAny_pure hQ))
def Gp(K:PySem.W.Frag)(a:Addr):It:=
  ⟨fun i H=>∃xs x,d_ K H a xs∧xs[i]?=some x,fun i H x H'=>H'=H∧∀xs,d_ K H a xs→xs[i]?=some x,fun i H=>∃xs,d_ K H a xs∧xs.length≤i⟩
def Gq(K:PySem.W.Frag)(a:Addr):It:=
  ⟨fun i H=>∃xs x,bX K H a xs∧xs[i]?=some x,fun i H x H'=>H'=H∧∀xs,bX K H a xs→xs[i]?=some x,fun i H=>∃xs,bX K H a xs∧xs.length≤i⟩
def Gc(lo:Int)(n:Nat):It:=⟨fun i _=>i < n,fun i H x H'=>H'=H∧x=.int (lo+i),fun i _=>n≤i⟩
theorem yc{P:Program}{w:World}{K:PySem.W.Frag}{tg:Expr}(a it:Addr):ou P w K tg (Gp K a) [it] it (fun i h=>h.IsListIter it a i) where
  mem:=by simp
  obj:=fun i h st b hb=>by
    have e:b=it:=by simpa using hb
    subst e
    obtain⟨o,e,c,d⟩:=st
    exact⟨o,e,fun v z=>by rw [d] at z;cases z⟩
  keep:=fun i h h' st k=>st.at fun o e=>k it (by simp) o e
  item:=by
    intro X hP hw hK hc i pins s σ H E I hf st hg
    subst hP hw hK
    obtain⟨xs,x,hq,hx⟩:=hg
    obtain⟨its,rv,p,hz⟩:=I.list hq
    obtain⟨u,hu,ru⟩:=rv.get hx
    obtain⟨f0,f1,f2,f3,f4,f5⟩:=hf it (by simp)
    refine wpAny_pyNext_list_item st p.isList (x:=u) (by simpa using hu) fun h' st' sb=>?_
    have I1:aE X pins σ H {s with heap:=h'}:=I.turned (t':=s.toks) (fun b o hb e=>(sb.2 b hb).trans e) f0 f1 f3 f4 f5
    obtain⟨o,e,c,d⟩:=id st'
    exact⟨u,rfl,ww (s:={s with heap:=h'}) e c d (by decide) ⟨x,H,I1,ru,⟨rfl,fun ys hy=>by rw [I.list_inj hy hq];exact hx⟩,st',fun b hb=>(hf b hb).1⟩⟩
  done:=by
    intro X hP hw hK hc i pins s σ H E I hf st hg
    subst hP hw hK
    obtain⟨xs,hq,hx⟩:=hg
    obtain⟨its,rv,p,hz⟩:=I.list hq
    obtain⟨f0,f1,f2,f3,f4,f5⟩:=hf it (by simp)
    have hl:=rv.length
    exact wpAny_pyNext_list_end (I.ok.hd hc) st p.isList (by simp;lia) fun h' eb=>⟨rfl,I.turned (t':=s.toks) (fun b o hb e=>eb b o hb e) f0 f1 f3 f4 f5⟩
  self:=fun _ _ _ _ _ st h=>wpAny_pyIter_listiter st h
theorem vH{P:Program}{w:World}{K:PySem.W.Frag}{tg:Expr}(a it:Addr):ou P w K tg (Gq K a) [it] it (fun i h=>h.IsTupleIter it a i) where
  mem:=by simp
  obj:=fun i h st b hb=>by
    have e:b=it:=by simpa using hb
    subst e
    obtain⟨o,e,c,d⟩:=st
    exact⟨o,e,fun v z=>by rw [d] at z;cases z⟩
  keep:=fun i h h' st k=>st.at fun o e=>k it (by simp) o e
  item:=by
    intro X hP hw hK hc i pins s σ H E I hf st hg
    subst hP hw hK
    obtain⟨xs,x,hq,hx⟩:=hg
    obtain⟨its,rv,p,hz⟩:=I.tuple hq
    obtain⟨u,hu,ru⟩:=rv.get hx
    obtain⟨f0,f1,f2,f3,f4,f5⟩:=hf it (by simp)
    refine wpAny_pyNext_tuple_item st (show s.heap.IsTuple a its.toArray from p) (x:=u) (by simpa using hu) fun h' st' sb=>?_
    have I1:aE X pins σ H {s with heap:=h'}:=I.turned (t':=s.toks) (fun b o hb e=>(sb.2 b hb).trans e) f0 f1 f3 f4 f5
    obtain⟨o,e,c,d⟩:=id st'
    exact⟨u,rfl,ww (s:={s with heap:=h'}) e c d (by decide) ⟨x,H,I1,ru,⟨rfl,fun ys hy=>by rw [I.tuple_inj hy hq];exact hx⟩,st',fun b hb=>(hf b hb).1⟩⟩
  done:=by
    intro X hP hw hK hc i pins s σ H E I hf st hg
    subst hP hw hK
    obtain⟨xs,hq,hx⟩:=hg
    obtain⟨its,rv,p,hz⟩:=I.tuple hq
    obtain⟨f0,f1,f2,f3,f4,f5⟩:=hf it (by simp)
    have hl:=rv.length
    exact wpAny_pyNext_tuple_end (I.ok.hd hc) st (show s.heap.IsTuple a its.toArray from p) (by simp;lia) fun h' eb=>⟨rfl,I.turned (t':=s.toks) (fun b o hb e=>eb b o hb e) f0 f1 f3 f4 f5⟩
  self:=fun _ _ _ _ _ st h=>wpAny_pyIter_tupleiter st h
theorem vG{P:Program}{w:World}{K:PySem.W.Frag}{tg:Expr}(it:Addr)(lo:Int)(n:Nat):ou P w K tg (Gc lo n) [it] it (fun i h=>IsRangeIter h it (lo+(i:Nat)*1) ((n:Int) - (i:Nat)) 1) where
  mem:=by simp
  obj:=fun i h st b hb=>by
    have e:b=it:=by simpa using hb
    subst e
    exact⟨_,st,fun v z=>by
      have z':Data.fields _=Data.cell v:=z
      cases z'⟩
  keep:=fun i h h' st k=>k it (by simp) _ st
  item:=by
    intro X hP hw hK hc i pins s σ H E I hf st hg
    subst hP hw hK
    obtain⟨f0,f1,f2,f3,f4,f5⟩:=hf it (by simp)
    have W:=Walks.range (prog:=X.prog) (w:=X.w) (I.ok.hd hc) it lo 1 n
    refine W.item i s _ _ hg st fun v h' tk hv st' kk=>?_
    obtain⟨t,rfl⟩:=hv
    have I1:aE X pins σ H {s with heap:=h',toks:=tk}:=I.turned (fun b o hb e=>kk b o (by simpa using hb) e) f0 f1 f3 f4 f5
    refine⟨_,rfl,ww (s:={s with heap:=h',toks:=tk}) (n:="range_iterator") st' rfl rfl (by decide) ⟨.int (lo+i),H,I1,⟨t,?_⟩,⟨rfl,rfl⟩,st',fun b hb=>(hf b hb).1⟩⟩
    rw [Int.mul_one]
  done:=by
    intro X hP hw hK hc i pins s σ H E I hf st hg
    subst hP hw hK
    obtain⟨f0,f1,f2,f3,f4,f5⟩:=hf it (by simp)
    exact wpAny_pyNext_range_end (I.ok.hd hc) st (by have:n≤i:=hg;lia) fun h' eb=>⟨rfl,I.turned (t':=s.toks) (fun b o hb e=>eb b o hb e) f0 f1 f3 f4 f5⟩
  self:=fun _ _ _ _ _ st h=>wpAny_pyIter_rangeiter st h
end L2
namespace L2
open PySem PySem.Spec PyProof.Rows
section
variable{X:Cx}{tg:Expr}
def CH(K:PySem.W.Frag)(tl:TE):TI:=fun σ H R=>tl σ H fun x H1=>∃a,x=.ref a∧(∃xs,d_ K H1 a xs)∧R (Gp K a) H1
def E6(K:PySem.W.Frag)(tl:TE):TI:=fun σ H R=>tl σ H fun x H1=>∃a,x=.ref a∧(∃xs,bX K H1 a xs)∧R (Gq K a) H1
theorem BM{l:Expr}{tl:TE}(hl:PE X l tl):PI X tg l (CH X.K tl):=by
  intro pins s σ H R I h
  refine cA (hl pins s σ H _ I h) fun v s1 ⟨x,H1,I1,r1,q1⟩=>?_
  obtain⟨a,e,⟨xs,hq⟩,q⟩:=q1
  subst e
  cases r1
  obtain⟨its,rv,p,hz⟩:=I1.list hq
  refine wpAny_pyIter_list p.isList ?_
  refine⟨s1.heap.objs.size,[s1.heap.objs.size],_,_,H1,rfl,I1.kept (t':=s1.toks) fun b o e=>Heap.get?_push_of_some _ e,yc a _,⟨_,Heap.get?_push_size _ rfl,rfl,rfl⟩,fun b hb=>?_,q⟩
  have e:b=s1.heap.objs.size:=by simpa using hb
  subst e
  exact I1.fpOk (Nat.le_refl _) (I1.hok.fresh (Nat.le_refl _))
theorem DT{l:Expr}{tl:TE}(hl:PE X l tl):PI X tg l (E6 X.K tl):=by
  intro pins s σ H R I h
  refine cA (hl pins s σ H _ I h) fun v s1 ⟨x,H1,I1,r1,q1⟩=>?_
  obtain⟨a,e,⟨xs,hq⟩,q⟩:=q1
  subst e
  cases r1
  obtain⟨its,rv,p,hz⟩:=I1.tuple hq
  refine wpAny_pyIter_tuple (show s1.heap.IsTuple a its.toArray from p) ?_
  refine⟨s1.heap.objs.size,[s1.heap.objs.size],_,_,H1,rfl,I1.kept (t':=s1.toks) fun b o e=>Heap.get?_push_of_some _ e,vH a _,⟨_,Heap.get?_push_size _ rfl,rfl,rfl⟩,fun b hb=>?_,q⟩
  have e:b=s1.heap.objs.size:=by simpa using hb
  subst e
  exact I1.fpOk (Nat.le_refl _) (I1.hok.fresh (Nat.le_refl _))
theorem zX{pins:List (Addr × Obj)}{σ:St}{H:Hp}{s:Shared}{R:It→Hp→Prop}{E:Value→Shared→Prop}{lo hi:Int}{t u v:Tok}{tk:Nat}(I:aE X pins σ H s)(h1: -(2 ^ 62)≤lo)(h2:lo < 2 ^ 62)(h3: -(2 ^ 62)≤hi)(h4:hi < 2 ^ 62)
    (q:R (Gc lo (hi - lo).toNat) H):wpAny (model X.prog X.w) X.A (pyIter (.ref s.heap.objs.size)) (G6 X pins σ tg R) E {s with heap:=s.heap.push {cls:=.type "range",data:=.fields #[.int lo t,.int hi u,.int 1 v]},toks:=tk}:=by
  refine wpAny_pyIter_range (IsRange.new ..) (small_one h1 h2 h3 h4) ?_
  have I1:aE X pins σ H {s with heap:=s.heap.push {cls:=.type "range",data:=.fields #[.int lo t,.int hi u,.int 1 v]},toks:=tk}:=I.kept fun b o e=>Heap.get?_push_of_some _ e
  refine⟨(s.heap.push {cls:=.type "range",data:=.fields #[.int lo t,.int hi u,.int 1 v]}).objs.size,[(s.heap.push {cls:=.type "range",data:=.fields #[.int lo t,.int hi u,.int 1 v]}).objs.size],_,_,H,rfl,
    I1.kept (t':=tk) fun b o e=>Heap.get?_push_of_some _ e,vG _ lo (hi - lo).toNat,?_,fun b hb=>?_,q⟩
  · have e1:lo+((0:Nat):Int)*1=lo:=by simp
    have e2:(((hi - lo).toNat:Nat):Int) - ((0:Nat):Int)=Builtin.Range.rangeSize lo hi 1:=by rw [rangeSize_one];split<;>lia
    show IsRangeIter _ _ (lo+((0:Nat):Int)*1) ((((hi - lo).toNat:Nat):Int) - ((0:Nat):Int)) 1
    rw [e1,e2]
    exact Heap.get?_push_size _ rfl
  · have e:b=(s.heap.push {cls:=.type "range",data:=.fields #[.int lo t,.int hi u,.int 1 v]}).objs.size:=by simpa using hb
    subst e
    exact I1.fpOk (Nat.le_refl _) (I1.hok.fresh (Nat.le_refl _))
def E5(ta:TA):TI:=fun σ H R=>ta σ H fun vs H1=>∃j:Int,vs=[.int j]∧ -(2 ^ 62)≤j∧j < 2 ^ 62∧R (Gc 0 j.toNat) H1
theorem xR{a:Expr}{ta:TA}{p pos:Pos}(hg:Gl X "range")(hm:X.mg "range"=none)(ha:PA X [a] ta)(hs:starEach [a] X.env=[(false,eval a X.env)]:=by rfl):PI X tg (.Call (.Name "range" p) [a] [] pos) (E5 ta):=by
  intro pins s σ H R I h
  refine Call_ (gD I hg hm boot_range (PyProof.Rows.callWith_type1 (cA (ha pos pins s σ H _ I h) fun us s1 ⟨vs,H1,I1,r1,q1⟩=>?_) hs rfl))
  obtain⟨j,e,q1,q2,q⟩:=q1
  subst e
  cases r1 with
  | cons r rr=>
    cases rr
    obtain⟨t,rfl⟩:=r
    exact call_range_1 (zX I1 (by lia) (by lia) q1 q2 (by simpa using q))
def GW(wi:TI)(g:TG)(tb:TS):TS:=fun D σ H=>wi σ H fun J H1=>∃W:Nat→Nat→St→Hp→Prop,(∃m,W 0 m σ H1)∧∀i m σ H,W i m σ H→
  (J.stop i H∧D.nx σ H)∨(J.go i H∧∃N:St→Hp→Prop,(∀σ' H',N σ' H'→∃m',m' < m∧W (i+1) m' σ' H')∧∀x H',J.yld i H x H'→g x σ H' fun σ2 H2=>tb {D with nx:=N,ct:=N,bk:=D.nx} σ2 H2)
def mF(fp:List Addr)(h:Heap):List (Addr × Obj):=fp.filterMap fun b=>(h.get? b).map fun o=>(b,o)
theorem ey{fp:List Addr}{h:Heap}{b:Addr}{o:Obj}(hb:b∈fp)(e:h.get? b=some o):(b,o)∈mF fp h:=List.mem_filterMap.mpr ⟨b,hb,by rw [e];rfl⟩
theorem xK{fp:List Addr}{h:Heap}{p:Addr × Obj}(hp:p∈mF fp h):p.1∈fp∧h.get? p.1=some p.2:=by
  obtain⟨b,hb,e⟩:=List.mem_filterMap.mp hp
  cases q:h.get? b with
  | none=>rw [q] at e;cases e
  | some o=>
    rw [q] at e
    have e':(b,o)=p:=Option.some.inj e
    subst e'
    exact⟨hb,q⟩
theorem aE.pinned{pins:List (Addr × Obj)}{σ:St}{H:Hp}{s:Shared}{fp:List Addr}(I:aE X pins σ H s)(hf:∀b∈fp,iB X pins H b)(ho:∀b∈fp,∃o,s.heap.get? b=some o∧∀v,o.data≠.cell v):aE X (pins++mF fp s.heap) σ H s:=
  I.pins_of fun p hp=>(List.mem_append.mp hp).elim (fun z=>I.pin p (List.mem_append_right _ z)) fun z=>by
    obtain⟨hb,e⟩:=xK z
    obtain⟨f0,f1,f2,_⟩:=hf p.1 hb
    obtain⟨o,e',d⟩:=ho p.1 hb
    rw [e] at e';cases e'
    exact⟨e,f0,f1,f2,d⟩
theorem aE.unpinned{pins pl:List (Addr × Obj)}{σ:St}{H:Hp}{s:Shared}(I:aE X (pins++pl) σ H s):aE X pins σ H s:=I.pins_of fun p hp=>I.pin p (List.mem_append_right _ (List.mem_append_left _ hp))
theorem DV{iter:Expr}{body:List Stmt}{wi:TI}{g:TG}{tb:TS}{pos:Pos}(hp:PassesOwn (model X.prog X.w) X.A X.env X.xe)(hc:X.calm=true)(hi:PI X tg iter wi)(hg:PG X tg g)(hb:nJ X body tb)
    (hs:∀x,foldedSetIterable iter X.env x=pure x:=by intro _;rfl):PS X (.For tg iter body [] pos) (GW wi g tb):=by
  intro pins s σ H D I h
  refine wpAny_For (cA (hi pins s σ H _ I h) fun v s1 h1=>cA h1 fun itv s2 h2=>?_) hs
  obtain⟨it,fp,tn,J,H2,e,I2,T,st2,f2,W,⟨m0,w0⟩,turn⟩:=h2
  subst e
  have stat:∀{H':Hp},(∀b∈fp,H' b=none)→∀b∈fp,iB X pins H' b:=fun hn b hb=>⟨hn b hb,(f2 b hb).2⟩
  refine codeAny_forLoop_any (fun n s'=>∃i σ' H',aE X pins σ' H' s'∧tn i s'.heap∧(∀b∈fp,H' b=none)∧W i n σ' H') ?_ m0 ⟨0,σ,H2,I2,st2,fun b hb=>(f2 b hb).1,w0⟩
  rintro n s3 ⟨i,σ3,H3,I3,st3,fr3,w3⟩
  rcases turn i n σ3 H3 w3 with ⟨stop,qn⟩ | ⟨go,N,hN,step⟩
  · refine wpAny_passesOwn hp (cA (T.done X rfl rfl rfl hc i pins s3 σ3 H3 X.xe I3 (stat fr3) st3 stop) fun r s4 ⟨hr,I4⟩=>?_)
    subst hr
    exact wpAny_execs_nil ⟨σ3,H3,I4,qn⟩
  · refine wpAny_passesOwn hp (cA (T.item X rfl rfl rfl hc i pins s3 σ3 H3 X.xe I3 (stat fr3) st3 go) fun r s4 ⟨u,hr,h4⟩=>?_)
    subst hr
    refine wpAny_passesOwn hp (cA h4 fun _ s5 ⟨x,H5,I5,r5,y5,st5,fr5⟩=>?_)
    have I5':=I5.pinned (stat fr5) (T.obj _ _ st5)
    refine wpAny_passesOwn hp (cA (hg _ s5 σ3 H5 x u _ I5' r5 (step x H5 y5)) fun _ s6 ⟨σ6,H6,I6,q6⟩=>?_)
    refine wpAny_passesOwn hp (cA (hb _ s6 σ6 H6 _ I6 q6) fun f s7 q7=>?_)
    have again:∀{σ7:St} {H7:Hp},aE X (pins++mF fp s5.heap) σ7 H7 s7→N σ7 H7→∃m,m < n∧∃i σ' H',aE X pins σ' H' s7∧tn i s7.heap∧(∀b∈fp,H' b=none)∧W i m σ' H':=fun{σ7 H7} I7 n7=>by
      obtain⟨m',hm,w7⟩:=hN σ7 H7 n7
      refine⟨m',hm,i+1,σ7,H7,I7.unpinned,T.keep _ _ _ st5 fun b hb o e=>(I7.pin (b,o) (List.mem_append_right _ (List.mem_append_right _ (ey hb e)))).1,fun b hb=>?_,w7⟩
      obtain⟨o,e,d⟩:=T.obj _ _ st5 b hb
      exact(I7.pin (b,o) (List.mem_append_right _ (List.mem_append_right _ (ey hb e)))).2.1
    cases f with
    | next=>obtain⟨σ7,H7,I7,n7⟩:=q7;exact again I7 n7
    | cont=>obtain⟨σ7,H7,I7,n7⟩:=q7;exact again I7 n7
    | brk=>obtain⟨σ7,H7,I7,q7⟩:=q7;exact⟨σ7,H7,I7.unpinned,q7⟩
    | ret v=>obtain⟨x7,σ7,H7,I7,r7,q7⟩:=q7;exact⟨x7,σ7,H7,I7.unpinned,r7,q7⟩
end
end L2
namespace L2
open PySem PySem.Spec PyProof.Rows
abbrev R2:=V→V→Hp→VK→Prop
def jo(X:Cx)(f:Value→Value→Sem Value)(r:R2):Prop:=
  ∀(pins:List (Addr × Obj)) (s:Shared) (σ:St) (H:Hp) (x y:V) (v u:Value) (Q:VK),aE X pins σ H s→bA x v→bA y u→r x y H Q→
    wpAny (model X.prog X.w) X.A (f v u) (EP X pins σ Q) X.xe s
def Gg(X:Cx)(f:Value→Sem Value)(r:V→Hp→VK→Prop):Prop:=
  ∀(pins:List (Addr × Obj)) (s:Shared) (σ:St) (H:Hp) (x:V) (v:Value) (Q:VK),aE X pins σ H s→bA x v→r x H Q→
    wpAny (model X.prog X.w) X.A (f v) (EP X pins σ Q) X.xe s
def fH(X:Cx)(f:Value)(r:List V→Hp→VK→Prop):Prop:=
  ∀(pins:List (Addr × Obj)) (s:Shared) (σ:St) (H:Hp) (xs:List V) (us:List Value) (Q:VK),aE X pins σ H s→aM xs us→r xs H Q→
    wpAny (model X.prog X.w) X.A (call f us) (EP X pins σ Q) X.xe s
def FW(r:R2)(ta tb:TE):TE:=fun σ H Q=>ta σ H fun x H1=>tb σ H1 fun y H2=>r x y H2 Q
def Hb(r:V→Hp→VK→Prop)(ta:TE):TE:=fun σ H Q=>ta σ H fun x H1=>r x H1 Q
def rI(C:Int→Int→Prop)(g:Int→Int→V):R2:=fun x y H Q=>∃i j,x=.int i∧y=.int j∧C i j∧Q (g i j) H
def xV(g:Int→Int→V):R2:=fun x y H Q=>∃i j,x=.int i∧y=.int j∧Q (g i j) H
def rU(g:Int→V):V→Hp→VK→Prop:=fun x H Q=>∃i,x=.int i∧Q (g i) H
section
variable{X:Cx}{a b c:Expr}{ta tb tc:TE}{pos:Pos}
theorem Da(ha:PE X a ta)(hb:PE X b tb){pins:List (Addr × Obj)}{s:Shared}{σ:St}{H:Hp}{R:V→V→Hp→Prop}(I:aE X pins σ H s)
    (h:ta σ H fun x H1=>tb σ H1 fun y H2=>R x y H2){Q:Value→Shared→Prop}{f:Value→Value→Sem Value}
    (hf:∀v u s2 x y H2,aE X pins σ H2 s2→bA x v→bA y u→R x y H2→wpAny (model X.prog X.w) X.A (f v u) Q X.xe s2):
    wpAny (model X.prog X.w) X.A (eval a X.env) (fun v s₁=>wpAny (model X.prog X.w) X.A (eval b X.env) (fun u s₂=>wpAny (model X.prog X.w) X.A (f v u) Q X.xe s₂) X.xe s₁) X.xe s:=by
  refine cA (ha pins s σ H _ I h) fun v s1 ⟨x,H1,I1,r1,q1⟩=>?_
  refine cA (hb pins s1 σ H1 _ I1 q1) fun u s2 ⟨y,H2,I2,r2,q2⟩=>?_
  exact hf v u s2 x y H2 I2 r1 r2 q2
theorem CT{op:Operator}{r:R2}(ho:jo X (binaryOp op) r)(ha:PE X a ta)(hb:PE X b tb):PE X (.BinOp a op b pos) (FW r ta tb):=by
  intro pins s σ H Q I h
  exact wpAny_BinOp (Da ha hb I h fun v u s2 x y H2 I2 rx ry q=>ho pins s2 σ H2 x y v u Q I2 rx ry q)
theorem Fs{op:UnaryOp}{r:V→Hp→VK→Prop}(ho:Gg X (unaryOp op) r)(ha:PE X a ta):PE X (.UnaryOp op a pos) (Hb r ta):=by
  intro pins s σ H Q I h
  exact UnaryOp_ (cA (ha pins s σ H _ I h) fun v s1 ⟨x,H1,I1,r1,q1⟩=>ho pins s1 σ H1 x v Q I1 r1 q1)
theorem Fi{f:Value→Value→Sem Value}{C:Int→Int→Prop}{g:Int→Int→Int}
    (rule:∀(i j:Int) (t u:Tok) (s:Shared) (Q:Value→Shared→Prop) (E:Value→Shared→Prop),C i j→Q (.int (g i j) s.toks) {s with toks:=s.toks+1}→wpAny (model X.prog X.w) X.A (f (.int i t) (.int j u)) Q E s):
    jo X f (rI C fun i j=>.int (g i j)):=by
  intro pins s σ H x y v u Q I rx ry h
  obtain⟨i,j,rfl,rfl,hc,q⟩:=h
  obtain⟨t,rfl⟩:=rx
  obtain⟨t',rfl⟩:=ry
  exact rule i j t t' s _ _ hc ⟨.int (g i j),H,I.tok _,⟨_,rfl⟩,q⟩
theorem Fj{f:Value→Value→Sem Value}{g:Int→Int→Int}
    (rule:∀(i j:Int) (t u:Tok) (s:Shared) (Q:Value→Shared→Prop) (E:Value→Shared→Prop),Q (.int (g i j) s.toks) {s with toks:=s.toks+1}→wpAny (model X.prog X.w) X.A (f (.int i t) (.int j u)) Q E s):
    jo X f (xV fun i j=>.int (g i j)):=by
  intro pins s σ H x y v u Q I rx ry h
  obtain⟨i,j,rfl,rfl,q⟩:=h
  obtain⟨t,rfl⟩:=rx
  obtain⟨t',rfl⟩:=ry
  exact rule i j t t' s _ _ ⟨.int (g i j),H,I.tok _,⟨_,rfl⟩,q⟩
theorem DF{f:Value→Value→Sem Value}{g:Int→Int→Bool}
    (rule:∀(i j:Int) (t u:Tok) (s:Shared) (Q:Value→Shared→Prop) (E:Value→Shared→Prop),Q (.bool (g i j)) s→wpAny (model X.prog X.w) X.A (f (.int i t) (.int j u)) Q E s):
    jo X f (xV fun i j=>.bl (g i j)):=by
  intro pins s σ H x y v u Q I rx ry h
  obtain⟨i,j,rfl,rfl,q⟩:=h
  obtain⟨t,rfl⟩:=rx
  obtain⟨t',rfl⟩:=ry
  exact rule i j t t' s _ _ ⟨.bl (g i j),H,I,rfl,q⟩
def C5(i j:Int):Prop:=0≤j∧j≤1000000∧i.natAbs < 2 ^ 64
def AR(i j:Int):Prop:=(-(2 ^ 64) < i∧i < 2 ^ 64)∨(-(2 ^ 64) < j∧j < 2 ^ 64)
theorem AR.ok{i j:Int}(h:AR i j):IntMulOk i j:=by
  rcases h with ⟨h1,h2⟩ | ⟨h1,h2⟩
  · exact .of_left (intBits_le_64 h1 h2)
  · exact .of_right (intBits_le_64 h1 h2)
theorem zm:jo X (binaryOp .Add) (xV fun i j=>.int (i+j)):=Fj fun _ _ _ _ _ _ _ q=>add_int q
theorem DP:jo X (binaryOp .Sub) (xV fun i j=>.int (i - j)):=Fj fun _ _ _ _ _ _ _ q=>sub_int q
theorem DL:jo X (binaryOp .Mult) (rI AR fun i j=>.int (i*j)):=Fi fun _ _ _ _ _ _ _ hc q=>mul_int q hc.ok
theorem Bw:jo X (binaryOp .Mod) (rI (fun _ j=>j≠0) fun i j=>.int (i.fmod j)):=Fi fun _ _ _ _ _ _ _ hc q=>mod_int' hc q
theorem DN:jo X (binaryOp .Pow) (rI C5 fun i j=>.int (i ^ j.toNat)):=Fi fun _ _ _ _ _ _ _ hc q=>pow_int_small hc.1 hc.2.1 hc.2.2 q
theorem Hm{f:Value→Sem Value}{g:Int→Int}
    (rule:∀(i:Int) (t:Tok) (s:Shared) (Q:Value→Shared→Prop) (E:Value→Shared→Prop),Q (.int (g i) s.toks) {s with toks:=s.toks+1}→wpAny (model X.prog X.w) X.A (f (.int i t)) Q E s):
    Gg X f (rU fun i=>.int (g i)):=by
  intro pins s σ H x v Q I rx h
  obtain⟨i,rfl,q⟩:=h
  obtain⟨t,rfl⟩:=rx
  exact rule i t s _ _ ⟨.int (g i),H,I.tok _,⟨_,rfl⟩,q⟩
theorem ED:Gg X (unaryOp .USub) (rU fun i=>.int (-i)):=Hm fun _ _ _ _ _ q=>neg_int q
end
section
variable{X:Cx}{a b c:Expr}{ta tb tc:TE}{pos:Pos}
theorem Fn:jo X (compareOp .Lt) (xV fun i j=>.bl (decide (i < j))):=DF fun _ _ _ _ _ _ _ q=>lt_int q
theorem Fm:jo X (compareOp .Gt) (xV fun i j=>.bl (decide (j < i))):=DF fun _ _ _ _ _ _ _ q=>gt_int q
theorem Fk:jo X (compareOp .GtE) (xV fun i j=>.bl (decide (j≤i))):=DF fun _ _ _ _ _ _ _ q=>ge_int q
theorem jo.or{f:Value→Value→Sem Value}{r r':R2}(h:jo X f r)(h':jo X f r'):jo X f (fun x y H Q=>r x y H Q∨r' x y H Q):=by
  intro pins s σ H x y v u Q I rx ry q
  rcases q with q | q
  · exact h pins s σ H x y v u Q I rx ry q
  · exact h' pins s σ H x y v u Q I rx ry q
theorem be(b:Expr){op:CmpOp}(h:op≠.In:=by decide)(h2:op≠.NotIn:=by decide):behindInMarks op b=false:=by
  have e1:(op==CmpOp.In)=false:=by cases op<;>first | rfl | exact absurd rfl h
  have e2:(op==CmpOp.NotIn)=false:=by cases op<;>first | rfl | exact absurd rfl h2
  cases b<;>simp [behindInMarks,e1,e2]
theorem BF{op:CmpOp}{r:R2}(ho:jo X (compareOp op) r)(ha:PE X a ta)(hb:PE X b tb)(hm:behindInMarks op b=false):PE X (.Compare a [op] [b] pos) (FW r ta tb):=by
  intro pins s σ H Q I h
  exact wpAny_Compare1 (Da ha hb I h fun v u s2 x y H2 I2 rx ry q=>ho pins s2 σ H2 x y v u Q I2 rx ry q) hm
def FY(t:TE):TT:=fun σ H Q=>t σ H fun x H'=>∃k,x=.bl k∧Q k H'
theorem BW{op:CmpOp}{r:R2}(ho:jo X (compareOp op) r)(ha:PE X a ta)(hb:PE X b tb)(hm:behindInMarks op b=false):PT X (.Compare a [op] [b] pos) (FY (FW r ta tb)):=by
  intro pins s σ H Q I h
  refine wpAny_isTrue_Compare1 (cA (ha pins s σ H _ I h) fun v s1 ⟨x,H1,I1,r1,q1⟩=>cA (hb pins s1 σ H1 _ I1 q1) fun u s2 ⟨y,H2,I2,r2,q2⟩=>
    cA (ho pins s2 σ H2 x y v u _ I2 r1 r2 q2) fun c s3 ⟨z,H3,I3,r3,k,e,q3⟩=>?_) hm
  subst e
  cases r3
  exact wpAny_truthy_bool ⟨H3,I3,q3⟩
theorem rD:(sizeLine:Nat) < 2 ^ 63:=by rw [sizeLine_eq];decide
theorem uv{x:V}{us:List Value}(r:aM [x] us):∃u,us=[u]∧bA x u:=by
  cases r with
  | cons r1 r2=>cases r2;exact⟨_,rfl,r1⟩
theorem C3{x y:V}{us:List Value}(r:aM [x,y] us):∃u w',us=[u,w']∧bA x u∧bA y w':=by
  cases r with
  | cons r1 r2=>
    cases r2 with
    | cons r3 r4=>cases r4;exact⟨_,_,rfl,r1,r3⟩
theorem yB:fH X (.builtin "abs") (fun xs H Q=>∃i,xs=[.int i]∧Q (.int (if i < 0 then -i else i)) H):=by
  intro pins s σ H xs us Q I r h
  obtain⟨i,rfl,q⟩:=h
  obtain⟨u,rfl,t,rfl⟩:=uv r
  exact call_abs_int fun u tk=>⟨.int (if i < 0 then -i else i),H,I.tok _,⟨_,rfl⟩,q⟩
theorem xn(hc:X.calm=true):fH X (.builtin "max") (fun xs H Q=>∃i j,xs=[.int i,.int j]∧Q (.int (if j > i then j else i)) H):=by
  intro pins s σ H xs us Q I r h
  obtain⟨i,j,rfl,q⟩:=h
  obtain⟨u,w',rfl,⟨t,rfl⟩,⟨t',rfl⟩⟩:=C3 r
  refine max_two_ints (I.ok.hd hc) fun h' tk k=>⟨_,H,I.kept k,?_,q⟩
  by_cases hj:j > i
  · rw [if_pos hj,if_pos hj];exact⟨_,rfl⟩
  · rw [if_neg hj,if_neg hj];exact⟨_,rfl⟩
theorem xo(hc:X.calm=true):fH X (.builtin "min") (fun xs H Q=>∃i j,xs=[.int i,.int j]∧Q (.int (if j < i then j else i)) H):=by
  intro pins s σ H xs us Q I r h
  obtain⟨i,j,rfl,q⟩:=h
  obtain⟨u,w',rfl,⟨t,rfl⟩,⟨t',rfl⟩⟩:=C3 r
  refine min_two_ints (I.ok.hd hc) fun h' tk k=>⟨_,H,I.kept k,?_,q⟩
  by_cases hj:j < i
  · rw [if_pos hj,if_pos hj];exact⟨_,rfl⟩
  · rw [if_neg hj,if_neg hj];exact⟨_,rfl⟩
theorem xl:fH X (.type "int") (fun xs H Q=>(∃i,xs=[.int i]∧Q (.int i) H)∨∃k,xs=[.bl k]∧Q (.int (if k then 1 else 0)) H):=by
  intro pins s σ H xs us Q I r h
  rcases h with ⟨i,rfl,q⟩ | ⟨k,rfl,q⟩
  · obtain⟨u,rfl,t,rfl⟩:=uv r
    exact call_int_int ⟨.int i,H,I,⟨_,rfl⟩,q⟩
  · obtain⟨u,rfl,r1⟩:=uv r
    cases r1
    exact call_int_bool ⟨.int (if k then 1 else 0),H,I.tok _,⟨_,rfl⟩,q⟩
end
end L2
namespace L2
open PySem PySem.Spec PyProof.Rows
structure Hf (h:Heap) (x dx C:Addr) (mA:Str→Option Value):Prop where
  obj:h.get? x=some (PySem.W.instObj C dx)
  ns:h.Ns1 dx mA
  ne:dx≠x
section
variable{prog:Program}{w:World}{A:Around}{E:Value→Shared→Prop}{s:Shared}{K:PySem.W.Frag}{x dx C f:Addr}{mA:Str→Option Value}{name:Str}{v:Value}
end
section
variable{P:Program}{w:World}{H H':Hp}{h h':Heap}{a C dx:Addr}{fs fs':List (Str × V)}
end
structure Hd (K:PySem.W.Frag) (C:Addr):Prop where
  pg:PySem.W.plainGet K C Str.empty=true
  hd:PySem.W.hasDictIn K C=true
  po:PySem.W.plainOver K C=true
  sa:PySem.W.findIn K (.ref C) "__setattr__"=some (some (.builtin "object.__setattr__"))
structure Ho (K:PySem.W.Frag) (C:Addr) (f:Str) (v:V) (u:Value):Prop where
  at_:PySem.W.findIn K (.ref C) f=some (some u)
  rel:bA v u
  get:PySem.W.specialIn K u "__get__"=some none
  cp:PySem.W.copiedNames.contains f=false
structure He (K:PySem.W.Frag) (C:Addr) (m:Str) (f:Addr):Prop where
  at_:PySem.W.findIn K (.ref C) m=some (some (.ref f))
  fn:PySem.W.isFn K (.ref f)=true
  kp:PySem.W.keepIn K (.ref f)=true
section
variable{X:Cx}{pins:List (Addr × Obj)}{σ:St}{H:Hp}{s:Shared}{a C dx:Addr}{fs:List (Str × V)}{f:Str}{v:V}{A:Around}{E:Value→Shared→Prop}
end
section
variable{X:Cx}{o e value:Expr}{f:Str}{pos pos' tpos:Pos}{ta tv:TE}
end
section
variable{X:Cx}{pins:List (Addr × Obj)}{σ:St}{H:Hp}{s:Shared}{A:Around}{E:Value→Shared→Prop}{Q:Value→Shared→Prop}{c:Value}{b:Bool}
inductive ox (K:PySem.W.Frag) (H:Hp):V→Value→Prop where
  | non:ox K H .non (.type "NoneType")
  | bl (x:Bool):ox K H (.bl x) (.type "bool")
  | int (i:Int):ox K H (.int i) (.type "int")
  | str (x:Str):ox K H (.str x) (.type "str")
  | flt (x:UInt64):ox K H (.flt x) (.type "float")
  | lst {a:Addr} {xs:List V} (e:H a=some (.lst xs)):ox K H (.ref a) (.type "list")
  | frz {a:Addr} {o:Obj} {xs:List V} (e:H a=some (.frz o (.lst xs))):ox K H (.ref a) (.type "list")
  | tup {a:Addr} {xs:List V} (e:H a=some (.tup xs)):ox K H (.ref a) (.type "tuple")
  | dK {a:Addr} {kvs:List (oq × V)} (e:H a=some (.dK kvs)):ox K H (.ref a) (.type "dict")
  | dT {a:Addr} {kvs:List (List oq × V)} (e:H a=some (.dT kvs)):ox K H (.ref a) (.type "dict")
  | ins {a C dx:Addr} {fs:List (Str × V)} (e:H a=some (.ins C dx fs)) (cl:Hd K C) (ha:PySem.W.findIn K (.ref C) "__class__"=some (some (.builtin "object.__class__")))
      (hn:PySem.W.specialIn K (.builtin "object.__class__") "__get__"=some (some (.builtin "getset_descriptor.__get__"))) (htk:PySem.W.takesIn K (.builtin "object.__class__")=some true)
      (hm:PySem.W.mroIn K C (.type "object")=some true):ox K H (.ref a) (.ref C)
end
end L2
namespace L2
open PySem PySem.Spec PyProof.Rows
structure ee (k:Nat) (A:Around):Prop where
  hd:A.handled=none
  dp:A.depth+3*k+5 < recursionLimit
  un:A.units+16*k+200 < cLine
  gd:A.guards=some []
theorem ee.mono{j k:Nat}{A:Around}(r:ee k A)(h:j≤k):ee j A:=⟨r.hd,by have:=r.dp;lia,by have:=r.un;lia,r.gd⟩
theorem ee.deeper{k:Nat}{A:Around}(r:ee (k+1) A)(env:Env):ee k (A.deeper env):=
  ⟨r.hd,by have:=r.dp;show A.depth+1+3*k+5 < _;lia,by have:=r.un;show A.units+3+16*k+200 < _;lia,r.gd⟩
theorem ee.depth{k:Nat}{A:Around}(r:ee k A):A.depth < recursionLimit:=by have:=r.dp;lia
theorem ee.units{k:Nat}{A:Around}(r:ee k A):A.units+64 < cLine:=by have:=r.un;lia
def Eu:TA:=fun _ H Q=>Q [] H
def ud(ta:TE)(tr:TA):TA:=fun σ H Q=>ta σ H fun x H1=>tr σ H1 fun xs H2=>Q (x::xs) H2
section
variable{X:Cx}{e:Expr}{es:List Expr}{te:TE}{t:TA}{pos:Pos}
theorem oX:PA X [] Eu:=fun _ _ _ _ H Q I h=>Calls.spliced_nil ⟨[],H,I,.nil,h⟩
theorem BC(ha:PE X e te)(hr:PA X es t)(hs:starEach (e::es) X.env=(false,eval e X.env)::starEach es X.env:=by rfl):PA X (e::es) (ud te t):=by
  intro pos pins s σ H Q I h
  rw [hs]
  show wpAny _ _ (spliced ((false,eval e X.env)::backTo pos (starEach es X.env))) _ _ s
  refine Calls.spliced_cons (cA (ha pins s σ H _ I h) fun u s1 ⟨x,H1,I1,r1,q1⟩=>?_)
  exact cA (hr pos pins s1 σ H1 _ I1 q1) fun us s2 ⟨xs,H2,I2,r2,q2⟩=>⟨x::xs,H2,I2,.cons r1 r2,q2⟩
def FZ(t:TA):TE:=fun σ H Q=>t σ H fun xs H1=>xs.length≤sizeLine∧∀p,H1 p=none→Q (.ref p) (bi H1 p (.tup xs))
def GY(t:TA):TE:=fun σ H Q=>t σ H fun xs H1=>xs.length≤sizeLine∧∀p,H1 p=none→Q (.ref p) (bi H1 p (.lst xs))
theorem DQ{x1}(h:PA X es t):PE X (.Tuple es x1 pos) (FZ t):=by
  intro pins s σ H Q I hq
  refine wpAny_Tuple_spliced (cA (h pos pins s σ H _ I hq) fun us s1 ⟨xs,H1,I1,r,z,q⟩=>⟨by rw [←r.length];exact z,?_⟩)
  have hf:H1 s1.heap.objs.size=none:=I1.hok.fresh (Nat.le_refl _)
  refine⟨.ref s1.heap.objs.size,bi H1 s1.heap.objs.size (.tup xs),I1.laid (t':=s1.toks) (fun b u e=>Heap.get?_push_of_some _ e) (Nat.le_refl _) ?_,rfl,q _ hf⟩
  exact⟨z,us,r,⟨_,Heap.get?_push_size _ rfl,rfl,_,rfl,rfl⟩⟩
theorem zv(h:PA X es t):PE X (.List es pos) (GY t):=by
  intro pins s σ H Q I hq
  refine wpAny_List_spliced (cA (h pos pins s σ H _ I hq) fun us s1 ⟨xs,H1,I1,r,z,q⟩=>⟨by rw [←r.length];exact z,?_⟩)
  have hf:H1 s1.heap.objs.size=none:=I1.hok.fresh (Nat.le_refl _)
  refine⟨.ref s1.heap.objs.size,bi H1 s1.heap.objs.size (.lst xs),I1.laid (t':=s1.toks) (fun b u e=>Heap.get?_push_of_some _ e) (Nat.le_refl _) ?_,rfl,q _ hf⟩
  exact⟨z,us,0,r,Heap.get?_push_size _ rfl⟩
end
abbrev Sp:=List V→Hp→VK→XK→Prop
abbrev xg:=List Env→Hp→Shared→XK→Value→Shared→Prop
structure AU (P:Program) (w:World) (K:PySem.W.Frag) (mg:Str→Option Value) (base:Heap) (A:Around) (outer:List Env) (s:Shared) (H:Hp):Prop where
  frames:A.frames=some outer
  mod:Mod K mg base
  bs:∀b o,base.get? b=some o→s.heap.get? b=some o∧H b=none
  bsz:base.objs.size≤s.heap.objs.size
  funs:s.heap.FunFrames base outer
  frf:∀b∈yI outer,H b=none
  hok:oo P w H s.heap
  bare:AllBare s.gens
def CE(outer:List Env)(P:Program)(w:World)(H:Hp)(s:Shared)(Q:VK)(u:Value)(s':Shared):Prop:=
  ∃v H',s'.os=s.os∧AllBare s'.gens∧Un (yI outer) [] H H' s.heap s'.heap∧oo P w H' s'.heap∧bA v u∧Q v H'
def CR(CX:xg)(outer:List Env)(P:Program)(w:World)(H:Hp)(s:Shared)(Q:VK)(E:XK)(r:Result)(s':Shared):Prop:=
  match r with
  | .ok (.ret u)=>CE outer P w H s Q u s'
  | .ok _=>False
  | .error e=>CX outer H s E e s'
structure aF (P:Program) (w:World) (K:PySem.W.Frag) (mg:Str→Option Value) (base:Heap) (CX:xg) (k:Nat) (f:Addr) (fd:FuncData) (ps:List Str) (sp:Sp):Prop where
  len:∀vs H Q E,sp vs H Q E→vs.length=ps.length
  run:∀(A:Around) (outer:List Env) (s:Shared) (H:Hp) (args:Args) (us:List Value) (vs:List V) (Q:VK) (E:XK),ee k A→AU P w K mg base A outer s H→BindsTo s fd args (ps.zip us)→aM vs us→sp vs H Q E→
    codeAny (model P w) A (.call (.ref f) args) (CR CX outer P w H s Q E) s
section
variable{X:Cx}{pins:List (Addr × Obj)}{σ:St}{H:Hp}{s s':Shared}
theorem aE.env0(I:aE X pins σ H s):AU X.prog X.w X.K X.mg X.base X.A X.stack s H:=
  ⟨I.ok.frames,I.ok.mod,I.bs,Nat.le_trans I.ok.bsz I.sz,I.stack,I.stkFree,I.hok,I.bare⟩
theorem aE.after{Q:VK}{u:Value}(I:aE X pins σ H s)(h:CE X.stack X.prog X.w H s Q u s'):EP X pins σ Q u s':=by
  obtain⟨v,H',os,bare,un,hok,r,q⟩:=h
  obtain⟨hh,g,d,t,os'⟩:=s'
  obtain rfl:os'=s.os:=os
  exact⟨v,H',I.call (h':=hh) (g':=g) (d':=d) (t':=t) (ch:=[]) un hok bare (fun b z=>absurd z (by simp)),r,q⟩
end
def Ap(sp:Sp)(dvs:List V)(E:XK)(t:TA):TE:=fun σ H Q=>t σ H fun vs H1=>sp (vs++dvs) H1 Q E
def p_(K:PySem.W.Frag)(fd:FuncData)(ps:List Str)(ds:List Value):Prop:=
  ∀(s:Shared) (us:List Value),K.In s.heap→(us++ds).length=ps.length→BindsTo s fd ⟨us,[]⟩ (ps.zip (us++ds))
theorem p_.all{K:PySem.W.Frag}{fd:FuncData}{ps:List Str}(h:∀us:List Value,us.length=ps.length→bindArgs fd ⟨us,[]⟩=pure (ps.zip us)):p_ K fd ps []:=fun s us _ hl=>by
  rw [List.append_nil] at hl ⊢
  exact .of_eq (h us hl)
def uD(CX:xg)(X:Cx)(E:XK):Prop:=∀(pins:List (Addr × Obj)) (σ:St) (H:Hp) (s:Shared) (e:Value) (s':Shared),aE X pins σ H s→CX X.stack H s E e s'→X.xe e s'
section
variable{X:Cx}{CX:xg}{k:Nat}{f C:Addr}{fd:FuncData}{ps:List Str}{sp:Sp}{dvs:List V}{ds:List Value}{E:XK}{x m:Str}{p pos apos:Pos}{e o:Expr}{es:List Expr}{ta:TE}{t:TA}
theorem Em{pins:List (Addr × Obj)}{σ:St}{H:Hp}{s:Shared}{Q:VK}{us:List Value}{vs:List V}(F:aF X.prog X.w X.K X.mg X.base CX k f fd ps sp)(hr:ee k X.A)(hb:p_ X.K fd ps ds)(hd:aM dvs ds)(hx:uD CX X E)
    (I:aE X pins σ H s)(r:aM vs us)(h:sp (vs++dvs) H Q E):wpAny (model X.prog X.w) X.A (call (.ref f) us) (EP X pins σ Q) X.xe s:=by
  have r2:aM (vs++dvs) (us++ds):=r.append hd
  have hl:(us++ds).length=ps.length:=by rw [←r2.length];exact F.len _ _ _ _ h
  refine wpAny_call (codeAny_mono (F.run X.A X.stack s H ⟨us,[]⟩ (us++ds) (vs++dvs) Q E hr I.env0 (hb s us I.kIn hl) r2 h) fun r s' hq=>?_)
  cases r with
  | error e=>exact hx pins σ H s e s' I hq
  | ok fl=>
    cases fl with
    | ret u=>exact I.after hq
    | next=>exact False.elim hq
    | brk=>exact False.elim hq
    | cont=>exact False.elim hq
theorem BE(F:aF X.prog X.w X.K X.mg X.base CX k f fd ps sp)(hr:ee k X.A)(hg:Gl X x)(hm:X.mg x=some (.ref f))(hk:PySem.W.keepIn X.K (.ref f)=true)(hb:p_ X.K fd ps ds)(hd:aM dvs ds)(hx:uD CX X E)
    (ha:PA X (e::es) t)(hdb:(x==("__debug__":Str))=false:=by decide)(he:starEach (e::es) X.env=(false,eval e X.env)::starEach es X.env:=by rfl)(hpl:(backTo pos (starEach es X.env)).any (·.1)=false:=by rfl):
    PE X (.Call (.Name x p) (e::es) [] pos) (Ap sp dvs E t):=by
  intro pins s σ H Q I h
  refine wpAny_Call_Name_kw (wC I hg hm ?_ hdb)
  refine PySem.W.callWith_K (h₀:=X.base) I.ok.mod.kin hk (cA (ha pos pins s σ H _ I h) fun us s1 ⟨vs,H1,I1,r,q⟩=>⟨I1.kIn,?_⟩) he hpl
  exact Em F hr hb hd hx I1 r q
structure Mk (K:PySem.W.Frag) (C f:Addr):Prop where
  makes:PySem.W.makesIn K C=true
  init:PySem.W.findIn K (.ref C) "__init__"=some (some (.ref f))
  fn:PySem.W.isFn K (.ref f)=true
  kp:PySem.W.keepIn K (.ref C)=true
end
section
variable{X:Cx}{CX:xg}{k:Nat}{f C:Addr}{fd:FuncData}{ps ks:List Str}{sp:Sp}{E:XK}{x m:Str}{p pos apos kpos:Pos}{e o:Expr}{es:List Expr}{kws:List Keyword}{te ta:TE}{t tk:TA}{nm:Option Str}
structure Gr (K:PySem.W.Frag) (fd:FuncData) (ps ks:List Str) (g:List Value→List Value→List Value) (gV:List V→List V→List V):Prop where
  to:∀(s:Shared) (us ws:List Value),K.In s.heap→(g us ws).length=ps.length→BindsTo s fd ⟨us,ks.zip ws⟩ (ps.zip (g us ws))
  rel:∀{vs:List V} {us:List Value} {zs:List V} {ws:List Value},aM vs us→aM zs ws→aM (gV vs zs) (g us ws)
variable{g:List Value→List Value→List Value}{gV:List V→List V→List V}
end
structure aB (N P:List Str) (sc:Scope):Prop where
  kind:sc.kind=.function
  co:sc.isCoroutine=false
  gen:sc.isGenerator=false
  nd:N.Nodup
  pre:N.take P.length=P
  par:∀x∈P,sc.names.lookup x=some .local∨sc.names.lookup x=some .cell
  nofree:∀y∈sc.names,y.2≠.free
theorem qh{kindOf:Str→Option NameKind}{x:Str}:∀{binds:List (Str × Value)} {m:Str→Option Value},(∀v,(x,v)∉binds)→bindL kindOf binds m x=m x
  | [],_,_=>rfl
  | (n,v)::r,m,h=>by
    unfold bindL
    rw [qh fun w hw=>h w (List.mem_cons_of_mem _ hw)]
    split
    · have:x≠n:=by rintro rfl;exact h v List.mem_cons_self
      simp [this]
    · rfl
theorem qf{kindOf:Str→Option NameKind}{x:Str}:∀{binds:List (Str × Value)} {m:Str→Option Value},(∀v,(x,v)∉binds)→bindC kindOf binds m x=m x
  | [],_,_=>rfl
  | (n,v)::r,m,h=>by
    unfold bindC
    rw [qf fun w hw=>h w (List.mem_cons_of_mem _ hw)]
    split
    · rfl
    · have:x≠n:=by rintro rfl;exact h v List.mem_cons_self
      simp [this]
theorem qg{kindOf:Str→Option NameKind}{x:Str}{v:Value}:∀{P:List Str} {vs:List Value} {i:Nat} {m:Str→Option Value},P.Nodup→P[i]?=some x→vs[i]?=some v→kindOf x=some .local→
    bindL kindOf (P.zip vs) m x=some v
  | [],_,_,_,_,h,_,_=>by simp at h
  | _::_,[],_,_,_,_,h,_=>by simp at h
  | p::P,w::vs,0,m,nd,h1,h2,hk=>by
    simp at h1 h2;subst h1;subst h2
    show bindL kindOf ((p,w)::P.zip vs) m p=_
    unfold bindL
    rw [qh fun v hv=>(List.nodup_cons.mp nd).1 (List.of_mem_zip hv).1,if_pos hk]
    simp
  | p::P,w::vs,i+1,m,nd,h1,h2,hk=>by
    show bindL kindOf ((p,w)::P.zip vs) m x=_
    unfold bindL
    exact qg (i:=i) (List.nodup_cons.mp nd).2 (by simpa using h1) (by simpa using h2) hk
theorem qe{kindOf:Str→Option NameKind}{x:Str}{v:Value}:∀{P:List Str} {vs:List Value} {i:Nat} {m:Str→Option Value},P.Nodup→P[i]?=some x→vs[i]?=some v→kindOf x≠some .local→
    bindC kindOf (P.zip vs) m x=some v
  | [],_,_,_,_,h,_,_=>by simp at h
  | _::_,[],_,_,_,_,h,_=>by simp at h
  | p::P,w::vs,0,m,nd,h1,h2,hk=>by
    simp at h1 h2;subst h1;subst h2
    show bindC kindOf ((p,w)::P.zip vs) m p=_
    unfold bindC
    rw [qf fun v hv=>(List.nodup_cons.mp nd).1 (List.of_mem_zip hv).1,if_neg hk]
    simp
  | p::P,w::vs,i+1,m,nd,h1,h2,hk=>by
    show bindC kindOf ((p,w)::P.zip vs) m x=_
    unfold bindC
    exact qe (i:=i) (List.nodup_cons.mp nd).2 (by simpa using h1) (by simpa using h2) hk
def jh(N:List Str)(vs:List V):St:=vs.map some++List.replicate (N.length - vs.length) none
def uP(CX:xg)(P:Program)(w:World)(K:PySem.W.Frag)(mg:Str→Option Value)(base:Heap)(N:List Str)(qual:Str)(scope:Scope)(f:Addr)(cd:Value)(A:Around)(outer:List Env)(s:Shared)(H:Hp)(E:XK):Cx where
  prog:=P
  w:=w
  K:=K
  mg:=mg
  base:=base
  A:=A.deeper (envOfC qual scope s.heap.objs.size f cd)
  N:=N
  s₀:=s
  H₀:=H
  env:=envOfC qual scope s.heap.objs.size f cd
  outer:=outer
  stack:=envOfC qual scope s.heap.objs.size f cd::outer
  ex:=[]
  calm:=true
  fn:=fun _=>true
  pn:=[]
  xe:=fun e s'=>wpAny (model P w) (A.deeper (envOfC qual scope s.heap.objs.size f cd)) (leaving (envOfC qual scope s.heap.objs.size f cd) e) (fun _ s''=>CX outer H s E e s'') (fun e' s''=>CX outer H s E e' s'') s'
theorem sP{sc:Scope}{n:Nat}{x:Str}(h:sc.names.lookup x=some .cell):∃c,(cellsFrom n sc.names []).lookup x=some c:=by
  have q:=PySem.W.cellsFrom_some sc.names n [] (.inl h)
  exact Option.isSome_iff_exists.mp q
theorem xA{CX:xg}{P:Program}{w:World}{K:PySem.W.Frag}{mg:Str→Option Value}{base:Heap}{N ps:List Str}{qual:Str}{scope:Scope}{f:Addr}{cd:Value}{A:Around}{outer:List Env}{s s1:Shared}{H:Hp}{E:XK}{us:List Value}{vs:List V}
    (S:aB N ps scope)(hd:A.handled=none)(e0:AU P w K mg base A outer s H)(hl:vs.length=ps.length)(r:aM vs us)
    (x:InCallC s s.heap.objs.size (bindL (envOfC qual scope s.heap.objs.size f cd).kindOf (ps.zip us) fun _=>none) (cellsFrom (s.heap.objs.size+1) scope.names []) (bindC (envOfC qual scope s.heap.objs.size f cd).kindOf (ps.zip us) fun _=>none) s1):
    aE (uP CX P w K mg base N qual scope f cd A outer s H E) [] (jh N vs) H s1:=by
  have hpl:ps.length≤N.length:=by have:=congrArg List.length S.pre;rw [List.length_take] at this;lia
  obtain⟨h1,tk,rfl,hk⟩:=x.done
  have noA:∀b:Addr,b∉(uP CX P w K mg base N qual scope f cd A outer s H E).ex:=fun b z=>absurd (show b∈([]:List Addr) from z) (by simp)
  refine⟨⟨e0.mod,S.kind,rfl,rfl,Nat.le_refl _,fun y z c h1 h2=>?_,fun y hy=>?_,fun y c _ h=>?_,fun _=>hd,Around.frames_deeper e0.frames,.inr ⟨rfl,rfl⟩,fun b z=>absurd z (noA b),e0.bs,e0.bsz,fun b _ _=>noA b,fun b z=>absurd z (noA b),e0.funs,e0.frf⟩,
    rfl,e0.bare,Un.kept hk,⟨_,x.toInCall.ns,fun i y v h1 h2 h3=>?_⟩,fun y c h=>⟨_,x.cell y c h⟩,e0.hok.fresh (Nat.le_refl _),fun y c h=>?_,fun p hp=>absurd (show p∈([]:List (Addr × Obj)) from hp) (by simp),e0.hok.kept hk,?_⟩
  · exact name_of_addr x.apart (PySem.mem_of_lookup h1) (PySem.mem_of_lookup h2)
  · have hy:scope.names.lookup y=some .cell∨scope.names.lookup y=some .free:=hy
    rcases hy with hy | hy
    · exact sP hy
    · exact absurd rfl (S.nofree _ (PySem.mem_of_lookup hy))
  · exact Nat.le_of_lt (x.above y c (PySem.mem_of_lookup h))
  · have hi:i < vs.length:=by
      unfold jh at h2
      by_cases hi:i < vs.length
      · exact hi
      · rw [List.getElem?_append_right (by simpa using hi)] at h2
        rw [List.getElem?_replicate] at h2
        split at h2<;>cases h2
    have ha:vs[i]?=some v:=by
      unfold jh at h2
      rw [List.getElem?_append_left (by simpa using hi),List.getElem?_map] at h2
      cases e:vs[i]? with
      | none=>rw [e] at h2;cases h2
      | some a=>rw [e] at h2;cases h2;rfl
    obtain⟨u,hu,rv⟩:=r.get ha
    have hp:ps[i]?=some y:=by
      rw [←S.pre,List.getElem?_take_of_lt (by lia)];exact h1
    have ndP:ps.Nodup:=by rw [←S.pre];exact S.nd.sublist (List.take_sublist _ _)
    refine⟨u,rv,?_⟩
    rcases S.par y (List.mem_of_getElem? hp) with k | k
    · exact .inl ⟨k,qg ndP hp hu k⟩
    · obtain⟨c,e⟩:=sP (n:=s.heap.objs.size+1) k
      refine .inr ⟨.inl k,c,e,?_⟩
      have q:=x.cell y c e
      rw [qe ndP hp hu (by show scope.names.lookup y≠_;rw [k];decide)] at q
      exact q
  · exact e0.hok.fresh (Nat.le_of_lt (x.above y c (PySem.mem_of_lookup h)))
  · unfold jh
    show _=N.length
    rw [List.length_append,List.length_map,List.length_replicate]
    lia
theorem EZ{CX:xg}{P:Program}{w:World}{K:PySem.W.Frag}{mg:Str→Option Value}{base:Heap}{k:Nat}{f:Addr}{name qual:Str}{params:Arguments}{body:List Stmt}{scope:Scope}{dV kV doc pm cdv ct oc:Value}{an od:Option Addr}
    {osl:Array (Option Value)}{N ps:List Str}{sp:Sp}(lk:K.lookup f=some ⟨oc,od,.func (PySem.W.fnOf name qual params body scope dV kV doc pm an cdv ct),osl⟩)(hcd:PySem.W.codeIn K cdv qual=true)(S:aB N ps scope)
    (len:∀vs H Q E,sp vs H Q E→vs.length=ps.length)
    (hbody:∀(A:Around) (outer:List Env) (s:Shared) (H:Hp) (vs:List V) (Q:VK) (E:XK),ee k (A.deeper (envOfC qual scope s.heap.objs.size f cdv))→sp vs H Q E→
      ∃t,nJ (uP CX P w K mg base N qual scope f cdv A outer s H E) body t∧t {nx:=fun _ H'=>Q .non H',rt:=Q} (jh N vs) H):
    aF P w K mg base CX (k+1) f (PySem.W.fnOf name qual params body scope dV kV doc pm an cdv ct) ps sp:=by
  refine⟨len,fun A outer s H args us vs Q E hr e0 hb r hsp=>?_⟩
  have hl:=len _ _ _ _ hsp
  have KX:K.In s.heap:=e0.mod.kin.keeps fun b o e=>(e0.bs b o e).1
  have lim:s.heap.NoLimit:=e0.mod.nolimit.keeps fun b o e=>(e0.bs b o e).1
  have hkind:∀y∈ps.zip us,scope.names.lookup y.1=some .local∨(scope.names.lookup y.1=some .cell∧((cellsFrom (s.heap.objs.size+1) scope.names []).lookup y.1).isSome=true):=fun⟨n,v⟩ hy=>by
    rcases S.par n (List.of_mem_zip hy).1 with q | q
    · exact .inl q
    · exact .inr ⟨q,PySem.W.cellsFrom_some _ _ _ (.inl q)⟩
  refine codeAny_call_function hr.depth (KX _ _ lk) rfl S.co S.gen rfl (PySem.W.codeRec_of KX hcd) (hb _ _ _ _ ?_)
  refine wpAny_newFunctionEnv_cells S.kind hkind fun env he s1 x=>?_
  subst he
  refine⟨lim.keeps x.toInCall.keep,codeAny_func ?_⟩
  obtain⟨t,ht,hq⟩:=hbody A outer s H vs Q E (hr.deeper _) hsp
  have I:aE (uP CX P w K mg base N qual scope f cdv A outer s H E) [] (jh N vs) H s1:=xA S hr.hd e0 hl r x
  refine wpAny_mono (ht [] s1 (jh N vs) H _ I hq) (fun fl s' hs=>?_) fun e s' hs=>hs
  have fin:∀{σ':St} {H':Hp} {v:V} {u:Value},aE (uP CX P w K mg base N qual scope f cdv A outer s H E) [] σ' H' s'→bA v u→Q v H'→CE outer P w H s Q u s':=
    fun{σ' H' v u} J rv q=>⟨v,H',J.os,J.bare,J.base,J.hok,rv,q⟩
  cases fl with
  | ret u=>
    obtain⟨v,σ',H',J,rv,q⟩:=hs
    exact fin J rv q
  | next=>
    obtain⟨σ',H',J,q⟩:=hs
    exact fin (v:=V.non) (u:=Value.none) J rfl q
  | brk=>
    obtain⟨_,_,_,q⟩:=hs
    exact False.elim q
  | cont=>
    obtain⟨_,_,_,q⟩:=hs
    exact False.elim q
end L2
namespace L2
open PySem PySem.Spec PyProof.Rows
section
variable{X:Cx}{x:Str}{p pos:Pos}{e:Expr}{es:List Expr}{t:TA}{id T:String}{r:List V→Hp→VK→Prop}
def GU(r:List V→Hp→VK→Prop)(t:TA):TE:=fun σ H Q=>t σ H fun vs H1=>r vs H1 Q
theorem tO(hc:fH X (.builtin id) r)(hg:Gl X x)(hm:X.mg x=none)(hv:bootBuiltins x=some (.builtin id))(ha:PA X (e::es) t)(hn:x≠"__name__":=by decide)(hdb:(x==("__debug__":Str))=false:=by decide)
    (he:starEach (e::es) X.env=(false,eval e X.env)::starEach es X.env:=by rfl)(hpl:(backTo pos (starEach es X.env)).any (·.1)=false:=by rfl):PE X (.Call (.Name x p) (e::es) [] pos) (GU r t):=by
  intro pins s σ H Q I h
  refine wpAny_Call_Name_kw (gD I hg hm hv ?_ hn hdb)
  exact PyProof.Rows.callWith_builtin1 (cA (ha pos pins s σ H _ I h) fun us s1 ⟨vs,H1,I1,r1,q1⟩=>hc pins s1 σ H1 vs us Q I1 r1 q1) he hpl
theorem xQ(hc:fH X (.type T) r)(hg:Gl X x)(hm:X.mg x=none)(hv:bootBuiltins x=some (.type T))(ha:PA X (e::es) t)(hn:x≠"__name__":=by decide)(hdb:(x==("__debug__":Str))=false:=by decide)
    (he:starEach (e::es) X.env=(false,eval e X.env)::starEach es X.env:=by rfl)(hpl:(backTo pos (starEach es X.env)).any (·.1)=false:=by rfl):PE X (.Call (.Name x p) (e::es) [] pos) (GU r t):=by
  intro pins s σ H Q I h
  refine wpAny_Call_Name_kw (gD I hg hm hv ?_ hn hdb)
  exact PyProof.Rows.callWith_type1 (cA (ha pos pins s σ H _ I h) fun us s1 ⟨vs,H1,I1,r1,q1⟩=>hc pins s1 σ H1 vs us Q I1 r1 q1) he hpl
end
end L2
namespace HT
open PySem PyProof.Rows
section
open PySem.SeqAt
open PySem.AutoSeq1 (wpAny_loadPart')
open PySem.MeetsSeq PySem.MeetsSeq2 PySem.MeetsSeq3
end
section
variable{prog:Program}{w:World}{A:Around}{E:Value→Shared→Prop}{s:Shared}
theorem cat_tup{t b:Addr}{vs ws:List Value}{Q:Value→Shared→Prop}(ht:IsTup s.heap t vs.toArray)(hb:IsTup s.heap b ws.toArray)(hv:vs≠[])
    (h1:ws=[]→Q (.ref t) s)(h2:ws≠[]→Q (.ref s.heap.objs.size) {s with heap:=s.heap.push {cls:=.type "tuple",data:=.seq (vs++ws).toArray}})
    (hsz:vs.length+ws.length≤sizeLine):wpAny (model prog w) A (binaryOp .Add (.ref t) (.ref b)) Q E s:=by
  obtain⟨⟨cls,dd,data,sl⟩,ho,hc,n,hd⟩:=id ht
  obtain⟨⟨cls2,dd2,data2,sl2⟩,ho2,hc2,n2,hd2⟩:=id hb
  simp only at hc hd hc2 hd2
  subst hc hd hc2 hd2
  have e:vs.toArray++ws.toArray=(vs++ws).toArray:=by simp
  by_cases hw:ws=[]
  · exact concat_meets ⟨_,ho,rfl⟩ ⟨_,ho2,rfl⟩ noFill_tuple_add seq_tuple_add PySem.F.slot_tuple_add PySem.F.entry_tuple_add (PySem.F.args_tuple_add_2 _ _)
      (tuple_addW1 t b vs.toArray ws.toArray n n2 dd dd2 sl sl2 (by simpa using hv) (by simp [hw])) ⟨ho,ho2,h1 hw⟩
  · refine concat_meets ⟨_,ho,rfl⟩ ⟨_,ho2,rfl⟩ noFill_tuple_add seq_tuple_add PySem.F.slot_tuple_add PySem.F.entry_tuple_add (PySem.F.args_tuple_add_2 _ _)
      (tuple_addW2 t b vs.toArray ws.toArray n n2 dd dd2 sl sl2 (by simpa using hv) (by simpa using hw) (by rw [List.size_toArray,List.size_toArray];exact hsz)) ⟨ho,ho2,?_⟩
    rw [e]
    exact h2 hw
def sIx(n d:Nat):Option Int→Nat
  | none=>d
  | some v=>if v < 0 then(v+(n:Int)).toNat else min v.toNat n
theorem sIx_none(n d:Nat):sIx n d none=d:=rfl
theorem sIx_nat(n d k:Nat):sIx n d (some (k:Int))=min k n:=by
  show(if (k:Int) < 0 then((k:Int)+(n:Int)).toNat else min (k:Int).toNat n)=min k n
  rw [if_neg (by lia),Int.toNat_natCast]
theorem Eo(n d:Nat)(hd:d≤n)(o:Option Int):sIx n d o≤n:=by
  cases o with
  | none=>exact hd
  | some v=>
    show(if v < 0 then(v+(n:Int)).toNat else min v.toNat n)≤n
    by_cases hv:v < 0
    · rw [if_pos hv];lia
    · rw [if_neg hv];exact Nat.min_le_right _ _
theorem wk(v:Int)(n d:Nat):(if v < 0 then max (v+(n:Int)) 0 else min v (n:Int))=((sIx n d (some v):Nat):Int):=by
  show(if v < 0 then max (v+(n:Int)) 0 else min v (n:Int))=(((if v < 0 then(v+(n:Int)).toNat else min v.toNat n):Nat):Int)
  by_cases hv:v < 0
  · simp only [if_pos hv];lia
  · simp only [if_neg hv];lia
theorem uF(lo hi:Option Int)(n:Nat):Builtin.Slice.sliceAdjust lo hi 1 (n:Int)=(((sIx n 0 lo:Nat):Int),((sIx n n hi:Nat):Int)):=by
  have h1:¬((1:Int) < 0):=by lia
  unfold Builtin.Slice.sliceAdjust
  simp only [h1,if_false]
  refine Prod.ext ?_ ?_
  · cases lo with
    | none=>rfl
    | some v=>exact wk v n 0
  · cases hi with
    | none=>rfl
    | some v=>exact wk v n n
theorem vi(i j:Nat):Builtin.Slice.slicePlaces (i:Int) (j:Int) 1=j - i:=by
  unfold Builtin.Slice.slicePlaces
  have h1:(1:Int) > 0:=by lia
  simp only [h1,if_true,Int.ediv_one]
  split<;>lia
theorem pE{v:Value}{o:Option Int}{Q:Option Int→Shared→Prop}(p:IsPart v o)(h:Q o s):wpAny (model prog w) A (Builtin.Slice.slicePartIndex v) Q E s:=by
  cases p with
  | none=>exact slicePart_none h
  | int i t=>exact slicePart_int h
theorem iS{sl:Addr}{vl vu:Value}{lo hi:Option Int}{n:Nat}{Q:Int × Int × Nat→Shared→Prop}(hs:s.heap.IsSliceOf sl vl vu .none)(pl:IsPart vl lo)(pu:IsPart vu hi)
    (h:Q (((sIx n 0 lo:Nat):Int),1,sIx n n hi - sIx n 0 lo) s):wpAny (model prog w) A (Builtin.Slice.sliceApplied (.ref sl) (pure (n:Int))) Q E s:=by
  obtain⟨os,hos,hcs,hds⟩:=id hs
  unfold Builtin.Slice.sliceApplied Builtin.Slice.sliceFields
  refine wpAny_bind (wpAny_bind (wpAny_field hos hds (x:=vl) rfl (wpAny_bind (wpAny_field hos hds (x:=vu) rfl (wpAny_bind (wpAny_field hos hds (x:=.none) rfl (wpAny_pure ?_)))))))
  refine wpAny_bind (slicePart_none ?_)
  show wpAny _ _ (if ((1:Int)==0)=true then _ else _) _ _ s
  rw [if_neg (by decide)]
  refine wpAny_bind (pE pl (wpAny_bind (pE pu (wpAny_bind (wpAny_pure ?_)))))
  show wpAny _ _ (match Builtin.Slice.sliceAdjust lo hi 1 (n:Int) with | (lo,hi)=>pure (lo,(1:Int),Builtin.Slice.slicePlaces lo hi 1)) _ _ s
  rw [uF lo hi n]
  show wpAny _ _ (pure (((sIx n 0 lo:Nat):Int),(1:Int),Builtin.Slice.slicePlaces ((sIx n 0 lo:Nat):Int) ((sIx n n hi:Nat):Int) 1)) _ _ s
  rw [vi]
  exact wpAny_pure h
theorem zE(xs:Array Value)(i k:Nat):((List.range k).filterMap fun(m:Nat)=>xs[((i:Int)+(m:Int)*1).toNat]?).toArray=((xs.toList.drop i).take k).toArray:=by
  have e:(fun(m:Nat)=>xs[((i:Int)+(m:Int)*1).toNat]?)=fun m=>xs[i+m]?:=by
    funext m
    have:((i:Int)+(m:Int)*1).toNat=i+m:=by lia
    rw [this]
  rw [e]
  have:=pick_run xs i k
  rw [List.filterMap_map] at this
  have e2:((fun x=>xs[x]?) ∘ fun x=>i+x)=fun m=>xs[i+m]?:=rfl
  rw [e2] at this
  rw [this]
theorem getItem_tuple_cut{t sl:Addr}{items:Array Value}{vl vu:Value}{lo hi:Option Int}{Q:Value→Shared→Prop}(ht:IsTup s.heap t items)(hs:s.heap.IsSliceOf sl vl vu .none)(pl:IsPart vl lo)(pu:IsPart vu hi)
    (hw:¬(sIx items.size 0 lo=0∧sIx items.size items.size hi=items.size))
    (h:Q (.ref s.heap.objs.size) {s with heap:=s.heap.push {cls:=.type "tuple",data:=.seq ((items.toList.drop (sIx items.size 0 lo)).take (sIx items.size items.size hi - sIx items.size 0 lo)).toArray}})
    (hsz:items.size≤sizeLine):wpAny (model prog w) A (getItem (.ref t) (.ref sl)) Q E s:=by
  have htake:sizeOk (.seq ((items.toList.drop (sIx items.size 0 lo)).take (sIx items.size items.size hi - sIx items.size 0 lo)).toArray):=by
    show((items.toList.drop (sIx items.size 0 lo)).take (sIx items.size items.size hi - sIx items.size 0 lo)).toArray.size≤sizeLine
    rw [List.size_toArray,List.length_take,List.length_drop,Array.length_toList]
    lia
  have hj:sIx items.size items.size hi≤items.size:=Eo _ _ (Nat.le_refl _) hi
  obtain⟨os,hos,hcs,hds⟩:=id hs
  have hTs:s.TypeIs (.ref sl) "slice":=⟨os,hos,hcs⟩
  unfold getItem
  try with_reducible refine wpAny_holding ?_
  first | refine wpAny_bind (wpAny_pure ?_) | skip
  refine wpAny_bind (wpAny_sequenceKey ht.typeIs (by decide) ?_)
  refine wpAny_bind (wpAny_callSpecial?_slot (name:=Str.ofString "__getitem__") ht.typeIs PyProof.Rows.slot_tuple_getitem
    (wpAny_call_entry PyProof.Rows.slot_tuple_getitem ht.typeIs entry_tuple_getitem ?_ (args_tuple_getitem _ _)))
  show wpAny _ _ (Builtin.Tuple.tupleItemsOf (.ref t) >>= _) _ _ s
  refine wpAny_bind (tupleItemsOf_ ht ?_)
  refine wpAny_bind (wpAny_typeOf hTs ?_)
  rw [if_pos (by decide)]
  refine wpAny_bind (iS hs pl pu ?_)
  have hno:¬((((sIx items.size 0 lo:Nat):Int)==0&&(1:Int)==1&&(sIx items.size items.size hi - sIx items.size 0 lo)==items.size)=true):=by
    intro q
    rw [Bool.and_eq_true,Bool.and_eq_true] at q
    have q1:((sIx items.size 0 lo:Nat):Int)=0:=eq_of_beq q.1.1
    have q2:sIx items.size items.size hi - sIx items.size 0 lo=items.size:=eq_of_beq q.2
    exact hw ⟨by lia,by lia⟩
  show wpAny _ _ (if (((sIx items.size 0 lo:Nat):Int)==0&&(1:Int)==1&&(sIx items.size items.size hi - sIx items.size 0 lo)==items.size)=true then _ else _) _ _ s
  rw [if_neg hno,zE]
  first
    | exact wpAny_bind (m:=Builtin.Tuple.tupleExact _) (wpAny_newObj_type (wpAny_pure ⟨_,rfl,wpAny_pure h⟩) htake)
    | exact wpAny_bind (m:=Builtin.Tuple.tupleExact _) (wpAny_newObj_type (wpAny_bind (wpAny_pure (wpAny_pure ⟨_,rfl,wpAny_pure h⟩))) htake)
    | exact wpAny_bind (wpAny_bind (m:=Builtin.Tuple.tupleExact _) (wpAny_newObj_type (wpAny_pure (wpAny_pure ⟨_,rfl,wpAny_pure h⟩)) htake))
    | exact wpAny_bind (wpAny_bind (m:=Builtin.Tuple.tupleExact _) (wpAny_newObj_type (wpAny_pure ⟨_,rfl,wpAny_pure h⟩) htake))
end
end HT
namespace L2
open PySem PySem.Spec PyProof.Rows
abbrev TO:=St→Hp→(Option Int→Hp→Prop)→Prop
def PO(X:Cx)(e:Option Expr)(t:TO):Prop:=
  ∀(pins:List (Addr × Obj)) (s:Shared) (σ:St) (H:Hp) (Q:Option Int→Hp→Prop),aE X pins σ H s→t σ H Q→
    wpAny (model X.prog X.w) X.A (evalPart e X.env) (fun u s'=>∃o H',aE X pins σ H' s'∧IsPart u o∧Q o H') X.xe s
def B_:TO:=fun _ H Q=>Q none H
def FX(t:TE):TO:=fun σ H Q=>t σ H fun x H1=>∃i,x=.int i∧Q (some i) H1
theorem uU{ns:List Int}:∀{us:List Value},aM (ns.map V.int) us→IntsAre us ns:=by
  induction ns with
  | nil=>intro us r;rw [List.map_nil] at r;cases r;exact .nil
  | cons n ns ih=>
    intro us r
    rw [List.map_cons] at r
    cases r with
    | cons r1 r2=>
      obtain⟨t,e⟩:=r1
      subst e
      exact .cons n t (ih r2)
section
variable{X:Cx}{e:Expr}{te:TE}{lo hi:Option Expr}{tl th:TO}{pos p2:Pos}
theorem BO:PO X none B_:=by
  intro pins s σ H Q I h
  rw [evalPart_none]
  exact wpAny_pure ⟨none,H,I,.none,h⟩
theorem BP(h:PE X e te):PO X (some e) (FX te):=by
  intro pins s σ H Q I hw
  rw [evalPart_some]
  refine cA (h pins s σ H _ I hw) fun u s1 ⟨x,H1,I1,r1,q1⟩=>?_
  obtain⟨i,rfl,q⟩:=q1
  obtain⟨t,rfl⟩:=r1
  exact⟨some i,H1,I1,.int i t,q⟩
def AW(X:Cx)(r:V→Option Int→Option Int→Hp→VK→Prop):Prop:=
  ∀(pins:List (Addr × Obj)) (s:Shared) (σ:St) (H:Hp) (x:V) (v vl vu:Value) (lo hi:Option Int) (sl:Addr) (Q:VK),aE X pins σ H s→bA x v→s.heap.IsSliceOf sl vl vu .none→IsPart vl lo→IsPart vu hi→r x lo hi H Q→
    ∃T id,typeLookup (.type T) "__getitem__"=pure (some (.builtin id))∧s.TypeIs v T∧wpAny (model X.prog X.w) X.A (getItem v (.ref sl)) (EP X pins σ Q) X.xe s
theorem AW.or{r r':V→Option Int→Option Int→Hp→VK→Prop}(h:AW X r)(h':AW X r'):AW X (fun x lo hi H Q=>r x lo hi H Q∨r' x lo hi H Q):=by
  intro pins s σ H x v vl vu lo hi sl Q I rx hs pl pu q
  rcases q with q | q
  · exact h pins s σ H x v vl vu lo hi sl Q I rx hs pl pu q
  · exact h' pins s σ H x v vl vu lo hi sl Q I rx hs pl pu q
def Hl(r:V→Option Int→Option Int→Hp→VK→Prop)(te:TE)(tl th:TO):TE:=fun σ H Q=>te σ H fun x H1=>tl σ H1 fun l H2=>th σ H2 fun u H3=>r x l u H3 Q
theorem zw{r:V→Option Int→Option Int→Hp→VK→Prop}(hr:AW X r)(he:PE X e te)(hl:PO X lo tl)(hu:PO X hi th):PE X (.Subscript e (.Slice lo hi none p2) pos) (Hl r te tl th):=by
  intro pins s σ H Q I h
  refine Subscript_ (cA (he pins s σ H _ I h) fun v s1 ⟨x,H1,I1,r1,q1⟩=>?_)
  refine wpAny_Slice (cA (hl pins s1 σ H1 _ I1 q1) fun vl s2 ⟨l,H2,I2,pl,q2⟩=>cA (hu pins s2 σ H2 _ I2 q2) fun vu s3 ⟨u,H3,I3,pu,q3⟩=>?_)
  rw [evalPart_none]
  refine wpAny_pure ?_
  have I4:aE X pins σ H3 {s3 with heap:=s3.heap.push {cls:=.type "slice",data:=.fields #[vl,vu,.none]}}:=I3.kept (t':=s3.toks) fun b ob q=>Heap.get?_push_of_some _ q
  obtain⟨T,id,hT,ht,hg⟩:=hr pins {s3 with heap:=s3.heap.push {cls:=.type "slice",data:=.fields #[vl,vu,.none]}} σ H3 x v vl vu l u s3.heap.objs.size Q I4 r1 (Heap.IsSliceOf.new ..) pl pu q3
  show wpAny (model X.prog X.w) X.A (subscriptTail e (.Slice lo hi none p2) v (.ref s3.heap.objs.size)) (EP X pins σ Q) X.xe {s3 with heap:=s3.heap.push {cls:=.type "slice",data:=.fields #[vl,vu,.none]}}
  exact tail_any (ops:=[.ref s3.heap.objs.size,v]) ht hT hg (by with_unfolding_all rfl)
def pT(xs:List V)(lo hi:Option Int):List V:=(xs.drop (HT.sIx xs.length 0 lo)).take (HT.sIx xs.length xs.length hi - HT.sIx xs.length 0 lo)
theorem mX(xs:List V)(lo hi:Option Int):(pT xs lo hi).length≤xs.length:=by
  unfold pT
  rw [List.length_take,List.length_drop]
  lia
def FK(K:PySem.W.Frag):V→Option Int→Option Int→Hp→VK→Prop:=fun x lo hi H Q=>∃a xs,x=.ref a∧bX K H a xs∧
  ¬(HT.sIx xs.length 0 lo=0∧HT.sIx xs.length xs.length hi=xs.length)∧∀p,H p=none→Q (.ref p) (bi H p (.tup (pT xs lo hi)))
theorem Er:AW X (FK X.K):=by
  intro pins s σ H x v vl vu lo hi sl Q I rx hs pl pu h
  obtain⟨a,xs,rfl,hx,hw,q⟩:=h
  cases rx
  obtain⟨its,r,ht,hz⟩:=I.tuple hx
  have hlen:its.toArray.size=xs.length:=by rw [List.size_toArray];exact r.length.symm
  refine⟨"tuple",_,PyProof.Rows.slot_tuple_getitem.lookup,ht.typeIs,?_⟩
  refine HT.getItem_tuple_cut ht hs pl pu (by rw [hlen];exact hw) ?_ (by rw [hlen];exact hz)
  rw [hlen]
  refine⟨.ref s.heap.objs.size,_,I.laid (t':=s.toks) (o:=.tup (pT xs lo hi)) (fun b ob q=>Heap.get?_push_of_some _ q) (Nat.le_refl _) ?_,rfl,q _ (I.hok.fresh (Nat.le_refl _))⟩
  exact⟨Nat.le_trans (mX xs lo hi) hz,_,(r.drop (HT.sIx xs.length 0 lo)).take (HT.sIx xs.length xs.length hi - HT.sIx xs.length 0 lo),kO.new _ _⟩
def Fy(K:PySem.W.Frag):R2:=fun x y H Q=>∃a b xs ys,x=.ref a∧y=.ref b∧bX K H a xs∧bX K H b ys∧xs≠[]∧xs.length+ys.length≤sizeLine∧
  (ys=[]→Q (.ref a) H)∧(ys≠[]→∀p,H p=none→Q (.ref p) (bi H p (.tup (xs++ys))))
theorem aM.nil_iff{xs:List V}{us:List Value}(r:aM xs us):us=[]↔ xs=[]:=by
  cases r with
  | nil=>simp
  | cons _ _=>simp
theorem Bv:jo X (binaryOp .Add) (Fy X.K):=by
  intro pins s σ H x y v u Q I rx ry h
  obtain⟨a,b,xs,ys,rfl,rfl,ha,hb,hx,hz,q1,q2⟩:=h
  cases rx
  cases ry
  obtain⟨its,r1,p1,_⟩:=I.tuple ha
  obtain⟨its2,r2,p2,_⟩:=I.tuple hb
  refine HT.cat_tup p1 p2 (fun z=>hx (r1.nil_iff.mp z)) (fun z=>⟨.ref a,H,I,rfl,q1 (r2.nil_iff.mp z)⟩) (fun z=>?_) (by rw [←r1.length,←r2.length];exact hz)
  refine⟨.ref s.heap.objs.size,_,I.laid (t':=s.toks) (o:=.tup (xs++ys)) (fun b ob q=>Heap.get?_push_of_some _ q) (Nat.le_refl _) ?_,rfl,q2 (fun w=>z (r2.nil_iff.mpr w)) _ (I.hok.fresh (Nat.le_refl _))⟩
  exact⟨by rw [List.length_append];exact hz,_,r1.append r2,kO.new _ _⟩
end
end L2
namespace L2
open PySem PySem.Spec PyProof.Rows
def k8(n:Nat)(i:Int):Option Nat:=if 0≤i then(if i < n then some i.toNat else none) else if -(n:Int)≤i then some (i+n).toNat else none
def atI{α:Type}(xs:List α)(i:Int):Option α:=(k8 xs.length i).bind fun j=>xs[j]?
theorem wA{n:Nat}{i:Int}{j:Nat}(h:k8 n i=some j):seqIndex? i n=some j∧j < n∧ -(n:Int)≤i∧i < n:=by
  unfold k8 at h
  by_cases h0:0≤i
  · rw [if_pos h0] at h
    by_cases h1:i < n
    · rw [if_pos h1] at h
      have e:i.toNat=j:=Option.some.inj h
      exact⟨by rw [seqIndex_of h0 h1,e],by lia,by lia,h1⟩
    · rw [if_neg h1] at h;cases h
  · rw [if_neg h0] at h
    by_cases h1: -(n:Int)≤i
    · rw [if_pos h1] at h
      have e:(i+n).toNat=j:=Option.some.inj h
      exact⟨by rw [seqIndex_neg (by lia) h1,e],by lia,h1,by lia⟩
    · rw [if_neg h1] at h;cases h
theorem vZ{α:Type}{xs:List α}{i:Int}{v:α}(h:atI xs i=some v):∃j,seqIndex? i xs.length=some j∧xs[j]?=some v∧j < xs.length∧ -(xs.length:Int)≤i∧i < xs.length:=by
  unfold atI at h
  cases e:k8 xs.length i with
  | none=>rw [e] at h;cases h
  | some j=>
    rw [e] at h
    obtain⟨h1,h2,h3,h4⟩:=wA e
    exact⟨j,h1,h,h2,h3,h4⟩
def nP(b:Expr):Prop:=∀o i,subscripted b false o i=operate [o,i] (getItem o i)
def AG(X:Cx)(r:R2):Prop:=
  ∀(value slice:Expr) (pins:List (Addr × Obj)) (s:Shared) (σ:St) (H:Hp) (x y:V) (v u:Value) (Q:VK),aE X pins σ H s→bA x v→bA y u→r x y H Q→
    subscripted slice false v u=operate [v,u] (getItem v u)→wpAny (model X.prog X.w) X.A (subscriptTail value slice v u) (EP X pins σ Q) X.xe s
def G5(X:Cx)(id:String)(r:V→List V→Hp→VK→Prop):Prop:=
  ∀(pins:List (Addr × Obj)) (s:Shared) (σ:St) (H:Hp) (x:V) (xs:List V) (v:Value) (us:List Value) (Q:VK),aE X pins σ H s→bA x v→aM xs us→r x xs H Q→
    wpAny (model X.prog X.w) X.A (call (.builtin id) (v::us)) (EP X pins σ Q) X.xe s
section
variable{X:Cx}{a b:Expr}{ta tb:TE}{pos:Pos}
theorem AG.or{r r':R2}(h:AG X r)(h':AG X r'):AG X (fun x y H Q=>r x y H Q∨r' x y H Q):=by
  intro value slice pins s σ H x y v u Q I rx ry q hs
  rcases q with q | q
  · exact h value slice pins s σ H x y v u Q I rx ry q hs
  · exact h' value slice pins s σ H x y v u Q I rx ry q hs
theorem CS{r:R2}(hr:AG X r)(ha:PE X a ta)(hb:PE X b tb)(hs:nP b):PE X (.Subscript a b pos) (FW r ta tb):=by
  intro pins s σ H Q I h
  exact Subscript_ (Da ha hb I h fun v u s2 x y H2 I2 rx ry q=>hr a b pins s2 σ H2 x y v u Q I2 rx ry q (hs _ _))
def Eg(K:PySem.W.Frag):R2:=fun x y H Q=>∃p xs i v,x=.ref p∧y=.int i∧d_ K H p xs∧atI xs i=some v∧Q v H
def FD(K:PySem.W.Frag):R2:=fun x y H Q=>∃p xs i v,x=.ref p∧y=.int i∧bX K H p xs∧atI xs i=some v∧Q v H
theorem wB:AG X (Eg X.K):=by
  intro value slice pins s σ H x y v u Q I rx ry h hs
  obtain⟨p,xs,i,z,rfl,rfl,hq,he,q⟩:=h
  cases rx
  obtain⟨t,rfl⟩:=ry
  obtain⟨its,r,pl,hz⟩:=I.list hq
  obtain⟨j,h1,h2,h3,h4,h5⟩:=vZ he
  obtain⟨w,ew,rw'⟩:=r.get h2
  have hl:=r.length
  have hn:=rD
  have fin:EP X pins σ Q w s:=⟨z,H,I,rw',q⟩
  by_cases h0:0≤i
  · have hj:i.toNat=j:=by
      rw [seqIndex_of h0 h5] at h1
      exact Option.some.inj h1
    exact item_listR pl.isList h0 (by lia) (by rw [hj];simpa using ew) fin hs
  · have hj:(i+(its.toArray.size:Int)).toNat=j:=by
      rw [seqIndex_neg (by lia) h4] at h1
      rw [List.size_toArray,←hl]
      exact Option.some.inj h1
    exact subscriptTail_builtinR (x:=w) pl.isList.typeIs slot_list_getitem.lookup
      (wpAny_getItem_list_neg (Q:=fun r s'=>r=w∧EP X pins σ Q r s') pl.isList (by lia) (by rw [List.size_toArray]<;>lia) (by lia) (by rw [hj];simpa using ew) ⟨rfl,fin⟩) hs
theorem Dq:AG X (FD X.K):=by
  intro value slice pins s σ H x y v u Q I rx ry h hs
  obtain⟨p,xs,i,z,rfl,rfl,hq,he,q⟩:=h
  cases rx
  obtain⟨t,rfl⟩:=ry
  obtain⟨its,r,pl,hz⟩:=I.tuple hq
  obtain⟨j,h1,h2,h3,h4,h5⟩:=vZ he
  obtain⟨w,ew,rw'⟩:=r.get h2
  have hl:=r.length
  have hn:=rD
  have fin:EP X pins σ Q w s:=⟨z,H,I,rw',q⟩
  exact subscriptTail_builtinR (x:=w) pl.typeIs slot_tuple_getitem.lookup
    (getItem_tuple (j:=j) (Q:=fun r s'=>r=w∧EP X pins σ Q r s') pl (by lia) (by lia) (by rw [List.size_toArray,←hl];exact h1) (by simpa using ew) ⟨rfl,fin⟩) hs
theorem vc(its:List Value)(n j:Nat)(u:Value):Obj.mapSeq (·.setIfInBounds j u) {cls:=.type "list",data:=.seq its.toArray n}={cls:=.type "list",data:=.seq (its.set j u).toArray n}:=by
  simp [Obj.mapSeq]
theorem aE.lst{pins:List (Addr × Obj)}{σ:St}{H:Hp}{s:Shared}{p:Addr}{xs:List V}(I:aE X pins σ H s)(h:H p=some (.lst xs)):
    ∃(its:List Value) (n:Nat),aM xs its∧s.heap.get? p=some {cls:=.type "list",data:=.seq its.toArray n}∧xs.length≤sizeLine:=by
  obtain⟨z,its,n,r,e⟩:=I.hok p _ h
  exact⟨its,n,r,e,z⟩
theorem aE.lstUpd{pins:List (Addr × Obj)}{σ:St}{H:Hp}{s:Shared}{p:Addr}{xs ys:List V}{its its':List Value}{n n':Nat}{f:Obj→Obj}(I:aE X pins σ H s)(h:H p=some (.lst xs))
    (ho:s.heap.get? p=some {cls:=.type "list",data:=.seq its.toArray n})(hf:f {cls:=.type "list",data:=.seq its.toArray n}={cls:=.type "list",data:=.seq its'.toArray n'})(r:aM ys its')(hz:ys.length≤sizeLine)(t:Nat):
    aE X pins σ (bi H p (.lst ys)) {s with heap:=s.heap.update p f,toks:=t}:=by
  have e:(s.heap.update p f).get? p=some {cls:=.type "list",data:=.seq its'.toArray n'}:=by
    rw [Heap.get?_update_self f ho (by rw [hf]<;>rfl),hf]
  refine I.write (x:=p) (e:=p) (by rw [h];trivial) (.inl rfl) (fun b u hb q=>(Heap.get?_update_other _ _ (Ne.symm hb)).trans q) ⟨_,e⟩ ?_
  exact⟨hz,its',n',r,e⟩
def FH:V→V→V→Hp→(Hp→Prop)→Prop:=fun o i v H Q=>∃p xs k j,o=.ref p∧i=.int k∧H p=some (.lst xs)∧k8 xs.length k=some j∧Q (bi H p (.lst (xs.set j v)))
theorem t_:EO X FH:=by
  intro pins s σ H o i v ov iv u Q I ro ri rv h
  obtain⟨p,xs,k,j,rfl,rfl,hp,hj,q⟩:=h
  cases ro
  obtain⟨t,rfl⟩:=ri
  obtain⟨its,n,r,ho,hz⟩:=I.lst hp
  obtain⟨h1,h2,h3,h4⟩:=wA hj
  have hl:=r.length
  have hn:=rD
  have I':aE X pins σ (bi H p (.lst (xs.set j v))) {s with heap:=s.heap.update p (Obj.mapSeq (·.setIfInBounds j u))}:=
    I.lstUpd hp ho (vc its n j u) (r.set rv j) (by rw [List.length_set];exact hz) s.toks
  by_cases h0:0≤k
  · have hk:k.toNat=j:=by
      rw [seqIndex_of h0 h4] at h1
      exact Option.some.inj h1
    exact PySem.W.ki_setAt ho h0 (by lia) (by rw [List.size_toArray,←hl];exact h4) (by rw [hk];exact⟨_,I',q⟩)
  · have hk:(k+(its.toArray.size:Int)).toNat=j:=by
      rw [seqIndex_neg (by lia) h3] at h1
      rw [List.size_toArray,←hl]
      exact Option.some.inj h1
    exact PySem.W.ki_setBack ho (by lia) (by rw [List.size_toArray,←hl];exact h3) (by lia) (by rw [hk];exact⟨_,I',q⟩)
theorem r_(lo hi:Option Int)(n:Nat):(sliceBounds lo hi none n).1=((HT.sIx n 0 lo:Nat):Int)∧(sliceBounds lo hi none n).2.1=((HT.sIx n n hi:Nat):Int)∧(sliceBounds lo hi none n).2.2=1:=by
  refine⟨?_,?_,rfl⟩
  · cases lo with
    | none=>simp [sliceBounds,HT.sIx]
    | some i=>
      simp only [sliceBounds,HT.sIx,Option.getD_none,show(1:Int) > 0 by decide,if_true]
      by_cases h:i < 0
      · simp only [h,if_true]<;>lia
      · simp only [h,if_false]<;>lia
  · cases hi with
    | none=>simp [sliceBounds,HT.sIx]
    | some i=>
      simp only [sliceBounds,HT.sIx,Option.getD_none,show(1:Int) > 0 by decide,if_true]
      by_cases h:i < 0
      · simp only [h,if_true]<;>lia
      · simp only [h,if_false]<;>lia
theorem p8(its:List Value)(lo hi:Option Int):slicePick its.toArray lo hi none=((its.drop (HT.sIx its.length 0 lo)).take (HT.sIx its.length its.length hi - HT.sIx its.length 0 lo)).toArray:=by
  obtain⟨h1,h2,h3⟩:=r_ lo hi its.toArray.size
  unfold slicePick
  rw [h1,h2,h3]
  simp only [sliceRange_one,pick_run,List.size_toArray]<;>rfl
def FJ(K:PySem.W.Frag):V→Option Int→Option Int→Hp→VK→Prop:=fun x lo hi H Q=>∃a xs,x=.ref a∧d_ K H a xs∧∀p,H p=none→Q (.ref p) (bi H p (.lst (pT xs lo hi)))
theorem B7:AW X (FJ X.K):=by
  intro pins s σ H x v vl vu lo hi sl Q I rx hs pl pu h
  obtain⟨a,xs,rfl,hx,q⟩:=h
  cases rx
  obtain⟨its,r,ht,hz⟩:=I.list hx
  have hlen:=r.length
  refine⟨"list",_,slot_list_getitem.lookup,ht.isList.typeIs,?_⟩
  refine wpAny_getItem_list_slice ht.isList hs pl pu .none (by simp) ?_ (by rw [List.size_toArray]<;>lia)
  rw [p8,←hlen]
  refine⟨.ref s.heap.objs.size,_,I.laid (t':=s.toks) (o:=.lst (pT xs lo hi)) (fun b ob q=>Heap.get?_push_of_some _ q) (Nat.le_refl _) ?_,rfl,q _ (I.hok.fresh (Nat.le_refl _))⟩
  exact⟨Nat.le_trans (mX xs lo hi) hz,_,0,(r.drop (HT.sIx xs.length 0 lo)).take (HT.sIx xs.length xs.length hi - HT.sIx xs.length 0 lo),Heap.get?_push_size _ rfl⟩
theorem lC:fH X (.builtin "len") (fun xs H Q=>∃p ys,xs=[.ref p]∧(d_ X.K H p ys∨bX X.K H p ys)∧Q (.int ys.length) H):=by
  intro pins s σ H xs us Q I r h
  obtain⟨p,ys,rfl,hq,q⟩:=h
  obtain⟨u,rfl,rx⟩:=uv r
  cases rx
  have hn:=rD
  rcases hq with hq | hq
  · obtain⟨its,r',pl,hz⟩:=I.list hq
    have hlen:=r'.length
    exact Calls.call_len_list pl.isList (by simp only [List.size_toArray]<;>lia) ⟨.int ys.length,H,I.tok _,⟨s.toks+1,by rw [List.size_toArray,hlen]⟩,q⟩
  · obtain⟨its,r',pl,hz⟩:=I.tuple hq
    have hlen:=r'.length
    exact len_tuple pl (by simp only [List.size_toArray]<;>lia) ⟨.int ys.length,H,I.tok _,⟨s.toks+1,by rw [List.size_toArray,hlen]⟩,q⟩
theorem pS:fH X (.type "tuple") (fun xs H Q=>∃p ys,xs=[.ref p]∧((d_ X.K H p ys∧∀l,H l=none→Q (.ref l) (bi H l (.tup ys)))∨(bX X.K H p ys∧Q (.ref p) H))):=by
  intro pins s σ H xs us Q I r h
  obtain⟨p,ys,rfl,h⟩:=h
  obtain⟨u,rfl,rx⟩:=uv r
  cases rx
  rcases h with ⟨hq,q⟩ | ⟨hq,q⟩
  · obtain⟨its,r',pl,hz⟩:=I.list hq
    have hlen:=r'.length
    refine call_tuple_list pl.isList (fun h' kp=>?_) (by simp only [List.size_toArray]<;>lia)
    have I1:aE X pins σ H {s with heap:=h'}:=I.kept (t':=s.toks) kp
    have I2:aE X pins σ (bi H h'.objs.size (.tup ys)) {s with heap:=h'.push {cls:=.type "tuple",data:=.seq its.toArray}}:=
      I1.laid (t':=s.toks) (fun b o e=>Heap.get?_push_of_some _ e) (Nat.le_refl _) (show gX X.prog X.w _ _ _ (.tup ys) from⟨hz,its,r',kO.new _ _⟩)
    exact⟨.ref h'.objs.size,_,I2,rfl,q _ (I1.hok.fresh (Nat.le_refl _))⟩
  · obtain⟨its,r',pl,hz⟩:=I.tuple hq
    exact call_tuple_same pl ⟨.ref p,H,I,rfl,q⟩
def Hc(K:PySem.W.Frag)(T:String)(x:V)(H:Hp):Prop:=match x with
  | .str _=>T="str"
  | .int _=>T="int"
  | .ref p=>(T="list"∧∃xs,d_ K H p xs)∨(T="tuple"∧∃o,K.lookup p=some o∧o.cls=.type "tuple"∧o.dict=none)∨
      (T="dict"∧((∃kvs,H p=some (.dK kvs))∨∃kvs,H p=some (.dT kvs)))∨(T="set"∧∃S n,H p=some (.set S n))
  | _=>False
theorem EC{pins:List (Addr × Obj)}{σ:St}{H:Hp}{s:Shared}{T:String}{x:V}{v:Value}(I:aE X pins σ H s)(r:bA x v)(ty:Hc X.K T x H):
    s.TypeIs v T∧∀a,v=.ref a→∃ob,s.heap.get? a=some ob∧ob.dict=none:=by
  cases x with
  | str z=>
    obtain⟨t,rfl⟩:=r
    cases (show T="str" from ty)
    exact⟨typeIs_str s z t,fun _ e=>nomatch e⟩
  | int i=>
    obtain⟨t,rfl⟩:=r
    cases (show T="int" from ty)
    exact⟨typeIs_int s i t,fun _ e=>nomatch e⟩
  | ref p=>
    cases r
    rcases ty with ⟨rfl,xs,hq⟩ | ⟨rfl,o,hk,hc,hd⟩ | ⟨rfl,hk⟩ | ⟨rfl,S,n,hk⟩
    · obtain⟨its,_,pl,_⟩:=I.list hq
      refine⟨pl.isList.typeIs,fun a e=>?_⟩
      cases e
      obtain⟨o,n,e,c,hd,_⟩:=pl
      exact⟨o,e,hd⟩
    · refine⟨⟨o,I.kIn p o hk,hc⟩,fun a e=>?_⟩
      cases e
      exact⟨o,I.kIn _ o hk,hd⟩
    · have z:∃o,s.heap.get? p=some o∧o.ExactDict:=by
        rcases hk with ⟨kvs,hk⟩ | ⟨kvs,hk⟩
        · obtain⟨_,_,_,_,o,_,_,e,ex,_⟩:=I.hok p _ hk
          exact⟨o,e,ex⟩
        · obtain⟨_,_,_,_,o,_,_,e,ex,_⟩:=I.hok p _ hk
          exact⟨o,e,ex⟩
      obtain⟨o,e,ex⟩:=z
      refine⟨⟨o,e,ex.1⟩,fun a e2=>?_⟩
      cases e2
      exact⟨o,e,ex.2.1⟩
    · obtain⟨o,_,_,_,e,ex,_⟩:=I.hok p _ hk
      refine⟨⟨o,e,ex.1⟩,fun a e2=>?_⟩
      cases e2
      exact⟨o,e,ex.2.1⟩
  | _=>exact False.elim ty
def G'(K:PySem.W.Frag)(T:String)(r:V→List V→Hp→VK→Prop)(to:TE)(t:TA):TE:=fun σ H Q=>to σ H fun x H1=>Hc K T x H1∧t σ H1 fun xs H2=>r x xs H2 Q
variable{o e:Expr}{es:List Expr}{to:TE}{t:TA}{name:Str}{apos cpos:Pos}{T id:String}{r:V→List V→Hp→VK→Prop}
theorem zr(pa:PlainAttrs T)(slot:Slot T name id)(hty:typeOf (.builtin id)=pure (.type "method_descriptor"))(hm:G5 X id r)(ho:PE X o to)(ha:PA X (e::es) t)
    (hbase:attributeBase o name X.env (eval o X.env)=eval o X.env:=by rfl)
    (hfew:((backTo cpos (starEach (e::es) X.env)).all (fun x=> !x.1)&&(backToKw cpos (keywordEach [] X.env)).all (fun x=>x.1.isSome)
      &&decide ((e::es).length+([]:List Keyword).length+(if ([]:List Keyword).isEmpty then 0 else 1) < 30))=true:=by rfl)
    (hline:(apos.endLine==cpos.line)=true:=by rfl)(hs:starEach (e::es) X.env=(false,eval e X.env)::starEach es X.env:=by rfl)(hplain:(backTo cpos (starEach es X.env)).any (·.1)=false:=by rfl):
    PE X (.Call (.Attribute o name apos) (e::es) [] cpos) (G' X.K T r to t):=by
  intro pins s σ H Q I h
  refine wpAny_Call_method_late hbase hfew hline rfl (cA (ho pins s σ H _ I h) fun v s1 ⟨x,H1,I1,r1,ty,q1⟩=>?_)
  obtain⟨h1,h2⟩:=EC I1 r1 ty
  refine⟨T,id,pa,slot,hty,h1,h2,?_⟩
  have hA:=ha cpos pins s1 σ H1 _ I1 q1
  rw [hs] at hA ⊢
  refine Calls.callWith_builtin (by show(false || (backTo cpos (starEach es X.env)).any (·.1))=false;rw [hplain]<;>rfl) (Calls.evalArgs_plain ?_)
  exact cA hA fun us s2 ⟨vs,H2,I2,r2,q2⟩=>hm pins s2 σ H2 x vs v us Q I2 r1 r2 q2
end
end L2
namespace L2
open PySem PySem.Spec PyProof.Rows
def Gu(X:Cx)(id:String)(r:V→List V→Hp→VK→Prop):Prop:=
  ∀(pins:List (Addr × Obj)) (s:Shared) (σ:St) (H:Hp) (x:V) (xs:List V) (v:Value) (us:List Value) (Q:VK),aE X pins σ H s→bA x v→aM xs us→r x xs H Q→
    wpAny (model X.prog X.w) X.A (call (.builtin id) (v::us)) (EP X pins σ Q) X.xe s
theorem aM.one:∀{x:V} {us:List Value},aM [x] us→∃u,us=[u]∧bA x u
  | _,_,.cons r .nil=>⟨_,rfl,r⟩
theorem aM.eraseIdx:∀{xs:List V} {us:List Value} (i:Nat),aM xs us→aM (xs.eraseIdx i) (us.eraseIdx i)
  | _,_,_,.nil=>.nil
  | _,_,0,.cons _ t=>t
  | _,_,i+1,.cons r t=>.cons r (aM.eraseIdx i t)
theorem aM.rep{xs:List V}{us:List Value}(h:aM xs us):∀k:Nat,aM (List.replicate k xs).flatten (List.replicate k us).flatten
  | 0=>.nil
  | k+1=>by
    rw [List.replicate_succ,List.replicate_succ,List.flatten_cons,List.flatten_cons]
    exact aM.append h (aM.rep h k)
theorem qA{α:Type}:∀(l:List α) (i:Nat),(l.eraseIdx i).length≤l.length
  | [],_=>Nat.le_refl _
  | _::_,0=>Nat.le_succ _
  | _::r,i+1=>Nat.succ_le_succ (qA r i)
theorem qq(its:List Value):∀(k:Nat) (acc:List Value),
    List.foldl (fun x1 x2=>x1++x2) acc.toArray (List.replicate k its.toArray)=(acc++(List.replicate k its).flatten).toArray
  | 0,acc=>by simp
  | k+1,acc=>by
    have e:acc.toArray++its.toArray=(acc++its).toArray:=by simp
    have e2:(acc++its)++(List.replicate k its).flatten=acc++(List.replicate (k+1) its).flatten:=by
      rw [List.replicate_succ,List.flatten_cons,List.append_assoc]
    rw [←e2,←qq its k (acc++its),←e,List.replicate_succ,List.foldl_cons]
section
variable{X:Cx}{pins:List (Addr × Obj)}{σ:St}{H:Hp}{s:Shared}{l b:Addr}{xs ys zs:List V}
theorem aE.lset{its its':List Value}{n:Nat}{f:Array Value→Array Value}{t':Nat}(I:aE X pins σ H s)(hH:H l=some (.lst xs))
    (e:s.heap.get? l=some {cls:=.type "list",data:=.seq its.toArray n})(hf:f its.toArray=its'.toArray)(hv:aM ys its')(hz:ys.length≤sizeLine):
    aE X pins σ (bi H l (.lst ys)) {s with heap:=s.heap.update l (Obj.mapSeq f),toks:=t'}:=by
  have q:=PySem.IsL.update e f
  rw [hf] at q
  refine I.write (x:=l) (e:=l) (by rw [hH];exact trivial) (.inl rfl) (fun b' u hb hu=>(Heap.get?_update_other s.heap (Obj.mapSeq f) (Ne.symm hb)).trans hu) ⟨_,q⟩ ?_
  exact⟨hz,its',_,hv,q⟩
theorem aE.lnew{its:List Value}{t':Nat}(I:aE X pins σ H s)(hv:aM ys its)(hz:ys.length≤sizeLine):
    aE X pins σ (bi H s.heap.objs.size (.lst ys)) {s with heap:=s.heap.push {cls:=.type "list",data:=.seq its.toArray},toks:=t'}:=
  I.laid (fun _ _ q=>Heap.get?_push_of_some _ q) (Nat.le_refl _) ⟨hz,its,0,hv,Heap.get?_push_size _ rfl⟩
theorem aE.fresh(I:aE X pins σ H s):H s.heap.objs.size=none:=I.hok.fresh (Nat.le_refl _)
theorem aE.lstM(I:aE X pins σ H s)(hH:H l=some (.lst xs)):xs.length≤sizeLine∧∃(its:List Value) (n:Nat),aM xs its∧xs.length=its.length∧s.heap.get? l=some {cls:=.type "list",data:=.seq its.toArray n}:=by
  obtain⟨z,its,n,r,e⟩:=I.hok l _ hH
  exact⟨z,its,n,r,r.length,e⟩
theorem tJ{n:Nat}(h:n≤sizeLine):Builtin.List.listTooLong n=false:=by
  unfold Builtin.List.listTooLong
  exact decide_eq_false (by lia)
end
section
variable{X:Cx}
def wJ:V→List V→Hp→VK→Prop:=fun x vs H Q=>∃l xs y,x=.ref l∧vs=[y]∧H l=some (.lst xs)∧xs.length < sizeLine∧Q .non (bi H l (.lst (xs++[y])))
theorem j6:Gu X "list.append" wJ:=by
  intro pins s σ H x vs v us Q I rx rv h
  obtain⟨l,xs,y,rfl,rfl,hH,hz,q⟩:=h
  cases rx
  obtain⟨u,rfl,ru⟩:=rv.one
  obtain⟨z,its,n,r,hl,e⟩:=I.lstM hH
  refine call_meets F.slot_list_append ⟨_,e,rfl⟩ F.entry_list_append (F.args_list_append_2 _ _) (PySem.list_append l its.toArray n u (by rw [List.size_toArray];lia)) ⟨e,?_⟩
  refine⟨.non,_,I.lset (its':=its++[u]) hH e (by simp) (r.append (.cons ru .nil)) ?_,rfl,q⟩
  rw [List.length_append,List.length_singleton]
  lia
def B3:V→List V→Hp→VK→Prop:=fun x vs H Q=>∃l b xs zs,x=.ref l∧vs=[.ref b]∧H l=some (.lst xs)∧H b=some (.lst zs)∧xs.length+zs.length≤sizeLine∧Q .non (bi H l (.lst (xs++zs)))
theorem xG:Gu X "list.extend" B3:=by
  intro pins s σ H x vs v us Q I rx rv h
  obtain⟨l,b,xs,zs,rfl,rfl,hH,hB,hz,q⟩:=h
  cases rx
  obtain⟨u,rfl,ru⟩:=rv.one
  cases ru
  obtain⟨z,its,n,r,hl,e⟩:=I.lstM hH
  obtain⟨z2,its2,n2,r2,hl2,e2⟩:=I.lstM hB
  have hsz:its.toArray.size+its2.toArray.size≤sizeLine:=by rw [List.size_toArray,List.size_toArray];lia
  have hlong:¬(!its.toArray.isEmpty&&Builtin.List.listTooLong (its.toArray.size+its2.toArray.size))=true:=by
    rw [tJ hsz,Bool.and_false]
    exact Bool.false_ne_true
  refine call_meets F.slot_list_extend ⟨_,e,rfl⟩ F.entry_list_extend (F.args_list_extend_2 _ _)
    (AutoSeq1.list_extend_list_list_0 l its.toArray n b its2.toArray n2 hlong (by rw [List.size_toArray];lia) (by lia)) ⟨e,e2,?_⟩
  refine⟨.non,_,I.lset (its':=its++its2) hH e (by simp) (r.append r2) ?_,rfl,q⟩
  rw [List.length_append]
  lia
def zT:V→List V→Hp→VK→Prop:=fun x vs H Q=>∃l xs i k y,x=.ref l∧vs=[.int i]∧H l=some (.lst xs)∧ -(2 ^ 63)≤i∧i < 2 ^ 63∧seqIndex? i xs.length=some k∧xs[k]?=some y∧Q y (bi H l (.lst (xs.eraseIdx k)))
theorem y6:Gu X "list.pop" zT:=by
  intro pins s σ H x vs v us Q I rx rv h
  obtain⟨l,xs,i,k,y,rfl,rfl,hH,h1,h2,hk,hy,q⟩:=h
  cases rx
  obtain⟨u,rfl,ru⟩:=rv.one
  obtain⟨t,rfl⟩:=ru
  obtain⟨z,its,n,r,hl,e⟩:=I.lstM hH
  obtain⟨w,hw,rw'⟩:=r.get hy
  refine call_meets F.slot_list_pop ⟨_,e,rfl⟩ F.entry_list_pop (F.args_list_pop_2 _ _)
    (MeetsSeq.list_pop_at l its.toArray n i t k w (fitsIndex_both h1 h2) (by rw [List.size_toArray,←hl];exact hk) (by rw [←Array.getElem?_toList];exact hw) (by rw [List.size_toArray];lia)) ⟨e,?_⟩
  refine⟨y,_,I.lset (its':=its.eraseIdx k) hH e ?_ (r.eraseIdx k) ?_,rw',q⟩
  · show its.toArray.eraseIdxIfInBounds k=(its.eraseIdx k).toArray
    rw [List.eraseIdxIfInBounds_toArray]
  · have:=qA xs k
    lia
def Ee:R2:=fun x y H Q=>∃l b xs zs,x=.ref l∧y=.ref b∧H l=some (.lst xs)∧H b=some (.lst zs)∧xs.length+zs.length≤sizeLine∧∀p,H p=none→Q (.ref p) (bi H p (.lst (xs++zs)))
theorem DG:jo X (binaryOp .Add) Ee:=by
  intro pins s σ H x y v u Q I rx ry h
  obtain⟨l,b,xs,zs,rfl,rfl,hH,hB,hz,q⟩:=h
  cases rx
  cases ry
  obtain⟨z,its,n,r,hl,e⟩:=I.lstM hH
  obtain⟨z2,its2,n2,r2,hl2,e2⟩:=I.lstM hB
  refine PySem.P.add_list e e2 ?_ (by rw [List.size_toArray,List.size_toArray];lia)
  have ea:its.toArray++its2.toArray=(its++its2).toArray:=by simp
  rw [ea]
  exact⟨.ref _,_,I.lnew (t':=s.toks) (r.append r2) (by rw [List.length_append];lia),rfl,q _ I.fresh⟩
def Eh:R2:=fun x y H Q=>∃l k xs,x=.ref l∧y=.int k∧H l=some (.lst xs)∧ -(2 ^ 63)≤k∧k < 2 ^ 63∧xs.length*k.toNat≤sizeLine∧
  ∀p,H p=none→Q (.ref p) (bi H p (.lst (List.replicate k.toNat xs).flatten))
theorem Bg{α:Type}(xs:List α)(k:Nat):(List.replicate k xs).flatten.length=k*xs.length:=by
  induction k with
  | zero=>simp
  | succ k ih=>rw [List.replicate_succ,List.flatten_cons,List.length_append,ih,Nat.succ_mul,Nat.add_comm]
theorem DO:jo X (binaryOp .Mult) Eh:=by
  intro pins s σ H x y v u Q I rx ry h
  obtain⟨l,k,xs,rfl,rfl,hH,h1,h2,hz,q⟩:=h
  cases rx
  obtain⟨t,rfl⟩:=ry
  obtain⟨z,its,n,r,hl,e⟩:=I.lstM hH
  have hlen:its.toArray.size*k.toNat≤sizeLine:=by rw [List.size_toArray,←hl];exact hz
  have hcap:¬its.toArray.size*k.toNat > (2 ^ 63 - 1) / 8:=by
    have:(sizeLine:Nat)≤(2 ^ 63 - 1) / 8:=by decide
    lia
  have hfit:¬(!Builtin.List.listFitsIndex k)=true:=by
    rw [fitsIndex_both h1 h2]
    exact Bool.false_ne_true
  have hlong:¬Builtin.List.listTooLong (its.toArray.size*k.toNat)=true:=by
    rw [tJ hlen]
    exact Bool.false_ne_true
  have hnew:List.foldl (fun x1 x2=>x1++x2) #[] (List.replicate (if its.toArray.isEmpty=true then 0 else k.toNat) its.toArray)=(List.replicate k.toNat its).flatten.toArray:=by
    have f0:∀m:Nat,List.foldl (fun x1 x2=>x1++x2) #[] (List.replicate m its.toArray)=(List.replicate m its).flatten.toArray:=fun m=>by
      have:=qq its m []
      rw [List.nil_append] at this
      exact this
    rw [f0]
    cases its with
    | nil=>simp
    | cons a r'=>rw [if_neg (by simp)]
  refine wpAny_binaryOp_repeat_ref (T:="list") (U:="int") (by decide) ⟨_,e,rfl⟩ (fun s'=>typeIs_int s' k t) noFill_list_mul F.fills_int_mul F.slot_int_rmul repeat_list F.slot_int_index.lookup
    (call_meets F.slot_int_rmul (typeIs_int s k t) F.entry_int_rmul (F.args_int_rmul_2 _ _) (int___rmul___int_list k t l its.toArray n)
      ⟨e,rfl,⟨_,e,rfl⟩,call_meets F.slot_list_mul ⟨_,e,rfl⟩ F.entry_list_mul (F.args_list_mul_2 _ _) (AutoListH.list___mul___list_int_3 l its.toArray n k t hfit hcap hlong) ⟨e,?_⟩⟩)
  rw [hnew]
  exact⟨.ref _,_,I.lnew (t':=s.toks) (r.rep k.toNat) (by rw [Bg,Nat.mul_comm];exact hz),rfl,q _ I.fresh⟩
end
section
variable{prog:Program}{w:World}{A:Around}{E:Value→Shared→Prop}{s:Shared}
end
section
variable{X:Cx}
end
end L2
namespace Att
open PySem PySem.W PySem.Calls PyProof.Rows
theorem nK{P:Params}{h:Heap}:∀(ns:List Int) (vs:List Value),WellAll P h vs (ns.map WData.int)→IntsAre vs ns:=by
  intro ns
  induction ns with
  | nil=>
    intro vs w
    rw [List.map_nil] at w
    cases w
    exact .nil
  | cons n ns ih=>
    intro vs w
    rw [List.map_cons] at w
    cases w with
    | cons a b=>
      cases a
      exact .cons _ _ (ih _ b)
theorem xZ{l:OpenLaw}{n:Nat}(hn:l.most=some n){P:Params}{h:Heap}{args:List WData}{vals:List Value}
    (hpre:l.row.toRowW.claim.pre args=true)(hwl:WellAll P h vals args):
    ∃a vs ns,vals=[Value.ref a]∧args=[WData.list (ns.map WData.int)]∧h.get? a=some {cls:=.type "list",data:=.seq vs.toArray}∧IntsAre vs ns∧ns.length≤n:=by
  have hsh:WShape.hasAll [] args [.list .int]=true:=(pre_splitW hpre).1
  have hc:l.pre.holds [] {args:=args}=true:=(pre_splitW hpre).2
  obtain⟨d,r,rfl,h1,h2⟩:=hasAllW_cons hsh
  obtain rfl:=hasAllW_nil h2
  obtain⟨xs,rfl,h3⟩:=hasW_list h1
  obtain⟨ns,rfl⟩:=items_int h3
  have hlen:ns.length≤n:=by
    unfold OpenLaw.pre at hc
    have h4:(WTm.not (.lt (.lit (.int (n:Int))) (.len (.arg 0)))).holds [] {args:=[.list (ns.map .int)]}=true:=by
      have h4:=(holds_andW hc).1
      rw [hn] at h4
      exact h4
    have h5:=condW_of h4 (w_not (w_lt w_lit (w_len_list (w_arg rfl))))
    rw [List.length_map] at h5
    refine Nat.le_of_not_lt fun q=>?_
    have q':(n:Int) < ((ns.length:Nat):Int):=by lia
    first
      | (rw [decide_eq_true q'] at h5;exact absurd h5 (by decide))
      | (simp at h5;lia)
  cases hwl with
  | cons w1 w2=>
    cases w2
    cases w1 with
    | list ho hall=>exact⟨_,_,ns,rfl,rfl,ho,nK ns _ hall,hlen⟩
theorem xS(l:OpenLaw)(args:List WData):l.row.toRowW.claim.post args (.bool true) args=true:=
  postW_of (r:=l.row.toRowW) (X:=(true==true))
    (show WShape.has [] (.bool true) .bool=true by first | rfl | decide | simp [WShape.has,WShape.arms,WShape.armsAll])
    (show(WTm.eq .res (.lit (.bool true))).value [] {args:=args,res:=some (.bool true),after:=args}=some (.bool (true==true)) from w_eq_bool (w_res rfl) w_lit) rfl
theorem attach_call{l:OpenLaw}{n:Nat}{q:Program}{loose:List Str}{XP:(Str→Option Value)→Heap→Prop}{YP:World→Heap→Prop}{d:DefRec}
    (hn:l.most=some n)(hdf:d.params.defaults=[])
    (call:∀(w:World) (s₀ s₁:Shared) (mg mb:Str→Option Value) (fa:Addr) (o:Obj) (pm cd doc:Value) (a:Addr) (vs:List Value) (ns:List Int),
      Ground q loose [] XP w s₀ mg mb s₁.heap→YP w s₁.heap→
      s₁.heap.get? fa=some o→o.data=.func (docDef d.name d.params d.body d.scope pm cd doc)→s₁.heap.CodeRec cd d.name→mg d.name=some (.ref fa)→
      s₁.heap.get? a=some {cls:=.type "list",data:=.seq vs.toArray}→IntsAre vs ns→ns.length≤n→s₁.gens=#[]→
      codeAny (model l.prog w) callerA (.call (.ref fa) ⟨[.ref a],[]⟩) (fun r s'=>r=.ok (.ret (.bool true))∧OldK s₁.heap s'.heap∧s'.os=s₁.os∧AllBare s'.gens) s₁):
    WalkO q loose XP YP l.row.toRowW d [] (fun f vs=>PySem.call f vs):=by
  intro w s₀ s₁ mg mb G Y fa o pm cd doc dV kV ho hd hcd hD hmg hg args vals as hpre hlay hrd hwl hlo
  obtain rfl:dV=.none:=Dflts.none hD hdf
  obtain rfl:kV=.none:=Dflts.noKw hD
  obtain⟨a,vs,ns,rfl,rfl,hobj,hints,hlen⟩:=xZ hn hpre hwl
  refine enter_call (codeAny_mono (call w s₀ s₁ mg mb fa o pm cd doc a vs ns G Y ho (fd_plain hd) hcd hmg hobj hints hlen hg) fun r s' hq=>?_)
  obtain⟨rfl,h2,h3,h4⟩:=hq
  exact⟨.inl ⟨.bool true,.bool true,[],rfl,fun _=>rfl,.bool true,xS l _,fun _=>⟨List.Pairwise.nil,fun _ hm=>(nomatch hm)⟩⟩,h2,h3,h4⟩
section
variable{prog:Program}{w:World}{A:Around}{E:Value→Shared→Prop}{s:Shared}{K:Frag}
end
end Att
namespace L2
open PySem PySem.Spec PyProof.Rows
theorem mQ:∀{vs:List Value} {ns:List Int},IntsAre vs ns→aM (ns.map V.int) vs
  | _,_,.nil=>.nil
  | _,_,.cons n t h=>.cons ⟨t,rfl⟩ (mQ h)
def C9(H:Hp):Prop:=∀b,H b=none∨∃o xs,H b=some (.frz o (.lst xs))
theorem yX{P:Program}{w:World}{K:PySem.W.Frag}{mg mb:Str→Option Value}{CX:xg}{k:Nat}{fa a:Addr}{fd:FuncData}{x:Str}{sp:Sp}{s₁:Shared}{vs:List Value}{ns:List Int}
    (KX:K.In s₁.heap)(hns:s₁.heap.Ns mainGlobals mg)(hb:s₁.heap.Ns builtinsNs mb)(hbb:∀x:Str,x≠"__name__"→mb x=bootBuiltins x)(hlim:s₁.heap.NoLimit)(hg:s₁.gens=#[])
    (ha:s₁.heap.get? a=some {cls:=.type "list",data:=.seq vs.toArray})(hi:IntsAre vs ns)(hl:ns.length≤sizeLine)(hr:ee k callerA)
    (F:∀base:Heap,K.In base→base.Ns mainGlobals mg→aF P w K mg base CX k fa fd [x] sp)(hbind:∀(s:Shared) (u:Value),BindsTo s fd ⟨[u],[]⟩ [(x,u)])
    (hsp:∀H:Hp,C9 H→d_ K H a (ns.map V.int)→sp [.ref a] H (fun v _=>v=.bl true) fun _ _ _=>False)
    (hCX:∀H e s',CX [] H s₁ (fun _ _ _=>False) e s'→False):
    codeAny (model P w) callerA (.call (.ref fa) ⟨[.ref a],[]⟩) (fun r s'=>r=.ok (.ret (.bool true))∧OldK s₁.heap s'.heap∧s'.os=s₁.os∧AllBare s'.gens) s₁:=by
  have rv:=mQ hi
  have lenV:=hi.length
  have core:∀H:Hp,C9 H→d_ K H a (ns.map V.int)→oo P w H s₁.heap→(∀b,H b≠none→b=a)→(H a≠none→K.lookup a=none)→
      codeAny (model P w) callerA (.call (.ref fa) ⟨[.ref a],[]⟩) (fun r s'=>r=.ok (.ret (.bool true))∧OldK s₁.heap s'.heap∧s'.os=s₁.os∧AllBare s'.gens) s₁:=by
    intro H hO hS hok hA hK
    have base_of:∀{b:Addr} {o:Obj},s₁.heap.get? b=some o→H b=none→(rB s₁.heap H).get? b=some o:=fun e n=>yR e n
    have noA:∀{b:Addr} {o:Obj} {es:Array DictEntry} {ep:Nat},s₁.heap.get? b=some o→o.data=.dict es ep→H b=none:=fun{b o es ep} e d=>by
      cases q:H b with
      | none=>rfl
      | some u=>
        have e':b=a:=hA b (by rw [q];simp)
        subst e'
        rw [ha] at e;cases e
        have d':Data.seq vs.toArray _=Data.dict es ep:=d
        cases d'
    have nsK:∀{b:Addr} {m:Str→Option Value},s₁.heap.Ns b m→(rB s₁.heap H).Ns b m:=fun{b m} ⟨o,es,ep,e,d,r⟩=>⟨o,es,ep,base_of e (noA e d),d,r⟩
    have hKb:K.In (rB s₁.heap H):=fun b o e=>base_of (KX b o e) (by
      cases q:H b with
      | none=>rfl
      | some u=>
        have e':b=a:=hA b (by rw [q];simp)
        subst e'
        rw [hK (by rw [q];simp)] at e;cases e)
    have hM:Mod K mg (rB s₁.heap H):=⟨hKb,nsK hns,⟨mb,nsK hb,hbb⟩,let ⟨mc,h1,h2⟩:=hlim;⟨mc,nsK h1,h2⟩⟩
    have e0:AU P w K mg (rB s₁.heap H) callerA [] s₁ H:=⟨rfl,hM,fun b o e=>Bk e,Nat.le_of_eq (xx _ _),trivial,fun b hb=>absurd (show b∈([]:List Addr) from hb) (by simp),hok,.of_eq hg⟩
    refine codeAny_mono ((F _ hKb (nsK hns)).run callerA [] s₁ H ⟨[.ref a],[]⟩ [.ref a] [.ref a] _ _ hr e0 (hbind s₁ (.ref a)) (.cons rfl .nil) (hsp H hO hS)) fun r s' h=>?_
    cases r with
    | error e=>exact(hCX H e s' h).elim
    | ok fl=>
      cases fl with
      | next=>exact False.elim h
      | brk=>exact False.elim h
      | cont=>exact False.elim h
      | ret u=>
        obtain⟨v,H',os,bare,un,hok',r',q⟩:=h
        have q':v=.bl true:=q
        subst q'
        obtain rfl:u=Value.bool true:=r'
        refine⟨rfl,OldK.of_keep fun b o e=>?_,os,bare⟩
        cases q:H b with
        | none=>exact un.keep b o e q (by intro z;exact absurd (show b∈([]:List Addr) from z) (by simp)) (by simp)
        | some u=>
          rcases hO b with z | ⟨ob,xs,z⟩
          · rw [q] at z;cases z
          · have z2:=un.frzs b ob _ z
            obtain⟨e1,_⟩:=hok b _ z
            obtain⟨e2,_⟩:=hok' b _ z2
            rw [e] at e1;cases e1
            exact e2
  cases hk:K.lookup a with
  | some o=>
    have e:=KX a o hk
    rw [ha] at e
    cases e
    refine core (fun _=>none) (fun _=>.inl rfl) (.inr ⟨_,vs.toArray,_,hk,rfl,rfl,rfl,by rw [List.size_toArray,lenV];exact hl,by simpa using rv⟩) (fun b u z=>by have z':(none:Option HO)=some u:=z;cases z') (fun b z=>absurd rfl z) fun z=>absurd rfl z
  | none=>
    refine core (fun b=>if b=a then some (.frz {cls:=.type "list",data:=.seq vs.toArray} (.lst (ns.map V.int))) else none) (fun b=>?_) (.inl (.inr ⟨{cls:=.type "list",data:=.seq vs.toArray},if_pos rfl⟩)) (fun b u z=>?_) (fun b z=>?_) fun _=>hk
    · by_cases hb:b=a
      · exact .inr ⟨_,_,if_pos hb⟩
      · exact .inl (if_neg hb)
    · by_cases hb:b=a
      · have z':=(if_pos hb).symm.trans z
        cases z'
        subst hb
        exact⟨ha,by rw [List.length_map];exact hl,vs,_,rv,ha⟩
      · have z':=(if_neg hb).symm.trans z
        cases z'
    · by_cases hb:b=a
      · exact hb
      · exact absurd (if_neg hb) z
end L2
namespace L2
open PySem PySem.Spec PyProof.Rows
theorem walk_of{l:PySem.W.OpenLaw}{n k:Nat}{q:Program}{loose:List Str}{XP:(Str→Option Value)→Heap→Prop}{YP:World→Heap→Prop}{d:DefRec}{K:Params→PySem.W.Frag}{CX:World→xg}{sp:World→Sp}{x:Str}
    (hn:l.most=some n)(hn2:n≤sizeLine)(hdf:d.params.defaults=[])(hr:ee k callerA)
    (hY:∀(w:World) (h:Heap),YP w h→(K w.params).In h)
    (F:∀(w:World) (mg:Str→Option Value) (fa:Addr) (h:Heap),(K w.params).In h→h.Ns mainGlobals mg→mg d.name=some (.ref fa)→
      ∃fd:FuncData,(∀(s:Shared) (u:Value),BindsTo s fd ⟨[u],[]⟩ [(x,u)])∧
        ∀base:Heap,(K w.params).In base→base.Ns mainGlobals mg→aF l.prog w (K w.params) mg base (CX w) k fa fd [x] (sp w))
    (hsp:∀(w:World) (H:Hp) (a:Addr) (ns:List Int),ns.length≤n→C9 H→d_ (K w.params) H a (ns.map V.int)→sp w [.ref a] H (fun v _=>v=.bl true) fun _ _ _=>False)
    (hCX:∀(w:World) (H:Hp) (s:Shared) (e:Value) (s':Shared),CX w [] H s (fun _ _ _=>False) e s'→False):
    PySem.W.WalkO q loose XP YP l.row.toRowW d [] (fun f vs=>PySem.call f vs):=by
  refine Att.attach_call hn hdf fun w s₀ s₁ mg mb fa o pm cd doc a vs ns G Y ho hd hcd hmg hobj hints hlen hg=>?_
  have KX:=hY w _ Y
  obtain⟨fd,hb,hF⟩:=F w mg fa _ KX G.T.g hmg
  exact yX KX G.T.g G.T.b G.T.builtins G.T.nolimit hg hobj hints (Nat.le_trans hlen hn2) hr hF hb (fun H hO hS=>hsp w H a ns hlen hO hS) fun H e s'=>hCX w H s₁ e s'
end L2
namespace L2
open PySem PySem.Spec PyProof.Rows
def dy(s:Stmt):Arguments:=match s with
  | .FunctionDef _ a _ _ _ _ _ _ _ _=>a
  | _=>{posonlyargs:=[],args:=[],vararg:=none,kwonlyargs:=[],kw_defaults:=[],kwarg:=none,defaults:=[]}
def cJ(s:Stmt):List Stmt:=match s with
  | .FunctionDef _ _ b _ _ _ _ _ _ _=>b
  | _=>[]
def aj(s:Stmt):Scope:=match s with
  | .FunctionDef _ _ _ _ _ _ sc _ _ _=>sc
  | _=>{kind:=.function,names:=[],isGenerator:=false,isCoroutine:=false}
abbrev bv:xg:=fun _ _ _ _ _ _=>False
abbrev E0:XK:=fun _ _ _=>False
theorem Fo{X:Cx}:uD bv X E0:=fun _ _ _ _ _ _ _ h=>h.elim
structure EK (K:PySem.W.Frag) (x qual:Str) (st:Stmt) (f:Addr) (fd:FuncData):Prop where
  ex:∃(oc:Value) (od:Option Addr) (kV doc pm:Value) (an:Option Addr) (cdv ct:Value) (osl:Array (Option Value)),
    fd=PySem.W.fnOf x qual (dy st) (cJ st) (aj st) .none kV doc pm an cdv ct∧K.lookup f=some ⟨oc,od,.func fd,osl⟩∧PySem.W.codeIn K cdv qual=true
  kp:PySem.W.keepIn K (.ref f)=true
section
variable{P:Program}{w:World}{K:PySem.W.Frag}{mg:Str→Option Value}{base:Heap}
theorem EK.ok{x qual:Str}{st:Stmt}{f:Addr}{fd:FuncData}{N ps:List Str}{k:Nat}{sp:Sp}(F:EK K x qual st f fd)(S:aB N ps (aj st))(len:∀vs H Q E,sp vs H Q E→vs.length=ps.length)
    (hbody:∀(cdv:Value) (A:Around) (outer:List Env) (s:Shared) (H:Hp) (vs:List V) (Q:VK) (E:XK),ee k (A.deeper (envOfC qual (aj st) s.heap.objs.size f cdv))→sp vs H Q E→
      ∃t,nJ (uP bv P w K mg base N qual (aj st) f cdv A outer s H E).nox (cJ st) t∧t {nx:=fun _ H'=>Q .non H',rt:=Q} (jh N vs) H):aF P w K mg base bv (k+1) f fd ps sp:=by
  obtain⟨oc,od,kV,doc,pm,an,cdv,ct,osl,rfl,lk,hcd⟩:=F.ex
  refine EZ lk hcd S len fun A outer s H vs Q E hr hsp=>?_
  obtain⟨t,h,q⟩:=hbody cdv A outer s H vs Q E hr hsp
  exact⟨t,h.nox,q⟩
theorem EK.binds{x qual:Str}{st:Stmt}{f:Addr}{fd:FuncData}{ps:List Str}(F:EK K x qual st f fd)
    (h:∀(kV doc pm:Value) (an:Option Addr) (cdv ct:Value) (us:List Value),us.length=ps.length→bindArgs (PySem.W.fnOf x qual (dy st) (cJ st) (aj st) .none kV doc pm an cdv ct) ⟨us,[]⟩=pure (ps.zip us)):p_ K fd ps []:=by
  obtain⟨oc,od,kV,doc,pm,an,cdv,ct,osl,rfl,lk,hcd⟩:=F.ex
  exact .all (h kV doc pm an cdv ct)
theorem yJ{x qual:Str}{st:Stmt}{f:Addr}{oc:Value}{od an:Option Addr}{osl:Array (Option Value)}{kV doc pm cdv ct:Value}(l:K.lookup f=some ⟨oc,od,.func (PySem.W.fnOf x qual (dy st) (cJ st) (aj st) .none kV doc pm an cdv ct),osl⟩)
    (c:PySem.W.codeIn K cdv qual=true)(k:PySem.W.keepIn K (.ref f)=true):EK K x qual st f (PySem.W.fnOf x qual (dy st) (cJ st) (aj st) .none kV doc pm an cdv ct):=⟨⟨oc,od,kV,doc,pm,an,cdv,ct,osl,rfl,l,c⟩,k⟩
end
theorem qN{n:Nat}(h:n≤1000):n < sizeLine:=Nat.lt_of_le_of_lt h (by decide)
section
variable{X:Cx}
end
theorem E9{A B:Prop}(h:B):if false=true then A else B:=by
  rw [if_neg Bool.false_ne_true]
  exact h
theorem E_{A B:Prop}(h:A):if true=true then A else B:=by
  rw [if_pos rfl]
  exact h
def av(H H':Hp):Prop:=∀b o,H b=some o→H' b=some o
theorem av.refl(H:Hp):av H H:=fun _ _ h=>h
theorem av.trans{H H1 H2:Hp}(a:av H H1)(b:av H1 H2):av H H2:=fun c o h=>b c o (a c o h)
theorem av.free{H H':Hp}(e:av H H'){l:Addr}(h:H' l=Option.none):H l=Option.none:=by
  cases q:H l with
  | none=>rfl
  | some o=>
    rw [e l o q] at h
    cases h
theorem av.seq{K:PySem.W.Frag}{H H':Hp}{a:Addr}{xs:List V}(e:av H H')(h:d_ K H a xs):d_ K H' a xs:=by
  rcases h with (h | ⟨o,h⟩) | h
  · exact .inl (.inl (e _ _ h))
  · exact .inl (.inr ⟨o,e _ _ h⟩)
  · exact .inr h
end L2
set_option maxHeartbeats 4000000
namespace L2
open PySem PySem.Spec PyProof.Rows
def Bt(n:Nat)(i:Int):Prop:=i.natAbs < 2 ^ n
theorem Bt.mono{m n:Nat}{i:Int}(h:Bt m i)(hm:m≤n):Bt n i:=Nat.lt_of_lt_of_le h (Nat.pow_le_pow_right (by decide) hm)
theorem Bt.mul{m n:Nat}{i j:Int}(h:Bt m i)(h':Bt n j):Bt (m+n) (i*j):=by
  unfold Bt at*
  rw [Int.natAbs_mul,Nat.pow_add]
  exact Nat.mul_lt_mul'' h h'
theorem Bt.add{m:Nat}{i j:Int}(h:Bt m i)(h':Bt m j):Bt (m+1) (i+j):=by
  unfold Bt at*
  have e:(2:Nat) ^ (m+1)=2 ^ m+2 ^ m:=by rw [Nat.pow_succ];lia
  rw [e]
  have:=Int.natAbs_add_le i j
  lia
theorem Bt.log{m:Nat}{i:Int}(h:Bt m i)(hm:0 < m):i.natAbs.log2 < m:=by
  unfold Bt at h
  rcases Nat.eq_zero_or_pos i.natAbs with h0 | hp
  · rw [h0];exact hm
  · exact(Nat.log2_lt (by lia)).mpr h
theorem Bt.bits{m:Nat}{i:Int}(h:Bt m i)(hm:0 < m):Builtin.Int.intBits i≤m:=by
  unfold Builtin.Int.intBits
  split
  · exact Nat.zero_le _
  · exact h.log hm
theorem Bt.of_le{m:Nat}{i:Int}{j:Int}(h:Bt m j)(e:i.natAbs≤j.natAbs):Bt m i:=Nat.lt_of_le_of_lt e h
section
variable{X:Cx}
def Cq(i j:Int):Prop:=Bt 4000 i∧Bt 4000 j
theorem Bz:jo X (binaryOp .Mult) (rI Cq fun i j=>.int (i*j)):=Fi fun _ _ _ _ _ _ _ hc q=>
  mul_int q (.of_bits (Nat.le_trans (hc.1.bits (by decide)) (by decide)) (Nat.le_trans (hc.2.bits (by decide)) (by decide)))
def Cp(i j:Int):Prop:=j≠0∧Bt 8000 j
theorem zo:jo X (binaryOp .FloorDiv) (rI Cp fun i j=>.int (i.fdiv j)):=Fi fun _ _ _ _ _ _ _ hc q=>
  floordiv_int hc.1 q (.inl (PyProof.noPylong_of_log2 (Nat.lt_trans (hc.2.log (by decide)) (by decide))))
end
def mR(H H':Hp):Prop:=∀a o,H a=some o→(∀xs,o≠.lst xs)→(∀ob xs,o≠.frz ob (.lst xs))→H' a=some o
theorem mR.trans{H H1 H2:Hp}(a:mR H H1)(b:mR H1 H2):mR H H2:=fun c o h n m=>b c o (a c o h n m) n m
theorem av.ts{H H':Hp}(h:av H H'):mR H H':=fun a o e _ _=>h a o e
theorem mR.tup{K:PySem.W.Frag}{H H':Hp}(h:mR H H'){a:Addr}{xs:List V}(q:bX K H a xs):bX K H' a xs:=by
  rcases q with (q | ⟨o,q⟩) | q
  · exact .inl (.inl (h _ _ q (fun _ e=>nomatch e) (fun _ _ e=>nomatch e)))
  · exact .inl (.inr ⟨o,h _ _ q (fun _ e=>nomatch e) (fun _ _ e=>nomatch e)⟩)
  · exact .inr q
section
variable{X:Cx}
end
end L2
namespace L2
open PySem PySem.Spec PyProof.Rows
structure aZ (K:PySem.W.Frag) (mg:Str→Option Value) (x:Str) (st:Stmt) (f:Addr) (fd:FuncData) (ps:List Str):Prop where
  F:EK K x x st f fd
  m:mg x=some (.ref f)
  b:p_ K fd ps []
theorem Dm{K:PySem.W.Frag}{mg:Str→Option Value}{h:Heap}{x:Str}{st:Stmt}{f:Addr}{ps:List Str}{oc:Value}{od an:Option Addr}{osl:Array (Option Value)}{kV doc pm cdv ct:Value}(X:K.In h)(G:h.Ns mainGlobals mg)(a:PySem.W.nsIn K mainGlobals x=some (some (.ref f)))
    (l:K.lookup f=some ⟨oc,od,.func (PySem.W.fnOf x x (dy st) (cJ st) (aj st) .none kV doc pm an cdv ct),osl⟩)(c:PySem.W.codeIn K cdv x=true)(k:PySem.W.keepIn K (.ref f)=true)
    (hb:∀(kV doc pm:Value) (an:Option Addr) (cdv ct:Value) (us:List Value),us.length=ps.length→bindArgs (PySem.W.fnOf x x (dy st) (cJ st) (aj st) .none kV doc pm an cdv ct) ⟨us,[]⟩=pure (ps.zip us)):
    aZ K mg x st f (PySem.W.fnOf x x (dy st) (cJ st) (aj st) .none kV doc pm an cdv ct) ps:=⟨yJ l c k,PySem.W.mg_of X G a,(yJ l c k).binds hb⟩
theorem GO{X:Cx}{x:Str}{st:Stmt}{f:Addr}{fd:FuncData}{ps:List Str}{k:Nat}{sp:Sp}{e:Expr}{es:List Expr}{t:TA}{p pos:Pos}(h:aZ X.K X.mg x st f fd ps)(G:aF X.prog X.w X.K X.mg X.base bv k f fd ps sp)(hr:ee k X.A)(ha:PA X (e::es) t)
    (hg:Gl X x:=by rfl)(hdb:(x==("__debug__":Str))=false:=by decide)(he:starEach (e::es) X.env=(false,eval e X.env)::starEach es X.env:=by rfl)(hpl:(backTo pos (starEach es X.env)).any (·.1)=false:=by rfl):
    PE X (.Call (.Name x p) (e::es) [] pos) (Ap sp [] E0 t):=BE G hr hg h.m h.F.kp h.b .nil Fo ha hdb he hpl
theorem av.new{H:Hp}{p:Addr}{o:HO}(h:H p=none):av H (bi H p o):=fun b u e=>by
  rw [au (eA e h)];exact e
theorem av.tup{K:PySem.W.Frag}{H H':Hp}{a:Addr}{xs:List V}(e:av H H')(h:bX K H a xs):bX K H' a xs:=e.ts.tup h
end L2
namespace L2
open PySem PySem.Spec PyProof.Rows
def lowM(t b:Int):Int × Int:=if b < 0 then(t.fdiv (-(Int.gcd t b:Int)),b.fdiv (-(Int.gcd t b:Int))) else(t.fdiv (Int.gcd t b:Int),b.fdiv (Int.gcd t b:Int))
theorem sV(x y:Int):Int.gcd y (x.fmod y)=Int.gcd x y:=by
  rw [Int.fmod_def,Int.gcd_sub_mul_left_right,Int.gcd_comm]
theorem g_(x:Int){y:Int}(h:y≠0):(x.fmod y).natAbs < y.natAbs:=by
  rcases Int.lt_or_gt_of_ne h with h | h
  · have h1:x.fmod y= -((-x).fmod (-y)):=by
      have:=Int.neg_fmod_neg x y
      lia
    have h2:=Int.fmod_nonneg_of_pos (-x) (b:= -y) (by lia)
    have h3:=Int.fmod_lt_of_pos (-x) (b:= -y) (by lia)
    lia
  · have h2:=Int.fmod_nonneg_of_pos x h
    have h3:=Int.fmod_lt_of_pos x h
    lia
theorem rA{t b:Int}(h:b≠0):(0:Int) < Int.gcd t b:=by
  have:=Int.gcd_pos_of_ne_zero_right t h
  lia
theorem et{t b:Int}(h:b≠0):∃d:Int,d.natAbs=Int.gcd t b∧d≠0∧(lowM t b).1*d=t∧(lowM t b).2*d=b∧0 < (lowM t b).2:=by
  have hg:=rA (t:=t) h
  have d1:(Int.gcd t b:Int) ∣ t:=Int.gcd_dvd_left ..
  have d2:(Int.gcd t b:Int) ∣ b:=Int.gcd_dvd_right ..
  unfold lowM
  split
  · rename_i hb
    have e1:t.fdiv (-(Int.gcd t b:Int))*(-(Int.gcd t b:Int))=t:=Int.fdiv_mul_cancel (Int.neg_dvd.mpr d1)
    have e2:b.fdiv (-(Int.gcd t b:Int))*(-(Int.gcd t b:Int))=b:=Int.fdiv_mul_cancel (Int.neg_dvd.mpr d2)
    refine⟨-(Int.gcd t b:Int),by lia,by lia,e1,e2,?_⟩
    show 0 < b.fdiv (-(Int.gcd t b:Int))
    have h3:b.fdiv (-(Int.gcd t b:Int))*(Int.gcd t b:Int)= -b:=by rw [Int.mul_neg] at e2;lia
    exact Int.pos_of_mul_pos_left (by lia) (by lia) (b:=(Int.gcd t b:Int))
  · rename_i hb
    have e1:t.fdiv (Int.gcd t b:Int)*(Int.gcd t b:Int)=t:=Int.fdiv_mul_cancel d1
    have e2:b.fdiv (Int.gcd t b:Int)*(Int.gcd t b:Int)=b:=Int.fdiv_mul_cancel d2
    refine⟨(Int.gcd t b:Int),by lia,by lia,e1,e2,?_⟩
    show 0 < b.fdiv (Int.gcd t b:Int)
    exact Int.pos_of_mul_pos_left (by lia) (by lia) (b:=(Int.gcd t b:Int))
theorem oM{t b:Int}(h:b≠0):Int.gcd (lowM t b).1 (lowM t b).2=1:=by
  obtain⟨d,h1,h2,h3,h4,h5⟩:=et (t:=t) h
  have e:Int.gcd ((lowM t b).1*d) ((lowM t b).2*d)=Int.gcd (lowM t b).1 (lowM t b).2*d.natAbs:=Int.gcd_mul_right ..
  rw [h3,h4,←h1] at e
  have hd:0 < d.natAbs:=by lia
  exact(Nat.eq_of_mul_eq_mul_right hd (by rw [Nat.one_mul];exact e)).symm
theorem uY{t b:Int}(h:b≠0):(lowM t b).1*b=(lowM t b).2*t:=by
  obtain⟨d,h1,h2,h3,h4,h5⟩:=et (t:=t) h
  generalize (lowM t b).1=x at*
  generalize (lowM t b).2=y at*
  subst h3 h4
  rw [←Int.mul_assoc,←Int.mul_assoc,Int.mul_comm x]
theorem kB{x d:Int}(h:d≠0):x.natAbs≤(x*d).natAbs:=by
  rw [Int.natAbs_mul]
  exact Nat.le_mul_of_pos_right _ (by lia)
theorem rH{t b:Int}(h:b≠0){n:Nat}(ht:Bt n t)(hb:Bt n b):Bt n (lowM t b).1∧Bt n (lowM t b).2:=by
  obtain⟨d,h1,h2,h3,h4,h5⟩:=et (t:=t) h
  refine⟨ht.of_le ?_,hb.of_le ?_⟩
  · conv=>rhs;rw [←h3]
    exact kB h2
  · conv=>rhs;rw [←h4]
    exact kB h2
theorem yQ{t b:Int}(h:b≠0){n:Nat}(hb:Bt n b):Bt n (Int.gcd t b:Int):=by
  refine hb.of_le ?_
  have h1:=Nat.le_of_dvd (show 0 < b.natAbs by lia) (Int.ofNat_dvd.mp (by rw [Int.dvd_natAbs];exact Int.gcd_dvd_right t b))
  lia
mutual
def cnt:PyData→Nat
  | .tuple ds=>1+kX ds
  | .str _=>0
  | _=>1
def kX:List PyData→Nat
  | []=>0
  | d::ds=>cnt d+kX ds
end
mutual
def oS:PyData→Bool
  | .tuple ds=>iO ds
  | .str _=>false
  | .list _=>false
  | .dict _=>false
  | _=>true
def iO:List PyData→Bool
  | []=>true
  | d::ds=>oS d&&iO ds
end
theorem pW{a:Int}(h:a.natAbs.log2 < 1920):(Str.ofString (toString a)).length≤1921:=by
  have e:=int_text_length_le (k:=1920) (by decide) h
  rw [PySem.ofString_length];lia
theorem oY(x:Str)(r:List Str):piled (x::r)=x.length+2+piled r:=by
  simp [piled]
theorem qS(ts:List Str):(tupleText ts).length≤piled ts+3:=by
  unfold tupleText
  rw [strLen_append,strLen_append]
  have h1:(("(":Str)).length=1:=by decide
  have h2:(Str.ofString (if (ts.length==1)=true then ",)" else ")")).length≤2:=by split<;>decide
  have h3:(Str.join ", " ts).length≤piled ts:=by
    cases ts with
    | nil=>show(Str.join ", " []).length≤0;decide
    | cons x r=>have:=join_length_add (x::r) (by simp);lia
  lia
mutual
theorem qL:∀{d:PyData},oS d=true→d.showable=true→d.shown.length+2≤2000*cnt d
  | .none,_,_=>by show(Str.ofString "None").length+2≤2000*1;decide
  | .bool b,_,_=>by
    cases b
    · show(Str.ofString "False").length+2≤2000*1;decide
    · show(Str.ofString "True").length+2≤2000*1;decide
  | .int i,_,hs=>by
    simp only [PyData.showable,decide_eq_true_eq] at hs
    have:=pW hs
    show(Str.ofString (toString i)).length+2≤2000*1
    lia
  | .tuple ds,hn,hs=>by
    simp only [PyData.showable] at hs
    simp only [oS] at hn
    have h1:=ma hn hs
    have h2:=qS (PyData.shownAll ds)
    simp only [PyData.shown,cnt]
    lia
  | .str _,hn,_=>by simp [oS] at hn
  | .list _,hn,_=>by simp [oS] at hn
  | .dict _,hn,_=>by simp [oS] at hn
theorem ma:∀{ds:List PyData},iO ds=true→PyData.showableAll ds=true→piled (PyData.shownAll ds)≤2000*kX ds
  | [],_,_=>by simp [PyData.shownAll,piled]
  | d::ds,hn,hs=>by
    simp only [iO,Bool.and_eq_true] at hn
    simp only [PyData.showableAll,Bool.and_eq_true] at hs
    have h1:=qL hn.1 hs.1
    have h2:=ma hn.2 hs.2
    simp only [PyData.shownAll,kX,oY]
    lia
end
end L2
namespace L2
open PySem PySem.Spec PyProof.Rows
def ji(env:Env):List (Str × NameKind)→List (Str × Addr)→List (Str × Addr)
  | [],cs=>cs
  | (n,k)::r,cs=>ji env r (if k==.free then(n,(env.cells.lookup n).getD 0)::cs else cs)
theorem lD{env:Env}:∀(names:List (Str × NameKind)) (cs:List (Str × Addr)),(∀y∈names,y.2=.free→∃c,env.cells.lookup y.1=some c)→
    (forIn names cs (fun(x:Str × NameKind) (r:List (Str × Addr))=>(if (x.2==NameKind.free)=true then do let a ←cellOf env x.1;pure (ForInStep.yield ((x.1,a)::r)) else pure (ForInStep.yield r):Sem (ForInStep (List (Str × Addr))))):Sem (List (Str × Addr)))=pure (ji env names cs)
  | [],cs,_=>rfl
  | (n,k)::r,cs,h=>by
    rw [List.forIn_cons]
    have ih:=fun cs'=>lD (env:=env) r cs' (fun y hy=>h y (List.mem_cons_of_mem _ hy))
    by_cases hk:(k==NameKind.free)=true
    · have hk':k=.free:=by simpa using hk
      obtain⟨c,hc⟩:=h (n,k) List.mem_cons_self hk'
      have e:cellOf env n=pure c:=by unfold cellOf;rw [hc]
      simp only [hk,if_true,e,pure_bind,ji,hc,Option.getD_some]
      exact ih _
    · have hk':(k==NameKind.free)=false:=by simpa using hk
      simp only [hk',Bool.false_eq_true,if_false,pure_bind,ji]
      exact ih _
theorem oD{scope:Scope}{env:Env}(h:∀y∈scope.names,y.2=.free→∃c,env.cells.lookup y.1=some c):closureFor scope env=pure (ji env scope.names []):=by
  have e:=lD (env:=env) scope.names [] h
  unfold closureFor
  simp only [pure_bind,bind_pure] at e ⊢
  exact e
theorem kW{env:Env}:∀(names:List (Str × NameKind)) (cs:List (Str × Addr)) (x:Str) (c:Addr),(∀y∈names,y.2=.free→∃c,env.cells.lookup y.1=some c)→(∀x c,cs.lookup x=some c→env.cells.lookup x=some c)→(ji env names cs).lookup x=some c→env.cells.lookup x=some c
  | [],cs,x,c,_,hs,h=>hs x c h
  | (n,k)::r,cs,x,c,hn,hs,h=>by
    refine kW r _ x c (fun y hy=>hn y (List.mem_cons_of_mem _ hy)) (fun x' c' e=>?_) h
    by_cases hk:(k==NameKind.free)=true
    · rw [if_pos hk] at e
      obtain⟨c0,hc⟩:=hn (n,k) List.mem_cons_self (by simpa using hk)
      rw [List.lookup_cons] at e
      cases hx:x'==n with
      | true=>
        rw [hx] at e
        have e1:x'=n:=by simpa using hx
        subst e1
        simp only [hc,Option.getD_some,Option.some.injEq] at e
        rw [←e];exact hc
      | false=>rw [hx] at e;exact hs x' c' e
    · rw [if_neg hk] at e
      exact hs x' c' e
theorem oC{env:Env}:∀(names:List (Str × NameKind)) (cs:List (Str × Addr)) (x:Str),((∃y∈names,y.1=x∧y.2=.free)∨∃c,cs.lookup x=some c)→∃c,(ji env names cs).lookup x=some c
  | [],cs,x,h=>by
    rcases h with ⟨y,hy,_⟩ | h
    · cases hy
    · exact h
  | (n,k)::r,cs,x,h=>by
    refine oC r _ x ?_
    by_cases hk:(k==NameKind.free)=true
    · rw [if_pos hk,List.lookup_cons]
      cases hx:x==n with
      | true=>exact .inr ⟨_,rfl⟩
      | false=>
        rcases h with ⟨y,hy,e1,e2⟩ | h
        · rcases List.mem_cons.mp hy with z | z
          · subst z;subst e1;simp at hx
          · exact .inl ⟨y,z,e1,e2⟩
        · exact .inr h
    · rw [if_neg hk]
      rcases h with ⟨y,hy,e1,e2⟩ | h
      · rcases List.mem_cons.mp hy with z | z
        · subst z;exact absurd (by simpa using e2) hk
        · exact .inl ⟨y,z,e1,e2⟩
      · exact .inr h
theorem dW{env:Env}:∀{names:List (Str × NameKind)} {x:Str},(∀y∈names,y.2≠.cell)→(names.map fun(n,k)=>if (k==NameKind.free&&env.scope.kind==.function&&env.kindOf n==some .cell) then(n,NameKind.cell) else(n,k)).lookup x=some .cell∨
    (names.map fun(n,k)=>if (k==NameKind.free&&env.scope.kind==.function&&env.kindOf n==some .cell) then(n,NameKind.cell) else(n,k)).lookup x=some .free→∃y∈names,y.1=x∧y.2=.free
  | [],x,_,h=>by simp at h
  | (n,k)::r,x,hc,h=>by
    have ih:=@dW env r x (fun y hy=>hc y (List.mem_cons_of_mem _ hy))
    have nc:k≠.cell:=hc (n,k) List.mem_cons_self
    rw [List.map_cons] at h
    cases hx:x==n with
    | true=>
      have e1:x=n:=by simpa using hx
      subst e1
      refine⟨(x,k),List.mem_cons_self,rfl,?_⟩
      by_cases q:(k==NameKind.free&&env.scope.kind==.function&&env.kindOf x==some .cell)=true
      · simp only [Bool.and_eq_true,beq_iff_eq] at q;exact q.1.1
      · simp only [q,Bool.false_eq_true,if_false,List.lookup_cons,beq_self_eq_true,Option.some.injEq] at h
        rcases h with h | h
        · exact absurd h nc
        · exact h
    | false=>
      have e2:∀(l:List (Str × NameKind)),((if (k==NameKind.free&&env.scope.kind==.function&&env.kindOf n==some .cell)=true then(n,NameKind.cell) else(n,k))::l).lookup x=l.lookup x:=fun l=>by
        split<;>simp [List.lookup_cons,hx]
      simp only [e2] at h
      obtain⟨y,hy,z⟩:=ih h
      exact⟨y,List.mem_cons_of_mem _ hy,z⟩
theorem fF{env:Env}:∀{names:List (Str × NameKind)} {x:Str},names.lookup x=some .free→
    (names.map fun(n,k)=>if (k==NameKind.free&&env.scope.kind==.function&&env.kindOf n==some .cell) then(n,NameKind.cell) else(n,k)).lookup x≠some .local
  | [],x,h=>by simp at h
  | (n,k)::r,x,h=>by
    rw [List.map_cons]
    cases hx:x==n with
    | true=>
      simp only [hx,List.lookup_cons] at h
      cases h
      show List.lookup x ((if (NameKind.free==NameKind.free&&env.scope.kind==.function&&env.kindOf n==some .cell)=true then(n,NameKind.cell) else(n,NameKind.free))::_)≠_
      split<;>simp [List.lookup_cons,hx]
    | false=>
      simp only [hx,List.lookup_cons] at h
      have ih:=@fF env r x h
      have e2:∀(l:List (Str × NameKind)),((if (k==NameKind.free&&env.scope.kind==.function&&env.kindOf n==some .cell)=true then(n,NameKind.cell) else(n,k))::l).lookup x=l.lookup x:=fun l=>by
        split<;>simp [List.lookup_cons,hx]
      simp only [e2]
      exact ih
def aP(X:Cx)(scope:Scope)(cp:List (Nat × Str))(tgN:List Str)(C:Addr)(s0:Shared)(H0:Hp)(fp:List Addr):Cx where
  prog:=X.prog
  w:=X.w
  K:=X.K
  mg:=X.mg
  base:=X.base
  A:=X.A
  N:=cp.map (·.2)++tgN
  s₀:=s0
  H₀:=H0
  env:=compEnvC scope (ji X.env scope.names []) C X.env
  outer:=X.stack
  stack:=X.stack
  ex:=fp
  fn:=fun x=>scope.names.lookup x==some .local
  calm:=X.calm
  pn:=[]
  xe:=fun _ _=>False
def ym(X:Cx)(ifs:List Expr)(t:TT):Prop:=
  ∀(pins:List (Addr × Obj)) (s:Shared) (σ:L2.St) (H:Hp) (Q:Bool→Hp→Prop),aE X pins σ H s→t σ H Q→
    wpAny (model X.prog X.w) X.A (forIn ifs true fun c r=>if r=true then do let ok ←isTrue c X.env (eval c X.env);pure (ForInStep.yield ok) else pure (ForInStep.yield r)) (TP X pins σ Q) X.xe s
theorem BX{X:Cx}:ym X [] (fun _ H Q=>Q true H):=fun _ _ _ H _ I h=>wpAny_tests_nil ⟨H,I,h⟩
theorem BY{X:Cx}{c:Expr}{t:TT}(h:PT X c t):ym X [c] t:=fun pins s σ H Q I q=>wpAny_tests_one (h pins s σ H Q I q)
abbrev EN:Value→Shared→Prop:=fun _ _=>False
def Dh(prog:Program)(w:World)(A:Around)(elt tg:Expr)(ifs:List Expr)(env:Env)(it acc:Value)(onward:Shared→Prop)(v:Value)(u:Shared):Prop:=
  wpAny (model prog w) A (letOwnedTupleGo tg it v) (fun _ u1=>wpAny (model prog w) A (assign tg env v) (fun _ u2=>wpAny (model prog w) A
    (forIn ifs true fun c r=>if r=true then do let ok ←isTrue c env (eval c env);pure (ForInStep.yield ok) else pure (ForInStep.yield r)) (fun ok u3=>if ok=true then wpAny (model prog w) A (eval elt env) (fun x u4=>wpAny (model prog w) A (call (.builtin "list.append") [acc,x]) (fun _ u5=>onward u5) EN u4) EN u3 else onward u3) EN u2) EN u1) EN u
theorem lE{prog:Program}{w:World}{A:Around}{R:Result→Shared→Prop}{elt tg iter:Expr}{ifs:List Expr}{scope:Scope}{pos:Pos}{it acc:Value}{env:Env}(J:Nat→Shared→Prop)
    (turn:∀n u,J n u→wpAny (model prog w) A (pyNext it) (fun r u1=>(r=none→R (.ok .next) u1)∧∀v,r=some v→Dh prog w A elt tg ifs env it acc (fun u2=>∃m,m < n∧J m u2) v u1) EN u){n0:Nat}{u0:Shared}(jh:J n0 u0):
    codeAny (model prog w) A (.compLoop (.ListComp elt [⟨tg,iter,ifs,0⟩] scope pos) 0 it acc env) R u0:=by
  refine codeAny_loop rfl J (fun n u ju=>?_) n0 jh
  show wpAny _ A ((compTurn (.ListComp elt [⟨tg,iter,ifs,0⟩] scope pos) 0 it acc env).onRaise _) _ _ u;refine wpAny_noted ?_;rw [compTurn_list]
  refine wpAny_bind (wpAny_standAt (wpAny_bind (wpAny_mono (turn n u ju) (fun r u1 k1=>?_) fun _ _ z=>z.elim)))
  cases r with
  | none=>exact wpAny_pure (k1.1 rfl)
  | some v=>
    refine wpAny_bind (wpAny_mono (k1.2 v rfl) (fun _ u2 k2=>wpAny_bind (wpAny_mono k2 (fun _ u3 k3=>wpAny_bind (wpAny_mono k3 (fun ok u4 k4=>?_) fun _ _ z=>z.elim)) fun _ _ z=>z.elim)) fun _ _ z=>z.elim)
    cases ok with
    | false=>rw [if_neg Bool.false_ne_true] at k4;exact wpAny_pure ⟨rfl,k4⟩
    | true=>
      rw [if_pos rfl] at k4
      refine wpAny_bind (wpAny_bind (wpAny_mono k4 (fun x u5 k5=>wpAny_bind (wpAny_mono k5 (fun _ u6 k6=>?_) fun _ _ z=>z.elim)) fun _ _ z=>z.elim));exact wpAny_pure (wpAny_pure ⟨rfl,k6⟩)
def iR(cp:List (Nat × Str))(nT:Nat)(σ:L2.St):L2.St:=cp.map (fun p=>(σ[p.1]?).join)++List.replicate nT none
structure wX (cp:List (Nat × Str)) (nT:Nat) (wi:TI) (g:TG) (tc:TT) (te:TE) (σ:L2.St) (H:Hp) (Q:VK):Prop where
  go:wi σ H fun J H1=>∀l,H1 l=none→
  ∃W:Nat→Nat→L2.St→Hp→Prop,(∃m,W 0 m (iR cp nT σ) (bi H1 l (.lst [])))∧∀i m σ' H',W i m σ' H'→
    (J.stop i H'∧Q (.ref l) H')∨(J.go i H'∧∃N:L2.St→Hp→Prop,(∀σ2 H2,N σ2 H2→∃m',m' < m∧W (i+1) m' σ2 H2)∧
      ∀x H2,J.yld i H' x H2→g x σ' H2 fun σ2 H3=>tc σ2 H3 fun b H4=>if b=true then te σ2 H4 fun v H5=>∃ys,H5 l=some (.lst ys)∧ys.length < sizeLine∧N σ2 (bi H5 l (.lst (ys++[v]))) else N σ2 H4)
theorem BG{X:Cx}{elt iter tg:Expr}{ifs:List Expr}{scope:Scope}{pos:Pos}{wi:TI}{g:TG}{tc:TT}{te:TE}(sc0:Scope)(N0:List Str)(cp:List (Nat × Str))(tgN:List Str)
    (hc:X.calm=true)(hsc:X.env.scope=sc0)(hN0:X.N=N0)(hi:PI X tg iter wi)
    (hg:∀C s0 H0 fp,PG (aP X scope cp tgN C s0 H0 fp) tg g)
    (ht:∀C s0 H0 fp,ym (aP X scope cp tgN C s0 H0 fp) ifs tc)
    (he:∀C s0 H0 fp,PE (aP X scope cp tgN C s0 H0 fp) elt te)
    (hk:scope.kind=.function)(hcell:∀y∈scope.names,y.2≠.cell)(hnames:∀y∈scope.names,y.2=.local→scope.names.lookup y.1=some .local)
    (hfr:∀y∈scope.names,y.2=.free→scope.names.lookup y.1=some .free∧sc0.names.lookup y.1=some .cell)
    (hcp:∀p∈cp,N0[p.1]?=some p.2)(hcq:∀p∈cp,sc0.names.lookup p.2=some .cell∧scope.names.lookup p.2=some .free)
    (hs:∀x,foldedSetIterable iter X.env x=pure x:=by intro _;rfl):
    PE X (.ListComp elt [⟨tg,iter,ifs,0⟩] scope pos) (wX cp tgN.length wi g tc te):=by
  intro pins s σ H Q I h
  have hkind:∀x,X.env.kindOf x=sc0.names.lookup x:=fun x=>by unfold Env.kindOf;rw [hsc]
  have hfree:∀y∈scope.names,y.2=.free→∃c,X.env.cells.lookup y.1=some c:=fun y hy e=>I.ok.has y.1 (.inl (by rw [hkind];exact(hfr y hy e).2))
  rw [eval_ListComp]
  refine wpAny_comprehension_free (use:=none) rfl hs (oD hfree) hk hnames (wpAny_mono (hi pins s σ H _ I h.go) (fun xv s₁ h₁=>wpAny_mono h₁ (fun itv s₂ h₂=>?_) fun _ _ e=>e) fun _ _ e=>e)
  obtain⟨it,fp,tn,J,H2,rfl,I2,T,st2,f2,hq⟩:=h₂
  refine wpAny_newObj_type ?_
  have hlF:H2 s₂.heap.objs.size=none:=I2.hok.fresh (Nat.le_refl _)
  have I3:aE X pins σ (bi H2 s₂.heap.objs.size (.lst [])) {s₂ with heap:=s₂.heap.push {cls:=.type "list",data:=.seq ([]:List Value).toArray}}:=I2.lnew (t':=s₂.toks) .nil (Nat.zero_le _)
  obtain⟨W,⟨m0,w0⟩,turn⟩:=hq _ hlF
  have f3:∀b∈fp,iB X pins (bi H2 s₂.heap.objs.size (.lst [])) b:=fun b hb=>by
    obtain⟨f0,fr⟩:=f2 b hb
    obtain⟨o,ho,_⟩:=T.obj _ _ st2 b hb
    exact⟨by rw [au (Nat.ne_of_lt (Heap.lt_size ho))];exact f0,fr⟩
  have st3:tn 0 (s₂.heap.push {cls:=.type "list",data:=.seq ([]:List Value).toArray}):=T.keep _ _ _ st2 fun b _ o e=>Heap.get?_push_of_some _ e
  generalize hD:s₂.heap.objs.size=D at*
  generalize hs3:({s₂ with heap:=s₂.heap.push {cls:=.type "list",data:=.seq ([]:List Value).toArray}}:Shared)=s₃ at*
  have hst3:tn 0 s₃.heap:=by rw [←hs3];exact st3
  refine wpAny_newFunctionEnv hcell (by intro y hy;simp at hy) (fun h₁ hns₁ hsb₁=>?_) hk
  generalize hC:s₃.heap.objs.size=C at*
  have old:∀b o,s₃.heap.get? b=some o→h₁.get? b=some o:=fun b o e=>hsb₁.extBut b o (by rw [←hC];exact Nat.ne_of_lt (Heap.lt_size e)) (Heap.get?_push_of_some _ e)
  have nC:∀b o,s₃.heap.get? b=some o→b≠C:=fun b o e=>by rw [←hC];exact Nat.ne_of_lt (Heap.lt_size e)
  have hHC:(bi H2 D (.lst [])) C=none:=I3.hok.fresh (by rw [hC];exact Nat.le_refl _)
  have clS:∀x c,(ji X.env scope.names []).lookup x=some c→X.env.cells.lookup x=some c:=fun x c e=>kW _ _ x c hfree (fun _ _ z=>by simp at z) e
  have clH:∀x,(∃y∈scope.names,y.1=x∧y.2=.free)→∃c,(ji X.env scope.names []).lookup x=some c:=fun x e=>oC _ _ x (.inl e)
  have ok':(aP X scope cp tgN C s₃ (bi H2 D (.lst [])) fp).Ok:=by
    refine⟨I.ok.mod,hk,I.ok.glob,I.ok.blt,by rw [←hC];exact Nat.le_refl _,fun x y c e1 e2=>I.ok.inj x y c (clS _ _ e1) (clS _ _ e2),fun x e=>clH x (dW hcell e),fun x c e1 e2=>?_,I.ok.hd,I.ok.frames,.inl rfl,fun b hb=>?_,fun b o e=>I3.bs b o e,?_,fun b o e hb=>?_,fun b hb z=>?_,I3.stack,fun b hb=>I3.stkFree b hb⟩
    · exfalso
      have e1':scope.names.lookup x=some .local:=by simpa [aP] using e1
      have e2':=clS x c e2
      obtain⟨c',hc'⟩:∃y∈scope.names,y.1=x∧y.2=.free:=by
        by_cases q:∃y∈scope.names,y.1=x∧y.2=.free
        · exact q
        · exfalso
          have:∀(names:List (Str × NameKind)) (cs:List (Str × Addr)),(¬∃y∈names,y.1=x∧y.2=.free)→cs.lookup x=none→(ji X.env names cs).lookup x=none:=by
            intro names
            induction names with
            | nil=>intro cs _ h;exact h
            | cons y r ih=>
              intro cs hn hcs
              obtain⟨n,k⟩:=y
              refine ih _ (fun⟨y,hy,z⟩=>hn ⟨y,List.mem_cons_of_mem _ hy,z⟩) ?_
              by_cases hk:(k==NameKind.free)=true
              · rw [if_pos hk,List.lookup_cons]
                cases hx:x==n with
                | true=>exact absurd ⟨(n,k),List.mem_cons_self,(by simpa using hx:x=n).symm,by simpa using hk⟩ hn
                | false=>exact hcs
              · rw [if_neg hk];exact hcs
          have z:=this scope.names [] q rfl
          have e2'':(ji X.env scope.names []).lookup x=some c:=e2
          rw [z] at e2'';cases e2''
      have z:=(hfr c' hc'.1 hc'.2.2).1
      rw [hc'.2.1,e1'] at z;cases z
    · obtain⟨f0,f1,f4,f5,f6,f7⟩:=f3 b hb
      obtain⟨o,ho,_⟩:=T.obj _ _ hst3 b hb
      exact⟨nC b o ho,fun x c e=>f6 x c (clS x c e)⟩
    · exact Nat.le_trans I.ok.bsz I3.sz
    · obtain⟨f0,f1,f4,f5,f6,f7⟩:=f3 b hb
      rcases f5 with z | z
      · exact I.ok.noex b o e z
      · have:=(I.ok.bs b o e).1
        exact absurd (Nat.lt_of_lt_of_le (Heap.lt_size this) z) (Nat.lt_irrefl _)
    · obtain⟨f0,f1,f4,f5,f6,f7⟩:=f3 b hb
      rcases List.mem_cons.mp (I3.stkSub b z) with z | z
      · exact f1 z
      · exact f4 z
  have I4:aE (aP X scope cp tgN C s₃ (bi H2 D (.lst [])) fp) [] (iR cp tgN.length σ) (bi H2 D (.lst [])) {s₃ with heap:=h₁,toks:=s₃.toks+([]:List (Str × Value)).length}:=by
    refine⟨ok',rfl,I3.bare,Un.kept old,⟨_,hns₁,fun i x v e1 e2 e3=>?_⟩,fun x c e=>?_,hHC,fun x c e=>I3.freeC x c (clS x c e),fun p hp=>by simp [aP] at hp,I3.hok.kept old,by simp [iR,aP]⟩
    · have hlt:i < cp.length:=by
        by_cases q:i < cp.length
        · exact q
        · exfalso
          unfold iR at e2
          rw [List.getElem?_append_right (by simp;lia)] at e2
          rw [List.getElem?_replicate] at e2
          split at e2<;>cases e2
      have e1':(cp.map (·.2))[i]?=some x:=by
        have e1'':(cp.map (·.2)++tgN)[i]?=some x:=e1
        rwa [List.getElem?_append_left (by simp;exact hlt)] at e1''
      have e2':(cp.map (fun p=>(σ[p.1]?).join))[i]?=some (some v):=by
        unfold iR at e2
        rwa [List.getElem?_append_left (by simp;exact hlt)] at e2
      rw [List.getElem?_map,List.getElem?_eq_getElem hlt] at e1' e2'
      have ex:(cp[i]).2=x:=by simpa using e1'
      have ev:(σ[(cp[i]).1]?).join=some v:=by simpa using e2'
      have ev':σ[(cp[i]).1]?=some (some v):=by
        cases q:σ[(cp[i]).1]? with
        | none=>rw [q] at ev;cases ev
        | some z=>rw [q] at ev;simp only [Option.join_some] at ev;rw [ev]
      have hN:=hcp cp[i] (List.getElem_mem hlt)
      rw [←hN0] at hN
      obtain⟨hcl,hcf⟩:=hcq cp[i] (List.getElem_mem hlt)
      rw [ex] at hN hcl hcf
      obtain⟨m,hn,hl⟩:=I3.loc
      obtain⟨u,r,l⟩:=hl _ x v hN ev' (.inr (.inl (by rw [hsc];exact hcl)))
      refine⟨u,r,.inr ?_⟩
      rcases l with ⟨k1,_⟩ | ⟨k1,c,hcc,o,ho,hd⟩
      · rw [hkind,hcl] at k1;cases k1
      · have e3':(relabel scope X.env).names.lookup x=some .local∨(relabel scope X.env).names.lookup x=some .cell∨(relabel scope X.env).names.lookup x=some .free:=e3
        have nl:(relabel scope X.env).names.lookup x=some .cell∨(relabel scope X.env).names.lookup x=some .free:=by
          rcases e3' with z | z | z
          · exact absurd z (fF hcf)
          · exact .inl z
          · exact .inr z
        obtain⟨c',hc'⟩:=clH x (dW hcell nl)
        have:=clS x c' hc'
        rw [hcc] at this;cases this
        exact⟨nl,c,hc',o,old c o ho,hd⟩
    · obtain⟨v,o,ho,hd⟩:=I3.cell x c (clS x c e)
      exact⟨v,o,old c o ho,hd⟩
  have hst4:tn 0 h₁:=T.keep _ _ _ hst3 fun b _ o e=>old b o e
  have loop:codeAny (model X.prog X.w) X.A (.compLoop (.ListComp elt [⟨tg,iter,ifs,0⟩] scope pos) 0 (.ref it) (.ref D) (compEnvC scope (ji X.env scope.names []) C X.env))
      (compPost (model X.prog X.w) X.A X.xe none (EP X pins σ Q) (.ref D) C) {s₃ with heap:=h₁,toks:=s₃.toks+([]:List (Str × Value)).length}:=by
    refine lE (fun n s'=>∃i σ' H',aE (aP X scope cp tgN C s₃ (bi H2 D (.lst [])) fp) [] σ' H' s'∧tn i s'.heap∧(∀b∈fp,H' b=none)∧W i n σ' H') ?_ (n0:=m0) ⟨0,_,_,I4,hst4,fun b hb=>(f3 b hb).1,w0⟩
    rintro n s5 ⟨i,σ5,H5,I5,st5,fr5,w5⟩
    have stat:∀{H':Hp},(∀b∈fp,H' b=none)→∀b∈fp,iB (aP X scope cp tgN C s₃ (bi H2 D (.lst [])) fp) [] H' b:=fun hn b hb=>
      ⟨hn b hb,(ok'.exf b hb).1,ok'.exfs b hb,.inl hb,(ok'.exf b hb).2,fun p hp=>by simp [aP] at hp⟩
    rcases turn i n σ5 H5 w5 with ⟨stop,qn⟩ | ⟨go,N,hN,step⟩
    · refine cA (T.done (aP X scope cp tgN C s₃ (bi H2 D (.lst [])) fp) rfl rfl rfl hc i [] s5 σ5 H5 (fun _ _=>False) I5 (stat fr5) st5 stop) fun r s6 ⟨hr,I6⟩=>?_
      subst hr
      refine⟨fun _=>?_,fun v z=>by cases z⟩
      obtain⟨m,hn,_⟩:=I6.loc
      refine⟨m,hn,fun h' sb=>⟨.ref D,H5,?_,rfl,qn⟩⟩
      have ub:=I6.base
      have kp:∀b u,b≠C→s6.heap.get? b=some u→h'.get? b=some u:=fun b u ne e=>sb.extBut b u ne e
      have nit:∀b u,H5 b=some u→b≠C:=fun b u e z=>by
        have:=I6.free
        rw [z] at e
        rw [show H5 C=none from this] at e;cases e
      refine I3.call' (s':={s6 with heap:=h'}) (ch:=fp) I6.os ⟨fun b o e n hb hx=>kp b o (nC b o e) (ub.keep b o e n hb hx),fun b o e n hb hx=>?_,ub.free,fun b o e hx=>?_,ub.tups,ub.frzs,ub.tbls⟩ (fun b u e=>?_) I6.bare (fun b hb=>?_)
      · obtain⟨sl,q⟩:=ub.slot b o e n hb hx
        exact⟨sl,kp b _ (nC b o e) q⟩
      · obtain⟨o',q⟩:=ub.there b o e hx
        exact⟨o',kp b _ (nC b o e) q⟩
      · refine(I6.hok b u e).stay (fun c v hc q=>kp c v ?_ q) (fun _ q=>q) fun _ _ q=>q
        rcases hc with z | z
        · rw [z];exact nit b u e
        · exact nit c _ z
      · obtain⟨f0,f1,f4,f5,f6,f7⟩:=f3 b hb
        exact⟨f5,f1,f6,f7⟩
    · refine cA (T.item (aP X scope cp tgN C s₃ (bi H2 D (.lst [])) fp) rfl rfl rfl hc i [] s5 σ5 H5 (fun _ _=>False) I5 (stat fr5) st5 go) fun r s6 ⟨u,hr,h6⟩=>?_
      subst hr
      refine⟨fun z=>(by cases z),fun v z=>?_⟩
      cases z
      refine cA h6 fun _ s7 ⟨x,H7,I7,r7,y7,st7,fr7⟩=>?_
      have I7':=I7.pinned (stat fr7) (T.obj _ _ st7)
      have again:∀{σ8:L2.St} {H8:Hp} {s8:Shared},aE (aP X scope cp tgN C s₃ (bi H2 D (.lst [])) fp) ([]++mF fp s7.heap) σ8 H8 s8→N σ8 H8→∃m,m < n∧∃i σ' H',aE (aP X scope cp tgN C s₃ (bi H2 D (.lst [])) fp) [] σ' H' s8∧tn i s8.heap∧(∀b∈fp,H' b=none)∧W i m σ' H':=fun{σ8 H8 s8} I8 n8=>by
        obtain⟨m',hm,w8⟩:=hN σ8 H8 n8
        refine⟨m',hm,i+1,σ8,H8,I8.unpinned,T.keep _ _ _ st7 fun b hb o e=>(I8.pin (b,o) (List.mem_append_right _ (List.mem_append_right _ (ey hb e)))).1,fun b hb=>?_,w8⟩
        obtain⟨o,e,d⟩:=T.obj _ _ st7 b hb
        exact(I8.pin (b,o) (List.mem_append_right _ (List.mem_append_right _ (ey hb e)))).2.1
      refine cA (hg C s₃ (bi H2 D (.lst [])) fp _ s7 σ5 H7 x u _ I7' r7 (step x H7 y7)) fun _ s8 ⟨σ8,H8,I8,q8⟩=>?_
      refine cA (ht C s₃ (bi H2 D (.lst [])) fp _ s8 σ8 H8 _ I8 q8) fun ok s9 ⟨H9,I9,q9⟩=>?_
      cases ok with
      | false=>
        rw [if_neg Bool.false_ne_true] at q9 ⊢
        exact again I9 q9
      | true=>
        rw [if_pos rfl] at q9 ⊢
        refine cA (he C s₃ (bi H2 D (.lst [])) fp _ s9 σ8 H9 _ I9 q9) fun v s10 ⟨xv,H10,I10,r10,ys,hl,hz,n10⟩=>?_
        refine cA (j6 _ s10 σ8 H10 (.ref D) [xv] (.ref D) [v] (fun _ H=>N σ8 H) I10 rfl (.cons r10 .nil) ⟨D,ys,xv,rfl,rfl,hl,hz,n10⟩) fun _ s11 ⟨_,H11,I11,_,q11⟩=>?_
        exact again I11 q11
  exact codeAny_compStart_list loop (T.self X.A 0 _ _ _ hst4 loop)
end L2
namespace L2
open PySem PySem.Spec PyProof.Rows
section
variable{X:Cx}
def zS(K:PySem.W.Frag):R2:=fun x y H Q=>∃a b xs ys,x=.ref a∧y=.ref b∧bX K H a xs∧bX K H b ys∧xs.length+ys.length≤sizeLine∧∀p H',av H H'→bX K H' p (xs++ys)→Q (.ref p) H'
theorem Bu:jo X (binaryOp .Add) (zS X.K):=by
  intro pins s σ H x y v u Q I rx ry h
  obtain⟨a,b,xs,ys,rfl,rfl,ha,hb,hz,q⟩:=h
  cases rx;cases ry
  by_cases hx:xs=[]
  · obtain⟨i1,r1,p1,_⟩:=I.tuple ha
    obtain⟨i2,r2,p2,_⟩:=I.tuple hb
    obtain⟨m,F⟩:=I.fr
    have e1:i1=[]:=by subst hx;cases r1;rfl
    refine add_tuples F (y9 (g:=X.base)) p1 p2 (fun _=>?_) (fun z1 _=>absurd e1 z1) (fun z1 _ _ _ _=>absurd e1 z1) (by rw [←r1.length,←r2.length];exact hz)
    exact⟨.ref b,H,I,rfl,q b H (av.refl H) (by rw [hx];exact hb)⟩
  · exact Bv pins s σ H (.ref a) (.ref b) _ _ Q I rfl rfl ⟨a,b,xs,ys,rfl,rfl,ha,hb,hx,hz,fun z=>q a H (av.refl H) (by rw [z,List.append_nil];exact ha),fun _ p hp=>q p _ (av.new hp) (bX.of aA)⟩
theorem rV{x:V}{us:List Value}(r:aM [x] us):∃u,us=[u]∧bA x u:=by
  cases r with
  | cons p p'=>cases p';exact⟨_,rfl,p⟩
theorem sQ{prog:Program}{w:World}{A:Around}{E:Value→Shared→Prop}{s:Shared}{t:Addr}{vs:List Value}{Q:List Value→Shared→Prop}(ht:IsTup s.heap t vs.toArray)
    (h:Q vs {s with heap:=(s.heap.push (seqObj "list" #[] 0)).update s.heap.objs.size (Obj.mapSeq (· ++vs.toArray))})(hsz:vs.length≤sizeLine):wpAny (model prog w) A (collect (.ref t)) Q E s:=by
  obtain⟨o,ho,hc,n,hd⟩:=id ht;unfold collect;refine wpAny_bind (wpAny_runValue (codeAny_builtin entry_proto_collect' ?_))
  show wpAny _ _ (do again (.builtin "list.__iadd__" ⟨[←newList [],.ref t],[]⟩)) _ _ s
  refine wpAny_bind (wpAny_newList (wpAny_pure ⟨Code.quiet_builtin _ (by decide+kernel),?_⟩));refine codeAny_builtin entry_list_iadd' ?_
  show wpAny _ _ (Builtin.List.listExtendWith (.ref s.heap.objs.size) (.ref t) (.ref s.heap.objs.size)) _ _ {s with heap:=s.heap.push (seqObj "list" #[] 0)}
  unfold Builtin.List.listExtendWith;have ho':(s.heap.push (seqObj "list" #[] 0)).get? t=some o:=Heap.get?_push_of_some _ ho
  refine wpAny_bind (wpAny_typeOf (T:="tuple") ⟨o,ho',hc⟩ ?_)
  rw [if_pos (by rw [show(Value.type "tuple"==Value.type "tuple")=true from rfl,Bool.or_true])]
  refine wpAny_bind (listItems_at ho' hd ?_);refine wpAny_bind (listItems_at (xs:=#[]) (n:=0) (Heap.get?_push_size _ rfl) rfl ?_)
  rw [if_neg (by simp)];refine wpAny_bind (listUpdate_at (xs:=#[]) (n:=0) (Heap.get?_push_size _ rfl) rfl ?_ (Nat.zero_le _) (by show(#[]++vs.toArray).size≤sizeLine+1;simp only [Array.size_append,List.size_toArray,List.length_nil];lia))
  refine wpAny_pure ?_
  show wpAny (model prog w) A (load s.heap.objs.size >>= fun o=>match o.data with | .seq xs _=>pure xs.toList | _=>unsupported "internal:collect") Q E {s with heap:=(s.heap.push (seqObj "list" #[] 0)).update s.heap.objs.size (Obj.mapSeq (· ++vs.toArray))}
  refine wpAny_bind (wpAny_load (get?_update_seq (Heap.get?_push_size _ rfl) _) ?_);show wpAny _ _ (pure ((#[]:Array Value)++vs.toArray).toList) Q E _;rw [show((#[]:Array Value)++vs.toArray).toList=vs by simp];exact wpAny_pure h
theorem vq{prog:Program}{w:World}{A:Around}{E:Value→Shared→Prop}{s:Shared}{t:Addr}{vs:List Value}{ns:List Int}{Q:Value→Shared→Prop}(ht:IsTup s.heap t vs.toArray)(hI:IntsAre vs ns)(h64:vs.length < 64)
    (h:∀(out:Array Value) (ns':List Int),IntsAre out.toList ns'→ns'.Perm ns→ns'.Pairwise (· ≤·)→Q (.ref (s.heap.objs.size+1)) {s with heap:=sortedAll s.heap vs out}):wpAny (model prog w) A (call (.builtin "sorted") [.ref t]) Q E s:=by
  refine Calls.call_function_entry kind_sorted plain_sorted entry_sorted (args_sorted1 _) ?_;unfold Builtin.«sorted»
  refine wpAny_bind (m:=checkCount "sorted" 1 1 _) (wpAny_pure ?_);refine wpAny_bind (sQ ht ?_ (Nat.le_trans (Nat.le_of_lt h64) (by decide)))
  have z:((s.heap.push (seqObj "list" #[] 0)).update s.heap.objs.size (Obj.mapSeq (· ++vs.toArray))).objs.size=s.heap.objs.size+1:=by rw [Heap.size_update,size_push']
  have o:(((s.heap.push (seqObj "list" #[] 0)).update s.heap.objs.size (Obj.mapSeq (· ++vs.toArray))).push (seqObj "list" vs.toArray 0)).get? (s.heap.objs.size+1)=some (seqObj "list" vs.toArray 0):=by rw [←z];exact Heap.get?_push_size _ rfl
  refine wpAny_bind (wpAny_newList ?_);show wpAny _ _ _ _ _ {s with heap:=((s.heap.push (seqObj "list" #[] 0)).update s.heap.objs.size (Obj.mapSeq (· ++vs.toArray))).push (seqObj "list" vs.toArray 0)}
  rw [z];refine wpAny_bind (wpAny_holding (wpAny_call_entry slot_list_sort ⟨_,o,rfl⟩ entry_list_sort (list_sort_tree o hI h64 fun out ns' b1 b2 b3=>⟨_,rfl,?_⟩) (args_list_sort _)))
  exact wpAny_pure ⟨_,rfl,h out ns' b1 b2 b3⟩
theorem sN:fH X (.builtin "sorted") (fun xs H Q=>∃(a:Addr) (ns:List Int),xs=[.ref a]∧bX X.K H a (ns.map V.int)∧ns.length < 64∧∀(l:Addr) (ns':List Int) (H':Hp),av H H'→H l=none→H' l=some (.lst (ns'.map V.int))→ns'.Perm ns→ns'.Pairwise (· ≤·)→Q (.ref l) H'):=by
  intro pins s σ H xs us Q I r h
  obtain⟨a,ns,rfl,hs,h64,q⟩:=h
  obtain⟨u,rfl,ru⟩:=rV r
  cases ru
  obtain⟨its,rv,p,hz⟩:=I.tuple hs
  have hl:=rv.length
  rw [List.length_map] at hl
  refine vq p (uU rv) (by lia) fun out ns' a1 a2 a3=>?_
  obtain⟨e,he⟩:=sortedAll_at s.heap its out
  have hf:H (s.heap.objs.size+1)=none:=I.hok.fresh (Nat.le_succ _)
  refine⟨.ref (s.heap.objs.size+1),bi H (s.heap.objs.size+1) (.lst (ns'.map V.int)),I.laid (t':=s.toks) (fun _ _=>sortedAll_old) (Nat.le_succ _) ⟨?_,out.toList,e,mQ a1,?_⟩,rfl,q _ ns' _ (av.new hf) hf aA a2 a3⟩
  · rw [List.length_map,a2.length_eq]
    exact Nat.le_trans (Nat.le_of_lt h64) (by decide)
  · simpa [seqObj] using he
end
end L2
namespace L2
open PySem PySem.Spec PyProof.Rows
section
variable{X:Cx}
end
theorem x6{e:Expr}{es:List Expr}{env:Env}(h:PySem.W.isStarred e=false):starEach (e::es) env=(false,eval e env)::starEach es env:=by
  cases e<;>first | rfl | cases h
theorem BD{X:Cx}{e:Expr}{es:List Expr}{te:TE}{t:TA}(ha:PE X e te)(hr:PA X es t)(h:PySem.W.isStarred e=false:=by rfl):PA X (e::es) (ud te t):=BC ha hr (x6 h)
def wZ:List (Int × Int)→TA
  | []=>Eu
  | p::r=>ud (FZ (ud (tC (.int p.1)) (ud (tC (.int p.2)) Eu))) (wZ r)
@[irreducible] def GZ(ps:List (Int × Int)):TA:=wZ ps
structure iC where
  one:Int
  other:Int
  top:Int
  bot:Int
  worth:Int
structure aC where
  things:Int
  ties:List iC
  pat:List Int
  asks:Int
structure iC.Ok (n:Int) (t:iC):Prop where
  o0:0≤t.one
  o1:t.one < t.other
  o2:t.other < n
  c0:0≤t.top
  c1:t.top≤t.bot
  b0:1≤t.bot
  b1:t.bot≤100
  w0:0≤t.worth
  w1:t.worth≤1000
  cop:Int.gcd t.top t.bot=1
structure aC.Ok (w:aC):Prop where
  t0:0≤w.things
  t1:w.things≤12
  ties:∀t∈w.ties,t.Ok w.things
  len:w.ties.length≤16
  pl:(w.pat.length:Int)=w.things
  pat:∀p∈w.pat,0≤p∧p≤20
  a0:0≤w.asks
  a1:w.asks≤40
def ER(K:PySem.W.Frag)(H:Hp)(v:V)(t:iC):Prop:=∃p q,v=.ref p∧bX K H p [.int t.one,.int t.other,.ref q,.int t.worth]∧bX K H q [.int t.top,.int t.bot]
inductive q5 (K:PySem.W.Frag) (H:Hp):List V→List iC→Prop
  | nil:q5 K H [] []
  | cons {v vs t ts}:ER K H v t→q5 K H vs ts→q5 K H (v::vs) (t::ts)
structure G8 (K:PySem.W.Frag) (H:Hp) (v:V) (w:aC):Prop where
  ex:∃a b c ts,v=.ref a∧bX K H a [.int w.things,.ref b,.ref c,.int w.asks]∧bX K H b ts∧q5 K H ts w.ties∧bX K H c (w.pat.map V.int)
section
variable{K:PySem.W.Frag}{H H':Hp}
end
theorem uZ{t b:Int}(hb:0 < b)(h0:0≤t)(h1:t≤b)(h2:b≤100):0≤(lowM t b).1∧(lowM t b).1≤(lowM t b).2∧1≤(lowM t b).2∧(lowM t b).2≤100:=by
  obtain⟨d,e1,e2,e3,e4,e5⟩:=et (t:=t) (b:=b) (by lia)
  generalize (lowM t b).1=x at*
  generalize (lowM t b).2=y at*
  have dp:0 < d:=by
    rcases Int.lt_or_gt_of_ne e2 with z | z
    · exfalso
      have:y*d < 0:=Int.mul_neg_of_pos_of_neg e5 z
      lia
    · exact z
  have x0:0≤x:=by
    rcases Int.lt_or_le x 0 with z | z
    · have:x*d < 0:=Int.mul_neg_of_neg_of_pos z dp
      lia
    · exact z
  have xy:x≤y:=by
    rcases Int.lt_or_le y x with z | z
    · have:y*d < x*d:=Int.mul_lt_mul_of_pos_right z dp
      lia
    · exact z
  have yb:y≤y*d:=by
    have:=Int.mul_le_mul_of_nonneg_left (show(1:Int)≤d by lia) (show 0≤y by lia)
    lia
  exact⟨x0,xy,by lia,by lia⟩
end L2
namespace L2
open PySem PySem.Spec PyProof.Rows
inductive pO {α β:Type} (R:α→β→Prop):List α→List β→Prop
  | nil:pO R [] []
  | cons {a b as bs}:R a b→pO R as bs→pO R (a::as) (b::bs)
namespace pO
variable{α β:Type}{R S:α→β→Prop}
theorem mono(h:∀a b,R a b→S a b):∀{as:List α} {bs:List β},pO R as bs→pO S as bs
  | _,_,.nil=>.nil
  | _,_,.cons x r=>.cons (h _ _ x) (mono h r)
theorem len:∀{as:List α} {bs:List β},pO R as bs→as.length=bs.length
  | _,_,.nil=>rfl
  | _,_,.cons _ r=>by simp [len r]
theorem get:∀{as:List α} {bs:List β} {i:Nat} {b:β},pO R as bs→bs[i]?=some b→∃a,as[i]?=some a∧R a b
  | _,_,_,_,.nil,e=>by simp at e
  | _,_,0,_,.cons x _,e=>by simp at e;subst e;exact⟨_,rfl,x⟩
  | _,_,i+1,b,.cons _ r,e=>by
    obtain⟨v,h1,h2⟩:=get (i:=i) (b:=b) r (by simpa using e)
    exact⟨v,by simpa using h1,h2⟩
end pO
section
variable{K:PySem.W.Frag}{a l:Addr}{xs:List V}{g:TG}{tc:TT}{te:TE}{Q:VK}{σ:L2.St}{H:Hp}{α β:Type}{us:List α}{cp:List (Nat × Str)}{nT:Nat}
def Ge(a8:Hp→V→β→Prop)(SI:L2.St→Prop)(us:List α)(f:α→Option β)(H:Hp)(l:Addr)(i:Nat)(σ:L2.St)(H':Hp):Prop:=SI σ∧av H H'∧∃vs,H' l=some (.lst vs)∧vs.length≤i∧pO (a8 H') vs ((us.take i).filterMap f)
end
theorem nF:∀{a b:List Int},a.Perm b→a.Pairwise (· ≤·)→b.Pairwise (· ≤·)→a=b
  | [],b,p,_,_=>by
    have:=p.length_eq
    exact(List.length_eq_zero_iff.mp this.symm).symm
  | x::a,b,p,h1,h2=>by
    cases b with
    | nil=>have:=p.length_eq;simp at this
    | cons y b=>
      have h1':=List.pairwise_cons.mp h1
      have h2':=List.pairwise_cons.mp h2
      have e:x=y:=by
        have m1:y∈x::a:=p.mem_iff.mpr (by simp)
        have m2:x∈y::b:=p.mem_iff.mp (by simp)
        rcases List.mem_cons.mp m1 with z | z
        · exact z.symm
        · rcases List.mem_cons.mp m2 with z2 | z2
          · exact z2
          · have:=h1'.1 y z
            have:=h2'.1 x z2
            lia
      subst e
      rw [nF ((List.perm_cons x).mp p) h1'.2 h2'.2]
def jR(ns:List Int):List Int:=ns.mergeSort
theorem Am{ns ns':List Int}(p:ns'.Perm ns)(h:ns'.Pairwise (· ≤·)):ns'=jR ns:=by
  refine nF (p.trans (List.mergeSort_perm ns _).symm) h ?_
  have:=List.pairwise_mergeSort (le:=fun a b:Int=>decide (a≤b)) (fun a b c h1 h2=>by simp at*;lia) (fun a b=>by simp;lia) ns
  exact this.imp fun h=>by simpa using h
theorem gR(ns:List Int):(jR ns).Perm ns:=List.mergeSort_perm ns _
theorem mM{ns:List Int}{x:Int}:x∈jR ns↔ x∈ns:=(gR ns).mem_iff
theorem qO(ns:List Int):(jR ns).length=ns.length:=(gR ns).length_eq
section
variable{X:Cx}{K:PySem.W.Frag}{pos:Pos}
theorem yV(h:X.K=K):AG X (Eg K):=h ▸ wB
theorem xm(h:X.K=K):fH X (.builtin "len") (fun xs H Q=>∃p ys,xs=[.ref p]∧(d_ K H p ys∨bX K H p ys)∧Q (.int ys.length) H):=h ▸ lC
theorem BK{es:List Expr}{k:Nat}{t:AH}{n:Nat}(hK:X.K=K)(hc:X.calm=true)(h:yi X es t)(hn:(assignEach es X.env).length=n:=by rfl)(hst:(assignEach es X.env).findIdx? (·.1)=none:=by rfl):PG X (.Tuple es k pos) (E3 K n t):=hK ▸ DR hc h hn hst
theorem BN{tg l:Expr}{tl:TE}(h:X.K=K)(hl:PE X l tl):PI X tg l (E6 K tl):=h ▸ DT hl
theorem tP{tg l:Expr}{tl:TE}(h:X.K=K)(hl:PE X l tl):PI X tg l (CH K tl):=h ▸ BM hl
end
instance:Inhabited iC:=⟨⟨0,1,1,1,0⟩⟩
def aC.tie(W:aC)(k:Int):iC:=W.ties.getD k.toNat default
def aC.has(W:aC)(k thing:Int):Bool:=(W.tie k).one==thing || (W.tie k).other==thing
def aC.many(W:aC)(asked:List Int)(thing:Int):Int:=((asked.filter fun k=>W.has k thing).length:Nat)
def aC.bears(W:aC)(asked taken:List Int)(thing:Int):Bool:= !taken.contains thing&&decide (W.many asked thing < W.pat.getD thing.toNat 0)
def aC.may(W:aC)(asked taken:List Int)(k:Int):Bool:= !(asked.contains k || decide (W.asks≤(asked.length:Int)))&&(W.bears asked taken (W.tie k).one&&W.bears asked taken (W.tie k).other)
def aC.askd(asked:List Int)(k:Int):List Int:=jR (asked++[k])
def aC.took(W:aC)(taken:List Int)(k:Int)(truth:Bool):List Int:=if truth then jR (taken++[(W.tie k).one,(W.tie k).other]) else taken
def aC.rng(W:aC):List Int:=(List.range W.ties.length).map Int.ofNat
def aC.can(W:aC)(asked taken:List Int):List Int:=W.rng.filter fun k=>W.may asked taken k
def km(W:aC)(k:Int):Prop:=0≤k∧k < (W.ties.length:Int)
theorem km.get{W:aC}{k:Int}(h:km W k):W.ties[k.toNat]?=some (W.tie k):=by
  have hk:k.toNat < W.ties.length:=by have:=h.1;have:=h.2;lia
  unfold aC.tie
  rw [List.getD_eq_getElem?_getD,List.getElem?_eq_getElem hk];rfl
theorem km.ok{W:aC}{k:Int}(h:km W k)(o:W.Ok):(W.tie k).Ok W.things:=o.ties _ (List.mem_of_getElem? h.get)
theorem n_{W:aC}{k:Int}:k∈W.rng↔ km W k:=by
  unfold aC.rng km
  rw [List.mem_map]
  constructor
  · rintro⟨n,hn,rfl⟩
    have:=List.mem_range.mp hn
    exact⟨Int.natCast_nonneg n,by simp;lia⟩
  · rintro⟨h0,h1⟩
    exact⟨k.toNat,List.mem_range.mpr (by lia),by simp;lia⟩
def C_(K:PySem.W.Frag)(H:Hp)(v:V)(asked taken:List Int):Prop:=∃a b c,v=.ref a∧bX K H a [.ref b,.ref c]∧bX K H b (asked.map V.int)∧bX K H c (taken.map V.int)
theorem C_.ts{K:PySem.W.Frag}{H H':Hp}(s:mR H H'){v:V}{asked taken:List Int}(h:C_ K H v asked taken):C_ K H' v asked taken:=by
  obtain⟨a,b,c,e,h1,h2,h3⟩:=h
  exact⟨a,b,c,e,s.tup h1,s.tup h2,s.tup h3⟩
section
variable{K:PySem.W.Frag}{σ:L2.St}{H:Hp}{Q:VK}{i j:Nat}{vW:V}{W:aC}{k:Int}
end
def C1(k:Int):Prop:= -1000000≤k∧k≤1000000
def Dk(n dep:Nat)(d:PyData):Prop:=d.showable=true∧oS d=true∧L2.cnt d≤n∧d.depth≤dep
theorem Dk.mono{n m dep e:Nat}{d:PyData}(h:Dk n dep d)(h1:n≤m)(h2:dep≤e):Dk m e d:=⟨h.1,h.2.1,Nat.le_trans h.2.2.1 h1,Nat.le_trans h.2.2.2 h2⟩
theorem Dk.int{k:Int}(h:C1 k):Dk 1 2 (.int k):=by
  refine⟨?_,rfl,Nat.le_refl _,by simp [PyData.depth]⟩
  show decide (k.natAbs.log2 < 1920)=true
  rw [decide_eq_true_eq]
  exact Nat.lt_trans ((show Bt 64 k by have:=h.1;have:=h.2;unfold Bt;lia).log (by decide)) (by decide)
theorem Dk.bool(b:Bool):Dk 1 2 (.bool b):=⟨rfl,rfl,Nat.le_refl _,by simp [PyData.depth]⟩
theorem Dk.none:Dk 1 2 .none:=⟨rfl,rfl,Nat.le_refl _,by simp [PyData.depth]⟩
theorem Dk.all{n dep:Nat}:∀{ds:List PyData},(∀d∈ds,Dk n dep d)→PyData.showableAll ds=true∧iO ds=true∧kX ds≤ds.length*n∧PyData.depthAll ds≤dep
  | [],_=>⟨rfl,rfl,by simp [kX],by simp [PyData.depthAll]⟩
  | d::r,h=>by
    obtain⟨a1,a2,a3,a4⟩:=h d (by simp)
    obtain⟨b1,b2,b3,b4⟩:=Dk.all (ds:=r) fun x hx=>h x (by simp [hx])
    refine⟨?_,?_,?_,?_⟩
    · simp only [PyData.showableAll,a1,b1,Bool.and_self]
    · simp only [iO,a2,b2,Bool.and_self]
    · simp only [kX,List.length_cons,Nat.succ_mul]
      lia
    · simp only [PyData.depthAll];lia
theorem Dk.tup{n dep m:Nat}{ds:List PyData}(h:∀d∈ds,Dk n dep d)(hl:ds.length≤m):Dk (1+m*n) (dep+2) (.tuple ds):=by
  obtain⟨b1,b2,b3,b4⟩:=Dk.all h
  refine⟨b1,b2,?_,?_⟩
  · simp only [L2.cnt]
    have:=Nat.mul_le_mul_right n hl
    lia
  · simp only [PyData.depth];lia
theorem Dk.ok{n dep:Nat}{d:PyData}(h:Dk n dep d)(h1:n≤8000)(h2:dep≤60):d.showable=true∧d.depth≤60∧d.shown.length≤sizeLine:=by
  have:=qL h.2.1 h.1
  have sl:sizeLine=16777216:=sizeLine_eq
  have:=h.2.2.1
  exact⟨h.1,Nat.le_trans h.2.2.2 h2,by lia⟩
theorem Dk.ints{ns:List Int}{m:Nat}(hl:ns.length≤m)(h:∀r∈ns,C1 r):Dk (1+m) 4 (.tuple (ns.map .int)):=by
  have:=Dk.tup (n:=1) (dep:=2) (m:=m) (ds:=ns.map PyData.int) (fun d hd=>by
    obtain⟨x,hx,rfl⟩:=List.mem_map.mp hd
    exact Dk.int (h x hx)) (by rw [List.length_map];exact hl)
  simpa using this
section
variable{K:PySem.W.Frag}{H:Hp}
def bL(t:iC):PyData:=.tuple [.int t.one,.int t.other,.tuple [.int t.top,.int t.bot],.int t.worth]
def aN(W:aC):PyData:=.tuple [.int W.things,.tuple (W.ties.map bL),.tuple (W.pat.map .int),.int W.asks]
def ms(asked taken:List Int):PyData:=.tuple [.tuple (asked.map .int),.tuple (taken.map .int)]
end
end L2
namespace L2
open PySem PySem.Spec PyProof.Rows
section
variable{X:Cx}
end
end L2
namespace L2
end L2
namespace L2
open PySem PySem.Spec PyProof.Rows
section
variable{prog:Program}{w:World}{A:Around}{E:Value→Shared→Prop}{s:Shared}
theorem Av{it t:Addr}{i:Nat}{ys}{x:Value}{Q:Value→Shared→Prop}(hi:s.heap.IsTupleIter it t i)(ht:s.heap.IsTuple t ys)(hx:ys[i]?=some x)
    (q:∀g,g.IsTupleIter it t (i+1)→Heap.SameBut it s.heap g→Q x {s with heap:=g}):wpAny (model prog w) A (Builtin.SmallTypes.nextOf (.ref it)) Q E s:=by
  obtain⟨o,ho,hc,hd⟩:=id hi;obtain⟨p,hp,_,n,hpd⟩:=ht;unfold Builtin.SmallTypes.nextOf
  refine wpAny_bind (wpAny_callSpecial?_slot (name:=Str.ofString "__next__") hi.typeIs F.slot_tuple_iterator_next (wpAny_call_entry F.slot_tuple_iterator_next hi.typeIs F.entry_tuple_iterator_next ?_ (F.args_tuple_iterator_next_1 _)))
  show wpAny _ _ (field (.ref it) 0 >>= _) _ _ s;refine wpAny_bind (wpAny_field ho hd (x:=.ref t) rfl ?_)
  show wpAny _ _ (if (Value.ref t==Value.none)=true then _ else _) _ _ s;rw [if_neg (show ¬((Value.ref t==Value.none)=true) from Bool.false_ne_true)]
  show wpAny _ _ (field (.ref it) 1 >>= _) _ _ s;refine wpAny_bind (wpAny_field ho hd (x:=.int i 0) rfl ?_)
  show wpAny _ _ (seqItems? (.ref t) >>= _) _ _ s;refine wpAny_bind (wpAny_seqItems hp hpd ?_)
  simp only [Int.toNat_natCast,hx];refine wpAny_bind (wpAny_setField ho hd (by simp) (wpAny_pure ⟨x,rfl,wpAny_pure (q _ ?_ (Heap.SameBut.update ..))⟩))
  refine⟨_,Heap.get?_update_self _ ho (Obj.isFreed_of_fields (Obj.data_mapFields hd _)),(Obj.cls_mapFields ..).trans hc,?_⟩;rw [Obj.data_mapFields hd];simp [rawInt]
theorem Au{it t:Addr}{i:Nat}{ys}{Q:Value→Shared→Prop}(hh:A.handled=none)(hi:s.heap.IsTupleIter it t i)(ht:s.heap.IsTuple t ys)(hx:ys[i]?=none)
    (q:∀g e,Heap.ExtBut it s.heap g→(∃o,g.get? e=some o∧o.cls=.type "StopIteration")→E (.ref e) {s with heap:=g}):wpAny (model prog w) A (Builtin.SmallTypes.nextOf (.ref it)) Q E s:=by
  obtain⟨o,ho,hc,hd⟩:=id hi;obtain⟨p,hp,_,n,hpd⟩:=ht;unfold Builtin.SmallTypes.nextOf
  refine wpAny_bind (wpAny_callSpecial?_slot (name:=Str.ofString "__next__") hi.typeIs F.slot_tuple_iterator_next (wpAny_call_entry F.slot_tuple_iterator_next hi.typeIs F.entry_tuple_iterator_next ?_ (F.args_tuple_iterator_next_1 _)))
  show wpAny _ _ (field (.ref it) 0 >>= _) _ _ s;refine wpAny_bind (wpAny_field ho hd (x:=.ref t) rfl ?_)
  show wpAny _ _ (if (Value.ref t==Value.none)=true then _ else _) _ _ s;rw [if_neg (show ¬((Value.ref t==Value.none)=true) from Bool.false_ne_true)]
  show wpAny _ _ (field (.ref it) 1 >>= _) _ _ s;refine wpAny_bind (wpAny_field ho hd (x:=.int i 0) rfl ?_)
  show wpAny _ _ (seqItems? (.ref t) >>= _) _ _ s;refine wpAny_bind (wpAny_seqItems hp hpd ?_)
  simp only [Int.toNat_natCast,hx];refine wpAny_bind (wpAny_rule (wpAny_bind (wpAny_setField ho hd (by simp) ?_)))
  show wpAny _ _ (newExc (.type "StopIteration") [] >>= _) _ _ _;refine wpAny_bind ?_;simp only [newExc,newTuple]
  refine wpAny_bind (wpAny_newObj_type ?_ (by size_fits));refine wpAny_bind (m:=firstArgMember _ _) (wpAny_of_eq (a:=Value.none) (by first | rfl | (simp only [firstArgMember];rfl)) ?_)
  refine wpAny_newObj_type ?_ (by size_fits);simp only [raiseNew];refine wpAny_bind (wpAny_handled ?_);first | rw [show A.in1.handled=none from hh] | rw [hh]
  refine wpAny_bind (wpAny_pure (wpAny_throw ?_));exact q _ _ (((Heap.SameBut.update ..).extBut.push _).push _) ⟨_,Heap.get?_push_size _ rfl,rfl⟩
end
structure Sc (prog:Program) (w:World) (it l:Addr) (St:Nat→Heap→Prop) (Sq:Heap→Array Value→Prop):Prop where
  stay:∀{k h h'},St k h→(∀o,h.get? it=some o→h'.get? it=some o)→St k h'
  live:∀{k h},St k h→∃o,h.get? it=some o∧∀v,o.data≠.cell v
  row:∀{h h' xs},Sq h xs→(∀o,h.get? l=some o→h'.get? l=some o)→Sq h' xs
  next:∀{A:Around} {s:Shared} {E:Value→Shared→Prop} {Q:Value→Shared→Prop} {k:Nat} {xs:Array Value} {x:Value},St k s.heap→Sq s.heap xs→xs[k]?=some x→(∀g,St (k+1) g→Heap.SameBut it s.heap g→Q x {s with heap:=g})→wpAny (model prog w) A (Builtin.SmallTypes.nextOf (.ref it)) Q E s
  last:∀{A:Around} {s:Shared} {E:Value→Shared→Prop} {Q:Value→Shared→Prop} {k:Nat} {xs:Array Value},A.handled=none→St k s.heap→Sq s.heap xs→xs[k]?=none→(∀g e,Heap.ExtBut it s.heap g→(∃o,g.get? e=some o∧o.cls=.type "StopIteration")→E (.ref e) {s with heap:=g})→wpAny (model prog w) A (Builtin.SmallTypes.nextOf (.ref it)) Q E s
theorem iy{prog:Program}{w:World}(it l:Addr):Sc prog w it l (fun k h=>h.IsTupleIter it l k) (fun h xs=>h.IsTuple l xs) where
  stay:=fun st k=>st.at fun o e=>k o e
  live:=fun st=>by
    obtain⟨o,e,c,d⟩:=st
    exact⟨o,e,fun v z=>by rw [d] at z;cases z⟩
  row:=fun q k=>by
    obtain⟨o,e,r⟩:=q
    exact⟨o,k o e,r⟩
  next:=fun st sq hx q=>Av st sq hx q
  last:=fun hh st sq hx q=>Au hh st sq hx q
theorem eI{prog:Program}{w:World}(it l:Addr):Sc prog w it l (fun k h=>h.IsListIter it l k) (fun h xs=>h.IsList l xs) where
  stay:=fun st k=>st.at fun o e=>k o e
  live:=fun st=>by
    obtain⟨o,e,c,d⟩:=st
    exact⟨o,e,fun v z=>by rw [d] at z;cases z⟩
  row:=fun q k=>by
    obtain⟨o,e,r⟩:=q
    exact⟨o,k o e,r⟩
  next:=fun st sq hx q=>wpAny_nextOf_list_item st sq hx q
  last:=fun hh st sq hx q=>wpAny_nextOf_list_end hh st sq hx q
structure jd (z TI TO i1 i2 l1 l2:Addr):Prop where
  a1:TO≠z
  a2:i1≠z
  a3:i2≠z
  a4:TO≠i1
  a5:TO≠i2
  a6:i1≠i2
  b1:l1≠z
  b2:l1≠TO
  b3:l1≠i1
  b4:l1≠i2
  c1:l2≠z
  c2:l2≠TO
  c3:l2≠i1
  c4:l2≠i2
section
variable{prog:Program}{w:World}{A:Around}{E:Value→Shared→Prop}{s:Shared}{z TI TO i1 i2 l1 l2:Addr}{k:Nat}{xs ys:Array Value}{a b:Value}{S1 S2:Nat→Heap→Prop}{R1 R2:Heap→Array Value→Prop}
theorem EJ{x y:Value}{Q:Value→Shared→Prop}(P1:Sc prog w i1 l1 S1 R1)(P2:Sc prog w i2 l2 S2 R2)(D:jd z TI TO i1 i2 l1 l2)(hz:IsZip s.heap z TI TO .none)(hI:IsPair s.heap TI (.ref i1) (.ref i2))(hO:IsPair s.heap TO a b)(u1:S1 k s.heap)(u2:S2 k s.heap)(r1:R1 s.heap xs)(r2:R2 s.heap ys)(hx:xs[k]?=some x)(hy:ys[k]?=some y)
    (q:∀g,IsZip g z TI TO (rawInt s.heap.objs.size)→IsPair g TO x y→S1 (k+1) g→S2 (k+1) g→IsPair g s.heap.objs.size x y→g.objs.size=s.heap.objs.size+1→(∀c o,c≠z→c≠TO→c≠i1→c≠i2→s.heap.get? c=some o→g.get? c=some o)→Q (.ref s.heap.objs.size) {s with heap:=g}):
    wpAny (model prog w) A (Builtin.«zip.__next__» ⟨[.ref z],[]⟩) (fun f s'=>∃v,f=.done (.ret v)∧Q v s') E s:=by
  show wpAny _ _ (field (.ref z) 2 >>= _) _ _ _;refine wpAny_bind (wpAny_field hz rfl (x:=.bool false) rfl ?_)
  show wpAny _ _ (field (.ref z) 3 >>= _) _ _ _;refine wpAny_bind (wpAny_field hz rfl (x:=.ref TI) rfl ?_);refine wpAny_bind (wpAny_seqItems hI rfl ?_)
  show wpAny _ _ (Builtin.SmallTypes.ownedTupleIsFree (.ref z) >>= _) _ _ _;refine wpAny_bind ?_;unfold Builtin.SmallTypes.ownedTupleIsFree
  refine wpAny_bind (wpAny_field hz rfl (x:=.none) rfl (wpAny_pure ?_));simp only [if_true];refine wpAny_bind (wpAny_rule ?_)
  refine wpAny_bind (wpAny_field hz rfl (x:=.ref TO) rfl ?_);refine wpAny_bind (wpAny_setField_rec hz (by simp) fun g1 z1 e1=>?_)
  replace z1:IsZip g1 z TI TO .ellipsis:=z1;refine wpAny_bind ?_;simp only [List.zipIdx_cons,List.zipIdx_nil,List.forIn_cons,List.forIn_nil]
  refine wpAny_bind (wpAny_bind (wpAny_onRaise ?_));show wpAny _ _ (Builtin.SmallTypes.nextOf (.ref i1) >>= _) _ _ _
  refine wpAny_bind (P1.next (P1.stay u1 fun o e=>e1.extBut _ _ D.a2 e) (P1.row r1 fun o e=>e1.extBut _ _ D.b1 e) hx fun g2 v1 e2=>wpAny_pure ?_)
  have O2:IsPair g2 TO a b:=e2.extBut _ _ D.a4 (e1.extBut _ _ D.a1 hO)
  refine wpAny_bind (wpAny_seqItems O2 rfl ?_);refine wpAny_bind (wpAny_updateSeq_pair O2 fun g3 O3 e3=>?_);replace O3:IsPair g3 TO x b:=O3;refine wpAny_bind (wpAny_letGo (wpAny_pure ?_))
  refine wpAny_bind (wpAny_bind (wpAny_onRaise ?_));show wpAny _ _ (Builtin.SmallTypes.nextOf (.ref i2) >>= _) _ _ _
  have up3:∀c o,c≠z→c≠i1→c≠TO→s.heap.get? c=some o→g3.get? c=some o:=fun c o n1 n2 n3 e=>e3.extBut _ _ n3 (e2.extBut _ _ n2 (e1.extBut _ _ n1 e))
  refine wpAny_bind (P2.next (P2.stay u2 fun o e=>up3 _ _ D.a3 D.a6.symm D.a5.symm e) (P2.row r2 fun o e=>up3 _ _ D.c1 D.c3 D.c2 e) hy fun g4 v2 e4=>wpAny_pure ?_)
  have O4:IsPair g4 TO x b:=e4.extBut _ _ D.a5 O3
  refine wpAny_bind (wpAny_seqItems O4 rfl ?_);refine wpAny_bind (wpAny_updateSeq_pair O4 fun g5 O5 e5=>?_);replace O5:IsPair g5 TO x y:=O5;refine wpAny_bind (wpAny_letGo (wpAny_pure (wpAny_pure ?_)))
  refine wpAny_bind (wpAny_seqItems O5 rfl ?_);refine wpAny_bind (wpAny_newTuple ?_)
  have sz:g5.objs.size=s.heap.objs.size:=by rw [e5.1,e4.1,e3.1,e2.1,e1.1]
  have z5:IsZip g5 z TI TO .ellipsis:=e5.extBut _ _ D.a1.symm (e4.extBut _ _ D.a3.symm (e3.extBut _ _ D.a1.symm (e2.extBut _ _ D.a2.symm z1)))
  have k5:∀c o,c≠z→c≠TO→c≠i1→c≠i2→s.heap.get? c=some o→g5.get? c=some o:=fun c o n1 n2 n3 n4 e=>e5.extBut _ _ n2 (e4.extBut _ _ n4 (up3 c o n1 n3 n2 e))
  have w1:S1 (k+1) g5:=P1.stay v1 fun o e=>e5.extBut _ _ D.a4.symm (e4.extBut _ _ D.a6 (e3.extBut _ _ D.a4.symm e))
  have w2:S2 (k+1) g5:=P2.stay v2 fun o e=>e5.extBut _ _ D.a5.symm e
  have lz:z < g5.objs.size:=Heap.lt_size z5
  show wpAny _ _ (Builtin.SmallTypes.ownedTupleHandOut (.ref z) (.ref g5.objs.size) >>= _) _ _ _;refine wpAny_bind ?_;unfold Builtin.SmallTypes.ownedTupleHandOut
  have z6:IsZip (g5.push {cls:=.type "tuple",data:=.seq #[x,y]}) z TI TO .ellipsis:=Heap.get?_push_of_some _ z5
  refine wpAny_bind (wpAny_setField_rec z6 (by simp) fun g7 z7 e7=>?_);replace z7:IsZip g7 z TI TO (rawInt g5.objs.size):=z7
  refine wpAny_setField_rec z7 (by simp) fun g8 z8 e8=>?_;replace z8:IsZip g8 z TI TO (rawInt g5.objs.size):=z8
  have up:∀c o,c≠z→g5.get? c=some o→g8.get? c=some o:=fun c o n e=>e8.extBut _ _ n (e7.extBut _ _ n (Heap.get?_push_of_some _ e))
  have T8:IsPair g8 g5.objs.size x y:=e8.extBut _ _ (Nat.ne_of_gt lz) (e7.extBut _ _ (Nat.ne_of_gt lz) (Heap.get?_push_size _ rfl))
  have n8:g8.objs.size=g5.objs.size+1:=by rw [e8.1,e7.1,Heap.size_push]
  rw [sz] at z8 T8 n8;refine wpAny_pure ⟨_,rfl,?_⟩;show Q (.ref g5.objs.size) _;rw [sz]
  exact q g8 z8 (up _ _ D.a1 O5) (P1.stay w1 fun o e=>up _ o D.a2 e) (P2.stay w2 fun o e=>up _ o D.a3 e) T8 n8 fun c o n1 n2 n3 n4 e=>up c o n1 (k5 c o n1 n2 n3 n4 e)
theorem Cn{Q:Fin→Shared→Prop}(hh:A.handled=none)(P1:Sc prog w i1 l1 S1 R1)(P2:Sc prog w i2 l2 S2 R2)(D:jd z TI TO i1 i2 l1 l2)(hz:IsZip s.heap z TI TO .none)(hI:IsPair s.heap TI (.ref i1) (.ref i2))(hO:IsPair s.heap TO a b)(u1:S1 k s.heap)(u2:S2 k s.heap)(r1:R1 s.heap xs)(r2:R2 s.heap ys)(hn:xs[k]?=none∨ys[k]?=none)
    (q:∀g e,(∀c o,c≠z→c≠TO→c≠i1→c≠i2→s.heap.get? c=some o→g.get? c=some o)→(∃o,g.get? e=some o∧o.cls=.type "StopIteration")→E (.ref e) {s with heap:=g}):
    wpAny (model prog w) A (Builtin.«zip.__next__» ⟨[.ref z],[]⟩) Q E s:=by
  show wpAny _ _ (field (.ref z) 2 >>= _) _ _ _;refine wpAny_bind (wpAny_field hz rfl (x:=.bool false) rfl ?_)
  show wpAny _ _ (field (.ref z) 3 >>= _) _ _ _;refine wpAny_bind (wpAny_field hz rfl (x:=.ref TI) rfl ?_);refine wpAny_bind (wpAny_seqItems hI rfl ?_)
  show wpAny _ _ (Builtin.SmallTypes.ownedTupleIsFree (.ref z) >>= _) _ _ _;refine wpAny_bind ?_;unfold Builtin.SmallTypes.ownedTupleIsFree
  refine wpAny_bind (wpAny_field hz rfl (x:=.none) rfl (wpAny_pure ?_));simp only [if_true];refine wpAny_bind (wpAny_rule ?_)
  refine wpAny_bind (wpAny_field hz rfl (x:=.ref TO) rfl ?_);refine wpAny_bind (wpAny_setField_rec hz (by simp) fun g1 z1 e1=>?_)
  replace z1:IsZip g1 z TI TO .ellipsis:=z1;refine wpAny_bind ?_;simp only [List.zipIdx_cons,List.zipIdx_nil,List.forIn_cons,List.forIn_nil]
  refine wpAny_bind (wpAny_bind (wpAny_onRaise ?_));show wpAny _ _ (Builtin.SmallTypes.nextOf (.ref i1) >>= _) _ _ _
  cases hx:xs[k]? with
  | none=>
    refine wpAny_bind (P1.last hh (P1.stay u1 fun o e=>e1.extBut _ _ D.a2 e) (P1.row r1 fun o e=>e1.extBut _ _ D.b1 e) hx fun g2 e e2 he=>?_)
    obtain⟨oe,h1,h2⟩:=he;have z2:IsZip g2 z TI TO .ellipsis:=e2 _ _ D.a2.symm z1
    have nz:e≠z:=fun x=>by subst x;rw [z2] at h1;cases h1;simp at h2
    refine wpAny_setField_rec z2 (by simp) fun g3 _ e3=>q g3 e (fun c o n1 _ n3 _ x=>e3.extBut _ _ n1 (e2 _ _ n3 (e1.extBut _ _ n1 x))) ⟨oe,e3.extBut _ _ nz h1,h2⟩
  | some x=>
    have hy:ys[k]?=none:=by
      rcases hn with h | h
      · rw [hx] at h;cases h
      · exact h
    refine wpAny_bind (P1.next (P1.stay u1 fun o e=>e1.extBut _ _ D.a2 e) (P1.row r1 fun o e=>e1.extBut _ _ D.b1 e) hx fun g2 v1 e2=>wpAny_pure ?_)
    have O2:IsPair g2 TO a b:=e2.extBut _ _ D.a4 (e1.extBut _ _ D.a1 hO)
    refine wpAny_bind (wpAny_seqItems O2 rfl ?_);refine wpAny_bind (wpAny_updateSeq_pair O2 fun g3 O3 e3=>?_);refine wpAny_bind (wpAny_letGo (wpAny_pure ?_))
    refine wpAny_bind (wpAny_bind (wpAny_onRaise ?_));show wpAny _ _ (Builtin.SmallTypes.nextOf (.ref i2) >>= _) _ _ _
    have up3:∀c o,c≠z→c≠i1→c≠TO→s.heap.get? c=some o→g3.get? c=some o:=fun c o n1 n2 n3 e=>e3.extBut _ _ n3 (e2.extBut _ _ n2 (e1.extBut _ _ n1 e))
    refine wpAny_bind (P2.last hh (P2.stay u2 fun o e=>up3 _ _ D.a3 D.a6.symm D.a5.symm e) (P2.row r2 fun o e=>up3 _ _ D.c1 D.c3 D.c2 e) hy fun g4 e e4 he=>?_)
    obtain⟨oe,h1,h2⟩:=he;have z4:IsZip g4 z TI TO .ellipsis:=e4 _ _ D.a3.symm (e3.extBut _ _ D.a1.symm (e2.extBut _ _ D.a2.symm z1))
    have nz:e≠z:=fun x=>by subst x;rw [z4] at h1;cases h1;simp at h2
    refine wpAny_setField_rec z4 (by simp) fun g5 _ e5=>q g5 e (fun c o n1 n2 n3 n4 x=>e5.extBut _ _ n1 (e4 _ _ n4 (up3 c o n1 n3 n2 x))) ⟨oe,e5.extBut _ _ nz h1,h2⟩
theorem ml{x y:Value}{Q:Option Value→Shared→Prop}(P1:Sc prog w i1 l1 S1 R1)(P2:Sc prog w i2 l2 S2 R2)(D:jd z TI TO i1 i2 l1 l2)(hz:IsZip s.heap z TI TO .none)(hI:IsPair s.heap TI (.ref i1) (.ref i2))(hO:IsPair s.heap TO a b)(u1:S1 k s.heap)(u2:S2 k s.heap)(r1:R1 s.heap xs)(r2:R2 s.heap ys)(hx:xs[k]?=some x)(hy:ys[k]?=some y)
    (q:∀g,IsZip g z TI TO (rawInt s.heap.objs.size)→IsPair g TO x y→S1 (k+1) g→S2 (k+1) g→IsPair g s.heap.objs.size x y→g.objs.size=s.heap.objs.size+1→(∀c o,c≠z→c≠TO→c≠i1→c≠i2→s.heap.get? c=some o→g.get? c=some o)→Q (some (.ref s.heap.objs.size)) {s with heap:=g}):
    wpAny (model prog w) A (pyNext (.ref z)) Q E s:=by
  have hT:s.TypeIs (.ref z) "zip":=⟨_,hz,rfl⟩;unfold pyNext
  refine wpAny_bind (wpAny_attempt (wpAny_callSpecial?_slot (name:=Str.ofString "__next__") hT F.slot_zip_next (wpAny_call_entry F.slot_zip_next hT F.entry_zip_next ?_ (F.args_zip_next_1 _))))
  exact EJ P1 P2 D hz hI hO u1 u2 r1 r2 hx hy fun g b1 b2 b3 b4 b5 b6 b7=>wpAny_pure (q g b1 b2 b3 b4 b5 b6 b7)
theorem mn{Q:Option Value→Shared→Prop}(hh:A.handled=none)(P1:Sc prog w i1 l1 S1 R1)(P2:Sc prog w i2 l2 S2 R2)(D:jd z TI TO i1 i2 l1 l2)(hz:IsZip s.heap z TI TO .none)(hI:IsPair s.heap TI (.ref i1) (.ref i2))(hO:IsPair s.heap TO a b)(u1:S1 k s.heap)(u2:S2 k s.heap)(r1:R1 s.heap xs)(r2:R2 s.heap ys)(hn:xs[k]?=none∨ys[k]?=none)
    (q:∀g,(∀c o,c≠z→c≠TO→c≠i1→c≠i2→s.heap.get? c=some o→g.get? c=some o)→Q none {s with heap:=g}):wpAny (model prog w) A (pyNext (.ref z)) Q E s:=by
  have hT:s.TypeIs (.ref z) "zip":=⟨_,hz,rfl⟩;unfold pyNext
  refine wpAny_bind (wpAny_attempt (wpAny_callSpecial?_slot (name:=Str.ofString "__next__") hT F.slot_zip_next (wpAny_call_entry F.slot_zip_next hT F.entry_zip_next (Cn hh P1 P2 D hz hI hO u1 u2 r1 r2 hn fun g e hk he=>?_) (F.args_zip_next_1 _))))
  obtain⟨o,ho,hc⟩:=he;refine wpAny_bind (wpAny_isInstance (T:="StopIteration") (b:=true) ⟨o,ho,hc⟩ isSubtype_stop ?_);exact wpAny_pure (q _ hk)
end
end L2
namespace L2
open PySem PySem.Spec PyProof.Rows
section
variable{X:Cx}{pins:List (Addr × Obj)}{σ:L2.St}{H:Hp}{s:Shared}{h':Heap}
theorem aE.turnedL{t':Nat}{fp:List Addr}(I:aE X pins σ H s)(hf:∀b∈fp,iB X pins H b)(k:∀b o,b∉fp→s.heap.get? b=some o→h'.get? b=some o):aE X pins σ H {s with heap:=h',toks:=t'}:=by
  have hL:X.env.locals∉fp:=fun z=>(hf _ z).2.1 rfl
  have nit:∀b u,H b=some u→b∉fp:=fun b u e z=>by have:=(hf b z).1;rw [this] at e;cases e
  refine I.step (g':=s.gens) (d':=s.drawn) (ch:=fp) (fun b hb=>?_) (fun b o _ _ hc e _=>k b o hc e) (fun b o _ _ hc e _=>⟨o.slots,k b o hc e⟩) (fun _ _ _ _ n=>n) (fun b o hc e=>⟨o,k b o hc e⟩) (fun _ _ e=>e) (fun _ _ _ e=>e) (fun b ps e=>⟨#[],by rw [e];simp⟩) (fun m hm=>?_) (fun b u e=>?_) I.bare
  · obtain⟨f0,f1,f2,f3,f4,f5⟩:=hf b hb
    exact⟨f3,f1,f4,f5⟩
  · obtain⟨o,es,ep,ho,r⟩:=hm
    exact⟨o,es,ep,k _ o hL ho,r⟩
  · refine(I.hok b u e).stay (fun c v hc q=>k c v ?_ q) (fun _ q=>q) fun _ _ q=>q
    rcases hc with z | z
    · rw [z];exact nit b u e
    · exact nit c _ z
theorem aD(I:aE X pins σ H s){b l:Addr}{xs:List V}(f:iB X pins H b)(q:bX X.K H l xs):l≠b:=by
  intro z
  subst z
  rcases q with (q | ⟨o,q⟩) | ⟨o,its,n,hk,_⟩
  · rw [f.1] at q;cases q
  · rw [f.1] at q;cases q
  · have hb:X.base.get? l=some o:=I.ok.mod.kin l o hk
    rcases f.2.2.2.1 with z | z
    · exact I.ok.noex l o hb z
    · exact absurd (Nat.lt_of_lt_of_le (Heap.lt_size (I.ok.bs l o hb).1) z) (Nat.lt_irrefl _)
end
def G4(K:PySem.W.Frag)(l1 l2:Addr):It:=
  ⟨fun i H=>∃xs ys x y,bX K H l1 xs∧bX K H l2 ys∧xs[i]?=some x∧ys[i]?=some y,
   fun i H v H'=>∃p x y,v=.ref p∧H p=none∧H'=bi H p (.tup [x,y])∧∀xs ys,bX K H l1 xs→bX K H l2 ys→xs[i]?=some x∧ys[i]?=some y,
   fun i H=>∃xs ys,bX K H l1 xs∧bX K H l2 ys∧(xs.length≤i∨ys.length≤i)⟩
def C4(z TI TO i1 i2 l1 l2:Addr)(i:Nat)(h:Heap):Prop:=IsZip h z TI TO .none∧IsPair h TI (.ref i1) (.ref i2)∧(∃a b,IsPair h TO a b)∧h.IsTupleIter i1 l1 i∧h.IsTupleIter i2 l2 i
theorem Aw{P:Program}{w:World}{K:PySem.W.Frag}{es:List Expr}{k0:Nat}{pos:Pos}{z TI TO i1 i2:Addr}(l1 l2:Addr)(n1:TO≠z)(n2:i1≠z)(n3:i2≠z)(n4:TO≠i1)(n5:TO≠i2)(n6:i1≠i2)(n7:TI≠z)(n8:TI≠TO)(n9:TI≠i1)(n10:TI≠i2):
    ou P w K (.Tuple es k0 pos) (G4 K l1 l2) [z,TI,TO,i1,i2] z (C4 z TI TO i1 i2 l1 l2) where
  mem:=by simp
  obj:=fun i h st b hb=>by
    obtain⟨hz,hI,⟨a,c,hO⟩,u1,u2⟩:=st
    simp only [List.mem_cons,List.not_mem_nil,or_false] at hb
    rcases hb with rfl | rfl | rfl | rfl | rfl
    · exact⟨_,hz,fun v z=>by cases z⟩
    · exact⟨_,hI,fun v z=>by cases z⟩
    · exact⟨_,hO,fun v z=>by cases z⟩
    · obtain⟨o,e,c,d⟩:=u1
      exact⟨o,e,fun v z=>by rw [d] at z;cases z⟩
    · obtain⟨o,e,c,d⟩:=u2
      exact⟨o,e,fun v z=>by rw [d] at z;cases z⟩
  keep:=fun i h h' st k=>by
    obtain⟨hz,hI,⟨a,c,hO⟩,u1,u2⟩:=st
    exact⟨k _ (by simp) _ hz,k _ (by simp) _ hI,⟨a,c,k _ (by simp) _ hO⟩,u1.at fun o e=>k _ (by simp) o e,u2.at fun o e=>k _ (by simp) o e⟩
  item:=by
    intro X hP hw hK hc i pins s σ H E I hf st hg
    subst hP hw hK
    obtain⟨xs,ys,x,y,q1,q2,hx,hy⟩:=hg
    obtain⟨hz,hI,⟨a,b,hO⟩,u1,u2⟩:=id st
    obtain⟨its1,rv1,p1,z1⟩:=I.tuple q1
    obtain⟨its2,rv2,p2,z2⟩:=I.tuple q2
    obtain⟨ux,hux,rux⟩:=rv1.get hx
    obtain⟨uy,huy,ruy⟩:=rv2.get hy
    have fz:=hf z (by simp);have fO:=hf TO (by simp);have f1:=hf i1 (by simp);have f2:=hf i2 (by simp)
    have D:jd z TI TO i1 i2 l1 l2:=⟨n1,n2,n3,n4,n5,n6,aD I fz q1,aD I fO q1,aD I f1 q1,aD I f2 q1,aD I fz q2,aD I fO q2,aD I f1 q2,aD I f2 q2⟩
    refine ml (xs:=its1.toArray) (ys:=its2.toArray) (iy i1 l1) (iy i2 l2) D hz hI hO u1 u2 p1 p2 (by simpa using hux) (by simpa using huy) fun g gz gO g1 g2 gT gs gk=>?_
    refine⟨_,rfl,wpAny_letOwnedTupleGo_zip gz fun g' gz' ge=>?_⟩
    have lt:∀b∈[z,TI,TO,i1,i2],b < s.heap.objs.size:=fun b hb=>by
      simp only [List.mem_cons,List.not_mem_nil,or_false] at hb
      rcases hb with rfl | rfl | rfl | rfl | rfl
      · exact Heap.lt_size hz
      · exact Heap.lt_size hI
      · exact Heap.lt_size hO
      · obtain⟨o,e,_⟩:=u1;exact Heap.lt_size e
      · obtain⟨o,e,_⟩:=u2;exact Heap.lt_size e
    have hT:H s.heap.objs.size=none:=I.hok.fresh (Nat.le_refl _)
    have vv:aM [x,y] [ux,uy]:=.cons rux (.cons ruy .nil)
    have I1:aE X pins σ (bi H s.heap.objs.size (.tup [x,y])) {s with heap:=s.heap.push {cls:=.type "tuple",data:=.seq #[ux,uy]},toks:=s.toks}:=
      I.laid (t':=s.toks) (fun b u e=>Heap.get?_push_of_some _ e) (Nat.le_refl _) ⟨(by show 2≤sizeLine;decide),[ux,uy],vv,kO.new _ _⟩
    have hf1:∀b∈[z,TI,TO,i1,i2],iB X pins (bi H s.heap.objs.size (.tup [x,y])) b:=fun b hb=>by
      obtain⟨f0,fr⟩:=hf b hb
      exact⟨by rw [au (Nat.ne_of_lt (lt b hb))];exact f0,fr⟩
    have nzT:s.heap.objs.size≠z:=Nat.ne_of_gt (lt z (by simp))
    have I2:aE X pins σ (bi H s.heap.objs.size (.tup [x,y])) {s with heap:=g',toks:=s.toks}:=by
      refine I1.turnedL (t':=s.toks) hf1 fun b o nb e=>?_
      have nb':b≠z∧b≠TI∧b≠TO∧b≠i1∧b≠i2:=by simpa using nb
      refine ge.extBut _ _ nb'.1 ?_
      rcases Heap.get?_push_cases e with ⟨rfl,rfl⟩ | e
      · exact gT
      · exact gk b o nb'.1 nb'.2.2.1 nb'.2.2.2.1 nb'.2.2.2.2 e
    refine⟨.ref s.heap.objs.size,_,I2,rfl,⟨_,x,y,rfl,hT,rfl,fun xs' ys' w1 w2=>?_⟩,⟨gz',ge.extBut _ _ n7 (gk _ _ n7 n8 n9 n10 hI),⟨ux,uy,ge.extBut _ _ n1 gO⟩,g1.at fun o e=>ge.extBut _ _ n2 e,g2.at fun o e=>ge.extBut _ _ n3 e⟩,fun b hb=>(hf1 b hb).1⟩
    rw [I.tuple_inj w1 q1,I.tuple_inj w2 q2]
    exact⟨hx,hy⟩
  done:=by
    intro X hP hw hK hc i pins s σ H E I hf st hg
    subst hP hw hK
    obtain⟨xs,ys,q1,q2,hn⟩:=hg
    obtain⟨hz,hI,⟨a,b,hO⟩,u1,u2⟩:=id st
    obtain⟨its1,rv1,p1,z1⟩:=I.tuple q1
    obtain⟨its2,rv2,p2,z2⟩:=I.tuple q2
    have fz:=hf z (by simp);have fO:=hf TO (by simp);have f1:=hf i1 (by simp);have f2:=hf i2 (by simp)
    have D:jd z TI TO i1 i2 l1 l2:=⟨n1,n2,n3,n4,n5,n6,aD I fz q1,aD I fO q1,aD I f1 q1,aD I f2 q1,aD I fz q2,aD I fO q2,aD I f1 q2,aD I f2 q2⟩
    have e1:=rv1.length
    have e2:=rv2.length
    refine mn (xs:=its1.toArray) (ys:=its2.toArray) (I.ok.hd hc) (iy i1 l1) (iy i2 l2) D hz hI hO u1 u2 p1 p2 ?_ fun g gk=>⟨rfl,I.turnedL (t':=s.toks) hf fun b o nb e=>?_⟩
    · rcases hn with hn | hn
      · exact .inl (by simp;lia)
      · exact .inr (by simp;lia)
    · have nb':b≠z∧b≠TI∧b≠TO∧b≠i1∧b≠i2:=by simpa using nb
      exact gk b o nb'.1 nb'.2.2.1 nb'.2.2.2.1 nb'.2.2.2.2 e
  self:=fun A i s Q E st h=>wpAny_pyIter_zip st.1 h
theorem Co(l1 l2:Addr)(xs ys:Array Value):
    Meets (Builtin.«zip.__new__» ⟨[.type "zip",.ref l1,.ref l2],[]⟩) (fun _ R s=>s.heap.IsTuple l1 xs∧s.heap.IsTuple l2 ys∧
      R (.ok (.ret (.ref (s.heap.objs.size+4)))) {s with heap:=((((s.heap.push {cls:=.type "tuple_iterator",data:=.fields #[.ref l1,.int 0 0]}).push {cls:=.type "tuple_iterator",data:=.fields #[.ref l2,.int 0 0]}).push {cls:=.type "tuple",data:=.seq #[.ref s.heap.objs.size,.ref (s.heap.objs.size+1)]}).push {cls:=.type "tuple",data:=.seq #[.none,.none]}).push {cls:=.type "zip",data:=.fields #[.none,.bool false,.bool false,.ref (s.heap.objs.size+2),.ref (s.heap.objs.size+3)]}}):=
  .of_wp fun prog w A R s h=>by
    obtain⟨hp,g,d,tk,os⟩:=s;obtain⟨t1,t2,h⟩:=h;have sz:=PySem.sub_zip
    have T1:Heap.IsTuple (Shared.heap ⟨hp,g,d,tk,os⟩) l1 xs:=t1
    have T2:Heap.IsTuple (Shared.heap ⟨hp.push {cls:=.type "tuple_iterator",data:=.fields #[.ref l1,.int 0 0]},g,d,tk,os⟩) l2 ys:=Heap.IsTuple.push t2 _
    wp_walk using wpAny_pyIter_tuple T1,wpAny_pyIter_tuple T2
    refine⟨_,rfl,?_⟩
    simp only [Heap.size_push]
    exact h
section
variable{prog:Program}{w:World}{A:Around}{E:Value→Shared→Prop}{s:Shared}
theorem AF{l1 l2:Addr}{xs ys:Array Value}{Q:Value→Shared→Prop}(t1:s.heap.IsTuple l1 xs)(t2:s.heap.IsTuple l2 ys)
    (h:∀g,C4 (s.heap.objs.size+4) (s.heap.objs.size+2) (s.heap.objs.size+3) s.heap.objs.size (s.heap.objs.size+1) l1 l2 0 g→(∀c o,s.heap.get? c=some o→g.get? c=some o)→Q (.ref (s.heap.objs.size+4)) {s with heap:=g}):
    wpAny (model prog w) A (call (.type "zip") [.ref l1,.ref l2]) Q E s:=by
  refine callType_new F.called_zip (by decide) (F.typeCall_zip_2 _ _) (F.newCall_zip_2 _ _) (fun obj=>F.args_object_init_3 obj _ _) F.entry_zip_new (Co l1 l2 xs ys) ⟨t1,t2,?_⟩
  have at5:∀(g:Heap) (o:Obj) (a:Addr),o.isFreed=false→a=g.objs.size→(g.push o).get? a=some o:=fun g o a hf e=>by rw [e];exact Heap.get?_push_size _ hf
  have g5:=at5 ((((s.heap.push {cls:=.type "tuple_iterator",data:=.fields #[.ref l1,.int 0 0]}).push {cls:=.type "tuple_iterator",data:=.fields #[.ref l2,.int 0 0]}).push {cls:=.type "tuple",data:=.seq #[.ref s.heap.objs.size,.ref (s.heap.objs.size+1)]}).push {cls:=.type "tuple",data:=.seq #[.none,.none]}) {cls:=.type "zip",data:=.fields #[.none,.bool false,.bool false,.ref (s.heap.objs.size+2),.ref (s.heap.objs.size+3)]} (s.heap.objs.size+4) rfl (by simp only [Heap.size_push])
  have g4:=at5 (((s.heap.push {cls:=.type "tuple_iterator",data:=.fields #[.ref l1,.int 0 0]}).push {cls:=.type "tuple_iterator",data:=.fields #[.ref l2,.int 0 0]}).push {cls:=.type "tuple",data:=.seq #[.ref s.heap.objs.size,.ref (s.heap.objs.size+1)]}) {cls:=.type "tuple",data:=.seq #[.none,.none]} (s.heap.objs.size+3) rfl (by simp only [Heap.size_push])
  have g3:=at5 ((s.heap.push {cls:=.type "tuple_iterator",data:=.fields #[.ref l1,.int 0 0]}).push {cls:=.type "tuple_iterator",data:=.fields #[.ref l2,.int 0 0]}) {cls:=.type "tuple",data:=.seq #[.ref s.heap.objs.size,.ref (s.heap.objs.size+1)]} (s.heap.objs.size+2) rfl (by simp only [Heap.size_push])
  have g2:=at5 (s.heap.push {cls:=.type "tuple_iterator",data:=.fields #[.ref l1,.int 0 0]}) {cls:=.type "tuple_iterator",data:=.fields #[.ref l2,.int 0 0]} (s.heap.objs.size+1) rfl (by simp only [Heap.size_push])
  have g1:=at5 s.heap {cls:=.type "tuple_iterator",data:=.fields #[.ref l1,.int 0 0]} s.heap.objs.size rfl rfl
  have up:∀{g:Heap} {a:Addr} {u:Obj} (o:Obj),g.get? a=some u→(g.push o).get? a=some u:=fun o e=>Heap.get?_push_of_some o e
  refine⟨⟨_,g5,rfl⟩,h _ ⟨g5,up _ (up _ g3),⟨_,_,up _ g4⟩,⟨_,up _ (up _ (up _ (up _ g1))),rfl,rfl⟩,⟨_,up _ (up _ (up _ g2)),rfl,rfl⟩⟩ fun c o x=>up _ (up _ (up _ (up _ (up _ x))))⟩
end
theorem lA:PySem.bootBuiltins "zip"=some (.type "zip"):=by decide+kernel
def GG(K:PySem.W.Frag)(ta:TA):TI:=fun σ H R=>ta σ H fun vs H1=>∃a b,vs=[.ref a,.ref b]∧(∃xs,bX K H1 a xs)∧(∃ys,bX K H1 b ys)∧R (G4 K a b) H1
theorem DU{X:Cx}{K:PySem.W.Frag}{es:List Expr}{k0:Nat}{tp:Pos}{a b:Expr}{ta:TA}{p pos:Pos}(hK:X.K=K)(hg:Gl X "zip")(hm:X.mg "zip"=none)(ha:PA X [a,b] ta)(hs:starEach [a,b] X.env=[(false,eval a X.env),(false,eval b X.env)]:=by rfl)(hs2:starEach [b] X.env=[(false,eval b X.env)]:=by rfl):
    PI X (.Tuple es k0 tp) (.Call (.Name "zip" p) [a,b] [] pos) (GG K ta):=by
  intro pins s σ H R I h
  subst hK
  refine Call_ (gD I hg hm lA (PyProof.Rows.callWith_type1 (cA (ha pos pins s σ H _ I h) fun us s1 ⟨vs,H1,I1,r1,q1⟩=>?_) (by rw [hs,hs2]) (by rw [hs2];rfl)))
  obtain⟨a,b,e,⟨xs,qx⟩,⟨ys,qy⟩,q⟩:=q1
  subst e
  cases r1 with
  | cons r rr=>
    cases rr with
    | cons r' rr=>
      cases rr
      cases r
      cases r'
      obtain⟨i1,v1,p1,_⟩:=I1.tuple qx
      obtain⟨i2,v2,p2,_⟩:=I1.tuple qy
      refine AF p1 p2 fun g st hk=>wpAny_pyIter_zip st.1 ?_
      have I2:aE X pins σ H1 {s1 with heap:=g,toks:=s1.toks}:=I1.kept (t':=s1.toks) fun b o e=>hk b o e
      refine⟨s1.heap.objs.size+4,[s1.heap.objs.size+4,s1.heap.objs.size+2,s1.heap.objs.size+3,s1.heap.objs.size,s1.heap.objs.size+1],_,_,H1,rfl,I2,Aw a b (show((s1.heap.objs.size+3:Nat)≠s1.heap.objs.size+4) by lia) (show((s1.heap.objs.size:Nat)≠s1.heap.objs.size+4) by lia) (show((s1.heap.objs.size+1:Nat)≠s1.heap.objs.size+4) by lia) (show((s1.heap.objs.size+3:Nat)≠s1.heap.objs.size) by lia) (show((s1.heap.objs.size+3:Nat)≠s1.heap.objs.size+1) by lia) (show((s1.heap.objs.size:Nat)≠s1.heap.objs.size+1) by lia) (show((s1.heap.objs.size+2:Nat)≠s1.heap.objs.size+4) by lia) (show((s1.heap.objs.size+2:Nat)≠s1.heap.objs.size+3) by lia) (show((s1.heap.objs.size+2:Nat)≠s1.heap.objs.size) by lia) (show((s1.heap.objs.size+2:Nat)≠s1.heap.objs.size+1) by lia),st,fun c hc=>?_,q⟩
      have le:s1.heap.objs.size≤c:=by
        simp only [List.mem_cons,List.not_mem_nil,or_false] at hc
        rcases hc with rfl | rfl | rfl | rfl | rfl
        · exact Nat.le_add_right _ 4
        · exact Nat.le_add_right _ 2
        · exact Nat.le_add_right _ 3
        · exact Nat.le_refl _
        · exact Nat.le_add_right _ 1
      have f:=I1.fpOk (H':=H1) le (I1.hok.fresh le)
      exact f
end L2
namespace L2
open PySem PySem.Spec PyProof.Rows
section
variable{prog:Program}{w:World}{A:Around}{E:Value→Shared→Prop}{s:Shared}{e it l:Addr}{k:Nat}{xs:Array Value}{S:Nat→Heap→Prop}{R:Heap→Array Value→Prop}
theorem tZ(P1:Sc prog w it l S R)(hh:A.handled=none)(hne:l≠it)(xs:Array Value):Draws prog w A it [it,l] xs.size (fun i v=>xs[i]?=some v) (fun i h=>S i h∧R h xs) where
  live:=fun _ _ st=>let ⟨o,ho,_⟩:=P1.live st.1;⟨o,ho⟩
  frame:=fun _ _ _ st hk=>⟨P1.stay st.1 fun o e=>hk it (by simp) o e,P1.row st.2 fun o e=>hk l (by simp) o e⟩
  item:=fun i s Q E hi st hQ=>P1.next st.1 st.2 (x:=xs[i]) (by simp [hi]) fun g h1 h2=>hQ _ g s.toks (by simp [hi]) ⟨h1,P1.row st.2 fun o e=>h2.extBut _ _ hne e⟩ h2
  done:=fun s Q E st hE=>P1.last hh st.1 st.2 (by simp) hE
theorem qm{i:Int}{old:Value}{Q:Option Value→Shared→Prop}(P1:Sc prog w it l S R)(hh:A.handled=none)(he:IsEnum s.heap e it i old)(st:S k s.heap)(sq:R s.heap xs)(hx:xs[k]?=none)(q:∀g,Heap.ExtBut it s.heap g→Q none {s with heap:=g}):wpAny (model prog w) A (pyNext (.ref e)) Q E s:=by
  have hT:s.TypeIs (.ref e) "enumerate":=⟨_,he,rfl⟩;unfold pyNext
  refine wpAny_bind (wpAny_attempt (wpAny_callSpecial?_slot (name:=Str.ofString "__next__") hT F.slot_enumerate_next (wpAny_call_entry F.slot_enumerate_next hT F.entry_enumerate_next ?_ (F.args_enumerate_next_1 _))))
  show wpAny _ _ (field (.ref e) 2 >>= _) _ _ _;refine wpAny_bind (wpAny_field he rfl (x:=.ref it) rfl ?_)
  refine wpAny_bind (P1.last hh st sq hx fun g x hk hx'=>?_);obtain⟨o,ho,hc⟩:=hx'
  refine wpAny_bind (wpAny_isInstance (T:="StopIteration") (b:=true) ⟨o,ho,hc⟩ isSubtype_stop ?_);exact wpAny_pure (q _ hk)
theorem jX{i:Int}{old:Value}{Q:Value→Shared→Prop}(he:IsEnum s.heap e it i old)(h:Q (.ref e) s):wpAny (model prog w) A (pyIter (.ref e)) Q E s:=by
  have hT:s.TypeIs (.ref e) "enumerate":=⟨_,he,rfl⟩
  refine wpAny_pyIter_slot hT F.slot_enumerate_iter (wpAny_call_entry F.slot_enumerate_iter hT F.entry_enumerate_iter ?_ (F.args_enumerate_iter_1 _))
  show wpAny _ _ (ret (.ref e)) _ _ s;exact wpAny_pure ⟨_,rfl,"enumerate",_,hT,F.slot_enumerate_next.lookup,h⟩
end
section
variable{X:Cx}{pins:List (Addr × Obj)}{σ:L2.St}{H:Hp}{s:Shared}
theorem ar(I:aE X pins σ H s){b l:Addr}{xs:List V}(f:iB X pins H b)(q:d_ X.K H l xs):l≠b:=by
  intro z
  subst z
  rcases q with (q | ⟨o,q⟩) | ⟨o,its,n,hk,_⟩
  · rw [f.1] at q;cases q
  · rw [f.1] at q;cases q
  · have hb:X.base.get? l=some o:=I.ok.mod.kin l o hk
    rcases f.2.2.2.1 with z | z
    · exact I.ok.noex l o hb z
    · exact absurd (Nat.lt_of_lt_of_le (Heap.lt_size (I.ok.bs l o hb).1) z) (Nat.lt_irrefl _)
end
def C7(K:PySem.W.Frag)(l:Addr):It:=
  ⟨fun i H=>∃xs x,bX K H l xs∧xs[i]?=some x,fun i H v H'=>∃p x,v=.ref p∧H p=none∧H'=bi H p (.tup [.int i,x])∧∀xs,bX K H l xs→xs[i]?=some x,fun i H=>∃xs,bX K H l xs∧xs.length≤i⟩
def wo(e it l:Addr)(i:Nat)(h:Heap):Prop:=(∃old,IsEnum h e it i old)∧h.IsTupleIter it l i
theorem vF{P:Program}{w:World}{K:PySem.W.Frag}{es:List Expr}{k0:Nat}{pos:Pos}{e it:Addr}(l:Addr)(ne:e≠it):ou P w K (.Tuple es k0 pos) (C7 K l) [e,it] e (wo e it l) where
  mem:=by simp
  obj:=fun i h st b hb=>by
    obtain⟨⟨old,he⟩,u⟩:=st
    simp only [List.mem_cons,List.not_mem_nil,or_false] at hb
    rcases hb with rfl | rfl
    · exact⟨_,he,fun v z=>by cases z⟩
    · obtain⟨o,e,c,d⟩:=u
      exact⟨o,e,fun v z=>by rw [d] at z;cases z⟩
  keep:=fun i h h' st k=>by
    obtain⟨⟨old,he⟩,u⟩:=st
    exact⟨⟨old,k _ (by simp) _ he⟩,u.at fun o e=>k _ (by simp) o e⟩
  item:=by
    intro X hP hw hK hc i pins s σ H E I hf st hg
    subst hP hw hK
    obtain⟨xs,x,q1,hx⟩:=hg
    obtain⟨⟨old,he⟩,u⟩:=id st
    obtain⟨its,rv,p,hz⟩:=I.tuple q1
    obtain⟨ux,hux,rux⟩:=rv.get hx
    have fe:=hf e (by simp);have ft:=hf it (by simp)
    have n1:l≠e:=aD I fe q1
    have n2:l≠it:=aD I ft q1
    have hi:i < its.toArray.size:=by have:=(List.getElem?_eq_some_iff.mp hux).1;simpa using this
    refine wpAny_pyNext_enum_itemD (tZ (A:=X.A.in1) (iy it l) (show X.A.in1.handled=none from I.ok.hd hc) n2 its.toArray) he ⟨u,p⟩ hi ne (by simpa using ⟨ne,fun z=>n1 z.symm⟩) fun x' g tk hP ho hs hT hsz hk=>?_
    have ex:x'=ux:=by
      have:its[i]?=some x':=by simpa using hP
      rw [hux] at this;exact(Option.some.inj this).symm
    subst ex
    refine⟨_,rfl,wpAny_letOwnedTupleGo_enum ho fun g' he' ge=>?_⟩
    have lt:∀b∈[e,it],b < s.heap.objs.size:=fun b hb=>by
      simp only [List.mem_cons,List.not_mem_nil,or_false] at hb
      rcases hb with rfl | rfl
      · exact Heap.lt_size he
      · obtain⟨o,e,_⟩:=u;exact Heap.lt_size e
    have hTn:H s.heap.objs.size=none:=I.hok.fresh (Nat.le_refl _)
    have vv:aM [.int i,x] [.int i tk,x']:=.cons ⟨tk,rfl⟩ (.cons rux .nil)
    have I1:aE X pins σ (bi H s.heap.objs.size (.tup [.int i,x])) {s with heap:=s.heap.push {cls:=.type "tuple",data:=.seq #[.int i tk,x']},toks:=s.toks}:=
      I.laid (t':=s.toks) (fun b u e=>Heap.get?_push_of_some _ e) (Nat.le_refl _) ⟨(by show 2≤sizeLine;decide),[.int i tk,x'],vv,kO.new _ _⟩
    have hf1:∀b∈[e,it],iB X pins (bi H s.heap.objs.size (.tup [.int i,x])) b:=fun b hb=>by
      obtain⟨f0,fr⟩:=hf b hb
      exact⟨by rw [au (Nat.ne_of_lt (lt b hb))];exact f0,fr⟩
    have I2:aE X pins σ (bi H s.heap.objs.size (.tup [.int i,x])) {s with heap:=g',toks:=tk+1}:=by
      refine I1.turnedL (t':=tk+1) hf1 fun b o nb eb=>?_
      have nb':b≠e∧b≠it:=by simpa using nb
      refine ge.extBut _ _ nb'.1 ?_
      rcases Heap.get?_push_cases eb with ⟨rfl,rfl⟩ | eb
      · exact hT
      · exact hk b o nb'.1 nb'.2 eb
    refine⟨.ref s.heap.objs.size,_,I2,rfl,⟨_,x,rfl,hTn,rfl,fun xs' w1=>by rw [I.tuple_inj w1 q1];exact hx⟩,⟨⟨_,by simpa using he'⟩,hs.1.at fun o e=>ge.extBut _ _ (fun z=>ne z.symm) e⟩,fun b hb=>(hf1 b hb).1⟩
  done:=by
    intro X hP hw hK hc i pins s σ H E I hf st hg
    subst hP hw hK
    obtain⟨xs,q1,hn⟩:=hg
    obtain⟨⟨old,he⟩,u⟩:=id st
    obtain⟨its,rv,p,hz⟩:=I.tuple q1
    have e1:=rv.length
    refine qm (xs:=its.toArray) (iy it l) (I.ok.hd hc) he u p (by simp;lia) fun g gk=>⟨rfl,I.turnedL (t':=s.toks) hf fun b o nb eb=>?_⟩
    have nb':b≠e∧b≠it:=by simpa using nb
    exact gk b o nb'.2 eb
  self:=fun A i s Q E st h=>by
    obtain⟨⟨old,he⟩,u⟩:=st
    exact jX he h
def C6(K:PySem.W.Frag)(l:Addr):It:=
  ⟨fun i H=>∃xs x,d_ K H l xs∧xs[i]?=some x,fun i H v H'=>∃p x,v=.ref p∧H p=none∧H'=bi H p (.tup [.int i,x])∧∀xs,d_ K H l xs→xs[i]?=some x,fun i H=>∃xs,d_ K H l xs∧xs.length≤i⟩
def A9(e it l:Addr)(i:Nat)(h:Heap):Prop:=(∃old,IsEnum h e it i old)∧h.IsListIter it l i
theorem vE{P:Program}{w:World}{K:PySem.W.Frag}{es:List Expr}{k0:Nat}{pos:Pos}{e it:Addr}(l:Addr)(ne:e≠it):ou P w K (.Tuple es k0 pos) (C6 K l) [e,it] e (A9 e it l) where
  mem:=by simp
  obj:=fun i h st b hb=>by
    obtain⟨⟨old,he⟩,u⟩:=st
    simp only [List.mem_cons,List.not_mem_nil,or_false] at hb
    rcases hb with rfl | rfl
    · exact⟨_,he,fun v z=>by cases z⟩
    · obtain⟨o,e,c,d⟩:=u
      exact⟨o,e,fun v z=>by rw [d] at z;cases z⟩
  keep:=fun i h h' st k=>by
    obtain⟨⟨old,he⟩,u⟩:=st
    exact⟨⟨old,k _ (by simp) _ he⟩,u.at fun o e=>k _ (by simp) o e⟩
  item:=by
    intro X hP hw hK hc i pins s σ H E I hf st hg
    subst hP hw hK
    obtain⟨xs,x,q1,hx⟩:=hg
    obtain⟨⟨old,he⟩,u⟩:=id st
    obtain⟨its,rv,p,hz⟩:=I.list q1
    obtain⟨ux,hux,rux⟩:=rv.get hx
    have fe:=hf e (by simp);have ft:=hf it (by simp)
    have n1:l≠e:=ar I fe q1
    have n2:l≠it:=ar I ft q1
    have hi:i < its.toArray.size:=by have:=(List.getElem?_eq_some_iff.mp hux).1;simpa using this
    refine wpAny_pyNext_enum_itemD (tZ (A:=X.A.in1) (eI it l) (show X.A.in1.handled=none from I.ok.hd hc) n2 its.toArray) he ⟨u,p.isList⟩ hi ne (by simpa using ⟨ne,fun z=>n1 z.symm⟩) fun x' g tk hP ho hs hT hsz hk=>?_
    have ex:x'=ux:=by
      have:its[i]?=some x':=by simpa using hP
      rw [hux] at this;exact(Option.some.inj this).symm
    subst ex
    refine⟨_,rfl,wpAny_letOwnedTupleGo_enum ho fun g' he' ge=>?_⟩
    have lt:∀b∈[e,it],b < s.heap.objs.size:=fun b hb=>by
      simp only [List.mem_cons,List.not_mem_nil,or_false] at hb
      rcases hb with rfl | rfl
      · exact Heap.lt_size he
      · obtain⟨o,e,_⟩:=u;exact Heap.lt_size e
    have hTn:H s.heap.objs.size=none:=I.hok.fresh (Nat.le_refl _)
    have vv:aM [.int i,x] [.int i tk,x']:=.cons ⟨tk,rfl⟩ (.cons rux .nil)
    have I1:aE X pins σ (bi H s.heap.objs.size (.tup [.int i,x])) {s with heap:=s.heap.push {cls:=.type "tuple",data:=.seq #[.int i tk,x']},toks:=s.toks}:=
      I.laid (t':=s.toks) (fun b u e=>Heap.get?_push_of_some _ e) (Nat.le_refl _) ⟨(by show 2≤sizeLine;decide),[.int i tk,x'],vv,kO.new _ _⟩
    have hf1:∀b∈[e,it],iB X pins (bi H s.heap.objs.size (.tup [.int i,x])) b:=fun b hb=>by
      obtain⟨f0,fr⟩:=hf b hb
      exact⟨by rw [au (Nat.ne_of_lt (lt b hb))];exact f0,fr⟩
    have I2:aE X pins σ (bi H s.heap.objs.size (.tup [.int i,x])) {s with heap:=g',toks:=tk+1}:=by
      refine I1.turnedL (t':=tk+1) hf1 fun b o nb eb=>?_
      have nb':b≠e∧b≠it:=by simpa using nb
      refine ge.extBut _ _ nb'.1 ?_
      rcases Heap.get?_push_cases eb with ⟨rfl,rfl⟩ | eb
      · exact hT
      · exact hk b o nb'.1 nb'.2 eb
    refine⟨.ref s.heap.objs.size,_,I2,rfl,⟨_,x,rfl,hTn,rfl,fun xs' w1=>by rw [I.list_inj w1 q1];exact hx⟩,⟨⟨_,by simpa using he'⟩,hs.1.at fun o e=>ge.extBut _ _ (fun z=>ne z.symm) e⟩,fun b hb=>(hf1 b hb).1⟩
  done:=by
    intro X hP hw hK hc i pins s σ H E I hf st hg
    subst hP hw hK
    obtain⟨xs,q1,hn⟩:=hg
    obtain⟨⟨old,he⟩,u⟩:=id st
    obtain⟨its,rv,p,hz⟩:=I.list q1
    have e1:=rv.length
    refine qm (xs:=its.toArray) (eI it l) (I.ok.hd hc) he u p.isList (by simp;lia) fun g gk=>⟨rfl,I.turnedL (t':=s.toks) hf fun b o nb eb=>?_⟩
    have nb':b≠e∧b≠it:=by simpa using nb
    exact gk b o nb'.2 eb
  self:=fun A i s Q E st h=>by
    obtain⟨⟨old,he⟩,u⟩:=st
    exact jX he h
end L2
namespace L2
open PySem PySem.Spec PyProof.Rows
section
variable{X:Cx}{a:Expr}{ta:TA}{p p2 pos pos2:Pos}
theorem yH(hg:Gl X "range")(hm:X.mg "range"=none)(ha:PA X [a] ta)(hs:starEach [a] X.env=[(false,eval a X.env)]){pins:List (Addr × Obj)}{s:Shared}{σ:L2.St}{H:Hp}{R:Int→Hp→Prop}(I:aE X pins σ H s)(h:ta σ H fun vs H1=>∃j:Int,vs=[.int j]∧R j H1):
    wpAny (model X.prog X.w) X.A (eval (.Call (.Name "range" p) [a] [] pos) X.env) (fun v s1=>∃(r:Addr) (j:Int) (H1:Hp) (t u w:Tok),v=.ref r∧IsRange s1.heap r 0 j 1 t u w∧r < s1.heap.objs.size∧aE X pins σ H1 s1∧R j H1) X.xe s:=by
  refine Call_ (gD I hg hm boot_range (PyProof.Rows.callWith_type1 (cA (ha pos pins s σ H _ I h) fun us s1 ⟨vs,H1,I1,r1,q1⟩=>?_) hs rfl))
  obtain⟨j,e,q⟩:=q1
  subst e
  cases r1 with
  | cons r rr=>
    cases rr
    obtain⟨t,rfl⟩:=r
    exact call_range_1 ⟨_,j,H1,_,_,_,rfl,IsRange.new ..,by simp [Heap.size_push],I1.kept fun b o e=>Heap.get?_push_of_some _ e,q⟩
end
end L2
namespace L2
open PySem PySem.Spec PyProof.Rows
theorem xJ:fillsNumberSlot (.type "tuple") "mul"=pure false:=
  PySem.fillsNumberSlot_seq (id:="tuple.__mul__") (r:=some (.builtin "tuple.__rmul__")) F.slot_tuple_mul.lookup (by decide+kernel) F.slot_tuple_rmul.lookup (by decide+kernel)
theorem Ek:seqRepeat? (.type "tuple")=pure (some (.builtin "tuple.__mul__")):=by
  unfold seqRepeat?;rw [PySem.seqSlot_of (T:="tuple") (name:="__mul__") (id:="tuple.__mul__") F.slot_tuple_mul.lookup (by decide+kernel),PySem.seqSlot_of (T:="tuple") (name:="__rmul__") (id:="tuple.__rmul__") F.slot_tuple_rmul.lookup (by decide+kernel)];rfl
theorem B5(a:Int)(t:Tok)(l:Addr)(items:Array Value)(n:Nat)(dd:Option Addr)(sl:Array (Option Value)):
    Meets (Builtin.«int.__rmul__» ⟨[.int a t,.ref l],[]⟩) (fun _ R s=>s.heap.get? l=some {cls:=.type "tuple",dict:=dd,data:=.seq items n,slots:=sl}∧R (.ok (.ret Value.notImplemented)) s):=
  .of_wp fun prog w A R s h=>by obtain⟨hp,g,d,tk,os⟩:=s;obtain⟨hl,h⟩:=h;wp_walk;exact⟨_,rfl,h⟩
theorem Dy(l:Addr)(x:Value)(n:Nat)(k:Int)(u:Tok)(dd:Option Addr)(sl:Array (Option Value))(h0:2≤k)(h1:k≤100000):
    Meets (Builtin.«tuple.__mul__» ⟨[.ref l,.int k u],[]⟩) (fun _ R s=>s.heap.get? l=some {cls:=.type "tuple",dict:=dd,data:=.seq #[x] n,slots:=sl}∧
      R (.ok (.ret (.ref s.heap.objs.size))) {s with heap:=s.heap.push {cls:=.type "tuple",data:=.seq (List.replicate k.toNat x).toArray}}):=
  .of_wp fun prog w A R s h=>by
    obtain⟨hp,g,d,tk,os⟩:=s;obtain⟨hl,h⟩:=h
    have f1:=AutoSeq1.idx_int
    have c1:¬(decide (k < -(2 ^ 63)) || decide (k≥2 ^ 63))=true:=by simp;lia
    have c2:¬((#[x]:Array Value).isEmpty || k==1)=true:=by simp;lia
    have c3:¬(decide (k≤0) || (#[x]:Array Value).isEmpty)=true:=by simp;lia
    have c4:¬(((#[x]:Array Value).size:Int)*k > (2 ^ 63 - 1) / 8):=by simp;lia
    have c5:¬Builtin.Tuple.tupleTooMany (((#[x]:Array Value).size:Int)*k)=true:=by
      unfold Builtin.Tuple.tupleTooMany;rw [sizeLine_eq];simp;lia
    wp_walk using wpAny_loadPart' hl
    rw [if_neg c1]
    wp_walk using wpAny_loadPart' hl
    rw [if_neg c2]
    wp_walk using wpAny_loadPart' hl
    rw [if_neg c3]
    wp_walk using wpAny_loadPart' hl
    rw [if_neg c4]
    show wpAny _ _ (if Builtin.Tuple.tupleTooMany (((#[x]:Array Value).size:Int)*k)=true then _ else _) _ _ _
    rw [if_neg c5]
    have f0:∀(m:Nat) (acc:Array Value),List.foldl (fun x1 x2=>x1++x2) acc (List.replicate m #[x])=acc++(List.replicate m x).toArray:=by
      intro m
      induction m with
      | zero=>intro acc;simp
      | succ m ih=>intro acc;rw [List.replicate_succ,List.foldl_cons,ih,List.replicate_succ];apply Array.toList_inj.mp;simp
    have e:List.foldl (fun x1 x2=>x1++x2) #[] (List.replicate k.toNat #[x])=(List.replicate k.toNat x).toArray:=by rw [f0];simp
    show wpAny _ _ (Builtin.Tuple.tupleExact (List.foldl (fun x1 x2=>x1++x2) #[] (List.replicate k.toNat #[x])) >>= fun v=>ret v) _ _ _
    rw [e]
    unfold Builtin.Tuple.tupleExact
    refine wpAny_bind (wpAny_newObj_type ?_ (by show(List.replicate k.toNat x).toArray.size≤sizeLine;rw [List.size_toArray,List.length_replicate,sizeLine_eq];lia))
    exact wpAny_pure ⟨_,rfl,h⟩
theorem Bh(l:Addr)(x:Value)(n:Nat)(u:Tok)(dd:Option Addr)(sl:Array (Option Value)):
    Meets (Builtin.«tuple.__mul__» ⟨[.ref l,.int 0 u],[]⟩) (fun _ R s=>s.heap.get? l=some {cls:=.type "tuple",dict:=dd,data:=.seq #[x] n,slots:=sl}∧R (.ok (.ret (.ref s.heap.objs.size))) {s with heap:=s.heap.push {cls:=.type "tuple",data:=.seq #[]}}):=
  .of_wp fun prog w A R s h=>by
    obtain⟨hp,g,d,tk,os⟩:=s;obtain⟨hl,h⟩:=h;have f1:=AutoSeq1.idx_int
    have c2:¬((#[x]:Array Value).isEmpty || (0:Int)==1)=true:=by simp
    wp_walk using wpAny_loadPart' hl
    first | rw [if_neg c2] | skip
    wp_walk using wpAny_loadPart' hl
    exact⟨_,rfl,h⟩
theorem Bi(l:Addr)(x:Value)(n:Nat)(u:Tok)(dd:Option Addr)(sl:Array (Option Value)):
    Meets (Builtin.«tuple.__mul__» ⟨[.ref l,.int 1 u],[]⟩) (fun _ R s=>s.heap.get? l=some {cls:=.type "tuple",dict:=dd,data:=.seq #[x] n,slots:=sl}∧R (.ok (.ret (.ref l))) s):=
  .of_wp fun prog w A R s h=>by
    obtain⟨hp,g,d,tk,os⟩:=s;obtain⟨hl,h⟩:=h;have f1:=AutoSeq1.idx_int
    wp_walk using wpAny_loadPart' hl
    exact⟨_,rfl,h⟩
section
variable{X:Cx}
def zU(K:PySem.W.Frag):R2:=fun x y H Q=>∃a k v,x=.ref a∧y=.int k∧bX K H a [v]∧0≤k∧k≤100000∧∀p H',av H H'→bX K H' p (List.replicate k.toNat v)→Q (.ref p) H'
theorem BA:jo X (binaryOp .Mult) (zU X.K):=by
  intro pins s σ H x y v u Q I rx ry h
  obtain⟨a,k,z,rfl,rfl,ha,k0,k1,q⟩:=h
  cases rx
  obtain⟨t,rfl⟩:=ry
  obtain⟨its,r,p,hz⟩:=I.tuple ha
  obtain⟨uz,rfl,rz⟩:=rV r
  obtain⟨⟨cls,dd,data,sl⟩,ho,hc,n,hd⟩:=id p
  simp only at hc hd
  subst hc hd
  refine wpAny_binaryOp_repeat_ref (T:="tuple") (U:="int") (by decide) ⟨_,ho,rfl⟩ (fun s'=>PySem.typeIs_int s' k t) xJ F.fills_int_mul F.slot_int_rmul Ek F.slot_int_index.lookup (call_meets F.slot_int_rmul (PySem.typeIs_int s k t) F.entry_int_rmul (F.args_int_rmul_2 _ _) (B5 k t a #[uz] n dd sl) ⟨ho,rfl,⟨_,ho,rfl⟩,?_⟩)
  have new:∀m:Nat,m=k.toNat→EP X pins σ Q (.ref s.heap.objs.size) {s with heap:=s.heap.push {cls:=.type "tuple",data:=.seq (List.replicate m uz).toArray},toks:=s.toks}:=fun m hm=>by
    have hf:H s.heap.objs.size=none:=I.hok.fresh (Nat.le_refl _)
    have vv:∀j:Nat,aM (List.replicate j z) (List.replicate j uz):=fun j=>by
      induction j with
      | zero=>exact .nil
      | succ j ih=>exact .cons rz ih
    refine⟨.ref s.heap.objs.size,_,I.laid (t':=s.toks) (o:=.tup (List.replicate m z)) (fun b ob q=>Heap.get?_push_of_some _ q) (Nat.le_refl _) ⟨by rw [List.length_replicate,sizeLine_eq];lia,_,vv m,kO.new _ _⟩,rfl,q _ _ (av.new hf) (bX.of (by rw [aA,hm]))⟩
  rcases(by lia:k=0∨k=1∨2≤k) with e | e | e
  · subst e
    exact call_meets F.slot_tuple_mul ⟨_,ho,rfl⟩ F.entry_tuple_mul (F.args_tuple_mul_2 _ _) (Bh a uz n t dd sl) ⟨ho,new 0 rfl⟩
  · subst e
    exact call_meets F.slot_tuple_mul ⟨_,ho,rfl⟩ F.entry_tuple_mul (F.args_tuple_mul_2 _ _) (Bi a uz n t dd sl) ⟨ho,⟨.ref a,H,I,rfl,q a H (av.refl H) ha⟩⟩
  · exact call_meets F.slot_tuple_mul ⟨_,ho,rfl⟩ F.entry_tuple_mul (F.args_tuple_mul_2 _ _) (Dy a uz n k t dd sl e k1) ⟨ho,new _ rfl⟩
end
end L2
namespace L2
open PySem PySem.Spec PyProof.Rows
def qG(j:Int):Obj:={cls:=.type "range_iterator",data:=.fields #[rawInt (j - 1),rawInt j,rawInt (-1)]}
section
variable{prog:Program}{w:World}{A:Around}{E:Value→Shared→Prop}{s:Shared}
theorem xX(r:Addr)(j:Int)(t u v:Tok)(j0:0≤j)(j1:j≤100000):
    Meets (Builtin.«range.__reversed__» ⟨[.ref r],[]⟩) (fun _ R s=>IsRange s.heap r 0 j 1 t u v∧R (.ok (.ret (.ref s.heap.objs.size))) {s with heap:=s.heap.push (qG j)}):=
  .of_wp fun prog w A R s h=>by
    obtain⟨hp,g,d,tk,os⟩:=s;obtain⟨hr,h⟩:=h
    have e1:Builtin.Range.rangeSize 0 j 1=j:=by rw [rangeSize_one];split<;>lia
    show wpAny _ _ (Builtin.Range.rangeFields (.ref r) >>= _) _ _ _
    unfold Builtin.Range.rangeFields
    refine wpAny_bind (wpAny_bind (wpAny_field hr rfl (x:=.int 0 t) rfl ?_))
    refine wpAny_bind (wpAny_of_eq (a:=some 0) rfl ?_);refine wpAny_bind (wpAny_field hr rfl (x:=.int j u) rfl ?_)
    refine wpAny_bind (wpAny_of_eq (a:=some j) rfl ?_);refine wpAny_bind (wpAny_field hr rfl (x:=.int 1 v) rfl ?_)
    refine wpAny_bind (wpAny_of_eq (a:=some 1) rfl ?_);refine wpAny_pure ?_
    have hs:(Builtin.Range.rangeFitsLong 0&&Builtin.Range.rangeFitsLong j&&Builtin.Range.rangeFitsLong 1&&Builtin.Range.rangeFitsLong (-1)&&Builtin.Range.rangeFitsLong (0 - 1)&&Builtin.Range.rangeFitsLong (Builtin.Range.rangeSize 0 j 1))=true:=by
      rw [e1];unfold Builtin.Range.rangeFitsLong;simp;lia
    show wpAny _ _ (if (!(Builtin.Range.rangeFitsLong 0&&Builtin.Range.rangeFitsLong j&&Builtin.Range.rangeFitsLong 1&&Builtin.Range.rangeFitsLong (-1)&&Builtin.Range.rangeFitsLong (0 - 1)&&Builtin.Range.rangeFitsLong (Builtin.Range.rangeSize 0 j 1)))=true then _ else _) _ _ _
    rw [if_neg (by rw [hs];decide)]
    show wpAny _ _ (newFields (if (Builtin.Range.rangeFitsLong 0&&Builtin.Range.rangeFitsLong j&&Builtin.Range.rangeFitsLong 1&&Builtin.Range.rangeFitsLong (-1)&&Builtin.Range.rangeFitsLong (0 - 1)&&Builtin.Range.rangeFitsLong (Builtin.Range.rangeSize 0 j 1))=true then "range_iterator" else "longrange_iterator") [rawInt (0+(Builtin.Range.rangeSize 0 j 1 - 1)*1),rawInt (Builtin.Range.rangeSize 0 j 1),rawInt (-1)] >>= fun v=>ret v) _ _ _
    rw [if_pos hs,e1,show(0+(j - 1)*1:Int)=j - 1 by lia]
    refine wpAny_bind (wpAny_newObj_type ?_)
    exact wpAny_pure ⟨_,rfl,h⟩
theorem vx:isSubtype (.type "range_iterator") (.type "reversed")=pure false:=by rw [isSubtype_type];kernel_rfl
theorem z0{r:Addr}{j:Int}{t u v:Tok}{Q₁:Value→Shared→Prop}(hr:IsRange s.heap r 0 j 1 t u v)(j0:0≤j)(j1:j≤100000)(h:Q₁ (.ref s.heap.objs.size) {s with heap:=s.heap.push (qG j)}):
    codeAny (model prog w) A (.call (.builtin "reversed.__new__") ⟨[.type "reversed",.ref r],[]⟩) (wants Q₁ E) s:=by
  have hT:s.TypeIs (.ref r) "range":=⟨_,hr,rfl⟩
  refine codeAny_of_tree ?_;show wpAny _ A.in1 (do checkBuiltinCall "reversed.__new__" ⟨[.type "reversed",.ref r],[]⟩;again (.builtin "reversed.__new__" ⟨[.type "reversed",.ref r],[]⟩)) _ _ s
  refine wpAny_bind (wpAny_of_eq (F.newCall_reversed_1 _) (wpAny_pure ⟨plainId_quiet F.plain_reversed_new _,codeAny_builtin F.entry_reversed_new ?_⟩));rw [Around.under_plainId F.plain_reversed_new _]
  unfold Builtin.«reversed.__new__»;refine wpAny_bind (wpAny_of_eq (newClass_reversed _) ?_);try dsimp only
  refine wpAny_bind (wpAny_of_eq (a:=()) (by first | rfl | kernel_rfl) ?_);refine wpAny_bind (wpAny_of_eq (a:=()) (by first | rfl | kernel_rfl) ?_);try dsimp only
  refine wpAny_bind (wpAny_specialOf hT F.slot_range_reversed.lookup ?_);try dsimp only
  refine wpAny_bind (wpAny_of_eq (F.slot_range_reversed.bind _) ?_);try dsimp only
  first
    | rw [if_neg (show ¬((Value.builtin "range.__reversed__"==Value.none)=true) from Bool.false_ne_true)]
    | (show wpAny _ _ (if (Value.builtin "range.__reversed__"==Value.none)=true then _ else _) _ _ _;rw [if_neg (show ¬((Value.builtin "range.__reversed__"==Value.none)=true) from Bool.false_ne_true)])
  refine wpAny_bind (wpAny_rule ?_);refine wpAny_bind (m:=runValue (.call (.builtin "range.__reversed__") ⟨[.ref r],[]⟩)) (show wpAny _ _ (call (.builtin "range.__reversed__") [.ref r]) _ _ _ from call_meets F.slot_range_reversed hT F.entry_range_reversed (F.args_range_reversed_1 _) (xX r j t u v j0 j1) ⟨hr,?_⟩)
  first | exact wpAny_pure h | exact wpAny_bind (wpAny_pure (wpAny_pure h))
theorem zZ{r:Addr}{j:Int}{t u v:Tok}{Q:Value→Shared→Prop}(hr:IsRange s.heap r 0 j 1 t u v)(j0:0≤j)(j1:j≤100000)(h:Q (.ref s.heap.objs.size) {s with heap:=s.heap.push (qG j)}):wpAny (model prog w) A (call (.type "reversed") [.ref r]) Q E s:=by
  refine callType_other (U:="range_iterator") (Q₁:=fun obj s₁=>obj=.ref s.heap.objs.size∧s₁={s with heap:=s.heap.push (qG j)}) (by decide+kernel) F.create_reversed ⟨_,_,F.mro_reversed⟩ F.made_reversed vx (F.typeCall_reversed_1 _) (z0 hr j0 j1 ⟨rfl,rfl⟩) ?_
  rintro obj s₁ ⟨rfl,rfl⟩;exact⟨⟨_,Heap.get?_push_size _ rfl,rfl⟩,h⟩
end
section
variable{X:Cx}{a:Expr}{ta:TA}{p p2 p3 pos pos2 pos3:Pos}
theorem pQ:PySem.bootBuiltins "reversed"=some (.type "reversed"):=by decide+kernel
end
end L2
namespace L2
open PySem PySem.Spec PyProof.Rows
theorem xt(l:Addr)(xs:Array Value):
    Meets (Builtin.«enumerate.__new__» ⟨[.type "enumerate",.ref l],[]⟩) (fun _ R s=>s.heap.IsTuple l xs∧R (.ok (.ret (.ref (s.heap.objs.size+1)))) {s with heap:=(s.heap.push {cls:=.type "tuple_iterator",data:=.fields #[.ref l,.int 0 0]}).push {cls:=.type "enumerate",data:=.fields #[.none,.bool false,.ref s.heap.objs.size,rawInt 0,.none,.none]}}):=
  .of_wp fun prog w A R s h=>by
    obtain⟨hp,g,d,tk,os⟩:=s;obtain⟨ht,h⟩:=h;have a1:=sub_enumerate
    have T1:Heap.IsTuple (Shared.heap ⟨hp,g,d,tk,os⟩) l xs:=ht
    obtain⟨⟨cls,dd,data,sl⟩,ho,hc,n,hd⟩:=id ht
    simp only at hc hd
    subst hc hd
    wp_walk using wpAny_loadPart' ho
    refine wpAny_stack_any fun st=>wpAny_pure ?_
    split
    · rename_i c _ _ _ _ _
      cases (c==Value.type "enumerate")
      · wp_walk using wpAny_loadPart' ho,wpAny_pyIter_tuple T1
        refine⟨_,rfl,?_⟩
        simp only [Heap.size_push]
        exact h
      · wp_walk using wpAny_loadPart' ho,wpAny_pyIter_tuple T1
        refine⟨_,rfl,?_⟩
        simp only [Heap.size_push]
        exact h
    · wp_walk using wpAny_loadPart' ho,wpAny_pyIter_tuple T1
      refine⟨_,rfl,?_⟩
      simp only [Heap.size_push]
      exact h
section
variable{prog:Program}{w:World}{A:Around}{E:Value→Shared→Prop}{s:Shared}
theorem uQ{l:Addr}{xs:Array Value}{Q:Value→Shared→Prop}(t1:s.heap.IsTuple l xs)(h:∀g,wo (s.heap.objs.size+1) s.heap.objs.size l 0 g→(∀c o,s.heap.get? c=some o→g.get? c=some o)→Q (.ref (s.heap.objs.size+1)) {s with heap:=g}):wpAny (model prog w) A (call (.type "enumerate") [.ref l]) Q E s:=by
  refine callType_new F.called_enumerate (by decide) (F.typeCall_enumerate_1 _) (F.newCall_enumerate_1 _) (fun obj=>F.args_object_init_2 obj _) F.entry_enumerate_new (xt l xs) ⟨t1,?_⟩
  have g2:((s.heap.push {cls:=.type "tuple_iterator",data:=.fields #[.ref l,.int 0 0]}).push {cls:=.type "enumerate",data:=.fields #[.none,.bool false,.ref s.heap.objs.size,rawInt 0,.none,.none]}).get? (s.heap.objs.size+1)=some {cls:=.type "enumerate",data:=.fields #[.none,.bool false,.ref s.heap.objs.size,rawInt 0,.none,.none]}:=by
    have e:s.heap.objs.size+1=(s.heap.push {cls:=.type "tuple_iterator",data:=.fields #[.ref l,.int 0 0]}).objs.size:=by simp only [Heap.size_push]
    rw [e];exact Heap.get?_push_size _ rfl
  exact⟨⟨_,g2,rfl⟩,h _ ⟨⟨.none,g2⟩,⟨_,Heap.get?_push_of_some _ (Heap.get?_push_size _ rfl),rfl,rfl⟩⟩ fun c o x=>Heap.get?_push_of_some _ (Heap.get?_push_of_some _ x)⟩
end
theorem jw:PySem.bootBuiltins "enumerate"=some (.type "enumerate"):=by decide+kernel
def GC(K:PySem.W.Frag)(ta:TA):TI:=fun σ H R=>ta σ H fun vs H1=>∃a,vs=[.ref a]∧(∃xs,bX K H1 a xs)∧R (C7 K a) H1
def GB(K:PySem.W.Frag)(ta:TA):TI:=fun σ H R=>ta σ H fun vs H1=>∃a,vs=[.ref a]∧(∃xs,d_ K H1 a xs)∧R (C6 K a) H1
section
variable{X:Cx}{K:PySem.W.Frag}{es:List Expr}{k0:Nat}{tp:Pos}{a:Expr}{ta:TA}{p pos:Pos}
theorem zA(hK:X.K=K)(hg:Gl X "enumerate")(hm:X.mg "enumerate"=none)(ha:PA X [a] ta)(hs:starEach [a] X.env=[(false,eval a X.env)]:=by rfl):PI X (.Tuple es k0 tp) (.Call (.Name "enumerate" p) [a] [] pos) (GC K ta):=by
  intro pins s σ H R I h
  subst hK
  refine Call_ (gD I hg hm jw (PyProof.Rows.callWith_type1 (cA (ha pos pins s σ H _ I h) fun us s1 ⟨vs,H1,I1,r1,q1⟩=>?_) hs rfl))
  obtain⟨a,e,⟨xs,qx⟩,q⟩:=q1
  subst e
  obtain⟨u,rfl,ru⟩:=rV r1
  cases ru
  obtain⟨i1,v1,p1,_⟩:=I1.tuple qx
  refine uQ p1 fun g st hk=>?_
  obtain⟨⟨old,he⟩,hit⟩:=id st
  refine jX he ?_
  have I2:aE X pins σ H1 {s1 with heap:=g,toks:=s1.toks}:=I1.kept (t':=s1.toks) fun b o e=>hk b o e
  refine⟨s1.heap.objs.size+1,[s1.heap.objs.size+1,s1.heap.objs.size],_,_,H1,rfl,I2,vF a (show((s1.heap.objs.size+1:Nat)≠s1.heap.objs.size) by lia),st,fun c hc=>?_,q⟩
  have le:s1.heap.objs.size≤c:=by
    simp only [List.mem_cons,List.not_mem_nil,or_false] at hc
    rcases hc with rfl | rfl
    · exact Nat.le_add_right _ 1
    · exact Nat.le_refl _
  exact I1.fpOk (H':=H1) le (I1.hok.fresh le)
theorem zz(hK:X.K=K)(hg:Gl X "enumerate")(hm:X.mg "enumerate"=none)(ha:PA X [a] ta)(hs:starEach [a] X.env=[(false,eval a X.env)]:=by rfl):PI X (.Tuple es k0 tp) (.Call (.Name "enumerate" p) [a] [] pos) (GB K ta):=by
  intro pins s σ H R I h
  subst hK
  refine Call_ (gD I hg hm jw (PyProof.Rows.callWith_type1 (cA (ha pos pins s σ H _ I h) fun us s1 ⟨vs,H1,I1,r1,q1⟩=>?_) hs rfl))
  obtain⟨a,e,⟨xs,qx⟩,q⟩:=q1
  subst e
  obtain⟨u,rfl,ru⟩:=rV r1
  cases ru
  obtain⟨i1,v1,p1,_⟩:=I1.list qx
  refine call_enumerate_list p1.isList fun g he hit hsz hk=>?_
  refine jX he ?_
  have I2:aE X pins σ H1 {s1 with heap:=g,toks:=s1.toks}:=I1.kept (t':=s1.toks) fun b o e=>hk b o e
  refine⟨s1.heap.objs.size+1,[s1.heap.objs.size+1,s1.heap.objs.size],_,_,H1,rfl,I2,vE a (show((s1.heap.objs.size+1:Nat)≠s1.heap.objs.size) by lia),⟨⟨_,he⟩,hit⟩,fun c hc=>?_,q⟩
  have le:s1.heap.objs.size≤c:=by
    simp only [List.mem_cons,List.not_mem_nil,or_false] at hc
    rcases hc with rfl | rfl
    · exact Nat.le_add_right _ 1
    · exact Nat.le_refl _
  exact I1.fpOk (H':=H1) le (I1.hok.fresh le)
end
end L2
namespace L2
open PySem PySem.Spec PyProof.Rows
def Ct(K:PySem.W.Frag)(l1 l2:Addr):It:=
  ⟨fun i H=>∃xs ys x y,d_ K H l1 xs∧bX K H l2 ys∧xs[i]?=some x∧ys[i]?=some y,
   fun i H v H'=>∃p x y,v=.ref p∧H p=none∧H'=bi H p (.tup [x,y])∧∀xs ys,d_ K H l1 xs→bX K H l2 ys→xs[i]?=some x∧ys[i]?=some y,
   fun i H=>∃xs ys,d_ K H l1 xs∧bX K H l2 ys∧(xs.length≤i∨ys.length≤i)⟩
def xc(z TI TO i1 i2 l1 l2:Addr)(i:Nat)(h:Heap):Prop:=IsZip h z TI TO .none∧IsPair h TI (.ref i1) (.ref i2)∧(∃a b,IsPair h TO a b)∧h.IsListIter i1 l1 i∧h.IsTupleIter i2 l2 i
theorem vJ{P:Program}{w:World}{K:PySem.W.Frag}{es:List Expr}{k0:Nat}{pos:Pos}{z TI TO i1 i2:Addr}(l1 l2:Addr)(n1:TO≠z)(n2:i1≠z)(n3:i2≠z)(n4:TO≠i1)(n5:TO≠i2)(n6:i1≠i2)(n7:TI≠z)(n8:TI≠TO)(n9:TI≠i1)(n10:TI≠i2):
    ou P w K (.Tuple es k0 pos) (Ct K l1 l2) [z,TI,TO,i1,i2] z (xc z TI TO i1 i2 l1 l2) where
  mem:=by simp
  obj:=fun i h st b hb=>by
    obtain⟨hz,hI,⟨a,c,hO⟩,u1,u2⟩:=st
    simp only [List.mem_cons,List.not_mem_nil,or_false] at hb
    rcases hb with rfl | rfl | rfl | rfl | rfl
    · exact⟨_,hz,fun v z=>by cases z⟩
    · exact⟨_,hI,fun v z=>by cases z⟩
    · exact⟨_,hO,fun v z=>by cases z⟩
    · obtain⟨o,e,c,d⟩:=u1
      exact⟨o,e,fun v z=>by rw [d] at z;cases z⟩
    · obtain⟨o,e,c,d⟩:=u2
      exact⟨o,e,fun v z=>by rw [d] at z;cases z⟩
  keep:=fun i h h' st k=>by
    obtain⟨hz,hI,⟨a,c,hO⟩,u1,u2⟩:=st
    exact⟨k _ (by simp) _ hz,k _ (by simp) _ hI,⟨a,c,k _ (by simp) _ hO⟩,u1.at fun o e=>k _ (by simp) o e,u2.at fun o e=>k _ (by simp) o e⟩
  item:=by
    intro X hP hw hK hc i pins s σ H E I hf st hg
    subst hP hw hK
    obtain⟨xs,ys,x,y,q1,q2,hx,hy⟩:=hg
    obtain⟨hz,hI,⟨a,b,hO⟩,u1,u2⟩:=id st
    obtain⟨its1,rv1,p1,z1⟩:=I.list q1
    obtain⟨its2,rv2,p2,z2⟩:=I.tuple q2
    obtain⟨ux,hux,rux⟩:=rv1.get hx
    obtain⟨uy,huy,ruy⟩:=rv2.get hy
    have fz:=hf z (by simp);have fO:=hf TO (by simp);have f1:=hf i1 (by simp);have f2:=hf i2 (by simp)
    have D:jd z TI TO i1 i2 l1 l2:=⟨n1,n2,n3,n4,n5,n6,ar I fz q1,ar I fO q1,ar I f1 q1,ar I f2 q1,aD I fz q2,aD I fO q2,aD I f1 q2,aD I f2 q2⟩
    refine ml (xs:=its1.toArray) (ys:=its2.toArray) (eI i1 l1) (iy i2 l2) D hz hI hO u1 u2 p1.isList p2 (by simpa using hux) (by simpa using huy) fun g gz gO g1 g2 gT gs gk=>?_
    refine⟨_,rfl,wpAny_letOwnedTupleGo_zip gz fun g' gz' ge=>?_⟩
    have lt:∀b∈[z,TI,TO,i1,i2],b < s.heap.objs.size:=fun b hb=>by
      simp only [List.mem_cons,List.not_mem_nil,or_false] at hb
      rcases hb with rfl | rfl | rfl | rfl | rfl
      · exact Heap.lt_size hz
      · exact Heap.lt_size hI
      · exact Heap.lt_size hO
      · obtain⟨o,e,_⟩:=u1;exact Heap.lt_size e
      · obtain⟨o,e,_⟩:=u2;exact Heap.lt_size e
    have hT:H s.heap.objs.size=none:=I.hok.fresh (Nat.le_refl _)
    have vv:aM [x,y] [ux,uy]:=.cons rux (.cons ruy .nil)
    have I1:aE X pins σ (bi H s.heap.objs.size (.tup [x,y])) {s with heap:=s.heap.push {cls:=.type "tuple",data:=.seq #[ux,uy]},toks:=s.toks}:=
      I.laid (t':=s.toks) (fun b u e=>Heap.get?_push_of_some _ e) (Nat.le_refl _) ⟨(by show 2≤sizeLine;decide),[ux,uy],vv,kO.new _ _⟩
    have hf1:∀b∈[z,TI,TO,i1,i2],iB X pins (bi H s.heap.objs.size (.tup [x,y])) b:=fun b hb=>by
      obtain⟨f0,fr⟩:=hf b hb
      exact⟨by rw [au (Nat.ne_of_lt (lt b hb))];exact f0,fr⟩
    have nzT:s.heap.objs.size≠z:=Nat.ne_of_gt (lt z (by simp))
    have I2:aE X pins σ (bi H s.heap.objs.size (.tup [x,y])) {s with heap:=g',toks:=s.toks}:=by
      refine I1.turnedL (t':=s.toks) hf1 fun b o nb e=>?_
      have nb':b≠z∧b≠TI∧b≠TO∧b≠i1∧b≠i2:=by simpa using nb
      refine ge.extBut _ _ nb'.1 ?_
      rcases Heap.get?_push_cases e with ⟨rfl,rfl⟩ | e
      · exact gT
      · exact gk b o nb'.1 nb'.2.2.1 nb'.2.2.2.1 nb'.2.2.2.2 e
    refine⟨.ref s.heap.objs.size,_,I2,rfl,⟨_,x,y,rfl,hT,rfl,fun xs' ys' w1 w2=>?_⟩,⟨gz',ge.extBut _ _ n7 (gk _ _ n7 n8 n9 n10 hI),⟨ux,uy,ge.extBut _ _ n1 gO⟩,g1.at fun o e=>ge.extBut _ _ n2 e,g2.at fun o e=>ge.extBut _ _ n3 e⟩,fun b hb=>(hf1 b hb).1⟩
    rw [I.list_inj w1 q1,I.tuple_inj w2 q2]
    exact⟨hx,hy⟩
  done:=by
    intro X hP hw hK hc i pins s σ H E I hf st hg
    subst hP hw hK
    obtain⟨xs,ys,q1,q2,hn⟩:=hg
    obtain⟨hz,hI,⟨a,b,hO⟩,u1,u2⟩:=id st
    obtain⟨its1,rv1,p1,z1⟩:=I.list q1
    obtain⟨its2,rv2,p2,z2⟩:=I.tuple q2
    have fz:=hf z (by simp);have fO:=hf TO (by simp);have f1:=hf i1 (by simp);have f2:=hf i2 (by simp)
    have D:jd z TI TO i1 i2 l1 l2:=⟨n1,n2,n3,n4,n5,n6,ar I fz q1,ar I fO q1,ar I f1 q1,ar I f2 q1,aD I fz q2,aD I fO q2,aD I f1 q2,aD I f2 q2⟩
    have e1:=rv1.length
    have e2:=rv2.length
    refine mn (xs:=its1.toArray) (ys:=its2.toArray) (I.ok.hd hc) (eI i1 l1) (iy i2 l2) D hz hI hO u1 u2 p1.isList p2 ?_ fun g gk=>⟨rfl,I.turnedL (t':=s.toks) hf fun b o nb e=>?_⟩
    · rcases hn with hn | hn
      · exact .inl (by simp;lia)
      · exact .inr (by simp;lia)
    · have nb':b≠z∧b≠TI∧b≠TO∧b≠i1∧b≠i2:=by simpa using nb
      exact gk b o nb'.1 nb'.2.2.1 nb'.2.2.2.1 nb'.2.2.2.2 e
  self:=fun A i s Q E st h=>wpAny_pyIter_zip st.1 h
theorem yg(l1 l2:Addr)(xs ys:Array Value):
    Meets (Builtin.«zip.__new__» ⟨[.type "zip",.ref l1,.ref l2],[]⟩) (fun _ R s=>s.heap.IsList l1 xs∧s.heap.IsTuple l2 ys∧
      R (.ok (.ret (.ref (s.heap.objs.size+4)))) {s with heap:=((((s.heap.push {cls:=.type "list_iterator",data:=.fields #[.ref l1,.int 0 0]}).push {cls:=.type "tuple_iterator",data:=.fields #[.ref l2,.int 0 0]}).push {cls:=.type "tuple",data:=.seq #[.ref s.heap.objs.size,.ref (s.heap.objs.size+1)]}).push {cls:=.type "tuple",data:=.seq #[.none,.none]}).push {cls:=.type "zip",data:=.fields #[.none,.bool false,.bool false,.ref (s.heap.objs.size+2),.ref (s.heap.objs.size+3)]}}):=
  .of_wp fun prog w A R s h=>by
    obtain⟨hp,g,d,tk,os⟩:=s;obtain⟨t1,t2,h⟩:=h;have sz:=PySem.sub_zip
    have T1:Heap.IsList (Shared.heap ⟨hp,g,d,tk,os⟩) l1 xs:=t1
    have T2:Heap.IsTuple (Shared.heap ⟨hp.push {cls:=.type "list_iterator",data:=.fields #[.ref l1,.int 0 0]},g,d,tk,os⟩) l2 ys:=Heap.IsTuple.push t2 _
    wp_walk using wpAny_pyIter_list T1,wpAny_pyIter_tuple T2
    refine⟨_,rfl,?_⟩
    simp only [Heap.size_push]
    exact h
section
variable{prog:Program}{w:World}{A:Around}{E:Value→Shared→Prop}{s:Shared}
theorem vQ{l1 l2:Addr}{xs ys:Array Value}{Q:Value→Shared→Prop}(t1:s.heap.IsList l1 xs)(t2:s.heap.IsTuple l2 ys)
    (h:∀g,xc (s.heap.objs.size+4) (s.heap.objs.size+2) (s.heap.objs.size+3) s.heap.objs.size (s.heap.objs.size+1) l1 l2 0 g→(∀c o,s.heap.get? c=some o→g.get? c=some o)→Q (.ref (s.heap.objs.size+4)) {s with heap:=g}):
    wpAny (model prog w) A (call (.type "zip") [.ref l1,.ref l2]) Q E s:=by
  refine callType_new F.called_zip (by decide) (F.typeCall_zip_2 _ _) (F.newCall_zip_2 _ _) (fun obj=>F.args_object_init_3 obj _ _) F.entry_zip_new (yg l1 l2 xs ys) ⟨t1,t2,?_⟩
  have at5:∀(g:Heap) (o:Obj) (a:Addr),o.isFreed=false→a=g.objs.size→(g.push o).get? a=some o:=fun g o a hf e=>by rw [e];exact Heap.get?_push_size _ hf
  have g5:=at5 ((((s.heap.push {cls:=.type "list_iterator",data:=.fields #[.ref l1,.int 0 0]}).push {cls:=.type "tuple_iterator",data:=.fields #[.ref l2,.int 0 0]}).push {cls:=.type "tuple",data:=.seq #[.ref s.heap.objs.size,.ref (s.heap.objs.size+1)]}).push {cls:=.type "tuple",data:=.seq #[.none,.none]}) {cls:=.type "zip",data:=.fields #[.none,.bool false,.bool false,.ref (s.heap.objs.size+2),.ref (s.heap.objs.size+3)]} (s.heap.objs.size+4) rfl (by simp only [Heap.size_push])
  have g4:=at5 (((s.heap.push {cls:=.type "list_iterator",data:=.fields #[.ref l1,.int 0 0]}).push {cls:=.type "tuple_iterator",data:=.fields #[.ref l2,.int 0 0]}).push {cls:=.type "tuple",data:=.seq #[.ref s.heap.objs.size,.ref (s.heap.objs.size+1)]}) {cls:=.type "tuple",data:=.seq #[.none,.none]} (s.heap.objs.size+3) rfl (by simp only [Heap.size_push])
  have g3:=at5 ((s.heap.push {cls:=.type "list_iterator",data:=.fields #[.ref l1,.int 0 0]}).push {cls:=.type "tuple_iterator",data:=.fields #[.ref l2,.int 0 0]}) {cls:=.type "tuple",data:=.seq #[.ref s.heap.objs.size,.ref (s.heap.objs.size+1)]} (s.heap.objs.size+2) rfl (by simp only [Heap.size_push])
  have g2:=at5 (s.heap.push {cls:=.type "list_iterator",data:=.fields #[.ref l1,.int 0 0]}) {cls:=.type "tuple_iterator",data:=.fields #[.ref l2,.int 0 0]} (s.heap.objs.size+1) rfl (by simp only [Heap.size_push])
  have g1:=at5 s.heap {cls:=.type "list_iterator",data:=.fields #[.ref l1,.int 0 0]} s.heap.objs.size rfl rfl
  have up:∀{g:Heap} {a:Addr} {u:Obj} (o:Obj),g.get? a=some u→(g.push o).get? a=some u:=fun o e=>Heap.get?_push_of_some o e
  refine⟨⟨_,g5,rfl⟩,h _ ⟨g5,up _ (up _ g3),⟨_,_,up _ g4⟩,⟨_,up _ (up _ (up _ (up _ g1))),rfl,rfl⟩,⟨_,up _ (up _ (up _ g2)),rfl,rfl⟩⟩ fun c o x=>up _ (up _ (up _ (up _ (up _ x))))⟩
end
def Do(K:PySem.W.Frag)(ta:TA):TI:=fun σ H R=>ta σ H fun vs H1=>∃a b,vs=[.ref a,.ref b]∧(∃xs,d_ K H1 a xs)∧(∃ys,bX K H1 b ys)∧R (Ct K a b) H1
theorem zC{X:Cx}{K:PySem.W.Frag}{es:List Expr}{k0:Nat}{tp:Pos}{a b:Expr}{ta:TA}{p pos:Pos}(hK:X.K=K)(hg:Gl X "zip")(hm:X.mg "zip"=none)(ha:PA X [a,b] ta)(hs:starEach [a,b] X.env=[(false,eval a X.env),(false,eval b X.env)]:=by rfl)(hs2:starEach [b] X.env=[(false,eval b X.env)]:=by rfl):
    PI X (.Tuple es k0 tp) (.Call (.Name "zip" p) [a,b] [] pos) (Do K ta):=by
  intro pins s σ H R I h
  subst hK
  refine Call_ (gD I hg hm lA (PyProof.Rows.callWith_type1 (cA (ha pos pins s σ H _ I h) fun us s1 ⟨vs,H1,I1,r1,q1⟩=>?_) (by rw [hs,hs2]) (by rw [hs2];rfl)))
  obtain⟨a,b,e,⟨xs,qx⟩,⟨ys,qy⟩,q⟩:=q1
  subst e
  cases r1 with
  | cons r rr=>
    cases rr with
    | cons r' rr=>
      cases rr
      cases r
      cases r'
      obtain⟨i1,v1,p1,_⟩:=I1.list qx
      obtain⟨i2,v2,p2,_⟩:=I1.tuple qy
      refine vQ p1.isList p2 fun g st hk=>wpAny_pyIter_zip st.1 ?_
      have I2:aE X pins σ H1 {s1 with heap:=g,toks:=s1.toks}:=I1.kept (t':=s1.toks) fun b o e=>hk b o e
      refine⟨s1.heap.objs.size+4,[s1.heap.objs.size+4,s1.heap.objs.size+2,s1.heap.objs.size+3,s1.heap.objs.size,s1.heap.objs.size+1],_,_,H1,rfl,I2,vJ a b (show((s1.heap.objs.size+3:Nat)≠s1.heap.objs.size+4) by lia) (show((s1.heap.objs.size:Nat)≠s1.heap.objs.size+4) by lia) (show((s1.heap.objs.size+1:Nat)≠s1.heap.objs.size+4) by lia) (show((s1.heap.objs.size+3:Nat)≠s1.heap.objs.size) by lia) (show((s1.heap.objs.size+3:Nat)≠s1.heap.objs.size+1) by lia) (show((s1.heap.objs.size:Nat)≠s1.heap.objs.size+1) by lia) (show((s1.heap.objs.size+2:Nat)≠s1.heap.objs.size+4) by lia) (show((s1.heap.objs.size+2:Nat)≠s1.heap.objs.size+3) by lia) (show((s1.heap.objs.size+2:Nat)≠s1.heap.objs.size) by lia) (show((s1.heap.objs.size+2:Nat)≠s1.heap.objs.size+1) by lia),st,fun c hc=>?_,q⟩
      have le:s1.heap.objs.size≤c:=by
        simp only [List.mem_cons,List.not_mem_nil,or_false] at hc
        rcases hc with rfl | rfl | rfl | rfl | rfl
        · exact Nat.le_add_right _ 4
        · exact Nat.le_add_right _ 2
        · exact Nat.le_add_right _ 3
        · exact Nat.le_refl _
        · exact Nat.le_add_right _ 1
      have f:=I1.fpOk (H':=H1) le (I1.hok.fresh le)
      exact f
def Cu(K:PySem.W.Frag)(l1 l2:Addr):It:=
  ⟨fun i H=>∃xs ys x y,bX K H l1 xs∧d_ K H l2 ys∧xs[i]?=some x∧ys[i]?=some y,
   fun i H v H'=>∃p x y,v=.ref p∧H p=none∧H'=bi H p (.tup [x,y])∧∀xs ys,bX K H l1 xs→d_ K H l2 ys→xs[i]?=some x∧ys[i]?=some y,
   fun i H=>∃xs ys,bX K H l1 xs∧d_ K H l2 ys∧(xs.length≤i∨ys.length≤i)⟩
def xf(z TI TO i1 i2 l1 l2:Addr)(i:Nat)(h:Heap):Prop:=IsZip h z TI TO .none∧IsPair h TI (.ref i1) (.ref i2)∧(∃a b,IsPair h TO a b)∧h.IsTupleIter i1 l1 i∧h.IsListIter i2 l2 i
theorem vK{P:Program}{w:World}{K:PySem.W.Frag}{es:List Expr}{k0:Nat}{pos:Pos}{z TI TO i1 i2:Addr}(l1 l2:Addr)(n1:TO≠z)(n2:i1≠z)(n3:i2≠z)(n4:TO≠i1)(n5:TO≠i2)(n6:i1≠i2)(n7:TI≠z)(n8:TI≠TO)(n9:TI≠i1)(n10:TI≠i2):
    ou P w K (.Tuple es k0 pos) (Cu K l1 l2) [z,TI,TO,i1,i2] z (xf z TI TO i1 i2 l1 l2) where
  mem:=by simp
  obj:=fun i h st b hb=>by
    obtain⟨hz,hI,⟨a,c,hO⟩,u1,u2⟩:=st
    simp only [List.mem_cons,List.not_mem_nil,or_false] at hb
    rcases hb with rfl | rfl | rfl | rfl | rfl
    · exact⟨_,hz,fun v z=>by cases z⟩
    · exact⟨_,hI,fun v z=>by cases z⟩
    · exact⟨_,hO,fun v z=>by cases z⟩
    · obtain⟨o,e,c,d⟩:=u1
      exact⟨o,e,fun v z=>by rw [d] at z;cases z⟩
    · obtain⟨o,e,c,d⟩:=u2
      exact⟨o,e,fun v z=>by rw [d] at z;cases z⟩
  keep:=fun i h h' st k=>by
    obtain⟨hz,hI,⟨a,c,hO⟩,u1,u2⟩:=st
    exact⟨k _ (by simp) _ hz,k _ (by simp) _ hI,⟨a,c,k _ (by simp) _ hO⟩,u1.at fun o e=>k _ (by simp) o e,u2.at fun o e=>k _ (by simp) o e⟩
  item:=by
    intro X hP hw hK hc i pins s σ H E I hf st hg
    subst hP hw hK
    obtain⟨xs,ys,x,y,q1,q2,hx,hy⟩:=hg
    obtain⟨hz,hI,⟨a,b,hO⟩,u1,u2⟩:=id st
    obtain⟨its1,rv1,p1,z1⟩:=I.tuple q1
    obtain⟨its2,rv2,p2,z2⟩:=I.list q2
    obtain⟨ux,hux,rux⟩:=rv1.get hx
    obtain⟨uy,huy,ruy⟩:=rv2.get hy
    have fz:=hf z (by simp);have fO:=hf TO (by simp);have f1:=hf i1 (by simp);have f2:=hf i2 (by simp)
    have D:jd z TI TO i1 i2 l1 l2:=⟨n1,n2,n3,n4,n5,n6,aD I fz q1,aD I fO q1,aD I f1 q1,aD I f2 q1,ar I fz q2,ar I fO q2,ar I f1 q2,ar I f2 q2⟩
    refine ml (xs:=its1.toArray) (ys:=its2.toArray) (iy i1 l1) (eI i2 l2) D hz hI hO u1 u2 p1 p2.isList (by simpa using hux) (by simpa using huy) fun g gz gO g1 g2 gT gs gk=>?_
    refine⟨_,rfl,wpAny_letOwnedTupleGo_zip gz fun g' gz' ge=>?_⟩
    have lt:∀b∈[z,TI,TO,i1,i2],b < s.heap.objs.size:=fun b hb=>by
      simp only [List.mem_cons,List.not_mem_nil,or_false] at hb
      rcases hb with rfl | rfl | rfl | rfl | rfl
      · exact Heap.lt_size hz
      · exact Heap.lt_size hI
      · exact Heap.lt_size hO
      · obtain⟨o,e,_⟩:=u1;exact Heap.lt_size e
      · obtain⟨o,e,_⟩:=u2;exact Heap.lt_size e
    have hT:H s.heap.objs.size=none:=I.hok.fresh (Nat.le_refl _)
    have vv:aM [x,y] [ux,uy]:=.cons rux (.cons ruy .nil)
    have I1:aE X pins σ (bi H s.heap.objs.size (.tup [x,y])) {s with heap:=s.heap.push {cls:=.type "tuple",data:=.seq #[ux,uy]},toks:=s.toks}:=
      I.laid (t':=s.toks) (fun b u e=>Heap.get?_push_of_some _ e) (Nat.le_refl _) ⟨(by show 2≤sizeLine;decide),[ux,uy],vv,kO.new _ _⟩
    have hf1:∀b∈[z,TI,TO,i1,i2],iB X pins (bi H s.heap.objs.size (.tup [x,y])) b:=fun b hb=>by
      obtain⟨f0,fr⟩:=hf b hb
      exact⟨by rw [au (Nat.ne_of_lt (lt b hb))];exact f0,fr⟩
    have nzT:s.heap.objs.size≠z:=Nat.ne_of_gt (lt z (by simp))
    have I2:aE X pins σ (bi H s.heap.objs.size (.tup [x,y])) {s with heap:=g',toks:=s.toks}:=by
      refine I1.turnedL (t':=s.toks) hf1 fun b o nb e=>?_
      have nb':b≠z∧b≠TI∧b≠TO∧b≠i1∧b≠i2:=by simpa using nb
      refine ge.extBut _ _ nb'.1 ?_
      rcases Heap.get?_push_cases e with ⟨rfl,rfl⟩ | e
      · exact gT
      · exact gk b o nb'.1 nb'.2.2.1 nb'.2.2.2.1 nb'.2.2.2.2 e
    refine⟨.ref s.heap.objs.size,_,I2,rfl,⟨_,x,y,rfl,hT,rfl,fun xs' ys' w1 w2=>?_⟩,⟨gz',ge.extBut _ _ n7 (gk _ _ n7 n8 n9 n10 hI),⟨ux,uy,ge.extBut _ _ n1 gO⟩,g1.at fun o e=>ge.extBut _ _ n2 e,g2.at fun o e=>ge.extBut _ _ n3 e⟩,fun b hb=>(hf1 b hb).1⟩
    rw [I.tuple_inj w1 q1,I.list_inj w2 q2]
    exact⟨hx,hy⟩
  done:=by
    intro X hP hw hK hc i pins s σ H E I hf st hg
    subst hP hw hK
    obtain⟨xs,ys,q1,q2,hn⟩:=hg
    obtain⟨hz,hI,⟨a,b,hO⟩,u1,u2⟩:=id st
    obtain⟨its1,rv1,p1,z1⟩:=I.tuple q1
    obtain⟨its2,rv2,p2,z2⟩:=I.list q2
    have fz:=hf z (by simp);have fO:=hf TO (by simp);have f1:=hf i1 (by simp);have f2:=hf i2 (by simp)
    have D:jd z TI TO i1 i2 l1 l2:=⟨n1,n2,n3,n4,n5,n6,aD I fz q1,aD I fO q1,aD I f1 q1,aD I f2 q1,ar I fz q2,ar I fO q2,ar I f1 q2,ar I f2 q2⟩
    have e1:=rv1.length
    have e2:=rv2.length
    refine mn (xs:=its1.toArray) (ys:=its2.toArray) (I.ok.hd hc) (iy i1 l1) (eI i2 l2) D hz hI hO u1 u2 p1 p2.isList ?_ fun g gk=>⟨rfl,I.turnedL (t':=s.toks) hf fun b o nb e=>?_⟩
    · rcases hn with hn | hn
      · exact .inl (by simp;lia)
      · exact .inr (by simp;lia)
    · have nb':b≠z∧b≠TI∧b≠TO∧b≠i1∧b≠i2:=by simpa using nb
      exact gk b o nb'.1 nb'.2.2.1 nb'.2.2.2.1 nb'.2.2.2.2 e
  self:=fun A i s Q E st h=>wpAny_pyIter_zip st.1 h
theorem yh(l1 l2:Addr)(xs ys:Array Value):
    Meets (Builtin.«zip.__new__» ⟨[.type "zip",.ref l1,.ref l2],[]⟩) (fun _ R s=>s.heap.IsTuple l1 xs∧s.heap.IsList l2 ys∧
      R (.ok (.ret (.ref (s.heap.objs.size+4)))) {s with heap:=((((s.heap.push {cls:=.type "tuple_iterator",data:=.fields #[.ref l1,.int 0 0]}).push {cls:=.type "list_iterator",data:=.fields #[.ref l2,.int 0 0]}).push {cls:=.type "tuple",data:=.seq #[.ref s.heap.objs.size,.ref (s.heap.objs.size+1)]}).push {cls:=.type "tuple",data:=.seq #[.none,.none]}).push {cls:=.type "zip",data:=.fields #[.none,.bool false,.bool false,.ref (s.heap.objs.size+2),.ref (s.heap.objs.size+3)]}}):=
  .of_wp fun prog w A R s h=>by
    obtain⟨hp,g,d,tk,os⟩:=s;obtain⟨t1,t2,h⟩:=h;have sz:=PySem.sub_zip
    have T1:Heap.IsTuple (Shared.heap ⟨hp,g,d,tk,os⟩) l1 xs:=t1
    have T2:Heap.IsList (Shared.heap ⟨hp.push {cls:=.type "tuple_iterator",data:=.fields #[.ref l1,.int 0 0]},g,d,tk,os⟩) l2 ys:=Heap.IsList.push t2 _
    wp_walk using wpAny_pyIter_tuple T1,wpAny_pyIter_list T2
    refine⟨_,rfl,?_⟩
    simp only [Heap.size_push]
    exact h
section
variable{prog:Program}{w:World}{A:Around}{E:Value→Shared→Prop}{s:Shared}
theorem vS{l1 l2:Addr}{xs ys:Array Value}{Q:Value→Shared→Prop}(t1:s.heap.IsTuple l1 xs)(t2:s.heap.IsList l2 ys)
    (h:∀g,xf (s.heap.objs.size+4) (s.heap.objs.size+2) (s.heap.objs.size+3) s.heap.objs.size (s.heap.objs.size+1) l1 l2 0 g→(∀c o,s.heap.get? c=some o→g.get? c=some o)→Q (.ref (s.heap.objs.size+4)) {s with heap:=g}):
    wpAny (model prog w) A (call (.type "zip") [.ref l1,.ref l2]) Q E s:=by
  refine callType_new F.called_zip (by decide) (F.typeCall_zip_2 _ _) (F.newCall_zip_2 _ _) (fun obj=>F.args_object_init_3 obj _ _) F.entry_zip_new (yh l1 l2 xs ys) ⟨t1,t2,?_⟩
  have at5:∀(g:Heap) (o:Obj) (a:Addr),o.isFreed=false→a=g.objs.size→(g.push o).get? a=some o:=fun g o a hf e=>by rw [e];exact Heap.get?_push_size _ hf
  have g5:=at5 ((((s.heap.push {cls:=.type "tuple_iterator",data:=.fields #[.ref l1,.int 0 0]}).push {cls:=.type "list_iterator",data:=.fields #[.ref l2,.int 0 0]}).push {cls:=.type "tuple",data:=.seq #[.ref s.heap.objs.size,.ref (s.heap.objs.size+1)]}).push {cls:=.type "tuple",data:=.seq #[.none,.none]}) {cls:=.type "zip",data:=.fields #[.none,.bool false,.bool false,.ref (s.heap.objs.size+2),.ref (s.heap.objs.size+3)]} (s.heap.objs.size+4) rfl (by simp only [Heap.size_push])
  have g4:=at5 (((s.heap.push {cls:=.type "tuple_iterator",data:=.fields #[.ref l1,.int 0 0]}).push {cls:=.type "list_iterator",data:=.fields #[.ref l2,.int 0 0]}).push {cls:=.type "tuple",data:=.seq #[.ref s.heap.objs.size,.ref (s.heap.objs.size+1)]}) {cls:=.type "tuple",data:=.seq #[.none,.none]} (s.heap.objs.size+3) rfl (by simp only [Heap.size_push])
  have g3:=at5 ((s.heap.push {cls:=.type "tuple_iterator",data:=.fields #[.ref l1,.int 0 0]}).push {cls:=.type "list_iterator",data:=.fields #[.ref l2,.int 0 0]}) {cls:=.type "tuple",data:=.seq #[.ref s.heap.objs.size,.ref (s.heap.objs.size+1)]} (s.heap.objs.size+2) rfl (by simp only [Heap.size_push])
  have g2:=at5 (s.heap.push {cls:=.type "tuple_iterator",data:=.fields #[.ref l1,.int 0 0]}) {cls:=.type "list_iterator",data:=.fields #[.ref l2,.int 0 0]} (s.heap.objs.size+1) rfl (by simp only [Heap.size_push])
  have g1:=at5 s.heap {cls:=.type "tuple_iterator",data:=.fields #[.ref l1,.int 0 0]} s.heap.objs.size rfl rfl
  have up:∀{g:Heap} {a:Addr} {u:Obj} (o:Obj),g.get? a=some u→(g.push o).get? a=some u:=fun o e=>Heap.get?_push_of_some o e
  refine⟨⟨_,g5,rfl⟩,h _ ⟨g5,up _ (up _ g3),⟨_,_,up _ g4⟩,⟨_,up _ (up _ (up _ (up _ g1))),rfl,rfl⟩,⟨_,up _ (up _ (up _ g2)),rfl,rfl⟩⟩ fun c o x=>up _ (up _ (up _ (up _ (up _ x))))⟩
end
def Dp(K:PySem.W.Frag)(ta:TA):TI:=fun σ H R=>ta σ H fun vs H1=>∃a b,vs=[.ref a,.ref b]∧(∃xs,bX K H1 a xs)∧(∃ys,d_ K H1 b ys)∧R (Cu K a b) H1
theorem zD{X:Cx}{K:PySem.W.Frag}{es:List Expr}{k0:Nat}{tp:Pos}{a b:Expr}{ta:TA}{p pos:Pos}(hK:X.K=K)(hg:Gl X "zip")(hm:X.mg "zip"=none)(ha:PA X [a,b] ta)(hs:starEach [a,b] X.env=[(false,eval a X.env),(false,eval b X.env)]:=by rfl)(hs2:starEach [b] X.env=[(false,eval b X.env)]:=by rfl):
    PI X (.Tuple es k0 tp) (.Call (.Name "zip" p) [a,b] [] pos) (Dp K ta):=by
  intro pins s σ H R I h
  subst hK
  refine Call_ (gD I hg hm lA (PyProof.Rows.callWith_type1 (cA (ha pos pins s σ H _ I h) fun us s1 ⟨vs,H1,I1,r1,q1⟩=>?_) (by rw [hs,hs2]) (by rw [hs2];rfl)))
  obtain⟨a,b,e,⟨xs,qx⟩,⟨ys,qy⟩,q⟩:=q1
  subst e
  cases r1 with
  | cons r rr=>
    cases rr with
    | cons r' rr=>
      cases rr
      cases r
      cases r'
      obtain⟨i1,v1,p1,_⟩:=I1.tuple qx
      obtain⟨i2,v2,p2,_⟩:=I1.list qy
      refine vS p1 p2.isList fun g st hk=>wpAny_pyIter_zip st.1 ?_
      have I2:aE X pins σ H1 {s1 with heap:=g,toks:=s1.toks}:=I1.kept (t':=s1.toks) fun b o e=>hk b o e
      refine⟨s1.heap.objs.size+4,[s1.heap.objs.size+4,s1.heap.objs.size+2,s1.heap.objs.size+3,s1.heap.objs.size,s1.heap.objs.size+1],_,_,H1,rfl,I2,vK a b (show((s1.heap.objs.size+3:Nat)≠s1.heap.objs.size+4) by lia) (show((s1.heap.objs.size:Nat)≠s1.heap.objs.size+4) by lia) (show((s1.heap.objs.size+1:Nat)≠s1.heap.objs.size+4) by lia) (show((s1.heap.objs.size+3:Nat)≠s1.heap.objs.size) by lia) (show((s1.heap.objs.size+3:Nat)≠s1.heap.objs.size+1) by lia) (show((s1.heap.objs.size:Nat)≠s1.heap.objs.size+1) by lia) (show((s1.heap.objs.size+2:Nat)≠s1.heap.objs.size+4) by lia) (show((s1.heap.objs.size+2:Nat)≠s1.heap.objs.size+3) by lia) (show((s1.heap.objs.size+2:Nat)≠s1.heap.objs.size) by lia) (show((s1.heap.objs.size+2:Nat)≠s1.heap.objs.size+1) by lia),st,fun c hc=>?_,q⟩
      have le:s1.heap.objs.size≤c:=by
        simp only [List.mem_cons,List.not_mem_nil,or_false] at hc
        rcases hc with rfl | rfl | rfl | rfl | rfl
        · exact Nat.le_add_right _ 4
        · exact Nat.le_add_right _ 2
        · exact Nat.le_add_right _ 3
        · exact Nat.le_refl _
        · exact Nat.le_add_right _ 1
      have f:=I1.fpOk (H':=H1) le (I1.hok.fresh le)
      exact f
def Cs(K:PySem.W.Frag)(l1 l2:Addr):It:=
  ⟨fun i H=>∃xs ys x y,d_ K H l1 xs∧d_ K H l2 ys∧xs[i]?=some x∧ys[i]?=some y,
   fun i H v H'=>∃p x y,v=.ref p∧H p=none∧H'=bi H p (.tup [x,y])∧∀xs ys,d_ K H l1 xs→d_ K H l2 ys→xs[i]?=some x∧ys[i]?=some y,
   fun i H=>∃xs ys,d_ K H l1 xs∧d_ K H l2 ys∧(xs.length≤i∨ys.length≤i)⟩
def xb(z TI TO i1 i2 l1 l2:Addr)(i:Nat)(h:Heap):Prop:=IsZip h z TI TO .none∧IsPair h TI (.ref i1) (.ref i2)∧(∃a b,IsPair h TO a b)∧h.IsListIter i1 l1 i∧h.IsListIter i2 l2 i
theorem vI{P:Program}{w:World}{K:PySem.W.Frag}{es:List Expr}{k0:Nat}{pos:Pos}{z TI TO i1 i2:Addr}(l1 l2:Addr)(n1:TO≠z)(n2:i1≠z)(n3:i2≠z)(n4:TO≠i1)(n5:TO≠i2)(n6:i1≠i2)(n7:TI≠z)(n8:TI≠TO)(n9:TI≠i1)(n10:TI≠i2):
    ou P w K (.Tuple es k0 pos) (Cs K l1 l2) [z,TI,TO,i1,i2] z (xb z TI TO i1 i2 l1 l2) where
  mem:=by simp
  obj:=fun i h st b hb=>by
    obtain⟨hz,hI,⟨a,c,hO⟩,u1,u2⟩:=st
    simp only [List.mem_cons,List.not_mem_nil,or_false] at hb
    rcases hb with rfl | rfl | rfl | rfl | rfl
    · exact⟨_,hz,fun v z=>by cases z⟩
    · exact⟨_,hI,fun v z=>by cases z⟩
    · exact⟨_,hO,fun v z=>by cases z⟩
    · obtain⟨o,e,c,d⟩:=u1
      exact⟨o,e,fun v z=>by rw [d] at z;cases z⟩
    · obtain⟨o,e,c,d⟩:=u2
      exact⟨o,e,fun v z=>by rw [d] at z;cases z⟩
  keep:=fun i h h' st k=>by
    obtain⟨hz,hI,⟨a,c,hO⟩,u1,u2⟩:=st
    exact⟨k _ (by simp) _ hz,k _ (by simp) _ hI,⟨a,c,k _ (by simp) _ hO⟩,u1.at fun o e=>k _ (by simp) o e,u2.at fun o e=>k _ (by simp) o e⟩
  item:=by
    intro X hP hw hK hc i pins s σ H E I hf st hg
    subst hP hw hK
    obtain⟨xs,ys,x,y,q1,q2,hx,hy⟩:=hg
    obtain⟨hz,hI,⟨a,b,hO⟩,u1,u2⟩:=id st
    obtain⟨its1,rv1,p1,z1⟩:=I.list q1
    obtain⟨its2,rv2,p2,z2⟩:=I.list q2
    obtain⟨ux,hux,rux⟩:=rv1.get hx
    obtain⟨uy,huy,ruy⟩:=rv2.get hy
    have fz:=hf z (by simp);have fO:=hf TO (by simp);have f1:=hf i1 (by simp);have f2:=hf i2 (by simp)
    have D:jd z TI TO i1 i2 l1 l2:=⟨n1,n2,n3,n4,n5,n6,ar I fz q1,ar I fO q1,ar I f1 q1,ar I f2 q1,ar I fz q2,ar I fO q2,ar I f1 q2,ar I f2 q2⟩
    refine ml (xs:=its1.toArray) (ys:=its2.toArray) (eI i1 l1) (eI i2 l2) D hz hI hO u1 u2 p1.isList p2.isList (by simpa using hux) (by simpa using huy) fun g gz gO g1 g2 gT gs gk=>?_
    refine⟨_,rfl,wpAny_letOwnedTupleGo_zip gz fun g' gz' ge=>?_⟩
    have lt:∀b∈[z,TI,TO,i1,i2],b < s.heap.objs.size:=fun b hb=>by
      simp only [List.mem_cons,List.not_mem_nil,or_false] at hb
      rcases hb with rfl | rfl | rfl | rfl | rfl
      · exact Heap.lt_size hz
      · exact Heap.lt_size hI
      · exact Heap.lt_size hO
      · obtain⟨o,e,_⟩:=u1;exact Heap.lt_size e
      · obtain⟨o,e,_⟩:=u2;exact Heap.lt_size e
    have hT:H s.heap.objs.size=none:=I.hok.fresh (Nat.le_refl _)
    have vv:aM [x,y] [ux,uy]:=.cons rux (.cons ruy .nil)
    have I1:aE X pins σ (bi H s.heap.objs.size (.tup [x,y])) {s with heap:=s.heap.push {cls:=.type "tuple",data:=.seq #[ux,uy]},toks:=s.toks}:=
      I.laid (t':=s.toks) (fun b u e=>Heap.get?_push_of_some _ e) (Nat.le_refl _) ⟨(by show 2≤sizeLine;decide),[ux,uy],vv,kO.new _ _⟩
    have hf1:∀b∈[z,TI,TO,i1,i2],iB X pins (bi H s.heap.objs.size (.tup [x,y])) b:=fun b hb=>by
      obtain⟨f0,fr⟩:=hf b hb
      exact⟨by rw [au (Nat.ne_of_lt (lt b hb))];exact f0,fr⟩
    have nzT:s.heap.objs.size≠z:=Nat.ne_of_gt (lt z (by simp))
    have I2:aE X pins σ (bi H s.heap.objs.size (.tup [x,y])) {s with heap:=g',toks:=s.toks}:=by
      refine I1.turnedL (t':=s.toks) hf1 fun b o nb e=>?_
      have nb':b≠z∧b≠TI∧b≠TO∧b≠i1∧b≠i2:=by simpa using nb
      refine ge.extBut _ _ nb'.1 ?_
      rcases Heap.get?_push_cases e with ⟨rfl,rfl⟩ | e
      · exact gT
      · exact gk b o nb'.1 nb'.2.2.1 nb'.2.2.2.1 nb'.2.2.2.2 e
    refine⟨.ref s.heap.objs.size,_,I2,rfl,⟨_,x,y,rfl,hT,rfl,fun xs' ys' w1 w2=>?_⟩,⟨gz',ge.extBut _ _ n7 (gk _ _ n7 n8 n9 n10 hI),⟨ux,uy,ge.extBut _ _ n1 gO⟩,g1.at fun o e=>ge.extBut _ _ n2 e,g2.at fun o e=>ge.extBut _ _ n3 e⟩,fun b hb=>(hf1 b hb).1⟩
    rw [I.list_inj w1 q1,I.list_inj w2 q2]
    exact⟨hx,hy⟩
  done:=by
    intro X hP hw hK hc i pins s σ H E I hf st hg
    subst hP hw hK
    obtain⟨xs,ys,q1,q2,hn⟩:=hg
    obtain⟨hz,hI,⟨a,b,hO⟩,u1,u2⟩:=id st
    obtain⟨its1,rv1,p1,z1⟩:=I.list q1
    obtain⟨its2,rv2,p2,z2⟩:=I.list q2
    have fz:=hf z (by simp);have fO:=hf TO (by simp);have f1:=hf i1 (by simp);have f2:=hf i2 (by simp)
    have D:jd z TI TO i1 i2 l1 l2:=⟨n1,n2,n3,n4,n5,n6,ar I fz q1,ar I fO q1,ar I f1 q1,ar I f2 q1,ar I fz q2,ar I fO q2,ar I f1 q2,ar I f2 q2⟩
    have e1:=rv1.length
    have e2:=rv2.length
    refine mn (xs:=its1.toArray) (ys:=its2.toArray) (I.ok.hd hc) (eI i1 l1) (eI i2 l2) D hz hI hO u1 u2 p1.isList p2.isList ?_ fun g gk=>⟨rfl,I.turnedL (t':=s.toks) hf fun b o nb e=>?_⟩
    · rcases hn with hn | hn
      · exact .inl (by simp;lia)
      · exact .inr (by simp;lia)
    · have nb':b≠z∧b≠TI∧b≠TO∧b≠i1∧b≠i2:=by simpa using nb
      exact gk b o nb'.1 nb'.2.2.1 nb'.2.2.2.1 nb'.2.2.2.2 e
  self:=fun A i s Q E st h=>wpAny_pyIter_zip st.1 h
theorem yf(l1 l2:Addr)(xs ys:Array Value):
    Meets (Builtin.«zip.__new__» ⟨[.type "zip",.ref l1,.ref l2],[]⟩) (fun _ R s=>s.heap.IsList l1 xs∧s.heap.IsList l2 ys∧
      R (.ok (.ret (.ref (s.heap.objs.size+4)))) {s with heap:=((((s.heap.push {cls:=.type "list_iterator",data:=.fields #[.ref l1,.int 0 0]}).push {cls:=.type "list_iterator",data:=.fields #[.ref l2,.int 0 0]}).push {cls:=.type "tuple",data:=.seq #[.ref s.heap.objs.size,.ref (s.heap.objs.size+1)]}).push {cls:=.type "tuple",data:=.seq #[.none,.none]}).push {cls:=.type "zip",data:=.fields #[.none,.bool false,.bool false,.ref (s.heap.objs.size+2),.ref (s.heap.objs.size+3)]}}):=
  .of_wp fun prog w A R s h=>by
    obtain⟨hp,g,d,tk,os⟩:=s;obtain⟨t1,t2,h⟩:=h;have sz:=PySem.sub_zip
    have T1:Heap.IsList (Shared.heap ⟨hp,g,d,tk,os⟩) l1 xs:=t1
    have T2:Heap.IsList (Shared.heap ⟨hp.push {cls:=.type "list_iterator",data:=.fields #[.ref l1,.int 0 0]},g,d,tk,os⟩) l2 ys:=Heap.IsList.push t2 _
    wp_walk using wpAny_pyIter_list T1,wpAny_pyIter_list T2
    refine⟨_,rfl,?_⟩
    simp only [Heap.size_push]
    exact h
section
variable{prog:Program}{w:World}{A:Around}{E:Value→Shared→Prop}{s:Shared}
theorem vP{l1 l2:Addr}{xs ys:Array Value}{Q:Value→Shared→Prop}(t1:s.heap.IsList l1 xs)(t2:s.heap.IsList l2 ys)
    (h:∀g,xb (s.heap.objs.size+4) (s.heap.objs.size+2) (s.heap.objs.size+3) s.heap.objs.size (s.heap.objs.size+1) l1 l2 0 g→(∀c o,s.heap.get? c=some o→g.get? c=some o)→Q (.ref (s.heap.objs.size+4)) {s with heap:=g}):
    wpAny (model prog w) A (call (.type "zip") [.ref l1,.ref l2]) Q E s:=by
  refine callType_new F.called_zip (by decide) (F.typeCall_zip_2 _ _) (F.newCall_zip_2 _ _) (fun obj=>F.args_object_init_3 obj _ _) F.entry_zip_new (yf l1 l2 xs ys) ⟨t1,t2,?_⟩
  have at5:∀(g:Heap) (o:Obj) (a:Addr),o.isFreed=false→a=g.objs.size→(g.push o).get? a=some o:=fun g o a hf e=>by rw [e];exact Heap.get?_push_size _ hf
  have g5:=at5 ((((s.heap.push {cls:=.type "list_iterator",data:=.fields #[.ref l1,.int 0 0]}).push {cls:=.type "list_iterator",data:=.fields #[.ref l2,.int 0 0]}).push {cls:=.type "tuple",data:=.seq #[.ref s.heap.objs.size,.ref (s.heap.objs.size+1)]}).push {cls:=.type "tuple",data:=.seq #[.none,.none]}) {cls:=.type "zip",data:=.fields #[.none,.bool false,.bool false,.ref (s.heap.objs.size+2),.ref (s.heap.objs.size+3)]} (s.heap.objs.size+4) rfl (by simp only [Heap.size_push])
  have g4:=at5 (((s.heap.push {cls:=.type "list_iterator",data:=.fields #[.ref l1,.int 0 0]}).push {cls:=.type "list_iterator",data:=.fields #[.ref l2,.int 0 0]}).push {cls:=.type "tuple",data:=.seq #[.ref s.heap.objs.size,.ref (s.heap.objs.size+1)]}) {cls:=.type "tuple",data:=.seq #[.none,.none]} (s.heap.objs.size+3) rfl (by simp only [Heap.size_push])
  have g3:=at5 ((s.heap.push {cls:=.type "list_iterator",data:=.fields #[.ref l1,.int 0 0]}).push {cls:=.type "list_iterator",data:=.fields #[.ref l2,.int 0 0]}) {cls:=.type "tuple",data:=.seq #[.ref s.heap.objs.size,.ref (s.heap.objs.size+1)]} (s.heap.objs.size+2) rfl (by simp only [Heap.size_push])
  have g2:=at5 (s.heap.push {cls:=.type "list_iterator",data:=.fields #[.ref l1,.int 0 0]}) {cls:=.type "list_iterator",data:=.fields #[.ref l2,.int 0 0]} (s.heap.objs.size+1) rfl (by simp only [Heap.size_push])
  have g1:=at5 s.heap {cls:=.type "list_iterator",data:=.fields #[.ref l1,.int 0 0]} s.heap.objs.size rfl rfl
  have up:∀{g:Heap} {a:Addr} {u:Obj} (o:Obj),g.get? a=some u→(g.push o).get? a=some u:=fun o e=>Heap.get?_push_of_some o e
  refine⟨⟨_,g5,rfl⟩,h _ ⟨g5,up _ (up _ g3),⟨_,_,up _ g4⟩,⟨_,up _ (up _ (up _ (up _ g1))),rfl,rfl⟩,⟨_,up _ (up _ (up _ g2)),rfl,rfl⟩⟩ fun c o x=>up _ (up _ (up _ (up _ (up _ x))))⟩
end
def Dn(K:PySem.W.Frag)(ta:TA):TI:=fun σ H R=>ta σ H fun vs H1=>∃a b,vs=[.ref a,.ref b]∧(∃xs,d_ K H1 a xs)∧(∃ys,d_ K H1 b ys)∧R (Cs K a b) H1
theorem zB{X:Cx}{K:PySem.W.Frag}{es:List Expr}{k0:Nat}{tp:Pos}{a b:Expr}{ta:TA}{p pos:Pos}(hK:X.K=K)(hg:Gl X "zip")(hm:X.mg "zip"=none)(ha:PA X [a,b] ta)(hs:starEach [a,b] X.env=[(false,eval a X.env),(false,eval b X.env)]:=by rfl)(hs2:starEach [b] X.env=[(false,eval b X.env)]:=by rfl):
    PI X (.Tuple es k0 tp) (.Call (.Name "zip" p) [a,b] [] pos) (Dn K ta):=by
  intro pins s σ H R I h
  subst hK
  refine Call_ (gD I hg hm lA (PyProof.Rows.callWith_type1 (cA (ha pos pins s σ H _ I h) fun us s1 ⟨vs,H1,I1,r1,q1⟩=>?_) (by rw [hs,hs2]) (by rw [hs2];rfl)))
  obtain⟨a,b,e,⟨xs,qx⟩,⟨ys,qy⟩,q⟩:=q1
  subst e
  cases r1 with
  | cons r rr=>
    cases rr with
    | cons r' rr=>
      cases rr
      cases r
      cases r'
      obtain⟨i1,v1,p1,_⟩:=I1.list qx
      obtain⟨i2,v2,p2,_⟩:=I1.list qy
      refine vP p1.isList p2.isList fun g st hk=>wpAny_pyIter_zip st.1 ?_
      have I2:aE X pins σ H1 {s1 with heap:=g,toks:=s1.toks}:=I1.kept (t':=s1.toks) fun b o e=>hk b o e
      refine⟨s1.heap.objs.size+4,[s1.heap.objs.size+4,s1.heap.objs.size+2,s1.heap.objs.size+3,s1.heap.objs.size,s1.heap.objs.size+1],_,_,H1,rfl,I2,vI a b (show((s1.heap.objs.size+3:Nat)≠s1.heap.objs.size+4) by lia) (show((s1.heap.objs.size:Nat)≠s1.heap.objs.size+4) by lia) (show((s1.heap.objs.size+1:Nat)≠s1.heap.objs.size+4) by lia) (show((s1.heap.objs.size+3:Nat)≠s1.heap.objs.size) by lia) (show((s1.heap.objs.size+3:Nat)≠s1.heap.objs.size+1) by lia) (show((s1.heap.objs.size:Nat)≠s1.heap.objs.size+1) by lia) (show((s1.heap.objs.size+2:Nat)≠s1.heap.objs.size+4) by lia) (show((s1.heap.objs.size+2:Nat)≠s1.heap.objs.size+3) by lia) (show((s1.heap.objs.size+2:Nat)≠s1.heap.objs.size) by lia) (show((s1.heap.objs.size+2:Nat)≠s1.heap.objs.size+1) by lia),st,fun c hc=>?_,q⟩
      have le:s1.heap.objs.size≤c:=by
        simp only [List.mem_cons,List.not_mem_nil,or_false] at hc
        rcases hc with rfl | rfl | rfl | rfl | rfl
        · exact Nat.le_add_right _ 4
        · exact Nat.le_add_right _ 2
        · exact Nat.le_add_right _ 3
        · exact Nat.le_refl _
        · exact Nat.le_add_right _ 1
      have f:=I1.fpOk (H':=H1) le (I1.hok.fresh le)
      exact f
end L2
namespace L2
open PySem PySem.Spec PyProof.Rows
theorem vk{X:Cx}{ix:Nat}{nm:Str}{posn poss:Pos}{elt iter tg:Expr}{ifs:List Expr}{scope:Scope}{pos:Pos}{wi:TI}{g:TG}{tc:TT}{te:TE}(sc0:Scope)(N0:List Str)(cp:List (Nat × Str))(tgN:List Str)
    (hc:X.calm=true)(hsc:X.env.scope=sc0)(hN0:X.N=N0)(hi:PI X tg iter wi)
    (hg:∀C s0 H0 fp,PG (aP X scope cp tgN C s0 H0 fp) tg g)
    (ht:∀C s0 H0 fp,ym (aP X scope cp tgN C s0 H0 fp) ifs tc)
    (he:∀C s0 H0 fp,PE (aP X scope cp tgN C s0 H0 fp) elt te)
    (hk:scope.kind=.function)(hcell:∀y∈scope.names,y.2≠.cell)(hnames:∀y∈scope.names,y.2=.local→scope.names.lookup y.1=some .local)
    (hfr:∀y∈scope.names,y.2=.free→scope.names.lookup y.1=some .free∧sc0.names.lookup y.1=some .cell)
    (hcp:∀p∈cp,N0[p.1]?=some p.2)(hcq:∀p∈cp,sc0.names.lookup p.2=some .cell∧scope.names.lookup p.2=some .free)
    (hNd:X.N.Nodup)(hix:X.N[ix]?=some nm)(hlc:X.env.scope.names.lookup nm=some .local)(hsw:swapsWith (.ListComp elt [⟨tg,iter,ifs,0⟩] scope pos) (some (.Name nm posn)) poss.line X.env=pure true)
    (hs:∀x,foldedSetIterable iter X.env x=pure x:=by intro _;rfl):
    PS X (.Assign [.Name nm posn] (.ListComp elt [⟨tg,iter,ifs,0⟩] scope pos) poss) (Es (wX cp tgN.length wi g tc te) (yP ix)):=by
  intro pins s σ H D0 I h
  let Q:VK:=fun x H1=>D0.nx (σ.set ix (some x)) H1
  have h:wX cp tgN.length wi g tc te σ H Q:=h
  have hkind:∀x,X.env.kindOf x=sc0.names.lookup x:=fun x=>by unfold Env.kindOf;rw [hsc]
  have hfree:∀y∈scope.names,y.2=.free→∃c,X.env.cells.lookup y.1=some c:=fun y hy e=>I.ok.has y.1 (.inl (by rw [hkind];exact(hfr y hy e).2))
  rw [exec_Assign_Name_used _ _ _ _ hsw]
  refine wpAny_bind (wpAny_standAt (wpAny_bind ?_))
  unfold evalThenUse
  refine wpAny_bind ?_
  refine wpAny_comprehension_free (use:=some (assign (.Name nm posn) X.env)) rfl hs (oD hfree) hk hnames (wpAny_mono (hi pins s σ H _ I h.go) (fun xv s₁ h₁=>wpAny_mono h₁ (fun itv s₂ h₂=>?_) fun _ _ e=>e) fun _ _ e=>e)
  obtain⟨it,fp,tn,J,H2,rfl,I2,T,st2,f2,hq⟩:=h₂
  refine wpAny_newObj_type ?_
  have hlF:H2 s₂.heap.objs.size=none:=I2.hok.fresh (Nat.le_refl _)
  have I3:aE X pins σ (bi H2 s₂.heap.objs.size (.lst [])) {s₂ with heap:=s₂.heap.push {cls:=.type "list",data:=.seq ([]:List Value).toArray}}:=I2.lnew (t':=s₂.toks) .nil (Nat.zero_le _)
  obtain⟨W,⟨m0,w0⟩,turn⟩:=hq _ hlF
  have f3:∀b∈fp,iB X pins (bi H2 s₂.heap.objs.size (.lst [])) b:=fun b hb=>by
    obtain⟨f0,fr⟩:=f2 b hb
    obtain⟨o,ho,_⟩:=T.obj _ _ st2 b hb
    exact⟨by rw [au (Nat.ne_of_lt (Heap.lt_size ho))];exact f0,fr⟩
  have st3:tn 0 (s₂.heap.push {cls:=.type "list",data:=.seq ([]:List Value).toArray}):=T.keep _ _ _ st2 fun b _ o e=>Heap.get?_push_of_some _ e
  generalize hD:s₂.heap.objs.size=D at*
  generalize hs3:({s₂ with heap:=s₂.heap.push {cls:=.type "list",data:=.seq ([]:List Value).toArray}}:Shared)=s₃ at*
  have hst3:tn 0 s₃.heap:=by rw [←hs3];exact st3
  refine wpAny_newFunctionEnv hcell (by intro y hy;simp at hy) (fun h₁ hns₁ hsb₁=>?_) hk
  generalize hC:s₃.heap.objs.size=C at*
  have old:∀b o,s₃.heap.get? b=some o→h₁.get? b=some o:=fun b o e=>hsb₁.extBut b o (by rw [←hC];exact Nat.ne_of_lt (Heap.lt_size e)) (Heap.get?_push_of_some _ e)
  have nC:∀b o,s₃.heap.get? b=some o→b≠C:=fun b o e=>by rw [←hC];exact Nat.ne_of_lt (Heap.lt_size e)
  have hHC:(bi H2 D (.lst [])) C=none:=I3.hok.fresh (by rw [hC];exact Nat.le_refl _)
  have clS:∀x c,(ji X.env scope.names []).lookup x=some c→X.env.cells.lookup x=some c:=fun x c e=>kW _ _ x c hfree (fun _ _ z=>by simp at z) e
  have clH:∀x,(∃y∈scope.names,y.1=x∧y.2=.free)→∃c,(ji X.env scope.names []).lookup x=some c:=fun x e=>oC _ _ x (.inl e)
  have ok':(aP X scope cp tgN C s₃ (bi H2 D (.lst [])) fp).Ok:=by
    refine⟨I.ok.mod,hk,I.ok.glob,I.ok.blt,by rw [←hC];exact Nat.le_refl _,fun x y c e1 e2=>I.ok.inj x y c (clS _ _ e1) (clS _ _ e2),fun x e=>clH x (dW hcell e),fun x c e1 e2=>?_,I.ok.hd,I.ok.frames,.inl rfl,fun b hb=>?_,fun b o e=>I3.bs b o e,?_,fun b o e hb=>?_,fun b hb z=>?_,I3.stack,fun b hb=>I3.stkFree b hb⟩
    · exfalso
      have e1':scope.names.lookup x=some .local:=by simpa [aP] using e1
      have e2':=clS x c e2
      obtain⟨c',hc'⟩:∃y∈scope.names,y.1=x∧y.2=.free:=by
        by_cases q:∃y∈scope.names,y.1=x∧y.2=.free
        · exact q
        · exfalso
          have:∀(names:List (Str × NameKind)) (cs:List (Str × Addr)),(¬∃y∈names,y.1=x∧y.2=.free)→cs.lookup x=none→(ji X.env names cs).lookup x=none:=by
            intro names
            induction names with
            | nil=>intro cs _ h;exact h
            | cons y r ih=>
              intro cs hn hcs
              obtain⟨n,k⟩:=y
              refine ih _ (fun⟨y,hy,z⟩=>hn ⟨y,List.mem_cons_of_mem _ hy,z⟩) ?_
              by_cases hk:(k==NameKind.free)=true
              · rw [if_pos hk,List.lookup_cons]
                cases hx:x==n with
                | true=>exact absurd ⟨(n,k),List.mem_cons_self,(by simpa using hx:x=n).symm,by simpa using hk⟩ hn
                | false=>exact hcs
              · rw [if_neg hk];exact hcs
          have z:=this scope.names [] q rfl
          have e2'':(ji X.env scope.names []).lookup x=some c:=e2
          rw [z] at e2'';cases e2''
      have z:=(hfr c' hc'.1 hc'.2.2).1
      rw [hc'.2.1,e1'] at z;cases z
    · obtain⟨f0,f1,f4,f5,f6,f7⟩:=f3 b hb
      obtain⟨o,ho,_⟩:=T.obj _ _ hst3 b hb
      exact⟨nC b o ho,fun x c e=>f6 x c (clS x c e)⟩
    · exact Nat.le_trans I.ok.bsz I3.sz
    · obtain⟨f0,f1,f4,f5,f6,f7⟩:=f3 b hb
      rcases f5 with z | z
      · exact I.ok.noex b o e z
      · have:=(I.ok.bs b o e).1
        exact absurd (Nat.lt_of_lt_of_le (Heap.lt_size this) z) (Nat.lt_irrefl _)
    · obtain⟨f0,f1,f4,f5,f6,f7⟩:=f3 b hb
      rcases List.mem_cons.mp (I3.stkSub b z) with z | z
      · exact f1 z
      · exact f4 z
  have I4:aE (aP X scope cp tgN C s₃ (bi H2 D (.lst [])) fp) [] (iR cp tgN.length σ) (bi H2 D (.lst [])) {s₃ with heap:=h₁,toks:=s₃.toks+([]:List (Str × Value)).length}:=by
    refine⟨ok',rfl,I3.bare,Un.kept old,⟨_,hns₁,fun i x v e1 e2 e3=>?_⟩,fun x c e=>?_,hHC,fun x c e=>I3.freeC x c (clS x c e),fun p hp=>by simp [aP] at hp,I3.hok.kept old,by simp [iR,aP]⟩
    · have hlt:i < cp.length:=by
        by_cases q:i < cp.length
        · exact q
        · exfalso
          unfold iR at e2
          rw [List.getElem?_append_right (by simp;lia)] at e2
          rw [List.getElem?_replicate] at e2
          split at e2<;>cases e2
      have e1':(cp.map (·.2))[i]?=some x:=by
        have e1'':(cp.map (·.2)++tgN)[i]?=some x:=e1
        rwa [List.getElem?_append_left (by simp;exact hlt)] at e1''
      have e2':(cp.map (fun p=>(σ[p.1]?).join))[i]?=some (some v):=by
        unfold iR at e2
        rwa [List.getElem?_append_left (by simp;exact hlt)] at e2
      rw [List.getElem?_map,List.getElem?_eq_getElem hlt] at e1' e2'
      have ex:(cp[i]).2=x:=by simpa using e1'
      have ev:(σ[(cp[i]).1]?).join=some v:=by simpa using e2'
      have ev':σ[(cp[i]).1]?=some (some v):=by
        cases q:σ[(cp[i]).1]? with
        | none=>rw [q] at ev;cases ev
        | some z=>rw [q] at ev;simp only [Option.join_some] at ev;rw [ev]
      have hN:=hcp cp[i] (List.getElem_mem hlt)
      rw [←hN0] at hN
      obtain⟨hcl,hcf⟩:=hcq cp[i] (List.getElem_mem hlt)
      rw [ex] at hN hcl hcf
      obtain⟨m,hn,hl⟩:=I3.loc
      obtain⟨u,r,l⟩:=hl _ x v hN ev' (.inr (.inl (by rw [hsc];exact hcl)))
      refine⟨u,r,.inr ?_⟩
      rcases l with ⟨k1,_⟩ | ⟨k1,c,hcc,o,ho,hd⟩
      · rw [hkind,hcl] at k1;cases k1
      · have e3':(relabel scope X.env).names.lookup x=some .local∨(relabel scope X.env).names.lookup x=some .cell∨(relabel scope X.env).names.lookup x=some .free:=e3
        have nl:(relabel scope X.env).names.lookup x=some .cell∨(relabel scope X.env).names.lookup x=some .free:=by
          rcases e3' with z | z | z
          · exact absurd z (fF hcf)
          · exact .inl z
          · exact .inr z
        obtain⟨c',hc'⟩:=clH x (dW hcell nl)
        have:=clS x c' hc'
        rw [hcc] at this;cases this
        exact⟨nl,c,hc',o,old c o ho,hd⟩
    · obtain⟨v,o,ho,hd⟩:=I3.cell x c (clS x c e)
      exact⟨v,o,old c o ho,hd⟩
  have hst4:tn 0 h₁:=T.keep _ _ _ hst3 fun b _ o e=>old b o e
  have loop:codeAny (model X.prog X.w) X.A (.compLoop (.ListComp elt [⟨tg,iter,ifs,0⟩] scope pos) 0 (.ref it) (.ref D) (compEnvC scope (ji X.env scope.names []) C X.env))
      (compPost (model X.prog X.w) X.A X.xe (some (assign (.Name nm posn) X.env)) (fun _ s'=>wpAny (model X.prog X.w) X.A (pure ()) (fun _ s''=>wpAny (model X.prog X.w) X.A (pure Flow.next) (SP X pins D0) X.xe s'') X.xe s') (.ref D) C) {s₃ with heap:=h₁,toks:=s₃.toks+([]:List (Str × Value)).length}:=by
    refine lE (fun n s'=>∃i σ' H',aE (aP X scope cp tgN C s₃ (bi H2 D (.lst [])) fp) [] σ' H' s'∧tn i s'.heap∧(∀b∈fp,H' b=none)∧W i n σ' H') ?_ (n0:=m0) ⟨0,_,_,I4,hst4,fun b hb=>(f3 b hb).1,w0⟩
    rintro n s5 ⟨i,σ5,H5,I5,st5,fr5,w5⟩
    have stat:∀{H':Hp},(∀b∈fp,H' b=none)→∀b∈fp,iB (aP X scope cp tgN C s₃ (bi H2 D (.lst [])) fp) [] H' b:=fun hn b hb=>
      ⟨hn b hb,(ok'.exf b hb).1,ok'.exfs b hb,.inl hb,(ok'.exf b hb).2,fun p hp=>by simp [aP] at hp⟩
    rcases turn i n σ5 H5 w5 with ⟨stop,qn⟩ | ⟨go,N,hN,step⟩
    · refine cA (T.done (aP X scope cp tgN C s₃ (bi H2 D (.lst [])) fp) rfl rfl rfl hc i [] s5 σ5 H5 (fun _ _=>False) I5 (stat fr5) st5 stop) fun r s6 ⟨hr,I6⟩=>?_
      subst hr
      refine⟨fun _=>?_,fun v z=>by cases z⟩
      obtain⟨m,hn,_⟩:=I6.loc
      have I7:aE X pins σ H5 s6:=by
        have key:∀h':Heap,Heap.SameBut C s6.heap h'→aE X pins σ H5 {s6 with heap:=h'}:=fun h' sb=>by
          have ub:=I6.base
          have kp:∀b u,b≠C→s6.heap.get? b=some u→h'.get? b=some u:=fun b u ne e=>sb.extBut b u ne e
          have nit:∀b u,H5 b=some u→b≠C:=fun b u e z=>by
            have:=I6.free
            rw [z] at e
            rw [show H5 C=none from this] at e;cases e
          refine I3.call' (s':={s6 with heap:=h'}) (ch:=fp) I6.os ⟨fun b o e n hb hx=>kp b o (nC b o e) (ub.keep b o e n hb hx),fun b o e n hb hx=>?_,ub.free,fun b o e hx=>?_,ub.tups,ub.frzs,ub.tbls⟩ (fun b u e=>?_) I6.bare (fun b hb=>?_)
          · obtain⟨sl,q⟩:=ub.slot b o e n hb hx
            exact⟨sl,kp b _ (nC b o e) q⟩
          · obtain⟨o',q⟩:=ub.there b o e hx
            exact⟨o',kp b _ (nC b o e) q⟩
          · refine(I6.hok b u e).stay (fun c v hc q=>kp c v ?_ q) (fun _ q=>q) fun _ _ q=>q
            rcases hc with z | z
            · rw [z];exact nit b u e
            · exact nit c _ z
          · obtain⟨f0,f1,f4,f5,f6,f7⟩:=f3 b hb
            exact⟨f5,f1,f6,f7⟩
        exact key s6.heap ⟨rfl,fun _ _=>rfl⟩
      have fC:iB X pins H5 C:=I3.fpOk (by rw [hC];exact Nat.le_refl _) I6.free
      show wpAny (model X.prog X.w) X.A (assign (.Name nm posn) X.env (.ref D)) _ X.xe s6
      refine wpAny_assign_Name (qP (v:=.ref D) I7 hNd hix (Or.inl hlc) rfl (fun s' I' hsb=>?_) (Or.inr hlc))
      obtain⟨a,sb,ha⟩:=hsb
      have nCa:C≠a:=by
        rcases ha with z | z
        · rw [z];exact fC.2.1
        · exact fun e=>fC.2.2.2.2.1 _ _ z e.symm
      obtain⟨oN,esN,epN,hoN,rN⟩:=hn
      refine⟨m,⟨oN,esN,epN,(sb.2 C nCa).trans hoN,rN⟩,fun h' sb'=>wpAny_pure (wpAny_pure ?_)⟩
      have I8:aE X pins (σ.set ix (some (.ref D))) H5 {s' with heap:=h',toks:=s'.toks}:=I'.turnedL (t':=s'.toks) (fp:=[C]) (fun b hb=>by rw [List.mem_singleton.mp hb];exact fC) fun b o nb e=>sb'.extBut b o (by simpa using nb) e
      exact⟨_,H5,I8,qn⟩
    · refine cA (T.item (aP X scope cp tgN C s₃ (bi H2 D (.lst [])) fp) rfl rfl rfl hc i [] s5 σ5 H5 (fun _ _=>False) I5 (stat fr5) st5 go) fun r s6 ⟨u,hr,h6⟩=>?_
      subst hr
      refine⟨fun z=>(by cases z),fun v z=>?_⟩
      cases z
      refine cA h6 fun _ s7 ⟨x,H7,I7,r7,y7,st7,fr7⟩=>?_
      have I7':=I7.pinned (stat fr7) (T.obj _ _ st7)
      have again:∀{σ8:L2.St} {H8:Hp} {s8:Shared},aE (aP X scope cp tgN C s₃ (bi H2 D (.lst [])) fp) ([]++mF fp s7.heap) σ8 H8 s8→N σ8 H8→∃m,m < n∧∃i σ' H',aE (aP X scope cp tgN C s₃ (bi H2 D (.lst [])) fp) [] σ' H' s8∧tn i s8.heap∧(∀b∈fp,H' b=none)∧W i m σ' H':=fun{σ8 H8 s8} I8 n8=>by
        obtain⟨m',hm,w8⟩:=hN σ8 H8 n8
        refine⟨m',hm,i+1,σ8,H8,I8.unpinned,T.keep _ _ _ st7 fun b hb o e=>(I8.pin (b,o) (List.mem_append_right _ (List.mem_append_right _ (ey hb e)))).1,fun b hb=>?_,w8⟩
        obtain⟨o,e,d⟩:=T.obj _ _ st7 b hb
        exact(I8.pin (b,o) (List.mem_append_right _ (List.mem_append_right _ (ey hb e)))).2.1
      refine cA (hg C s₃ (bi H2 D (.lst [])) fp _ s7 σ5 H7 x u _ I7' r7 (step x H7 y7)) fun _ s8 ⟨σ8,H8,I8,q8⟩=>?_
      refine cA (ht C s₃ (bi H2 D (.lst [])) fp _ s8 σ8 H8 _ I8 q8) fun ok s9 ⟨H9,I9,q9⟩=>?_
      cases ok with
      | false=>
        rw [if_neg Bool.false_ne_true] at q9 ⊢
        exact again I9 q9
      | true=>
        rw [if_pos rfl] at q9 ⊢
        refine cA (he C s₃ (bi H2 D (.lst [])) fp _ s9 σ8 H9 _ I9 q9) fun v s10 ⟨xv,H10,I10,r10,ys,hl,hz,n10⟩=>?_
        refine cA (j6 _ s10 σ8 H10 (.ref D) [xv] (.ref D) [v] (fun _ H=>N σ8 H) I10 rfl (.cons r10 .nil) ⟨D,ys,xv,rfl,rfl,hl,hz,n10⟩) fun _ s11 ⟨_,H11,I11,_,q11⟩=>?_
        exact again I11 q11
  exact codeAny_compStart_list loop (T.self X.A 0 _ _ _ hst4 loop)
end L2
namespace L2
open PySem PySem.Spec PyProof.Rows
mutual
def DA(K:PySem.W.Frag)(F:Hp):PyData→V→Prop
  | .none,v=>v=.non
  | .bool b,v=>v=.bl b
  | .int i,v=>v=.int i
  | .str x,v=>v=.str x
  | .tuple ds,v=>∃a xs,v=.ref a∧bX K F a xs∧aL K F ds xs
  | .list ds,v=>∃a xs,v=.ref a∧d_ K F a xs∧aL K F ds xs
  | .dict kvs,v=>∃(a:Addr) (m:List (Int × Int)),v=.ref a∧F a=some (.dK (m.map fun p=>(Sum.inl p.1,V.int p.2)))∧kvs=m.map fun p=>(PyData.int p.1,PyData.int p.2)
def aL(K:PySem.W.Frag)(F:Hp):List PyData→List V→Prop
  | [],xs=>xs=[]
  | d::ds,xs=>∃x r,xs=x::r∧DA K F d x∧aL K F ds r
end
mutual
theorem DA.mono{K:PySem.W.Frag}{F F':Hp}(h:av F F'):∀{d:PyData} {v:V},DA K F d v→DA K F' d v
  | .none,_,q=>by simp only [DA] at q ⊢;exact q
  | .bool b,_,q=>by simp only [DA] at q ⊢;exact q
  | .int i,_,q=>by simp only [DA] at q ⊢;exact q
  | .str x,_,q=>by simp only [DA] at q ⊢;exact q
  | .tuple ds,_,q=>by
    simp only [DA] at q ⊢
    obtain⟨a,xs,e,s,r⟩:=q
    exact⟨a,xs,e,h.tup s,aL.mono h r⟩
  | .list ds,_,q=>by
    simp only [DA] at q ⊢
    obtain⟨a,xs,e,s,r⟩:=q
    exact⟨a,xs,e,h.seq s,aL.mono h r⟩
  | .dict _,_,q=>by
    simp only [DA] at q ⊢
    obtain⟨a,m,e,s,k⟩:=q
    exact⟨a,m,e,h _ _ s,k⟩
theorem aL.mono{K:PySem.W.Frag}{F F':Hp}(h:av F F'):∀{ds:List PyData} {xs:List V},aL K F ds xs→aL K F' ds xs
  | [],_,q=>by simp only [aL] at q ⊢;exact q
  | d::ds,_,q=>by
    simp only [aL] at q ⊢
    obtain⟨x,r,e,a,b⟩:=q
    exact⟨x,r,e,DA.mono h a,aL.mono h b⟩
end
section
variable{K:PySem.W.Frag}{F:Hp}
theorem aL.len:∀{ds:List PyData} {xs:List V},aL K F ds xs→ds.length=xs.length
  | [],_,q=>by simp only [aL] at q;subst q;rfl
  | d::ds,_,q=>by
    simp only [aL] at q
    obtain⟨x,r,e,a,b⟩:=q
    subst e
    simp [aL.len b]
theorem aL.get:∀{ds:List PyData} {xs:List V} {i:Nat} {d:PyData},aL K F ds xs→ds[i]?=some d→∃v,xs[i]?=some v∧DA K F d v
  | [],_,_,_,_,h=>by simp at h
  | d::ds,_,i,d',q,h=>by
    simp only [aL] at q
    obtain⟨x,r,e,a,b⟩:=q
    subst e
    cases i with
    | zero=>simp at h;subst h;exact⟨x,rfl,a⟩
    | succ i=>
      obtain⟨v,h1,h2⟩:=aL.get (i:=i) b (by simpa using h)
      exact⟨v,by simpa using h1,h2⟩
theorem aL.append:∀{ds es:List PyData} {xs ys:List V},aL K F ds xs→aL K F es ys→aL K F (ds++es) (xs++ys)
  | [],_,_,_,q,s=>by simp only [aL] at q;subst q;simpa using s
  | d::ds,es,_,ys,q,s=>by
    simp only [aL] at q
    obtain⟨x,r,e,a,b⟩:=q
    subst e
    simp only [List.cons_append,aL]
    exact⟨x,_,rfl,a,aL.append b s⟩
theorem aL.one{d:PyData}{v:V}(h:DA K F d v):aL K F [d] [v]:=by simp only [aL];exact⟨_,_,rfl,h,rfl⟩
theorem aL.nil:aL K F [] []:=by simp only [aL]
theorem aL.cons{d:PyData}{v:V}{ds:List PyData}{vs:List V}(h:DA K F d v)(r:aL K F ds vs):aL K F (d::ds) (v::vs):=by simp only [aL];exact⟨_,_,rfl,h,r⟩
theorem aL.drop:∀{ds:List PyData} {xs:List V} (n:Nat),aL K F ds xs→aL K F (ds.drop n) (xs.drop n)
  | _,_,0,q=>q
  | [],_,n+1,q=>by simp only [aL] at q;subst q;exact aL.nil
  | d::ds,_,n+1,q=>by
    simp only [aL] at q
    obtain⟨x,r,e,a,b⟩:=q
    subst e
    simpa using aL.drop n b
theorem aL.take:∀{ds:List PyData} {xs:List V} (n:Nat),aL K F ds xs→aL K F (ds.take n) (xs.take n)
  | _,_,0,q=>by simpa using aL.nil
  | [],_,n+1,q=>by simp only [aL] at q;subst q;exact aL.nil
  | d::ds,_,n+1,q=>by
    simp only [aL] at q
    obtain⟨x,r,e,a,b⟩:=q
    subst e
    simpa using aL.cons a (aL.take n b)
theorem aL.set{d:PyData}{v:V}(h:DA K F d v):∀{ds:List PyData} {xs:List V} (n:Nat),aL K F ds xs→aL K F (ds.set n d) (xs.set n v)
  | [],_,_,q=>by simp only [aL] at q;subst q;exact aL.nil
  | e::ds,_,n,q=>by
    simp only [aL] at q
    obtain⟨x,r,e,a,b⟩:=q
    subst e
    cases n with
    | zero=>exact aL.cons h b
    | succ n=>exact aL.cons a (aL.set h n b)
theorem aL.erase:∀{ds:List PyData} {xs:List V} (n:Nat),aL K F ds xs→aL K F (ds.eraseIdx n) (xs.eraseIdx n)
  | [],_,_,q=>by simp only [aL] at q;subst q;exact aL.nil
  | e::ds,_,n,q=>by
    simp only [aL] at q
    obtain⟨x,r,e,a,b⟩:=q
    subst e
    cases n with
    | zero=>exact b
    | succ n=>exact aL.cons a (aL.erase n b)
theorem aL.ints:∀{ns:List Int} {xs:List V},aL K F (ns.map .int) xs↔ xs=ns.map V.int
  | [],xs=>by simp [aL]
  | n::ns,xs=>by
    simp only [List.map_cons,aL,DA]
    constructor
    · rintro⟨x,r,e,rfl,q⟩;rw [e,aL.ints.mp q]
    · rintro rfl;exact⟨_,_,rfl,rfl,aL.ints.mpr rfl⟩
theorem cc{i:Int}{v:V}:DA K F (.int i) v↔ v=.int i:=by simp only [DA]
theorem gZ{b:Bool}{v:V}:DA K F (.bool b) v↔ v=.bl b:=by simp only [DA]
theorem nW{v:V}:DA K F .none v↔ v=.non:=by simp only [DA]
theorem Di{x:Str}{v:V}:DA K F (.str x) v↔ v=.str x:=by simp only [DA]
theorem ej{ds:List PyData}{v:V}:DA K F (.tuple ds) v↔ ∃a xs,v=.ref a∧bX K F a xs∧aL K F ds xs:=by simp only [DA]
theorem cP{ds:List PyData}{v:V}:DA K F (.list ds) v↔ ∃a xs,v=.ref a∧d_ K F a xs∧aL K F ds xs:=by simp only [DA]
end
inductive Sv where
  | d (x:PyData)
  | l (xs:List PyData)
  /-- a list of lists that nobody else holds -/
  | n (xss:List (List PyData))
abbrev En:=List (Option Sv)
inductive Rv where
  | d (x:PyData)
  | l (xs:List PyData)
  | s (i:Nat)
def Fp(σ:L2.St)(e:En)(H:Hp)(i:Nat)(a:Addr):Prop:=(∃xs:List PyData,e[i]?=some (some (Sv.l xs))∧σ[i]?=some (some (.ref a)))∨
  ∃(xss:List (List PyData)) (l:Addr) (bs:List Addr),e[i]?=some (some (Sv.n xss))∧σ[i]?=some (some (.ref l))∧H l=some (.lst (bs.map V.ref))∧(a=l∨a∈bs)
def dn(σ:L2.St)(e:En)(H:Hp)(a:Addr):Prop:=∃i,Fp σ e H i a
structure a8 (K:PySem.W.Frag) (F H:Hp) (σ:L2.St) (e:En):Prop where
  sm:av F H
  len:σ.length=e.length
  dat:∀(i:Nat) (x:PyData),e[i]?=some (some (.d x))→∃v,σ[i]?=some (some v)∧DA K F x v
  own:∀(i:Nat) (xs:List PyData),e[i]?=some (some (.l xs))→∃l vs,σ[i]?=some (some (.ref l))∧F l=none∧H l=some (.lst vs)∧aL K F xs vs
  nst:∀(i:Nat) (xss:List (List PyData)),e[i]?=some (some (.n xss))→∃(l:Addr) (bs:List Addr),σ[i]?=some (some (.ref l))∧F l=none∧H l=some (.lst (bs.map V.ref))∧bs.length=xss.length∧bs.Nodup∧l∉bs∧
    ∀(k:Nat) (b:Addr) (ys:List PyData),bs[k]?=some b→xss[k]?=some ys→F b=none∧∃us,H b=some (.lst us)∧aL K F ys us
  fp:∀(i j:Nat) (a:Addr),Fp σ e H i a→Fp σ e H j a→i=j
theorem a8.inj{K:PySem.W.Frag}{F H:Hp}{σ:L2.St}{e:En}(R:a8 K F H σ e)(i j:Nat)(xs ys:List PyData)(l:Addr)(h1:e[i]?=some (some (.l xs)))(h2:e[j]?=some (some (.l ys)))(h3:σ[i]?=some (some (.ref l)))(h4:σ[j]?=some (some (.ref l))):i=j:=R.fp i j l (.inl ⟨xs,h1,h3⟩) (.inl ⟨ys,h2,h4⟩)
theorem a8.fpAt{K:PySem.W.Frag}{F H:Hp}{σ:L2.St}{e:En}(R:a8 K F H σ e){i:Nat}{a:Addr}(h:Fp σ e H i a):F a=none∧∃vs,H a=some (.lst vs):=by
  rcases h with ⟨xs,h1,h2⟩ | ⟨xss,l,bs,h1,h2,h3,h4⟩
  · obtain⟨l,vs,g1,g2,g3,_⟩:=R.own i xs h1
    rw [h2] at g1;cases g1
    exact⟨g2,vs,g3⟩
  · obtain⟨l',bs',g1,g2,g3,g4,g5,g6,g7⟩:=R.nst i xss h1
    rw [h2] at g1;cases g1
    rw [h3] at g3
    have e1:bs=bs':=by
      have:=HO.lst.inj (Option.some.inj g3)
      exact List.map_inj_right (fun _ _ z=>V.ref.inj z) |>.mp this
    subst e1
    rcases h4 with rfl | h4
    · exact⟨g2,_,h3⟩
    · obtain⟨k,hk⟩:=List.getElem?_of_mem h4
      have hk2:k < xss.length:=by rw [←g4];exact(List.getElem?_eq_some_iff.mp hk).1
      obtain⟨c1,us,c2,_⟩:=g7 k a xss[k] hk (List.getElem?_eq_getElem hk2)
      exact⟨c1,us,c2⟩
structure fB (σ:L2.St) (F H:Hp) (e:En) (F' H':Hp) (e':En):Prop where
  sf:av F F'
  dom:∀a,H' a=none→H a=none
  fr:∀a vs,F a=none→H a=some (.lst vs)→¬dn σ e H a→F' a=none
  lst:∀a vs,H a=some (.lst vs)→∃vs',H' a=some (.lst vs')
  tmp:∀a o,H a=some o→¬dn σ e H a→H' a=some o
  shp:∀i:Nat,(∃xs,e'[i]?=some (some (.l xs)))↔ (∃xs,e[i]?=some (some (.l xs)))
  ow:∀a,dn σ e' H' a→dn σ e H a∨H a=none
theorem fB.refl(σ:L2.St)(F H:Hp)(e:En):fB σ F H e F H e:=⟨av.refl _,fun _ h=>h,fun _ _ h _ _=>h,fun _ vs h=>⟨vs,h⟩,fun _ _ h _=>h,fun _=>Iff.rfl,fun _ h=>.inl h⟩
theorem fB.trans{σ:L2.St}{F H F1 H1 F2 H2:Hp}{e e1 e2:En}(x:fB σ F H e F1 H1 e1)(y:fB σ F1 H1 e1 F2 H2 e2):fB σ F H e F2 H2 e2:=
  ⟨x.sf.trans y.sf,fun a h=>x.dom a (y.dom a h),fun a vs h n no=>let ⟨vs',q⟩:=x.lst a vs n;y.fr a vs' (x.fr a vs h n no) q (fun z=>(x.ow a z).elim no fun z=>by rw [n] at z;cases z),fun a vs h=>let ⟨vs',q⟩:=x.lst a vs h;y.lst a vs' q,
    fun a o h n=>y.tmp a o (x.tmp a o h n) (fun z=>(x.ow a z).elim n fun z=>by rw [h] at z;cases z),fun i=>(y.shp i).trans (x.shp i),fun a h=>(y.ow a h).elim (x.ow a) fun z=>.inr (x.dom a z)⟩
def cz(K:PySem.W.Frag)(σ:L2.St)(H0 F H:Hp)(e:En):Rv→V→Prop
  | .d x,v=>DA K F x v
  | .l xs,v=>∃l vs,v=.ref l∧H0 l=none∧F l=none∧H l=some (.lst vs)∧aL K F xs vs∧¬dn σ e H l
  | .s i,v=>σ[i]?=some (some v)∧∃xs,e[i]?=some (some (.l xs))
section
variable{K:PySem.W.Frag}{σ:L2.St}{H0 F H F' H':Hp}{e e':En}{r:Rv}{v:V}
theorem cz.ext(h:cz K σ H0 F H e r v)(x:fB σ F H e F' H' e'):cz K σ H0 F' H' e' r v:=by
  cases r with
  | d y=>exact DA.mono x.sf h
  | l xs=>
    obtain⟨l,vs,e1,h1,h2,h3,h4,h5⟩:=h
    exact⟨l,vs,e1,h1,x.fr l _ h2 h3 h5,x.tmp l _ h3 h5,aL.mono x.sf h4,fun z=>(x.ow l z).elim h5 fun z=>by rw [h3] at z;cases z⟩
  | s i=>exact⟨h.1,(x.shp i).mpr h.2⟩
theorem cz.weak{H1:Hp}(h:cz K σ H1 F H e r v)(d:∀a,H1 a=none→H0 a=none):cz K σ H0 F H e r v:=by
  cases r with
  | d y=>exact h
  | l xs=>
    obtain⟨l,vs,e1,h1,r⟩:=h
    exact⟨l,vs,e1,d l h1,r⟩
  | s i=>exact h
theorem a8.ownH(R:a8 K F H σ e)(a:Addr)(h:dn σ e H a):H a≠none:=by
  obtain⟨i,h⟩:=h
  obtain⟨_,vs,h2⟩:=R.fpAt h
  rw [h2];simp
theorem a8.freeF(R:a8 K F H σ e){p:Addr}(hp:H p=none):F p=none:=R.sm.free hp
theorem A_(R:a8 K F H σ e)(h:∀l bs,H l=some (.lst bs)→dn σ e H l→H' l=some (.lst bs)){i:Nat}{a:Addr}:Fp σ e H' i a↔ Fp σ e H i a:=by
  have key:∀xss l,e[i]?=some (some (.n xss))→σ[i]?=some (some (.ref l))→H' l=H l:=fun xss l h1 h2=>by
    obtain⟨l',bs,g1,g2,g3,_⟩:=R.nst i xss h1
    rw [h2] at g1;cases g1
    rw [g3]
    exact h l _ g3 ⟨i,.inr ⟨xss,l,bs,h1,h2,g3,.inl rfl⟩⟩
  constructor
  · rintro(h1 | ⟨xss,l,bs,h1,h2,h3,h4⟩)
    · exact .inl h1
    · exact .inr ⟨xss,l,bs,h1,h2,by rw [←key xss l h1 h2];exact h3,h4⟩
  · rintro(h1 | ⟨xss,l,bs,h1,h2,h3,h4⟩)
    · exact .inl h1
    · exact .inr ⟨xss,l,bs,h1,h2,by rw [key xss l h1 h2];exact h3,h4⟩
theorem a8.keep(R:a8 K F H σ e)(sF:av F F')(sm:av F' H')(hf:∀a,dn σ e H a→F' a=none)(hh:∀a o,dn σ e H a→H a=some o→H' a=some o):a8 K F' H' σ e∧∀a,dn σ e H' a↔ dn σ e H a:=by
  have fs:∀{i a},Fp σ e H' i a↔ Fp σ e H i a:=fun{i a}=>A_ R fun l bs h1 h2=>hh l _ h2 h1
  refine⟨⟨sm,R.len,fun i x h=>let ⟨v,h1,h2⟩:=R.dat i x h;⟨v,h1,DA.mono sF h2⟩,fun i xs h=>?_,fun i xss h=>?_,fun i j a h1 h2=>R.fp i j a (fs.mp h1) (fs.mp h2)⟩,fun a=>⟨fun⟨i,h⟩=>⟨i,fs.mp h⟩,fun⟨i,h⟩=>⟨i,fs.mpr h⟩⟩⟩
  · obtain⟨l,vs,h1,h2,h3,h4⟩:=R.own i xs h
    have o:dn σ e H l:=⟨i,.inl ⟨xs,h,h1⟩⟩
    exact⟨l,vs,h1,hf l o,hh l _ o h3,h4.mono sF⟩
  · obtain⟨l,bs,h1,h2,h3,h4,h5,h6,h7⟩:=R.nst i xss h
    have o:dn σ e H l:=⟨i,.inr ⟨xss,l,bs,h,h1,h3,.inl rfl⟩⟩
    refine⟨l,bs,h1,hf l o,hh l _ o h3,h4,h5,h6,fun k b ys g1 g2=>?_⟩
    obtain⟨c1,us,c2,c3⟩:=h7 k b ys g1 g2
    have ob:dn σ e H b:=⟨i,.inr ⟨xss,l,bs,h,h1,h3,.inr (List.mem_of_getElem? g1)⟩⟩
    exact⟨hf b ob,us,hh b _ ob c2,c3.mono sF⟩
theorem a8.same(R:a8 K F H σ e)(s:av H H'):a8 K F H' σ e∧fB σ F H e F H' e:=by
  obtain⟨R',o'⟩:=R.keep (av.refl F) (R.sm.trans s) (fun a ⟨i,h⟩=>(R.fpAt h).1) fun a o _ h=>s a o h
  exact⟨R',⟨av.refl _,fun a h=>s.free h,fun _ _ h _ _=>h,fun a vs h=>⟨vs,s _ _ h⟩,fun a o h _=>s a o h,fun _=>Iff.rfl,fun a h=>.inl ((o' a).mp h)⟩⟩
theorem a8.freeze(R:a8 K F H σ e){p:Addr}{o:HO}(hF:F p=none)(hp:H p=some o)(hn:¬dn σ e H p):a8 K (bi F p o) H σ e∧av F (bi F p o):=by
  have sF:av F (bi F p o):=av.new hF
  refine⟨(R.keep sF (fun b u q=>?_) (fun a ha=>?_) fun _ _ _ h=>h).1,sF⟩
  · by_cases z:b=p
    · subst z;rw [aA] at q;cases q;exact hp
    · rw [au z] at q;exact R.sm _ _ q
  · obtain⟨i,hi⟩:=ha
    have z:a≠p:=fun z=>hn ⟨i,by rw [←z];exact hi⟩
    rw [au z];exact(R.fpAt hi).1
theorem a8.notOwn(R:a8 K F H σ e){p:Addr}{o:HO}(hp:H p=some o)(hl:∀vs,o≠.lst vs):¬dn σ e H p:=fun⟨i,h⟩=>by
  obtain⟨_,vs,g⟩:=R.fpAt h
  rw [hp] at g;cases g
  exact hl _ rfl
theorem a8.newT(R:a8 K F H σ e){p:Addr}{vs:List V}(hp:H p=none):a8 K (bi F p (.tup vs)) (bi H p (.tup vs)) σ e∧fB σ F H e (bi F p (.tup vs)) (bi H p (.tup vs)) e:=by
  have hF:=R.freeF hp
  obtain⟨R1,X1⟩:=R.same (av.new hp (o:=.tup vs))
  obtain⟨R2,s2⟩:=R1.freeze (p:=p) hF aA (R1.notOwn aA (fun _ z=>nomatch z))
  refine⟨R2,⟨s2,X1.dom,fun a ws h n _=>?_,X1.lst,X1.tmp,X1.shp,X1.ow⟩⟩
  have z:a≠p:=fun z=>by rw [z,hp] at n;cases n
  rw [au z];exact h
theorem a8.sameOwn(R:a8 K F H σ e)(s:av H H')(a:Addr):dn σ e H' a↔ dn σ e H a:=(R.keep (av.refl F) (R.sm.trans s) (fun a ⟨i,h⟩=>(R.fpAt h).1) fun a o _ h=>s a o h).2 a
theorem a8.newL(R:a8 K F H σ e){p:Addr}{vs:List V}(hp:H p=none):a8 K F (bi H p (.lst vs)) σ e∧fB σ F H e F (bi H p (.lst vs)) e∧F p=none∧¬dn σ e (bi H p (.lst vs)) p:=
  ⟨(R.same (av.new hp)).1,(R.same (av.new hp)).2,R.freeF hp,fun z=>R.ownH p ((R.sameOwn (av.new hp) p).mp z) hp⟩
theorem a8.growT(R:a8 K F H σ e){p:Addr}{xs:List V}(s:av H H')(hp:bX K H' p xs):∃F',a8 K F' H' σ e∧fB σ F H e F' H' e∧bX K F' p xs:=by
  obtain⟨R1,X1⟩:=R.same s
  rcases hp with hp | hp
  · have key:∀o,H' p=some o→(∀vs,o≠.lst vs)→(∀G:Hp,G p=some o→Rd G p (.tup xs))→∃F',a8 K F' H' σ e∧fB σ F H e F' H' e∧bX K F' p xs:=by
      intro o ho hl hr
      cases q:F p with
      | some u=>
        have:=R1.sm _ _ q
        rw [ho] at this;cases this
        exact⟨F,R1,X1,.inl (hr F q)⟩
      | none=>
        obtain⟨R2,s2⟩:=R1.freeze q ho (R1.notOwn ho hl)
        refine⟨_,R2,⟨s2,X1.dom,fun a ws h n _=>?_,X1.lst,X1.tmp,X1.shp,X1.ow⟩,.inl (hr _ aA)⟩
        have z:a≠p:=fun z=>by rw [z] at n;rw [s _ _ n] at ho;cases ho;exact hl _ rfl
        rw [au z];exact h
    rcases hp with hp | ⟨ob,hp⟩
    · exact key _ hp (fun _ z=>nomatch z) fun G g=>.inl g
    · exact key _ hp (fun _ z=>nomatch z) fun G g=>.inr ⟨ob,g⟩
  · exact⟨F,R1,X1,.inr hp⟩
theorem cz.frozen(R:a8 K F H σ e){xs:List PyData}(h:cz K σ H0 F H e (.l xs) v):∃F',a8 K F' H σ e∧av F F'∧DA K F' (.list xs) v∧(∀a,F a=none→H0 a≠none→F' a=none):=by
  obtain⟨l,vs,rfl,h1,h2,h3,h4,h5⟩:=h
  obtain⟨R2,s2⟩:=R.freeze h2 h3 h5
  refine⟨_,R2,s2,?_,fun a ha hn=>?_⟩
  · rw [cP]
    exact⟨l,vs,rfl,.inl (.inl aA),aL.mono s2 h4⟩
  · have z:a≠l:=fun z=>hn (by rw [z];exact h1)
    rw [au z];exact ha
def gW(e:En):Rv→Option (Bool × List PyData)
  | .d (.tuple xs)=>some (false,xs)
  | .d (.list xs)=>some (true,xs)
  | .l xs=>some (true,xs)
  | .s i=>match e[i]? with
    | some (some (.l xs))=>some (true,xs)
    | _=>none
  | _=>none
theorem fU(R:a8 K F H σ e)(h:cz K σ H0 F H e r v){b:Bool}{xs:List PyData}(q:gW e r=some (b,xs)):
    ∃p vs,v=.ref p∧aL K F xs vs∧(if b=true then d_ K H p vs else bX K H p vs):=by
  cases r with
  | d x=>
    cases x with
    | tuple ds=>
      cases q
      obtain⟨a,ys,e1,e2,e3⟩:=ej.mp h
      exact⟨a,ys,e1,e3,R.sm.tup e2⟩
    | list ds=>
      cases q
      obtain⟨a,ys,e1,e2,e3⟩:=cP.mp h
      exact⟨a,ys,e1,e3,R.sm.seq e2⟩
    | _=>cases q
  | l ys=>
    cases q
    obtain⟨l,vs,e1,h1,h2,h3,h4,_⟩:=h
    exact⟨l,vs,e1,h4,.inl (.inl h3)⟩
  | s i=>
    obtain⟨h1,ys,h2⟩:=h
    simp only [gW,h2] at q
    cases q
    obtain⟨l,vs,e1,e2,e3,e4⟩:=R.own i _ h2
    rw [h1] at e1;cases e1
    exact⟨l,vs,rfl,e4,.inl (.inl e3)⟩
end
end L2
namespace L2
open PySem PySem.Spec PyProof.Rows
abbrev FE:=En→Option (Rv × En)
abbrev FT:=En→Option (Bool × En)
abbrev FA:=En→Option (List Rv × En)
def cV(K:PySem.W.Frag)(σ:L2.St)(H0 F H:Hp)(e:En):List Rv→List V→Prop
  | [],vs=>vs=[]
  | r::rs,vs=>∃v ws,vs=v::ws∧cz K σ H0 F H e r v∧cV K σ H0 F H e rs ws
def fE(K:PySem.W.Frag)(f:FE):TE:=fun σ H Q=>∃F e r e',a8 K F H σ e∧f e=some (r,e')∧∀F' H' v,fB σ F H e F' H' e'→a8 K F' H' σ e'→cz K σ H F' H' e' r v→Q v H'
def fT(K:PySem.W.Frag)(f:FT):TT:=fun σ H Q=>∃F e b e',a8 K F H σ e∧f e=some (b,e')∧∀F' H',fB σ F H e F' H' e'→a8 K F' H' σ e'→Q b H'
def fA(K:PySem.W.Frag)(f:FA):TA:=fun σ H Q=>∃F e rs e',a8 K F H σ e∧f e=some (rs,e')∧∀F' H' vs,fB σ F H e F' H' e'→a8 K F' H' σ e'→cV K σ H F' H' e' rs vs→Q vs H'
theorem PE.mono{X:Cx}{e:Expr}{t t':TE}(h:PE X e t)(m:∀σ H Q,t' σ H Q→t σ H Q):PE X e t':=fun pins s σ H Q I q=>h pins s σ H Q I (m σ H Q q)
theorem PT.mono{X:Cx}{e:Expr}{t t':TT}(h:PT X e t)(m:∀σ H Q,t' σ H Q→t σ H Q):PT X e t':=fun pins s σ H Q I q=>h pins s σ H Q I (m σ H Q q)
theorem PW.mono{X:Cx}{e:Expr}{t t':TT}(h:PW X e t)(m:∀σ H Q,t' σ H Q→t σ H Q):PW X e t':=fun wh pins s σ H Q I q=>h wh pins s σ H Q I (m σ H Q q)
theorem PA.mono{X:Cx}{es:List Expr}{t t':TA}(h:PA X es t)(m:∀σ H Q,t' σ H Q→t σ H Q):PA X es t':=fun pos pins s σ H Q I q=>h pos pins s σ H Q I (m σ H Q q)
section
variable{K:PySem.W.Frag}{σ:L2.St}{H0 F H F' H':Hp}{e e':En}
theorem cV.weak{H1:Hp}(d:∀a,H1 a=none→H0 a=none):∀{rs:List Rv} {vs:List V},cV K σ H1 F H e rs vs→cV K σ H0 F H e rs vs
  | [],_,h=>h
  | r::rs,_,h=>by
    obtain⟨v,ws,rfl,h1,h2⟩:=h
    exact⟨v,ws,rfl,h1.weak d,cV.weak d h2⟩
theorem fB.frz{F'':Hp}(x:fB σ F H e F' H' e')(s:av F' F'')(h:∀a,F' a=none→H a≠none→F'' a=none):fB σ F H e F'' H' e':=
  ⟨x.sf.trans s,x.dom,fun a vs h1 h2 h3=>h a (x.fr a vs h1 h2 h3) (by rw [h2];simp),x.lst,x.tmp,x.shp,x.ow⟩
def gp:List Rv→Option (List PyData)
  | []=>some []
  | .d x::rs=>(gp rs).map (x::·)
  | .l xs::rs=>(gp rs).map (.list xs::·)
  | .s _::_=>none
theorem cV.frozen:∀{rs:List Rv} {vs:List V} {ds:List PyData} {F:Hp},a8 K F H σ e→cV K σ H0 F H e rs vs→gp rs=some ds→
    ∃F',a8 K F' H σ e∧av F F'∧aL K F' ds vs∧(∀a,F a=none→H0 a≠none→F' a=none)
  | [],_,_,F,R,h,q=>by
    cases q
    have h':_=[]:=h
    subst h'
    exact⟨F,R,av.refl _,aL.nil,fun _ h _=>h⟩
  | .d x::rs,_,ds,F,R,h,q=>by
    obtain⟨v,ws,rfl,h1,h2⟩:=h
    obtain⟨ds',q1,rfl⟩:=Option.map_eq_some_iff.mp q
    obtain⟨F',R',s',d',f'⟩:=cV.frozen R h2 q1
    exact⟨F',R',s',.cons (DA.mono s' h1) d',f'⟩
  | .l xs::rs,_,ds,F,R,h,q=>by
    obtain⟨v,ws,rfl,h1,h2⟩:=h
    obtain⟨ds',q1,rfl⟩:=Option.map_eq_some_iff.mp q
    obtain⟨F',R',s',d',f'⟩:=cV.frozen R h2 q1
    obtain⟨l,us,rfl,g1,g2,g3,g4,g5⟩:=h1
    cases hl:F' l with
    | none=>
      have h1':cz K σ H0 F' H e (.l xs) (.ref l):=⟨l,us,rfl,g1,hl,g3,aL.mono s' g4,g5⟩
      obtain⟨F2,R2,s2,d2,f2⟩:=h1'.frozen R'
      exact⟨F2,R2,s'.trans s2,.cons d2 (aL.mono s2 d'),fun a ha hn=>f2 a (f' a ha hn) hn⟩
    | some o=>
      have:=R'.sm _ _ hl
      rw [g3] at this;cases this
      exact⟨F',R',s',.cons (cP.mpr ⟨l,us,rfl,.inl (.inl hl),aL.mono s' g4⟩) d',f'⟩
end
section
variable{X:Cx}{K:PySem.W.Frag}{a b c:Expr}{fa fb:FE}{ft fu:FT}{pos:Pos}{es:List Expr}{fs:FA}
def ac(i:Nat):FE:=fun e=>match e[i]? with
  | some (some (.d x))=>some (.d x,e)
  | some (some (.l _))=>some (.s i,e)
  | _=>none
def vC(x:PyData):FE:=fun e=>some (.d x,e)
theorem Ci{i:Nat}{σ:L2.St}{H:Hp}{Q:VK}(h:fE K (ac i) σ H Q):F7 i σ H Q:=by
  obtain⟨F,e,r,e',R,hf,q⟩:=h
  unfold ac at hf
  match h1:e[i]?,hf with
  | some (some (.d x)),hf=>
    cases hf
    obtain⟨v,h2,h3⟩:=R.dat i x h1
    exact⟨v,h2,q F H v (fB.refl _ _ _ _) R h3⟩
  | some (some (.n _)),hf=>cases hf
  | some (some (.l xs)),hf=>
    cases hf
    obtain⟨l,vs,h2,h3⟩:=R.own i xs h1
    exact⟨_,h2,q F H _ (fB.refl _ _ _ _) R ⟨h2,xs,h1⟩⟩
  | some none,hf=>cases hf
  | none,hf=>cases hf
theorem qv(i:Nat){x:Str}{pos:Pos}(hN:X.N[i]?=some x)(hv:AI X.env.scope x)(hd:(x==("__debug__":Str))=false)(hcd:(x==("__classdict__":Str))=false):PE X (.Name x pos) (fE K (ac i)):=(mE hN hv hd hcd).mono fun _ _ _ h=>Ci h
theorem Ax{x:PyData}{v:V}{σ:L2.St}{H:Hp}{Q:VK}(hx:∀F,DA K F x v)(h:fE K (vC x) σ H Q):tC v σ H Q:=by
  obtain⟨F,e,r,e',R,hf,q⟩:=h
  cases hf
  exact q F H v (fB.refl _ _ _ _) R (hx F)
theorem ae{i j pos}:PE X (.Constant (.int i) j pos) (fE K (vC (.int i))):=zu.mono fun _ _ _ h=>Ax (fun _=>cc.mpr rfl) h
theorem jL{b j pos}:PE X (.Constant (.bool b) j pos) (fE K (vC (.bool b))):=Fq.mono fun _ _ _ h=>Ax (fun _=>gZ.mpr rfl) h
theorem ic{x:Str}{v:V}{u:Value}{pos:Pos}{y:PyData}(hg:Gl X x)(hm:X.mg x=some u)(r:bA v u)(hy:∀F,DA K F y v)(hd:(x==("__debug__":Str))=false):PE X (.Name x pos) (fE K (vC y)):=(BH hg hm r hd).mono fun _ _ _ h=>Ax hy h
def jT(K:PySem.W.Frag)(r:R2)(g:En→Rv→Rv→Option Rv):Prop:=
  ∀(σ:L2.St) (H0 F H:Hp) (e:En) (x y z:Rv) (v u:V) (Q:VK),a8 K F H σ e→cz K σ H0 F H e x v→cz K σ H0 F H e y u→g e x y=some z→
    (∀F' H' w,fB σ F H e F' H' e→a8 K F' H' σ e→cz K σ H F' H' e z w→Q w H')→r v u H Q
def aq(g:En→Rv→Rv→Option Rv)(fa fb:FE):FE:=fun e=>(fa e).bind fun p=>(fb p.2).bind fun q=>(g q.2 p.1 q.1).map fun z=>(z,q.2)
theorem sx{r:R2}{g:En→Rv→Rv→Option Rv}(ho:jT K r g){σ:L2.St}{H:Hp}{Q:VK}(h:fE K (aq g fa fb) σ H Q):FW r (fE K fa) (fE K fb) σ H Q:=by
  obtain⟨F,e,z,e2,R,hf,q⟩:=h
  unfold aq at hf
  obtain⟨⟨x,e1⟩,h1,hf⟩:=Option.bind_eq_some_iff.mp hf
  obtain⟨⟨y,e2'⟩,h2,hf⟩:=Option.bind_eq_some_iff.mp hf
  obtain⟨z',h3,hf⟩:=Option.map_eq_some_iff.mp hf
  cases hf
  refine⟨F,e,x,e1,R,h1,fun F1 H1 v X1 R1 A1=>⟨F1,e1,y,_,R1,h2,fun F2 H2 u X2 R2 A2=>?_⟩⟩
  have X12:=X1.trans X2
  refine ho σ H F2 H2 _ x y _ v u Q R2 (A1.ext X2) (A2.weak X1.dom) h3 fun F3 H3 w X3 R3 A3=>?_
  exact q F3 H3 w (X12.trans X3) R3 (A3.weak X12.dom)
theorem qE{op:Operator}{r:R2}{g:En→Rv→Rv→Option Rv}(hr:jo X (binaryOp op) r)(ho:jT K r g)(ha:PE X a (fE K fa))(hb:PE X b (fE K fb)):PE X (.BinOp a op b pos) (fE K (aq g fa fb)):=(CT hr ha hb).mono fun _ _ _ h=>sx ho h
theorem D_{op:CmpOp}{r:R2}{g:En→Rv→Rv→Option Rv}(hr:jo X (compareOp op) r)(ho:jT K r g)(ha:PE X a (fE K fa))(hb:PE X b (fE K fb))(hm:behindInMarks op b=false):PE X (.Compare a [op] [b] pos) (fE K (aq g fa fb)):=(BF hr ha hb hm).mono fun _ _ _ h=>sx ho h
theorem Fw{r:R2}{g:En→Rv→Rv→Option Rv}(hr:AG X r)(ho:jT K r g)(ha:PE X a (fE K fa))(hb:PE X b (fE K fb))(hs:nP b):PE X (.Subscript a b pos) (fE K (aq g fa fb)):=(CS hr ha hb hs).mono fun _ _ _ h=>sx ho h
def pN(g:En→Rv→Option Rv)(fa:FE):FE:=fun e=>(fa e).bind fun p=>(g p.2 p.1).map fun z=>(z,p.2)
def Gf(K:PySem.W.Frag)(r:V→Hp→VK→Prop)(g:En→Rv→Option Rv):Prop:=
  ∀(σ:L2.St) (H0 F H:Hp) (e:En) (x z:Rv) (v:V) (Q:VK),a8 K F H σ e→cz K σ H0 F H e x v→g e x=some z→
    (∀F' H' w,fB σ F H e F' H' e→a8 K F' H' σ e→cz K σ H F' H' e z w→Q w H')→r v H Q
theorem EH{r:V→Hp→VK→Prop}{g:En→Rv→Option Rv}(ho:Gf K r g){σ:L2.St}{H:Hp}{Q:VK}(h:fE K (pN g fa) σ H Q):Hb r (fE K fa) σ H Q:=by
  obtain⟨F,e,z,e2,R,hf,q⟩:=h
  unfold pN at hf
  obtain⟨⟨x,e1⟩,h1,hf⟩:=Option.bind_eq_some_iff.mp hf
  obtain⟨z',h3,hf⟩:=Option.map_eq_some_iff.mp hf
  cases hf
  refine⟨F,e,x,_,R,h1,fun F1 H1 v X1 R1 A1=>?_⟩
  refine ho σ H F1 H1 _ x _ v Q R1 A1 h3 fun F3 H3 w X3 R3 A3=>?_
  exact q F3 H3 w (X1.trans X3) R3 (A3.weak X1.dom)
theorem Fx{op:UnaryOp}{r:V→Hp→VK→Prop}{g:En→Rv→Option Rv}(hr:Gg X (unaryOp op) r)(ho:Gf K r g)(ha:PE X a (fE K fa)):PE X (.UnaryOp op a pos) (fE K (pN g fa)):=(Fs hr ha).mono fun _ _ _ h=>EH ho h
def dt:Rv→Option Bool
  | .d (.bool b)=>some b
  | _=>none
theorem xj{σ:L2.St}{H0 F H:Hp}{e:En}{r:Rv}{v:V}{b:Bool}(h:cz K σ H0 F H e r v)(q:dt r=some b):v=.bl b:=by
  unfold dt at q
  split at q
  · cases q;exact gZ.mp (show DA K F (.bool _) v from h)
  · cases q
theorem wL{σ:L2.St}{H0 F H:Hp}{e:En}{b:Bool}:cz K σ H0 F H e (.d (.bool b)) (.bl b):=(gZ (K:=K) (F:=F)).mpr rfl
def aK(f:FE):FT:=fun e=>(f e).bind fun p=>(dt p.1).map fun b=>(b,p.2)
theorem uu{σ:L2.St}{H:Hp}{Q:Bool→Hp→Prop}(h:fT K (aK fa) σ H Q):fE K fa σ H fun x H'=>∃k,x=.bl k∧Q k H':=by
  obtain⟨F,e,b,e1,R,hf,q⟩:=h
  unfold aK at hf
  obtain⟨⟨x,e1'⟩,h1,hf⟩:=Option.bind_eq_some_iff.mp hf
  obtain⟨b',h3,hf⟩:=Option.map_eq_some_iff.mp hf
  cases hf
  exact⟨F,e,x,_,R,h1,fun F1 H1 v X1 R1 A1=>⟨_,xj A1 h3,q F1 H1 X1 R1⟩⟩
theorem Ed{op:CmpOp}{r:R2}{g:En→Rv→Rv→Option Rv}(hr:jo X (compareOp op) r)(ho:jT K r g)(ha:PE X a (fE K fa))(hb:PE X b (fE K fb))(hm:behindInMarks op b=false):PT X (.Compare a [op] [b] pos) (fT K (aK (aq g fa fb))):=
  (BW hr ha hb hm).mono fun σ H Q h=>by
    obtain⟨F,e,z,e2,R,hf,q⟩:=uu h
    exact sx ho ⟨F,e,z,e2,R,hf,q⟩
theorem o8{e:Expr}(h:PE X e (fE K fa))(he:∀whole,isTrue e X.env whole=(do let v ←whole;standAt e.pos;holding [v] (truthy v))):PT X e (fT K (aK fa)):=(D6 h he).mono fun _ _ _ h=>uu h
def kj(f g:FT):FT:=fun e=>(f e).bind fun p=>if p.1=true then g p.2 else some (false,p.2)
def uB(f g:FT):FT:=fun e=>(f e).bind fun p=>if p.1=true then some (true,p.2) else g p.2
def mP(f:FT):FT:=fun e=>(f e).map fun p=>(!p.1,p.2)
theorem Ce{σ:L2.St}{H:Hp}{Q:Bool→Hp→Prop}(h:fT K (kj ft fu) σ H Q):FQ (fT K ft) (fT K fu) σ H Q:=by
  obtain⟨F,e,b,e1,R,hf,q⟩:=h
  unfold kj at hf
  obtain⟨⟨x,e1'⟩,h1,hf⟩:=Option.bind_eq_some_iff.mp hf
  refine⟨F,e,x,e1',R,h1,fun F1 H1 X1 R1=>?_⟩
  cases x with
  | true=>exact⟨F1,e1',b,e1,R1,hf,fun F2 H2 X2 R2=>q F2 H2 (X1.trans X2) R2⟩
  | false=>cases hf;exact q F1 H1 X1 R1
theorem EF{σ:L2.St}{H:Hp}{Q:Bool→Hp→Prop}(h:fT K (uB ft fu) σ H Q):Ha (fT K ft) (fT K fu) σ H Q:=by
  obtain⟨F,e,b,e1,R,hf,q⟩:=h
  unfold uB at hf
  obtain⟨⟨x,e1'⟩,h1,hf⟩:=Option.bind_eq_some_iff.mp hf
  refine⟨F,e,x,e1',R,h1,fun F1 H1 X1 R1=>?_⟩
  cases x with
  | false=>exact⟨F1,e1',b,e1,R1,hf,fun F2 H2 X2 R2=>q F2 H2 (X1.trans X2) R2⟩
  | true=>cases hf;exact q F1 H1 X1 R1
theorem Cg{σ:L2.St}{H:Hp}{Q:Bool→Hp→Prop}(h:fT K (mP ft) σ H Q):FV (fT K ft) σ H Q:=by
  obtain⟨F,e,b,e1,R,hf,q⟩:=h
  unfold mP at hf
  obtain⟨⟨x,e1'⟩,h1,hf⟩:=Option.map_eq_some_iff.mp hf
  cases hf
  exact⟨F,e,x,_,R,h1,fun F1 H1 X1 R1=>q F1 H1 X1 R1⟩
variable{jj:List Expr}
theorem wG(ha:PT X a (fT K ft)):PW X (.BoolOp .And [a] pos) (fT K ft):=BZ ha
theorem rZ(ha:PT X a (fT K ft)):PW X (.BoolOp .Or [a] pos) (fT K ft):=D8 ha
theorem vn(ha:PT X a (fT K ft))(hb:PW X (.BoolOp .And (b::jj) pos) (fT K fu)):PW X (.BoolOp .And (a::b::jj) pos) (fT K (kj ft fu)):=(D7 ha hb).mono fun _ _ _ h=>Ce h
theorem wH(ha:PT X a (fT K ft))(hb:PW X (.BoolOp .Or (b::jj) pos) (fT K fu)):PW X (.BoolOp .Or (a::b::jj) pos) (fT K (uB ft fu)):=(Fv ha hb).mono fun _ _ _ h=>EF h
theorem zR(ha:PT X a (fT K ft)):PT X (.UnaryOp .Not a pos) (fT K (mP ft)):=(DZ ha).mono fun _ _ _ h=>Cg h
theorem xU{e:Expr}(h:PW X e (fT K ft)):PT X e (fT K ft):=h.pt
def nG(f g:FE):FE:=fun e=>(f e).bind fun p=>(dt p.1).bind fun b=>if b=true then g p.2 else some (.d (.bool false),p.2)
def ur(f g:FE):FE:=fun e=>(f e).bind fun p=>(dt p.1).bind fun b=>if b=true then some (.d (.bool true),p.2) else g p.2
def nH(f:FE):FE:=fun e=>(f e).bind fun p=>(dt p.1).map fun b=>(.d (.bool (!b)),p.2)
def uo(t:FT)(f g:FE):FE:=fun e=>(t e).bind fun p=>if p.1=true then f p.2 else g p.2
theorem o5{c:Expr}(hc:PT X c (fT K ft))(ha:PE X a (fE K fa))(hb:PE X b (fE K fb)):PE X (.IfExp c a b pos) (fE K (uo ft fa fb)):=(zt hc ha hb).mono fun σ H Q h=>by
  obtain⟨F,e,z,e2,R,hf,q⟩:=h
  unfold uo at hf
  obtain⟨⟨x,e1⟩,h1,hf⟩:=Option.bind_eq_some_iff.mp hf
  refine⟨F,e,x,e1,R,h1,fun F1 H1 X1 R1=>?_⟩
  cases x with
  | true=>exact⟨F1,e1,z,e2,R1,hf,fun F2 H2 w X2 R2 A2=>q F2 H2 w (X1.trans X2) R2 (A2.weak X1.dom)⟩
  | false=>exact⟨F1,e1,z,e2,R1,hf,fun F2 H2 w X2 R2 A2=>q F2 H2 w (X1.trans X2) R2 (A2.weak X1.dom)⟩
def ah:FA:=fun e=>some ([],e)
def aa(fa:FE)(fs:FA):FA:=fun e=>(fa e).bind fun p=>(fs p.2).map fun q=>(p.1::q.1,q.2)
theorem ab:PA X [] (fA K ah):=oX.mono fun σ H Q h=>by
  obtain⟨F,e,r,e',R,hf,q⟩:=h
  cases hf
  exact q F H [] (fB.refl _ _ _ _) R rfl
theorem GQ(ha:PE X a (fE K fa))(hr:PA X es (fA K fs))(h:PySem.W.isStarred a=false):PA X (a::es) (fA K (aa fa fs)):=(BD ha hr h).mono fun σ H Q h=>by
  obtain⟨F,e,z,e2,R,hf,q⟩:=h
  unfold aa at hf
  obtain⟨⟨x,e1⟩,h1,hf⟩:=Option.bind_eq_some_iff.mp hf
  obtain⟨⟨xs,e2'⟩,h2,hf⟩:=Option.map_eq_some_iff.mp hf
  cases hf
  refine⟨F,e,x,e1,R,h1,fun F1 H1 v X1 R1 A1=>⟨F1,e1,xs,_,R1,h2,fun F2 H2 vs X2 R2 A2=>?_⟩⟩
  exact q F2 H2 (v::vs) (X1.trans X2) R2 ⟨v,vs,rfl,A1.ext X2,A2.weak X1.dom⟩
def bE(fs:FA):FE:=fun e=>(fs e).bind fun p=>(gp p.1).bind fun ds=>if ds.length≤1000 then some (.d (.tuple ds),p.2) else none
def cN(fs:FA):FE:=fun e=>(fs e).bind fun p=>(gp p.1).bind fun ds=>if ds.length≤1000 then some (.l ds,p.2) else none
theorem aS{x1}(h:PA X es (fA K fs)):PE X (.Tuple es x1 pos) (fE K (bE fs)):=(DQ h).mono fun σ H Q h=>by
  obtain⟨F,e,z,e2,R,hf,q⟩:=h
  unfold bE at hf
  obtain⟨⟨rs,e1⟩,h1,hf⟩:=Option.bind_eq_some_iff.mp hf
  obtain⟨ds,h2,hf⟩:=Option.bind_eq_some_iff.mp hf
  split at hf
  case isFalse=>cases hf
  case isTrue hl=>
  cases hf
  refine⟨F,e,rs,_,R,h1,fun F1 H1 vs X1 R1 A1=>?_⟩
  obtain⟨F2,R2,s2,d2,f2⟩:=cV.frozen R1 A1 h2
  have hlen:=d2.len
  refine⟨Nat.le_of_lt (qN (by lia)),fun p hp=>?_⟩
  obtain⟨R3,X3⟩:=R2.newT (vs:=vs) hp
  exact q _ _ _ ((X1.frz s2 f2).trans X3) R3 (ej.mpr ⟨p,vs,rfl,.inl (.inl aA),aL.mono X3.sf d2⟩)
theorem bF(h:PA X es (fA K fs)):PE X (.List es pos) (fE K (cN fs)):=(zv h).mono fun σ H Q h=>by
  obtain⟨F,e,z,e2,R,hf,q⟩:=h
  unfold cN at hf
  obtain⟨⟨rs,e1⟩,h1,hf⟩:=Option.bind_eq_some_iff.mp hf
  obtain⟨ds,h2,hf⟩:=Option.bind_eq_some_iff.mp hf
  split at hf
  case isFalse=>cases hf
  case isTrue hl=>
  cases hf
  refine⟨F,e,rs,_,R,h1,fun F1 H1 vs X1 R1 A1=>?_⟩
  obtain⟨F2,R2,s2,d2,f2⟩:=cV.frozen R1 A1 h2
  have hlen:=d2.len
  refine⟨Nat.le_of_lt (qN (by lia)),fun p hp=>?_⟩
  obtain⟨R3,X3,hF,no⟩:=R2.newL (vs:=vs) hp
  exact q _ _ _ ((X1.frz s2 f2).trans X3) R3 ⟨p,vs,rfl,X1.dom p hp,hF,aA,d2,no⟩
def gh(K:PySem.W.Frag)(r:List V→Hp→VK→Prop)(g:En→List Rv→Option Rv):Prop:=
  ∀(σ:L2.St) (H0 F H:Hp) (e:En) (xs:List Rv) (z:Rv) (vs:List V) (Q:VK),a8 K F H σ e→cV K σ H0 F H e xs vs→g e xs=some z→
    (∀F' H' w,fB σ F H e F' H' e→a8 K F' H' σ e→cz K σ H F' H' e z w→Q w H')→r vs H Q
def aJ(g:En→List Rv→Option Rv)(fs:FA):FE:=fun e=>(fs e).bind fun p=>(g p.2 p.1).map fun z=>(z,p.2)
theorem ul{r:List V→Hp→VK→Prop}{g:En→List Rv→Option Rv}(ho:gh K r g){σ:L2.St}{H:Hp}{Q:VK}(h:fE K (aJ g fs) σ H Q):GU r (fA K fs) σ H Q:=by
  obtain⟨F,e,z,e2,R,hf,q⟩:=h
  unfold aJ at hf
  obtain⟨⟨x,e1⟩,h1,hf⟩:=Option.bind_eq_some_iff.mp hf
  obtain⟨z',h3,hf⟩:=Option.map_eq_some_iff.mp hf
  cases hf
  refine⟨F,e,x,_,R,h1,fun F1 H1 vs X1 R1 A1=>?_⟩
  refine ho σ H F1 H1 _ x _ vs Q R1 A1 h3 fun F3 H3 w X3 R3 A3=>?_
  exact q F3 H3 w (X1.trans X3) R3 (A3.weak X1.dom)
theorem zO{x:Str}{p pos:Pos}{id:String}{r:List V→Hp→VK→Prop}{g:En→List Rv→Option Rv}(hc:fH X (.builtin id) r)(ho:gh K r g)(hg:Gl X x)(hm:X.mg x=none)(hv:bootBuiltins x=some (.builtin id))(ha:PA X (a::es) (fA K fs))(hn:x≠"__name__")(hdb:(x==("__debug__":Str))=false)
    (he:starEach (a::es) X.env=(false,eval a X.env)::starEach es X.env)(hpl:(backTo pos (starEach es X.env)).any (·.1)=false):PE X (.Call (.Name x p) (a::es) [] pos) (fE K (aJ g fs)):=(tO hc hg hm hv ha hn hdb he hpl).mono fun _ _ _ h=>ul ho h
theorem xT{x:Str}{p pos:Pos}{T:String}{r:List V→Hp→VK→Prop}{g:En→List Rv→Option Rv}(hc:fH X (.type T) r)(ho:gh K r g)(hg:Gl X x)(hm:X.mg x=none)(hv:bootBuiltins x=some (.type T))(ha:PA X (a::es) (fA K fs))(hn:x≠"__name__")(hdb:(x==("__debug__":Str))=false)
    (he:starEach (a::es) X.env=(false,eval a X.env)::starEach es X.env)(hpl:(backTo pos (starEach es X.env)).any (·.1)=false):PE X (.Call (.Name x p) (a::es) [] pos) (fE K (aJ g fs)):=(xQ hc hg hm hv ha hn hdb he hpl).mono fun _ _ _ h=>ul ho h
end
end L2
namespace L2
open PySem PySem.Spec PyProof.Rows
mutual
theorem DA.reads{X:Cx}{pins:List (Addr × Obj)}{σ:L2.St}{H:Hp}{s:Shared}(I:aE X pins σ H s):∀{d:PyData} {v:V} {u:Value},d.canLay0=true→DA X.K H d v→bA v u→∃as,Reads s.heap u d as
  | .none,_,_,_,q,r=>by
    simp only [DA] at q;subst q;cases r;exact⟨_,.none⟩
  | .bool b,_,_,_,q,r=>by
    simp only [DA] at q;subst q;cases r;exact⟨_,.bool b⟩
  | .int i,_,_,_,q,r=>by
    simp only [DA] at q;subst q;obtain⟨t,rfl⟩:=r;exact⟨_,.int i t⟩
  | .str x,_,_,_,q,r=>by
    simp only [DA] at q;subst q;obtain⟨t,rfl⟩:=r;exact⟨_,.str x t⟩
  | .tuple ds,_,_,c,q,r=>by
    simp only [DA] at q
    obtain⟨a,xs,e,hs,rr⟩:=q
    subst e;cases r
    obtain⟨its,rv,⟨o,ho,hc,n,hd⟩,hz⟩:=I.tuple hs
    obtain⟨as,q⟩:=aL.reads I (by simpa [PyData.canLay0] using c) rr rv
    exact⟨_,.tuple ho hc hd q⟩
  | .list ds,_,_,c,q,r=>by
    simp only [DA] at q
    obtain⟨a,xs,e,hs,rr⟩:=q
    subst e;cases r
    obtain⟨its,rv,ht,hz⟩:=I.list hs
    obtain⟨o,ho,hc,n,hd⟩:=ht.isList
    obtain⟨as,q⟩:=aL.reads I (by simpa [PyData.canLay0] using c) rr rv
    exact⟨_,.list ho hc hd q⟩
  | .dict _,_,_,c,_,_=>by simp [PyData.canLay0] at c
theorem aL.reads{X:Cx}{pins:List (Addr × Obj)}{σ:L2.St}{H:Hp}{s:Shared}(I:aE X pins σ H s):∀{ds:List PyData} {xs:List V} {us:List Value},PyData.canLayAll0 ds=true→aL X.K H ds xs→aM xs us→∃as,ReadsAll s.heap us ds as
  | [],_,_,_,q,r=>by
    simp only [aL] at q;subst q;cases r;exact⟨_,.nil⟩
  | d::ds,_,_,c,q,r=>by
    simp only [aL] at q
    simp only [PyData.canLayAll0,Bool.and_eq_true] at c
    obtain⟨x,rr,e,a,b⟩:=q
    subst e
    cases r with
    | cons p p'=>
      obtain⟨as,q1⟩:=DA.reads I c.1 a p
      obtain⟨bs,q2⟩:=aL.reads I c.2 b p'
      exact⟨_,.cons q1 q2⟩
end
def lG(e:En):Rv→Option PyData
  | .d x=>some x
  | .l xs=>some (.list xs)
  | .s i=>match e[i]? with
    | some (some (.l xs))=>some (.list xs)
    | _=>none
theorem oE{K:PySem.W.Frag}{σ:L2.St}{H0 F H:Hp}{e:En}{r:Rv}{v:V}{d:PyData}(R:a8 K F H σ e)(h:cz K σ H0 F H e r v)(q:lG e r=some d):DA K H d v:=by
  cases r with
  | d x=>cases q;exact DA.mono R.sm h
  | l xs=>
    cases q
    obtain⟨l,vs,rfl,h1,h2,h3,h4,_⟩:=h
    exact cP.mpr ⟨l,vs,rfl,.inl (.inl h3),aL.mono R.sm h4⟩
  | s i=>
    obtain⟨h1,ys,h2⟩:=h
    simp only [lG,h2] at q
    cases q
    obtain⟨l,vs,e1,e2,e3,e4⟩:=R.own i _ h2
    rw [h1] at e1;cases e1
    exact cP.mpr ⟨l,vs,rfl,.inl (.inl e3),aL.mono R.sm e4⟩
section
variable{X:Cx}{K:PySem.W.Frag}
def bC:Rv→Option Int
  | .d (.int i)=>some i
  | _=>none
theorem bR{σ:L2.St}{H0 F H:Hp}{e:En}{r:Rv}{v:V}{i:Int}(h:cz K σ H0 F H e r v)(q:bC r=some i):v=.int i:=by
  unfold bC at q
  split at q
  · cases q;exact cc.mp (show DA K F (.int _) v from h)
  · cases q
theorem mJ{σ:L2.St}{H0 F H:Hp}{e:En}{i:Int}:cz K σ H0 F H e (.d (.int i)) (.int i):=(cc (K:=K) (F:=F)).mpr rfl
def gI(C:Int→Int→Bool)(f:Int→Int→PyData):En→Rv→Rv→Option Rv:=fun _ x y=>(bC x).bind fun i=>(bC y).bind fun j=>if C i j=true then some (.d (f i j)) else none
theorem tN{C:Int→Int→Prop}{c:Int→Int→Bool}{g:Int→Int→V}{f:Int→Int→PyData}(hc:∀i j,c i j=true→C i j)(hf:∀F i j,DA K F (f i j) (g i j)):jT K (rI C g) (gI c f):=by
  intro σ H0 F H e x y z v u Q R A B hg q
  unfold gI at hg
  obtain⟨i,h1,hg⟩:=Option.bind_eq_some_iff.mp hg
  obtain⟨j,h2,hg⟩:=Option.bind_eq_some_iff.mp hg
  split at hg
  case isFalse=>cases hg
  case isTrue hh=>
  cases hg
  exact⟨i,j,bR A h1,bR B h2,hc i j hh,q F H _ (fB.refl _ _ _ _) R (hf F i j)⟩
theorem k'{g:Int→Int→V}{f:Int→Int→PyData}(hf:∀F i j,DA K F (f i j) (g i j)):jT K (xV g) (gI (fun _ _=>true) f):=by
  intro σ H0 F H e x y z v u Q R A B hg q
  obtain⟨i,j,h1,h2,h3,h4⟩:=tN (K:=K) (C:=fun _ _=>True) (c:=fun _ _=>true) (g:=g) (f:=f) (fun _ _ _=>trivial) hf σ H0 F H e x y z v u Q R A B hg q
  exact⟨i,j,h1,h2,h4⟩
def AM(g g':En→Rv→Rv→Option Rv):En→Rv→Rv→Option Rv:=fun e x y=>(g e x y).or (g' e x y)
theorem jT.or{r r':R2}{g g':En→Rv→Rv→Option Rv}(h:jT K r g)(h':jT K r' g'):jT K (fun x y H Q=>r x y H Q∨r' x y H Q) (AM g g'):=by
  intro σ H0 F H e x y z v u Q R A B hg q
  unfold AM at hg
  cases e1:g e x y with
  | some w=>
    rw [e1] at hg
    cases hg
    exact .inl (h σ H0 F H e x y _ v u Q R A B e1 q)
  | none=>
    rw [e1] at hg
    exact .inr (h' σ H0 F H e x y _ v u Q R A B hg q)
def yK:=gI (fun _ _=>true) fun i j=>.int (i+j)
def kZ:=gI (fun _ _=>true) fun i j=>.int (i - j)
def i_(i:Int):Bool:=decide (-(2 ^ 64) < i)&&decide (i < 2 ^ 64)
def EX(n:Nat)(i:Int):Bool:=decide (i.natAbs < 2 ^ n)
theorem i0{n:Nat}{i:Int}:EX n i=true↔ Bt n i:=by unfold EX Bt;exact decide_eq_true_iff
def k9(i j:Int):Bool:=i_ i || i_ j || (EX 4000 i&&EX 4000 j)
def sS:=gI k9 fun i j=>.int (i*j)
def ef:=gI (fun _ j=>j != 0&&EX 8000 j) fun i j=>.int (i.fdiv j)
def bg:=gI (fun _ j=>j != 0) fun i j=>.int (i.fmod j)
def zG(i j:Int):Bool:=decide (0≤j)&&decide (j≤1000000)&&i_ i
def uT:=gI zG fun i j=>.int (i ^ j.toNat)
theorem lg{i:Int}(h:i_ i=true): -(2 ^ 64) < i∧i < 2 ^ 64:=by
  unfold i_ at h
  rw [Bool.and_eq_true,decide_eq_true_iff,decide_eq_true_iff] at h
  exact h
theorem BR{i j:Int}(h:zG i j=true):C5 i j:=by
  unfold zG at h
  rw [Bool.and_eq_true,Bool.and_eq_true,decide_eq_true_iff,decide_eq_true_iff] at h
  have:=lg h.2
  exact⟨h.1.1,h.1.2,by lia⟩
def vT(i j:Int):Prop:=AR i j∨Cq i j
theorem By:jo X (binaryOp .Mult) (rI vT fun i j=>.int (i*j)):=by
  intro pins s σ H x y v u Q I rx ry h
  obtain⟨i,j,e1,e2,h1,q⟩:=h
  rcases h1 with h1 | h1
  · exact DL pins s σ H x y v u Q I rx ry ⟨i,j,e1,e2,h1,q⟩
  · exact Bz pins s σ H x y v u Q I rx ry ⟨i,j,e1,e2,h1,q⟩
theorem Bl{i j:Int}(h:k9 i j=true):vT i j:=by
  unfold k9 at h
  rw [Bool.or_eq_true,Bool.or_eq_true,Bool.and_eq_true] at h
  rcases h with (h | h) | h
  · exact .inl (.inl (lg h))
  · exact .inl (.inr (lg h))
  · exact .inr ⟨i0.mp h.1,i0.mp h.2⟩
theorem Dx:jT K (rI vT fun i j=>.int (i*j)) sS:=tN (fun _ _ h=>Bl h) fun _ _ _=>cc.mpr rfl
theorem FP:jT K (xV fun i j=>.int (i - j)) kZ:=k' fun _ _ _=>cc.mpr rfl
theorem Dl:jT K (rI Cp fun i j=>.int (i.fdiv j)) ef:=tN (fun i j h=>by
  rw [Bool.and_eq_true] at h
  exact⟨by simpa using h.1,i0.mp h.2⟩) fun _ _ _=>cc.mpr rfl
theorem Ff:jT K (rI (fun _ j=>j≠0) fun i j=>.int (i.fmod j)) bg:=tN (fun i j h=>by simpa using h) fun _ _ _=>cc.mpr rfl
theorem Ft:jT K (rI C5 fun i j=>.int (i ^ j.toNat)) uT:=tN (fun _ _ h=>BR h) fun _ _ _=>cc.mpr rfl
def sR:En→Rv→Rv→Option Rv:=fun e x y=>match gW e x,gW e y with
  | some (false,xs),some (false,ys)=>if xs.length+ys.length≤1000000 then some (.d (.tuple (xs++ys))) else none
  | _,_=>none
theorem Dg:jT K (zS K) sR:=by
  intro σ H0 F H e x y z v u Q R A B hg q
  unfold sR at hg
  match h1:gW e x,h2:gW e y,hg with
  | some (false,xs),some (false,ys),hg=>
    obtain⟨p,vs,rfl,d1,s1⟩:=fU R A h1
    obtain⟨p',us,rfl,d2,s2⟩:=fU R B h2
    dsimp only at hg
    split at hg
    case isFalse=>cases hg
    case isTrue hl=>
    cases hg
    have l1:=d1.len
    have l2:=d2.len
    have sl:sizeLine=16777216:=sizeLine_eq
    refine⟨p,p',vs,us,rfl,rfl,s1,s2,by lia,fun t H' sm hT=>?_⟩
    obtain⟨F',R',X',hF⟩:=R.growT sm hT
    exact q F' H' _ X' R' (ej.mpr ⟨t,_,rfl,hF,(d1.append d2).mono X'.sf⟩)
def u_(e:En):Rv→Option (List PyData)
  | .l xs=>some xs
  | .s i=>match e[i]? with
    | some (some (.l xs))=>some xs
    | _=>none
  | _=>none
theorem rJ{σ:L2.St}{H0 F H:Hp}{e:En}{r:Rv}{v:V}(R:a8 K F H σ e)(h:cz K σ H0 F H e r v){xs:List PyData}(q:u_ e r=some xs):∃p vs,v=.ref p∧F p=none∧H p=some (.lst vs)∧aL K F xs vs:=by
  cases r with
  | d x=>cases q
  | l ys=>
    cases q
    obtain⟨l,vs,e1,h1,h2,h3,h4,_⟩:=h
    exact⟨l,vs,e1,h2,h3,h4⟩
  | s i=>
    obtain⟨h1,ys,h2⟩:=h
    simp only [u_,h2] at q
    cases q
    obtain⟨l,vs,e1,e2,e3,e4⟩:=R.own i _ h2
    rw [h1] at e1;cases e1
    exact⟨l,vs,rfl,e2,e3,e4⟩
def wq:En→Rv→Rv→Option Rv:=fun e x y=>(u_ e x).bind fun xs=>(u_ e y).bind fun ys=>if xs.length+ys.length≤1000000 then some (.l (xs++ys)) else none
theorem Df:jT K Ee wq:=by
  intro σ H0 F H e x y z v u Q R A B hg q
  unfold wq at hg
  obtain⟨xs,h1,hg⟩:=Option.bind_eq_some_iff.mp hg
  obtain⟨ys,h2,hg⟩:=Option.bind_eq_some_iff.mp hg
  split at hg
  case isFalse=>cases hg
  case isTrue hl=>
  cases hg
  obtain⟨p,vs,rfl,f1,s1,d1⟩:=rJ R A h1
  obtain⟨p',us,rfl,f2,s2,d2⟩:=rJ R B h2
  have l1:=d1.len
  have l2:=d2.len
  have sl:sizeLine=16777216:=sizeLine_eq
  refine⟨p,p',vs,us,rfl,rfl,s1,s2,by lia,fun t ht=>?_⟩
  obtain⟨R3,X3,hF,no⟩:=R.newL (vs:=vs++us) ht
  exact q _ _ _ X3 R3 ⟨t,_,rfl,ht,hF,aA,d1.append d2,no⟩
def bY:En→Rv→Rv→Option Rv:=AM yK (AM sR wq)
def CW(K:PySem.W.Frag):R2:=fun x y H Q=>xV (fun i j=>.int (i+j)) x y H Q∨(zS K x y H Q∨Ee x y H Q)
theorem Bs:jo X (binaryOp .Add) (CW X.K):=zm.or (Bu.or DG)
theorem ET:jT K (CW K) bY:=jT.or (k' fun _ _ _=>cc.mpr rfl) (jT.or Dg Df)
def sU:En→Rv→Rv→Option Rv:=fun e x y=>match gW e x,bC y with
  | some (false,[d]),some k=>if 0≤k∧k≤100000 then some (.d (.tuple (List.replicate k.toNat d))) else none
  | _,_=>none
theorem aL.rep{F:Hp}{d:PyData}{v:V}(h:DA K F d v):∀n,aL K F (List.replicate n d) (List.replicate n v)
  | 0=>aL.nil
  | n+1=>aL.cons h (aL.rep h n)
theorem Ej:jT K (zU K) sU:=by
  intro σ H0 F H e x y z v u Q R A B hg q
  unfold sU at hg
  match h1:gW e x,h2:bC y,hg with
  | some (false,[d]),some k,hg=>
    obtain⟨p,vs,rfl,d1,s1⟩:=fU R A h1
    dsimp only at hg
    split at hg
    case isFalse=>cases hg
    case isTrue hl=>
    cases hg
    have hd:=d1
    simp only [aL] at hd
    obtain⟨w,r,e1,hw,e2⟩:=hd
    subst e2 e1
    refine⟨p,k,w,rfl,bR B h2,s1,hl.1,hl.2,fun t H' sm hT=>?_⟩
    obtain⟨F',R',X',hF⟩:=R.growT sm hT
    exact q F' H' _ X' R' (ej.mpr ⟨t,_,rfl,hF,(aL.rep hw _).mono X'.sf⟩)
def sT:En→Rv→Rv→Option Rv:=fun e x y=>(u_ e x).bind fun xs=>(bC y).bind fun k=>if -100000≤k∧k≤100000∧xs.length*k.toNat≤1000000 then some (.l (List.replicate k.toNat xs).flatten) else none
theorem aL.reps{F:Hp}{ds:List PyData}{vs:List V}(h:aL K F ds vs):∀n,aL K F (List.replicate n ds).flatten (List.replicate n vs).flatten
  | 0=>aL.nil
  | n+1=>by simpa [List.replicate_succ] using aL.append h (aL.reps h n)
theorem Ei:jT K Eh sT:=by
  intro σ H0 F H e x y z v u Q R A B hg q
  unfold sT at hg
  obtain⟨xs,h1,hg⟩:=Option.bind_eq_some_iff.mp hg
  obtain⟨k,h2,hg⟩:=Option.bind_eq_some_iff.mp hg
  split at hg
  case isFalse=>cases hg
  case isTrue hl=>
  cases hg
  obtain⟨p,vs,rfl,f1,s1,d1⟩:=rJ R A h1
  have l1:=d1.len
  have sl:sizeLine=16777216:=sizeLine_eq
  refine⟨p,k,vs,rfl,bR B h2,s1,by lia,by lia,by rw [←l1];lia,fun t ht=>?_⟩
  obtain⟨R3,X3,hF,no⟩:=R.newL (vs:=(List.replicate k.toNat vs).flatten) ht
  exact q _ _ _ X3 R3 ⟨t,_,rfl,ht,hF,aA,aL.reps d1 _,no⟩
def ce:En→Rv→Rv→Option Rv:=AM sS (AM sU sT)
def CY(K:PySem.W.Frag):R2:=fun x y H Q=>rI vT (fun i j=>.int (i*j)) x y H Q∨(zU K x y H Q∨Eh x y H Q)
theorem Bx:jo X (binaryOp .Mult) (CY X.K):=By.or (BA.or DO)
theorem Fg:jT K (CY K) ce:=jT.or Dx (jT.or Ej Ei)
def yM:=gI (fun _ _=>true) fun i j=>.bool (decide (i < j))
def Hi:=gI (fun _ _=>true) fun i j=>.bool (decide (i≤j))
def EL:=gI (fun _ _=>true) fun i j=>.bool (decide (j < i))
def AL:=gI (fun _ _=>true) fun i j=>.bool (decide (j≤i))
theorem GM:jT K (xV fun i j=>.bl (decide (i < j))) yM:=k' fun _ _ _=>gZ.mpr rfl
theorem GA:jT K (xV fun i j=>.bl (decide (j < i))) EL:=k' fun _ _ _=>gZ.mpr rfl
theorem Gz:jT K (xV fun i j=>.bl (decide (j≤i))) AL:=k' fun _ _ _=>gZ.mpr rfl
def Ef(K:PySem.W.Frag)(neg:Bool):R2:=fun x y H Q=>∃a b,DA K H a x∧DA K H b y∧SeqAt.shaped a=true∧SeqAt.shaped b=true∧Q (.bl (if neg then !PyData.eqv a b else PyData.eqv a b)) H
theorem DH{k:Nat}(hr:ee k X.A):jo X (compareOp .Eq) (Ef X.K false):=by
  intro pins s σ H x y v u Q I rx ry h
  obtain⟨a,b,ha,hb,s1,s2,q⟩:=h
  obtain⟨as,ra⟩:=DA.reads I (SeqAt.canLay_of_shaped s1) ha rx
  obtain⟨bs,rb⟩:=DA.reads I (SeqAt.canLay_of_shaped s2) hb ry
  exact SeqAt.compareEq_shaped ra rb s1 s2 hr.units ⟨.bl _,H,I,rfl,q⟩
theorem DM{k:Nat}(hr:ee k X.A):jo X (compareOp .NotEq) (Ef X.K true):=by
  intro pins s σ H x y v u Q I rx ry h
  obtain⟨a,b,ha,hb,s1,s2,q⟩:=h
  obtain⟨as,ra⟩:=DA.reads I (SeqAt.canLay_of_shaped s1) ha rx
  obtain⟨bs,rb⟩:=DA.reads I (SeqAt.canLay_of_shaped s2) hb ry
  exact SeqAt.compareNe_shaped ra rb s1 s2 hr.units ⟨.bl _,H,I,rfl,q⟩
def cK(neg:Bool):En→Rv→Rv→Option Rv:=fun e x y=>(lG e x).bind fun a=>(lG e y).bind fun b=>if (SeqAt.shaped a&&SeqAt.shaped b)=true then some (.d (.bool (if neg then !PyData.eqv a b else PyData.eqv a b))) else none
theorem CF{neg:Bool}:jT K (Ef K neg) (cK neg):=by
  intro σ H0 F H e x y z v u Q R A B hg q
  unfold cK at hg
  obtain⟨a,h1,hg⟩:=Option.bind_eq_some_iff.mp hg
  obtain⟨b,h2,hg⟩:=Option.bind_eq_some_iff.mp hg
  split at hg
  case isFalse=>cases hg
  case isTrue hl=>
  cases hg
  rw [Bool.and_eq_true] at hl
  exact⟨a,b,oE R A h1,oE R B h2,hl.1,hl.2,q F H _ (fB.refl _ _ _ _) R wL⟩
def Fz(K:PySem.W.Frag)(neg:Bool):R2:=fun x y H Q=>∃a xs,DA K H a x∧(DA K H (.list xs) y∨DA K H (.tuple xs) y)∧a.canLay0=true∧a.depth≤60∧PyData.canLayAll0 xs=true∧Q (.bl (if neg then !(xs.any fun y=>PyData.eqv y a) else xs.any fun y=>PyData.eqv y a)) H
theorem DK{k:Nat}(hr:ee k X.A):jo X (compareOp .In) (Fz X.K false):=by
  intro pins s σ H x y v u Q I rx ry h
  obtain⟨a,xs,ha,hb,s1,s2,s3,q⟩:=h
  obtain⟨as,ra⟩:=DA.reads I s1 ha rx
  have hu:=hr.units
  rcases hb with hb | hb
  · obtain⟨bs,rb⟩:=DA.reads I (by simpa [PyData.canLay0] using s3) hb ry
    exact PySem.SeqAt.in_list_reads rb ra s3 s1 (by lia) ⟨.bl _,H,I,rfl,q⟩
  · obtain⟨bs,rb⟩:=DA.reads I (by simpa [PyData.canLay0] using s3) hb ry
    exact PySem.SeqAt.in_tuple_reads rb ra s3 s1 (by lia) ⟨.bl _,H,I,rfl,q⟩
def Bd(neg:Bool):En→Rv→Rv→Option Rv:=fun e x y=>(lG e x).bind fun a=>(gW e y).bind fun p=>if (a.canLay0&&decide (a.depth≤60)&&PyData.canLayAll0 p.2)=true then some (.d (.bool (if neg then !(p.2.any fun y=>PyData.eqv y a) else p.2.any fun y=>PyData.eqv y a))) else none
theorem GH{neg:Bool}:jT K (Fz K neg) (Bd neg):=by
  intro σ H0 F H e x y z v u Q R A B hg q
  unfold Bd at hg
  obtain⟨a,h1,hg⟩:=Option.bind_eq_some_iff.mp hg
  obtain⟨⟨b,xs⟩,h2,hg⟩:=Option.bind_eq_some_iff.mp hg
  split at hg
  case isFalse=>cases hg
  case isTrue hl=>
  cases hg
  rw [Bool.and_eq_true,Bool.and_eq_true,decide_eq_true_iff] at hl
  obtain⟨p,vs,rfl,d1,s1⟩:=fU R B h2
  refine⟨a,xs,oE R A h1,?_,hl.1.1,hl.1.2,hl.2,q F H _ (fB.refl _ _ _ _) R wL⟩
  cases b with
  | true=>exact .inl (cP.mpr ⟨p,vs,rfl,s1,d1.mono R.sm⟩)
  | false=>exact .inr (ej.mpr ⟨p,vs,rfl,s1,d1.mono R.sm⟩)
def bH:En→Rv→Rv→Option Rv:=fun e x y=>(gW e x).bind fun p=>(bC y).bind fun i=>(atI p.2 i).map .d
def FC(K:PySem.W.Frag):R2:=fun x y H Q=>Eg K x y H Q∨FD K x y H Q
theorem GJ:AG X (FC X.K):=wB.or Dq
theorem aL.atI{F:Hp}{ds:List PyData}{vs:List V}(h:aL K F ds vs){i:Int}{d:PyData}(q:atI ds i=some d):∃v,L2.atI vs i=some v∧DA K F d v:=by
  unfold L2.atI at q ⊢
  obtain⟨j,h1,h2⟩:=Option.bind_eq_some_iff.mp q
  obtain⟨v,h3,h4⟩:=h.get h2
  exact⟨v,by rw [←h.len,h1];exact h3,h4⟩
theorem GK:jT K (FC K) bH:=by
  intro σ H0 F H e x y z v u Q R A B hg q
  unfold bH at hg
  obtain⟨⟨b,xs⟩,h1,hg⟩:=Option.bind_eq_some_iff.mp hg
  obtain⟨i,h2,hg⟩:=Option.bind_eq_some_iff.mp hg
  obtain⟨d,h3,hg⟩:=Option.map_eq_some_iff.mp hg
  cases hg
  obtain⟨p,vs,rfl,d1,s1⟩:=fU R A h1
  obtain⟨w,h4,h5⟩:=d1.atI h3
  have fin:=q F H w (fB.refl _ _ _ _) R h5
  cases b with
  | true=>exact .inl ⟨p,vs,i,w,rfl,bR B h2,s1,h4,fin⟩
  | false=>exact .inr ⟨p,vs,i,w,rfl,bR B h2,s1,h4,fin⟩
end
end L2
namespace HT
open PySem PySem.Spec PyProof.Rows
section
variable{prog:Program}{w:World}{A:Around}{E:Value→Shared→Prop}{s:Shared}
theorem getItem_tuple_all{t sl:Addr}{items:Array Value}{vl vu:Value}{lo hi:Option Int}{Q:Value→Shared→Prop}(ht:IsTup s.heap t items)(hs:s.heap.IsSliceOf sl vl vu .none)(pl:IsPart vl lo)(pu:IsPart vu hi)
    (hw:sIx items.size 0 lo=0∧sIx items.size items.size hi=items.size)
    (h:Q (.ref t) s):wpAny (model prog w) A (getItem (.ref t) (.ref sl)) Q E s:=by
  obtain⟨os,hos,hcs,hds⟩:=id hs
  have hTs:s.TypeIs (.ref sl) "slice":=⟨os,hos,hcs⟩
  unfold getItem
  try with_reducible refine wpAny_holding ?_
  first | refine wpAny_bind (wpAny_pure ?_) | skip
  refine wpAny_bind (wpAny_sequenceKey ht.typeIs (by decide) ?_)
  refine wpAny_bind (wpAny_callSpecial?_slot (name:=Str.ofString "__getitem__") ht.typeIs PyProof.Rows.slot_tuple_getitem
    (wpAny_call_entry PyProof.Rows.slot_tuple_getitem ht.typeIs entry_tuple_getitem ?_ (args_tuple_getitem _ _)))
  show wpAny _ _ (Builtin.Tuple.tupleItemsOf (.ref t) >>= _) _ _ s
  refine wpAny_bind (tupleItemsOf_ ht ?_)
  refine wpAny_bind (wpAny_typeOf hTs ?_)
  rw [if_pos (by decide)]
  refine wpAny_bind (iS hs pl pu ?_)
  have hno:(((sIx items.size 0 lo:Nat):Int)==0&&(1:Int)==1&&(sIx items.size items.size hi - sIx items.size 0 lo)==items.size)=true:=by
    rw [hw.1,hw.2];simp
  show wpAny _ _ (if (((sIx items.size 0 lo:Nat):Int)==0&&(1:Int)==1&&(sIx items.size items.size hi - sIx items.size 0 lo)==items.size)=true then _ else _) _ _ s
  rw [if_pos hno]
  unfold Builtin.Tuple.tupleIsExact
  refine wpAny_bind (wpAny_bind (wpAny_typeOf ht.typeIs (wpAny_pure ?_)))
  rw [if_pos (by decide)]
  exact wpAny_bind (wpAny_rule (wpAny_pure ⟨_,rfl,wpAny_pure h⟩))
end
end HT
namespace L2
open PySem PySem.Spec PyProof.Rows
section
variable{X:Cx}{K:PySem.W.Frag}{a:Expr}{fa:FE}{lo hi:Option Expr}{pos p2:Pos}
def lF(xs:List PyData)(lo hi:Option Int):List PyData:=(xs.drop (HT.sIx xs.length 0 lo)).take (HT.sIx xs.length xs.length hi - HT.sIx xs.length 0 lo)
def FL(K:PySem.W.Frag):V→Option Int→Option Int→Hp→VK→Prop:=fun x lo hi H Q=>∃a xs,x=.ref a∧bX K H a xs∧
  (HT.sIx xs.length 0 lo=0∧HT.sIx xs.length xs.length hi=xs.length)∧Q (.ref a) H
theorem B8:AW X (FL X.K):=by
  intro pins s σ H x v vl vu lo hi sl Q I rx hs pl pu h
  obtain⟨a,xs,rfl,hx,hw,q⟩:=h
  cases rx
  obtain⟨its,r,ht,hz⟩:=I.tuple hx
  have hlen:its.toArray.size=xs.length:=by rw [List.size_toArray];exact r.length.symm
  refine⟨"tuple",_,PyProof.Rows.slot_tuple_getitem.lookup,ht.typeIs,?_⟩
  exact HT.getItem_tuple_all ht hs pl pu (by rw [hlen];exact hw) ⟨.ref a,H,I,rfl,q⟩
def GR(K:PySem.W.Frag):V→Option Int→Option Int→Hp→VK→Prop:=fun x lo hi H Q=>FK K x lo hi H Q∨(FL K x lo hi H Q∨FJ K x lo hi H Q)
theorem GS:AW X (GR X.K):=Er.or (B8.or B7)
abbrev FO:=En→Option (Option Int × En)
def fO(K:PySem.W.Frag)(f:FO):TO:=fun σ H Q=>∃F e o e',a8 K F H σ e∧f e=some (o,e')∧∀F' H',fB σ F H e F' H' e'→a8 K F' H' σ e'→Q o H'
theorem PO.mono{e:Option Expr}{t t':TO}(h:PO X e t)(m:∀σ H Q,t' σ H Q→t σ H Q):PO X e t':=fun pins s σ H Q I q=>h pins s σ H Q I (m σ H Q q)
def gG:FO:=fun e=>some (none,e)
def fJ(f:FE):FO:=fun e=>(f e).bind fun p=>(bC p.1).map fun i=>(some i,p.2)
theorem j8:PO X none (fO K gG):=BO.mono fun σ H Q h=>by
  obtain⟨F,e,o,e',R,hf,q⟩:=h
  cases hf
  exact q F H (fB.refl _ _ _ _) R
theorem j_(h:PE X a (fE K fa)):PO X (some a) (fO K (fJ fa)):=(BP h).mono fun σ H Q h=>by
  obtain⟨F,e,o,e',R,hf,q⟩:=h
  unfold fJ at hf
  obtain⟨⟨x,e1⟩,h1,hf⟩:=Option.bind_eq_some_iff.mp hf
  obtain⟨i,h2,hf⟩:=Option.map_eq_some_iff.mp hf
  cases hf
  exact⟨F,e,x,_,R,h1,fun F1 H1 v X1 R1 A1=>⟨i,bR A1 h2,q F1 H1 X1 R1⟩⟩
def Gi(e:En)(x:Rv)(lo hi:Option Int):Option Rv:=(gW e x).map fun p=>if p.1=true then .l (lF p.2 lo hi) else .d (.tuple (lF p.2 lo hi))
def ut(fa:FE)(fl fh:FO):FE:=fun e=>(fa e).bind fun p=>(fl p.2).bind fun l=>(fh l.2).bind fun h=>(Gi h.2 p.1 l.1 h.1).map fun z=>(z,h.2)
theorem yE{F:Hp}{ds:List PyData}{vs:List V}(h:aL K F ds vs)(lo hi:Option Int):aL K F (lF ds lo hi) (pT vs lo hi):=by
  unfold lF pT
  rw [h.len]
  exact(h.drop _).take _
theorem A7{α:Type}{xs:List α}{lo hi:Option Int}(h:HT.sIx xs.length 0 lo=0∧HT.sIx xs.length xs.length hi=xs.length):(xs.drop (HT.sIx xs.length 0 lo)).take (HT.sIx xs.length xs.length hi - HT.sIx xs.length 0 lo)=xs:=by
  rw [h.1,h.2];simp
theorem zP{fl fh:FO}(he:PE X a (fE X.K fa))(hl:PO X lo (fO X.K fl))(hh:PO X hi (fO X.K fh)):PE X (.Subscript a (.Slice lo hi none p2) pos) (fE X.K (ut fa fl fh)):=(zw GS he hl hh).mono fun σ H Q h=>by
  obtain⟨F,e,z,e',R,hf,q⟩:=h
  unfold ut at hf
  obtain⟨⟨x,e1⟩,h1,hf⟩:=Option.bind_eq_some_iff.mp hf
  obtain⟨⟨l,e2⟩,h2,hf⟩:=Option.bind_eq_some_iff.mp hf
  obtain⟨⟨u,e3⟩,h3,hf⟩:=Option.bind_eq_some_iff.mp hf
  obtain⟨z',h4,hf⟩:=Option.map_eq_some_iff.mp hf
  cases hf
  refine⟨F,e,x,e1,R,h1,fun F1 H1 v X1 R1 A1=>⟨F1,e1,l,e2,R1,h2,fun F2 H2 X2 R2=>⟨F2,e2,u,_,R2,h3,fun F3 H3 X3 R3=>?_⟩⟩⟩
  have X12:=X1.trans X2
  have X13:=X12.trans X3
  have A3:=(A1.ext X2).ext X3
  unfold Gi at h4
  obtain⟨⟨b,xs⟩,h5,h4⟩:=Option.map_eq_some_iff.mp h4
  obtain⟨p,vs,rfl,d1,s1⟩:=fU R3 A3 h5
  cases b with
  | true=>
    rw [if_pos rfl] at h4;cases h4
    refine .inr (.inr ⟨p,vs,rfl,s1,fun t ht=>?_⟩)
    obtain⟨R4,X4,hF,no⟩:=R3.newL (vs:=pT vs l u) ht
    exact q _ _ _ (X13.trans X4) R4 ⟨t,_,rfl,X13.dom _ ht,hF,aA,yE d1 l u,no⟩
  | false=>
    rw [if_neg (by simp)] at h4;cases h4
    by_cases hw:HT.sIx vs.length 0 l=0∧HT.sIx vs.length vs.length u=vs.length
    · refine .inr (.inl ⟨p,vs,rfl,s1,hw,?_⟩)
      have e5:lF xs l u=xs:=by unfold lF;exact A7 (by rw [d1.len];exact hw)
      rw [e5] at q
      obtain⟨F4,R4,X4,hF⟩:=R3.growT (av.refl _) s1
      exact q _ _ _ (X13.trans X4) R4 (ej.mpr ⟨p,vs,rfl,hF,d1.mono X4.sf⟩)
    · refine .inl ⟨p,vs,rfl,s1,hw,fun t ht=>?_⟩
      obtain⟨R4,X4⟩:=R3.newT (vs:=pT vs l u) ht
      exact q _ _ _ (X13.trans X4) R4 (ej.mpr ⟨t,_,rfl,.inl (.inl aA),(yE d1 l u).mono X4.sf⟩)
end
section
variable{X:Cx}{K:PySem.W.Frag}
theorem kc{σ:L2.St}{H0 F H:Hp}{e:En}{x:Rv}{vs:List V}(h:cV K σ H0 F H e [x] vs):∃v,vs=[v]∧cz K σ H0 F H e x v:=by
  obtain⟨v,ws,rfl,h1,h2⟩:=h
  have h2':ws=[]:=h2
  subst h2'
  exact⟨v,rfl,h1⟩
theorem r8{σ:L2.St}{H0 F H:Hp}{e:En}{x y:Rv}{vs:List V}(h:cV K σ H0 F H e [x,y] vs):∃v u,vs=[v,u]∧cz K σ H0 F H e x v∧cz K σ H0 F H e y u:=by
  obtain⟨v,ws,rfl,h1,h2⟩:=h
  obtain⟨u,rfl,h3⟩:=kc h2
  exact⟨v,u,rfl,h1,h3⟩
def g1(g:En→Rv→Option Rv):En→List Rv→Option Rv:=fun e xs=>match xs with
  | [x]=>g e x
  | _=>none
def g2(g:En→Rv→Rv→Option Rv):En→List Rv→Option Rv:=fun e xs=>match xs with
  | [x,y]=>g e x y
  | _=>none
theorem jV{r:List V→Hp→VK→Prop}{g:En→Rv→Option Rv}(h:Gf K (fun v H Q=>r [v] H Q) g):gh K r (g1 g):=by
  intro σ H0 F H e xs z vs Q R A hg q
  unfold g1 at hg
  match xs,hg with
  | [x],hg=>
    obtain⟨v,rfl,h1⟩:=kc A
    exact h σ H0 F H e x z v Q R h1 hg q
theorem wj{r:List V→Hp→VK→Prop}{g:En→Rv→Rv→Option Rv}(h:jT K (fun v u H Q=>r [v,u] H Q) g):gh K r (g2 g):=by
  intro σ H0 F H e xs z vs Q R A hg q
  unfold g2 at hg
  match xs,hg with
  | [x,y],hg=>
    obtain⟨v,u,rfl,h1,h2⟩:=r8 A
    exact h σ H0 F H e x y z v u Q R h1 h2 hg q
def ik:En→Rv→Option Rv:=fun e x=>(gW e x).map fun p=>.d (.int p.2.length)
theorem E':gh K (fun xs H Q=>∃p ys,xs=[.ref p]∧(d_ K H p ys∨bX K H p ys)∧Q (.int ys.length) H) (g1 ik):=jV fun σ H0 F H e x z v Q R A hg q=>by
  obtain⟨⟨b,xs⟩,h5,h4⟩:=Option.map_eq_some_iff.mp hg
  obtain⟨p,vs,rfl,d1,s1⟩:=fU R A h5
  cases h4
  refine⟨p,vs,rfl,?_,?_⟩
  · cases b with
    | true=>exact .inl s1
    | false=>exact .inr s1
  · rw [←d1.len]
    exact q F H _ (fB.refl _ _ _ _) R mJ
def uS:En→Rv→Option Rv:=fun _ x=>(bC x).map fun i=>.d (.int (if i < 0 then -i else i))
theorem ES:gh K (fun xs H Q=>∃i,xs=[.int i]∧Q (.int (if i < 0 then -i else i)) H) (g1 uS):=jV fun σ H0 F H e x z v Q R A hg q=>by
  obtain⟨i,h5,h4⟩:=Option.map_eq_some_iff.mp hg
  cases h4
  exact⟨i,by rw [bR A h5],q F H _ (fB.refl _ _ _ _) R mJ⟩
def pV:En→Rv→Option Rv:=fun _ x=>match x with
  | .d (.int i)=>some (.d (.int i))
  | .d (.bool k)=>some (.d (.int (if k then 1 else 0)))
  | _=>none
theorem E7:gh K (fun xs H Q=>(∃i,xs=[.int i]∧Q (.int i) H)∨∃k,xs=[.bl k]∧Q (.int (if k then 1 else 0)) H) (g1 pV):=jV fun σ H0 F H e x z v Q R A hg q=>by
  unfold pV at hg
  split at hg
  · cases hg
    exact .inl ⟨_,by rw [cc.mp (show DA K F (.int _) v from A)],q F H _ (fB.refl _ _ _ _) R mJ⟩
  · cases hg
    exact .inr ⟨_,by rw [gZ.mp (show DA K F (.bool _) v from A)],q F H _ (fB.refl _ _ _ _) R mJ⟩
  · cases hg
def yN:=gI (fun _ _=>true) fun i j=>.int (if j < i then j else i)
def xu:=gI (fun _ _=>true) fun i j=>.int (if j > i then j else i)
theorem Fe:gh K (fun xs H Q=>∃i j,xs=[.int i,.int j]∧Q (.int (if j < i then j else i)) H) (g2 yN):=wj fun σ H0 F H e x y z v u Q R A B hg q=>by
  obtain⟨i,j,h1,h2,h3⟩:=k' (K:=K) (g:=fun i j=>.int (if j < i then j else i)) (fun _ _ _=>cc.mpr rfl) σ H0 F H e x y z v u Q R A B hg q
  exact⟨i,j,by rw [h1,h2],h3⟩
theorem Fd:gh K (fun xs H Q=>∃i j,xs=[.int i,.int j]∧Q (.int (if j > i then j else i)) H) (g2 xu):=wj fun σ H0 F H e x y z v u Q R A B hg q=>by
  obtain⟨i,j,h1,h2,h3⟩:=k' (K:=K) (g:=fun i j=>.int (if j > i then j else i)) (fun _ _ _=>cc.mpr rfl) σ H0 F H e x y z v u Q R A B hg q
  exact⟨i,j,by rw [h1,h2],h3⟩
def cf:En→Rv→Option Rv:=fun e x=>(gW e x).map fun p=>.d (.tuple p.2)
theorem Cd:gh K (fun xs H Q=>∃p ys,xs=[.ref p]∧((d_ K H p ys∧∀l,H l=none→Q (.ref l) (bi H l (.tup ys)))∨(bX K H p ys∧Q (.ref p) H))) (g1 cf):=jV fun σ H0 F H e x z v Q R A hg q=>by
  obtain⟨⟨b,xs⟩,h5,h4⟩:=Option.map_eq_some_iff.mp hg
  obtain⟨p,vs,rfl,d1,s1⟩:=fU R A h5
  cases h4
  refine⟨p,vs,rfl,?_⟩
  cases b with
  | true=>
    refine .inl ⟨s1,fun t ht=>?_⟩
    obtain⟨R4,X4⟩:=R.newT (vs:=vs) ht
    exact q _ _ _ X4 R4 (ej.mpr ⟨t,_,rfl,.inl (.inl aA),d1.mono X4.sf⟩)
  | false=>
    obtain⟨F4,R4,X4,hF⟩:=R.growT (av.refl _) s1
    exact .inr ⟨s1,q _ _ _ X4 R4 (ej.mpr ⟨p,vs,rfl,hF,d1.mono X4.sf⟩)⟩
def sW:List PyData→Option (List Int)
  | []=>some []
  | .int i::r=>(sW r).map (i::·)
  | _=>none
theorem sX:∀{ds:List PyData} {ns:List Int},sW ds=some ns→ds=ns.map .int
  | [],_,h=>by cases h;rfl
  | .int i::r,_,h=>by
    obtain⟨ns,h1,rfl⟩:=Option.map_eq_some_iff.mp h
    rw [sX h1];rfl
theorem qu:∀(ns:List Int),sW (ns.map .int)=some ns
  | []=>rfl
  | i::r=>by simp [sW,qu r]
def i3:En→Rv→Option Rv:=fun e x=>match gW e x with
  | some (false,xs)=>(sW xs).bind fun ns=>if ns.length < 64 then some (.l ((jR ns).map .int)) else none
  | _=>none
def zW(K:PySem.W.Frag):List V→Hp→VK→Prop:=fun xs H Q=>∃(a:Addr) (ns:List Int),xs=[.ref a]∧bX K H a (ns.map V.int)∧ns.length < 64∧∀(l:Addr) (H':Hp),av H H'→H l=none→H' l=some (.lst ((jR ns).map V.int))→Q (.ref l) H'
theorem uM:fH X (.builtin "sorted") (zW X.K):=by
  intro pins s σ H xs us Q I rv h
  obtain⟨a,ns,e1,e2,e3,q⟩:=h
  exact sN pins s σ H xs us Q I rv ⟨a,ns,e1,e2,e3,fun l ns' H' sm hn hl hp hs=>q l H' sm hn (by rw [←Am hp hs];exact hl)⟩
theorem B9:gh K (zW K) (g1 i3):=jV fun σ H0 F H e x z v Q R A hg q=>by
  unfold i3 at hg
  split at hg
  case h_2=>cases hg
  case h_1 xs h5=>
  obtain⟨p,vs,rfl,d1,s1⟩:=fU R A h5
  obtain⟨ns,h6,hg⟩:=Option.bind_eq_some_iff.mp hg
  split at hg
  case isFalse=>cases hg
  case isTrue hl=>
  cases hg
  rw [sX h6] at d1
  have s1':bX K H p vs:=s1
  rw [aL.ints.mp d1] at s1'
  refine⟨p,ns,rfl,s1',hl,fun l H' sm hn hl'=>?_⟩
  obtain⟨R4,X4⟩:=R.same sm
  exact q F H' _ X4 R4 ⟨l,_,rfl,hn,R.freeF hn,hl',aL.ints.mpr rfl,fun z=>R.ownH l ((R.sameOwn sm l).mp z) hn⟩
mutual
def lI:PyData→Bool
  | .tuple ds=>jY ds
  | .list _=>false
  | .dict _=>false
  | _=>true
def jY:List PyData→Bool
  | []=>true
  | d::r=>lI d&&jY r
end
mutual
def k_:PyData→Bool
  | .list _=>false
  | .tuple ds=>lU ds
  | _=>true
def lU:List PyData→Bool
  | []=>true
  | d::r=>k_ d&&lU r
end
theorem pe{h:Heap}:∀{m:List (Int × Int)} {es:List DictEntry} {vs:List (oq × Value)} {P:Program} {w:World},KV (m.map fun p=>((Sum.inl p.1:oq),V.int p.2)) vs→Pairs (rK P w) es vs→
    ReadsAll h (es.map (·.key)) (m.map fun p=>PyData.int p.1) []∧ReadsAll h (es.map (·.val)) (m.map fun p=>PyData.int p.2) []
  | [],es,vs,P,w,r,q=>by
    cases r
    cases q
    exact⟨.nil,.nil⟩
  | p::m,es,vs,P,w,r,q=>by
    rw [List.map_cons] at r
    cases r with
    | @cons a b as bs h1 t=>
      cases q with
      | @cons e kv es' kvs' h2 h3 h4=>
        obtain⟨z1,z2⟩:=h1
        obtain⟨c1,c2⟩:=pe t h4
        obtain⟨tk,z2⟩:=z2
        have k1:yW (Sum.inl p.1) e.key=true:=by
          have:b.1=Sum.inl p.1:=z1.symm
          rw [←this];exact h2
        rcases bx k1 with ⟨i,t',e1,e2⟩ | ⟨x,t',e1,e2⟩
        · cases e1
          refine⟨?_,?_⟩
          · simp only [List.map_cons,e2]
            exact ReadsAll.cons (as:=[]) (bs:=[]) (.int p.1 t') c1
          · simp only [List.map_cons,h3,z2]
            exact ReadsAll.cons (as:=[]) (bs:=[]) (.int p.2 tk) c2
        · cases e1
mutual
theorem DA.readsR{X:Cx}{pins:List (Addr × Obj)}{σ:L2.St}{H:Hp}{s:Shared}(I:aE X pins σ H s):∀{d:PyData} {v:V} {u:Value},DA X.K H d v→bA v u→∃as,Reads s.heap u d as∧(k_ d=true→sysModules∉as)
  | .none,_,_,q,r=>by
    simp only [DA] at q;subst q;cases r;exact⟨_,.none,fun _=>by simp⟩
  | .bool b,_,_,q,r=>by
    simp only [DA] at q;subst q;cases r;exact⟨_,.bool b,fun _=>by simp⟩
  | .int i,_,_,q,r=>by
    simp only [DA] at q;subst q;obtain⟨t,rfl⟩:=r;exact⟨_,.int i t,fun _=>by simp⟩
  | .str x,_,_,q,r=>by
    simp only [DA] at q;subst q;obtain⟨t,rfl⟩:=r;exact⟨_,.str x t,fun _=>by simp⟩
  | .tuple ds,_,_,q,r=>by
    simp only [DA] at q
    obtain⟨a,xs,e,hs,rr⟩:=q
    subst e;cases r
    obtain⟨its,rv,⟨o,ho,hc,n,hd⟩,hz⟩:=I.tuple hs
    obtain⟨as,q,z⟩:=aL.readsR I rr rv
    exact⟨_,.tuple ho hc hd q,fun c=>z (by simpa [k_] using c)⟩
  | .list ds,_,_,q,r=>by
    simp only [DA] at q
    obtain⟨a,xs,e,hs,rr⟩:=q
    subst e;cases r
    obtain⟨its,rv,ht,hz⟩:=I.list hs
    obtain⟨o,ho,hc,n,hd⟩:=ht.isList
    obtain⟨as,q,z⟩:=aL.readsR I rr rv
    exact⟨_,.list ho hc hd q,fun c=>by simp [k_] at c⟩
  | .dict kvs,_,_,q,r=>by
    simp only [DA] at q
    obtain⟨a,m,e,hs,rfl⟩:=q
    subst e;cases r
    obtain⟨_,hS,vs,kv,o,es,ep,ho,hx,hd,_,hp,_⟩:=(show gX X.prog X.w H s.heap a (.dK (m.map fun p=>(Sum.inl p.1,V.int p.2))) from I.hok a _ hs)
    obtain⟨c1,c2⟩:=pe (h:=s.heap) kv hp
    refine⟨_,Reads.dict (as:=[]) (bs:=[]) ho hx.1 hd ?_ ?_,fun _=>?_⟩
    · rw [List.map_map];exact c1
    · rw [List.map_map];exact c2
    · have:a≠sysModules:=by simpa using hS
      simpa using this.symm
theorem aL.readsR{X:Cx}{pins:List (Addr × Obj)}{σ:L2.St}{H:Hp}{s:Shared}(I:aE X pins σ H s):∀{ds:List PyData} {xs:List V} {us:List Value},aL X.K H ds xs→aM xs us→∃as,ReadsAll s.heap us ds as∧(lU ds=true→sysModules∉as)
  | [],_,_,q,r=>by
    simp only [aL] at q;subst q;cases r;exact⟨_,.nil,fun _=>by simp⟩
  | d::ds,_,_,q,r=>by
    simp only [aL] at q
    obtain⟨x,rr,e,a,b⟩:=q
    subst e
    cases r with
    | cons p p'=>
      obtain⟨as,q1,z1⟩:=DA.readsR I a p
      obtain⟨bs,q2,z2⟩:=aL.readsR I b p'
      refine⟨_,.cons q1 q2,fun c=>?_⟩
      simp only [lU,Bool.and_eq_true] at c
      intro z
      rcases List.mem_append.mp z with z | z
      · exact z1 c.1 z
      · exact z2 c.2 z
end
def l_(d:PyData):Bool:=(lI d || (!d.hasDict || k_ d))&&d.showable&&decide (d.depth≤60)&&decide (d.shown.length≤sizeLine)
def nj:En→Rv→Option Rv:=fun _ x=>match x with
  | .d d=>if l_ d=true then some (.d (.str d.shown)) else none
  | _=>none
def zV(K:PySem.W.Frag):List V→Hp→VK→Prop:=fun xs H Q=>∃x d,xs=[x]∧DA K H d x∧(d.hasDict=true→k_ d=true)∧d.showable=true∧d.depth≤60∧d.shown.length≤sizeLine∧Q (.str d.shown) H
mutual
theorem ng:∀(d:PyData),lI d=true→d.hasDict=false
  | .none,_=>rfl
  | .bool _,_=>rfl
  | .int _,_=>rfl
  | .str _,_=>rfl
  | .tuple ds,h=>by simp only [PyData.hasDict];exact lJ ds (by simpa [lI] using h)
  | .list ds,h=>by simp [lI] at h
  | .dict _,h=>by simp [lI] at h
theorem lJ:∀(ds:List PyData),jY ds=true→PyData.hasDictAll ds=false
  | [],_=>rfl
  | d::r,h=>by
    simp only [jY,Bool.and_eq_true] at h
    simp only [PyData.hasDictAll,ng d h.1,lJ r h.2,Bool.or_self]
end
theorem uL{X:Cx}{k:Nat}(hr:ee k X.A):fH X (.builtin "repr") (zV X.K):=by
  intro pins s σ H xs us Q I r h
  obtain⟨x,d,rfl,ha,hdl,hsh,hdp,hsz,q⟩:=h
  obtain⟨u,rfl,ru⟩:∃u,us=[u]∧bA x u:=by
    cases r with
    | cons p p'=>cases p';exact⟨_,rfl,p⟩
  have hun:=hr.un
  obtain⟨as,rd,hm⟩:=DA.readsR I ha ru
  have fin:∀a,u=.ref a→wpAny (model X.prog X.w) X.A (call (.builtin "repr") [u]) (EP X pins σ Q) X.xe s:=fun a e=>by
    subst e
    exact repr_of_reads' rd hsh (fun z=>hm (hdl z)) hr.gd (by lia) (fun _ _ e=>e) (fun h' u tk hk=>⟨.str _,H,I.kept hk,⟨_,rfl⟩,q⟩) hsz
  cases d with
  | none=>simp only [DA] at ha;subst ha;cases ru;exact P.repr_of_none ⟨.str _,H,I.tok _,⟨_,rfl⟩,q⟩
  | bool b=>simp only [DA] at ha;subst ha;cases ru;exact P.repr_of_bool ⟨.str _,H,I.tok _,⟨_,rfl⟩,q⟩
  | int i=>
    simp only [DA] at ha;subst ha;obtain⟨t,rfl⟩:=ru
    simp only [PyData.showable,decide_eq_true_eq] at hsh
    exact P.repr_of_int hsh ⟨.str _,H,I.tok _,⟨_,rfl⟩,q⟩
  | str y=>simp only [DA] at ha;subst ha;obtain⟨t,rfl⟩:=ru;exact P.repr_of_str ⟨.str _,H,I.tok _,⟨_,rfl⟩,q⟩ hsz
  | list ds=>obtain⟨a,_,e,_⟩:=cP.mp ha;subst e;exact fin a ru
  | dict ds=>simp only [DA] at ha;obtain⟨a,_,e,_⟩:=ha;subst e;exact fin a ru
  | tuple ds=>obtain⟨a,_,e,_⟩:=ej.mp ha;subst e;exact fin a ru
theorem El:gh K (zV K) (g1 nj):=jV fun σ H0 F H e x z v Q R A hg q=>by
  unfold nj at hg
  split at hg
  case h_2=>cases hg
  case h_1 d=>
  split at hg
  case isFalse=>cases hg
  case isTrue hl=>
  cases hg
  unfold l_ at hl
  rw [Bool.and_eq_true,Bool.and_eq_true,Bool.and_eq_true,decide_eq_true_iff,decide_eq_true_iff] at hl
  refine⟨v,d,rfl,DA.mono R.sm A,fun z=>?_,hl.1.1.2,hl.1.2,hl.2,q F H _ (fB.refl _ _ _ _) R ((Di (K:=K) (F:=F)).mpr rfl)⟩
  have c:=hl.1.1.1
  cases hf:lI d with
  | true=>rw [ng d hf] at z;cases z
  | false=>rw [hf,z] at c;simpa using c
end
end L2
namespace L2
open PySem PySem.Spec PyProof.Rows
section
variable{K:PySem.W.Frag}{σ:L2.St}{H0 F H F' H':Hp}{e e':En}
theorem a8.upd1(R:a8 K F H σ e){σ':L2.St}(i:Nat)(hl:σ'.length=e'.length)(hσ:∀j,j≠i→σ'[j]?=σ[j]?)(he:∀j,j≠i→e'[j]?=e[j]?)(sF:av F F')(sm:av F' H')(hf:∀j a,j≠i→Fp σ e H j a→F' a=none)
    (hh:∀j a o,j≠i→Fp σ e H j a→H a=some o→H' a=some o)(hd:∀x,e'[i]?=some (some (.d x))→∃v,σ'[i]?=some (some v)∧DA K F' x v)
    (ho:∀xs,e'[i]?=some (some (.l xs))→∃l vs,σ'[i]?=some (some (.ref l))∧F' l=none∧H' l=some (.lst vs)∧aL K F' xs vs)
    (hn:∀xss,e'[i]?=some (some (.n xss))→∃(l:Addr) (bs:List Addr),σ'[i]?=some (some (.ref l))∧F' l=none∧H' l=some (.lst (bs.map V.ref))∧bs.length=xss.length∧bs.Nodup∧l∉bs∧
      ∀(k:Nat) (b:Addr) (ys:List PyData),bs[k]?=some b→xss[k]?=some ys→F' b=none∧∃us,H' b=some (.lst us)∧aL K F' ys us)
    (hi:∀a j,j≠i→Fp σ' e' H' i a→¬Fp σ e H j a):a8 K F' H' σ' e'∧∀j a,j≠i→(Fp σ' e' H' j a↔ Fp σ e H j a):=by
  have fs:∀j a,j≠i→(Fp σ' e' H' j a↔ Fp σ e H j a):=by
    intro j a hj
    have key:∀xss l,e[j]?=some (some (.n xss))→σ[j]?=some (some (.ref l))→H' l=H l:=fun xss l h1 h2=>by
      obtain⟨l',bs,g1,g2,g3,_⟩:=R.nst j xss h1
      rw [h2] at g1;cases g1
      rw [g3]
      exact hh j l _ hj (.inr ⟨xss,l,bs,h1,h2,g3,.inl rfl⟩) g3
    unfold Fp
    rw [he j hj,hσ j hj]
    constructor
    · rintro(h1 | ⟨xss,l,bs,h1,h2,h3,h4⟩)
      · exact .inl h1
      · exact .inr ⟨xss,l,bs,h1,h2,by rw [←key xss l h1 h2];exact h3,h4⟩
    · rintro(h1 | ⟨xss,l,bs,h1,h2,h3,h4⟩)
      · exact .inl h1
      · exact .inr ⟨xss,l,bs,h1,h2,by rw [key xss l h1 h2];exact h3,h4⟩
  refine⟨⟨sm,hl,fun j x q=>?_,fun j xs q=>?_,fun j xss q=>?_,fun j k a q1 q2=>?_⟩,fs⟩
  · by_cases z:j=i
    · subst z;exact hd x q
    · rw [he j z] at q
      obtain⟨v,h1,h2⟩:=R.dat j x q
      exact⟨v,by rw [hσ j z];exact h1,DA.mono sF h2⟩
  · by_cases z:j=i
    · subst z;exact ho xs q
    · rw [he j z] at q
      obtain⟨l,vs,h1,h2,h3,h4⟩:=R.own j xs q
      have o:Fp σ e H j l:=.inl ⟨xs,q,h1⟩
      exact⟨l,vs,by rw [hσ j z];exact h1,hf j l z o,hh j l _ z o h3,h4.mono sF⟩
  · by_cases z:j=i
    · subst z;exact hn xss q
    · rw [he j z] at q
      obtain⟨l,bs,h1,h2,h3,h4,h5,h6,h7⟩:=R.nst j xss q
      have o:Fp σ e H j l:=.inr ⟨xss,l,bs,q,h1,h3,.inl rfl⟩
      refine⟨l,bs,by rw [hσ j z];exact h1,hf j l z o,hh j l _ z o h3,h4,h5,h6,fun k b ys g1 g2=>?_⟩
      obtain⟨c1,us,c2,c3⟩:=h7 k b ys g1 g2
      have ob:Fp σ e H j b:=.inr ⟨xss,l,bs,q,h1,h3,.inr (List.mem_of_getElem? g1)⟩
      exact⟨hf j b z ob,us,hh j b _ z ob c2,c3.mono sF⟩
  · by_cases zj:j=i
    · subst zj
      by_cases zk:k=j
      · exact zk.symm
      · exact absurd ((fs k a zk).mp q2) (hi a k zk q1)
    · by_cases zk:k=i
      · subst zk
        exact absurd ((fs j a zj).mp q1) (hi a j zj q2)
      · exact R.fp j k a ((fs j a zj).mp q1) ((fs k a zk).mp q2)
theorem a8.putL(R:a8 K F H σ e){i:Nat}{xs ys:List PyData}{l:Addr}{vs:List V}(hi:e[i]?=some (some (.l xs)))(hl:σ[i]?=some (some (.ref l)))(hd:aL K F ys vs):
    a8 K F (bi H l (.lst vs)) σ (e.set i (some (.l ys)))∧fB σ F H e F (bi H l (.lst vs)) (e.set i (some (.l ys))):=by
  obtain⟨l',vs',h1,h2,h3,h4⟩:=R.own i xs hi
  rw [hl] at h1;cases h1
  have hlt:i < e.length:=(List.getElem?_eq_some_iff.mp hi).1
  have fi:Fp σ e H i l:=.inl ⟨xs,hi,hl⟩
  have gi:(e.set i (some (Sv.l ys)))[i]?=some (some (.l ys)):=List.getElem?_set_self hlt
  obtain⟨R',fs⟩:=R.upd1 (F':=F) (H':=bi H l (.lst vs)) (e':=e.set i (some (.l ys))) i (by rw [List.length_set];exact R.len) (fun _ _=>rfl) (fun j hj=>List.getElem?_set_ne (Ne.symm hj)) (av.refl F)
    (fun b o q=>by
      have z:b≠l:=fun z=>by rw [z,h2] at q;cases q
      rw [au z];exact R.sm b o q)
    (fun j a _ q=>(R.fpAt q).1)
    (fun j a o hj q ha=>by
      have z:a≠l:=fun z=>hj (R.fp j i a q (by rw [z];exact fi))
      rw [au z];exact ha)
    (fun x q=>by rw [gi] at q;cases q) (fun zs q=>by rw [gi] at q;cases q;exact⟨l,vs,hl,h2,aA,hd⟩) (fun xss q=>by rw [gi] at q;cases q)
    (fun a j hj q q2=>by
      rcases q with ⟨zs,_,q⟩ | ⟨xss,_,_,q,_⟩
      · rw [hl] at q;cases q
        exact hj (R.fp j i _ q2 fi)
      · rw [gi] at q;cases q)
  refine⟨R',⟨av.refl _,fun a q=>?_,fun _ _ q _ _=>q,fun a ws q=>?_,fun a o q n=>?_,fun j=>?_,fun a ⟨j,q⟩=>?_⟩⟩
  · by_cases z:a=l
    · rw [z,aA] at q;cases q
    · rw [au z] at q;exact q
  · by_cases z:a=l
    · rw [z];exact⟨vs,aA⟩
    · rw [au z];exact⟨ws,q⟩
  · have z:a≠l:=fun z=>n ⟨i,by rw [z];exact fi⟩
    rw [au z];exact q
  · by_cases z:j=i
    · subst z;rw [gi];exact⟨fun _=>⟨xs,hi⟩,fun _=>⟨ys,rfl⟩⟩
    · rw [List.getElem?_set_ne (Ne.symm z)]
  · by_cases z:j=i
    · subst z
      rcases q with ⟨zs,_,q⟩ | ⟨xss,_,_,q,_⟩
      · rw [hl] at q;cases q;exact .inl ⟨j,fi⟩
      · rw [gi] at q;cases q
    · exact .inl ⟨j,(fs j a z).mp q⟩
theorem a8.setD(R:a8 K F H σ e)(i:Nat){x:PyData}{v:V}(h:DA K F x v):a8 K F H (σ.set i (some v)) (e.set i (some (.d x)))∧∀a,dn (σ.set i (some v)) (e.set i (some (.d x))) H a→dn σ e H a:=by
  have gi:∀s,(e.set i (some (Sv.d x)))[i]?=some (some s)→s=.d x∧i < e.length:=fun s q=>by
    have hlt:i < e.length:=by have:=(List.getElem?_eq_some_iff.mp q).1;simpa using this
    rw [List.getElem?_set_self hlt] at q
    exact⟨(Option.some.inj (Option.some.inj q)).symm,hlt⟩
  have nofp:∀a,¬Fp (σ.set i (some v)) (e.set i (some (.d x))) H i a:=fun a q=>by
    rcases q with ⟨zs,q,_⟩ | ⟨xss,_,_,q,_⟩
    · cases (gi _ q).1
    · cases (gi _ q).1
  obtain⟨R',fs⟩:=R.upd1 (F':=F) (H':=H) (σ':=σ.set i (some v)) (e':=e.set i (some (.d x))) i (by rw [List.length_set,List.length_set];exact R.len) (fun j hj=>List.getElem?_set_ne (Ne.symm hj)) (fun j hj=>List.getElem?_set_ne (Ne.symm hj)) (av.refl F) R.sm
    (fun j a _ q=>(R.fpAt q).1) (fun j a o _ _ ha=>ha)
    (fun y q=>by
      obtain⟨z,hlt⟩:=gi _ q
      cases z
      exact⟨v,List.getElem?_set_self (by rw [R.len];exact hlt),h⟩)
    (fun zs q=>by cases (gi _ q).1) (fun xss q=>by cases (gi _ q).1) (fun a j hj q=>absurd q (nofp a))
  refine⟨R',fun a ⟨j,q⟩=>?_⟩
  by_cases z:j=i
  · subst z;exact absurd q (nofp a)
  · exact⟨j,(fs j a z).mp q⟩
theorem a8.setL(R:a8 K F H σ e)(i:Nat){xs:List PyData}{l:Addr}{vs:List V}(h1:F l=none)(h2:H l=some (.lst vs))(h3:aL K F xs vs)(h4:¬dn σ e H l):a8 K F H (σ.set i (some (.ref l))) (e.set i (some (.l xs)))∧∀a,dn (σ.set i (some (.ref l))) (e.set i (some (.l xs))) H a→dn σ e H a∨a=l:=by
  have gi:∀s,(e.set i (some (Sv.l xs)))[i]?=some (some s)→s=.l xs∧i < e.length:=fun s q=>by
    have hlt:i < e.length:=by have:=(List.getElem?_eq_some_iff.mp q).1;simpa using this
    rw [List.getElem?_set_self hlt] at q
    exact⟨(Option.some.inj (Option.some.inj q)).symm,hlt⟩
  have onefp:∀a,Fp (σ.set i (some (.ref l))) (e.set i (some (.l xs))) H i a→a=l:=fun a q=>by
    rcases q with ⟨zs,q,q2⟩ | ⟨xss,_,_,q,_⟩
    · obtain⟨_,hlt⟩:=gi _ q
      rw [List.getElem?_set_self (by rw [R.len];exact hlt)] at q2
      cases q2;rfl
    · cases (gi _ q).1
  obtain⟨R',fs⟩:=R.upd1 (F':=F) (H':=H) (σ':=σ.set i (some (.ref l))) (e':=e.set i (some (.l xs))) i (by rw [List.length_set,List.length_set];exact R.len) (fun j hj=>List.getElem?_set_ne (Ne.symm hj)) (fun j hj=>List.getElem?_set_ne (Ne.symm hj)) (av.refl F) R.sm
    (fun j a _ q=>(R.fpAt q).1) (fun j a o _ _ ha=>ha) (fun y q=>by cases (gi _ q).1)
    (fun zs q=>by
      obtain⟨z,hlt⟩:=gi _ q
      cases z
      exact⟨l,vs,List.getElem?_set_self (by rw [R.len];exact hlt),h1,h2,h3⟩)
    (fun xss q=>by cases (gi _ q).1) (fun a j hj q q2=>h4 ⟨j,by rw [onefp a q] at q2;exact q2⟩)
  refine⟨R',fun a ⟨j,q⟩=>?_⟩
  by_cases z:j=i
  · subst z;exact .inr (onefp a q)
  · exact .inl ⟨j,(fs j a z).mp q⟩
end
section
variable{X:Cx}{K:PySem.W.Frag}{o a:Expr}{es:List Expr}{fo:FE}{fs:FA}{name:Str}{apos cpos:Pos}{id:String}
def vX(K:PySem.W.Frag)(r:V→List V→Hp→VK→Prop)(g:List PyData→List PyData→Option (PyData × List PyData)):Prop:=
  ∀(F H:Hp) (l:Addr) (xs ys ds:List PyData) (z:PyData) (vs us:List V) (Q:VK),F l=none→av F H→H l=some (.lst vs)→aL K F xs vs→aL K F ds us→g xs ds=some (z,ys)→
    (∀w ws,DA K F z w→aL K F ys ws→Q w (bi H l (.lst ws)))→r (.ref l) us H Q
def bZ(g:List PyData→List PyData→Option (PyData × List PyData))(fo:FE)(fs:FA):FE:=fun e=>(fo e).bind fun p=>match p.1 with
  | .s i=>(fs p.2).bind fun q=>(gp q.1).bind fun ds=>match q.2[i]? with
    | some (some (.l xs))=>(g xs ds).map fun z=>(.d z.1,q.2.set i (some (.l z.2)))
    | _=>none
  | _=>none
theorem Ay{r:V→List V→Hp→VK→Prop}{g:List PyData→List PyData→Option (PyData × List PyData)}(hm:vX K r g){σ:L2.St}{H:Hp}{Q:VK}(h:fE K (bZ g fo fs) σ H Q):G' K "list" r (fE K fo) (fA K fs) σ H Q:=by
  obtain⟨F,e,z,e',R,hf,q⟩:=h
  unfold bZ at hf
  obtain⟨⟨x,e1⟩,h1,hf⟩:=Option.bind_eq_some_iff.mp hf
  match x,h1,hf with
  | .s i,h1,hf=>
  dsimp only at hf
  obtain⟨⟨rs,e2⟩,h2,hf⟩:=Option.bind_eq_some_iff.mp hf
  obtain⟨ds,h3,hf⟩:=Option.bind_eq_some_iff.mp hf
  refine⟨F,e,_,e1,R,h1,fun F1 H1 v X1 R1 A1=>?_⟩
  obtain⟨g1,zs,g2⟩:=A1
  obtain⟨l,vs,c1,c2,c3,c4⟩:=R1.own i zs g2
  rw [g1] at c1;cases c1
  refine⟨.inl ⟨rfl,vs,.inl (.inl c3)⟩,F1,e1,rs,e2,R1,h2,fun F2 H2 us X2 R2 A2=>?_⟩
  match h4:e2[i]?,hf with
  | some (some (.l xs)),hf=>
  dsimp only at hf
  obtain⟨⟨zd,ys⟩,h5,hf⟩:=Option.map_eq_some_iff.mp hf
  cases hf
  obtain⟨F3,R3,s3,d3,f3⟩:=cV.frozen R2 A2 h3
  obtain⟨l',vs',k1,k2,k3,k4⟩:=R3.own i xs h4
  rw [g1] at k1;cases k1
  refine hm F3 H2 l xs ys ds zd vs' us Q k2 R3.sm k3 k4 d3 h5 fun w ws hw hws=>?_
  obtain⟨R4,X4⟩:=R3.putL h4 g1 hws
  exact q _ _ _ ((X1.trans (X2.frz s3 f3)).trans X4) R4 hw
theorem CV{r:V→List V→Hp→VK→Prop}{g:List PyData→List PyData→Option (PyData × List PyData)}(slot:Slot "list" name id)(hty:typeOf (.builtin id)=pure (.type "method_descriptor"))(hm:G5 X id r)(hf:vX X.K r g)(ho:PE X o (fE X.K fo))(ha:PA X (a::es) (fA X.K fs))
    (hbase:attributeBase o name X.env (eval o X.env)=eval o X.env)
    (hfew:((backTo cpos (starEach (a::es) X.env)).all (fun x=> !x.1)&&(backToKw cpos (keywordEach [] X.env)).all (fun x=>x.1.isSome)
      &&decide ((a::es).length+([]:List Keyword).length+(if ([]:List Keyword).isEmpty then 0 else 1) < 30))=true)
    (hline:(apos.endLine==cpos.line)=true)(hs:starEach (a::es) X.env=(false,eval a X.env)::starEach es X.env)(hplain:(backTo cpos (starEach es X.env)).any (·.1)=false):
    PE X (.Call (.Attribute o name apos) (a::es) [] cpos) (fE X.K (bZ g fo fs)):=(zr PySem.F.plainAttrs_list slot hty hm ho ha hbase hfew hline hs hplain).mono fun _ _ _ h=>Ay hf h
def br:List PyData→List PyData→Option (PyData × List PyData):=fun xs ds=>match ds with
  | [d]=>if xs.length < 1000000 then some (.none,xs++[d]) else none
  | _=>none
theorem yo:vX K wJ br:=by
  intro F H l xs ys ds z vs us Q hF sm hl d1 d2 hg q
  unfold br at hg
  match ds,hg,d2 with
  | [d],hg,d2=>
    simp only [aL] at d2
    obtain⟨w,r,rfl,hw,rfl⟩:=d2
    dsimp only at hg
    split at hg
    case isFalse=>cases hg
    case isTrue hlt=>
    cases hg
    have:=d1.len
    have sl:sizeLine=16777216:=sizeLine_eq
    exact⟨l,vs,w,rfl,rfl,hl,by lia,q _ _ (nW.mpr rfl) (d1.append (aL.one hw))⟩
def tD:List PyData→List PyData→Option (PyData × List PyData):=fun xs ds=>match ds with
  | []=>(xs[xs.length - 1]?).map fun d=>(d,xs.dropLast)
  | _=>none
def dJ:List PyData→List PyData→Option (PyData × List PyData):=fun xs ds=>match ds with
  | [.int i]=>if 0≤i∧i < 1000000000 then(xs[i.toNat]?).map fun d=>(d,xs.eraseIdx i.toNat) else none
  | _=>none
theorem BQ:vX K zT dJ:=by
  intro F H l xs ys ds z vs us Q hF sm hl d1 d2 hg q
  unfold dJ at hg
  match ds,hg,d2 with
  | [.int i],hg,d2=>
    simp only [aL,DA] at d2
    obtain⟨w,r,rfl,rfl,rfl⟩:=d2
    dsimp only at hg
    split at hg
    case isFalse=>cases hg
    case isTrue hlt=>
    obtain⟨d,h1,h2⟩:=Option.map_eq_some_iff.mp hg
    cases h2
    obtain⟨v,g1,g2⟩:=d1.get h1
    have hlt2:i.toNat < vs.length:=(List.getElem?_eq_some_iff.mp g1).1
    exact⟨l,vs,i,i.toNat,v,rfl,rfl,hl,by lia,by lia,seqIndex_of hlt.1 (by lia),g1,q _ _ g2 (d1.erase _)⟩
end
end L2
namespace L2
open PySem PySem.Spec PyProof.Rows
inductive Fl where
  | nx (e:En)
  | bk (e:En)
  | ct (e:En)
  | rt (r:Rv) (e:En)
abbrev FS:=En→Option Fl
structure ed (W:List Nat) (σ:L2.St) (F H:Hp) (e:En) (σ':L2.St) (F' H':Hp) (e':En):Prop where
  sf:av F F'
  dom:∀a,H' a=none→H a=none
  fr:∀a vs,F a=none→H a=some (.lst vs)→¬dn σ e H a→F' a=none
  lst:∀a vs,H a=some (.lst vs)→∃vs',H' a=some (.lst vs')
  tmp:∀a o,H a=some o→¬dn σ e H a→H' a=some o
  own:∀a,dn σ' e' H' a→dn σ e H a∨H a=none
  wr:∀j,j∉W→σ'[j]?=σ[j]?
section
variable{K:PySem.W.Frag}{W W1 W2:List Nat}{σ σ1 σ2 σ':L2.St}{H0 F H F1 H1 F2 H2 F' H':Hp}{e e1 e2 e':En}
theorem ed.refl:ed W σ F H e σ F H e:=⟨av.refl _,fun _ h=>h,fun _ _ h _ _=>h,fun _ vs h=>⟨vs,h⟩,fun _ _ h _=>h,fun _ h=>.inl h,fun _ _=>rfl⟩
theorem fB.s(x:fB σ F H e F' H' e'):ed W σ F H e σ F' H' e':=⟨x.sf,x.dom,x.fr,x.lst,x.tmp,x.ow,fun _ _=>rfl⟩
theorem ed.trans(x:ed W σ F H e σ1 F1 H1 e1)(y:ed W σ1 F1 H1 e1 σ2 F2 H2 e2):ed W σ F H e σ2 F2 H2 e2:=
  ⟨x.sf.trans y.sf,fun a h=>x.dom a (y.dom a h),fun a vs h n no=>let ⟨vs',q⟩:=x.lst a vs n;y.fr a vs' (x.fr a vs h n no) q (fun z=>(x.own a z).elim no fun z=>by rw [n] at z;cases z),fun a vs h=>let ⟨vs',q⟩:=x.lst a vs h;y.lst a vs' q,
    fun a o h n=>y.tmp a o (x.tmp a o h n) (fun z=>(x.own a z).elim n fun z=>by rw [h] at z;cases z),
    fun a h=>(y.own a h).elim (x.own a) (fun z=>.inr (x.dom a z)),
    fun j h=>(y.wr j h).trans (x.wr j h)⟩
theorem ed.mono(x:ed W1 σ F H e σ' F' H' e')(h:∀j,j∈W1→j∈W):ed W σ F H e σ' F' H' e':=⟨x.sf,x.dom,x.fr,x.lst,x.tmp,x.own,fun j n=>x.wr j fun z=>n (h j z)⟩
end
def oF(K:PySem.W.Frag)(W:List Nat)(σ:L2.St)(F H:Hp)(e:En)(D:uC):Fl→Prop
  | .nx e'=>∀F' H' σ',ed W σ F H e σ' F' H' e'→a8 K F' H' σ' e'→D.nx σ' H'
  | .bk e'=>∀F' H' σ',ed W σ F H e σ' F' H' e'→a8 K F' H' σ' e'→D.bk σ' H'
  | .ct e'=>∀F' H' σ',ed W σ F H e σ' F' H' e'→a8 K F' H' σ' e'→D.ct σ' H'
  | .rt r e'=>∀F' H' σ' v,ed W σ F H e σ' F' H' e'→a8 K F' H' σ' e'→cz K σ' H F' H' e' r v→D.rt v H'
def fS(K:PySem.W.Frag)(f:FS)(W:List Nat):TS:=fun D σ H=>∃F e fl,a8 K F H σ e∧f e=some fl∧oF K W σ F H e D fl
theorem PS.mono{X:Cx}{st:Stmt}{t t':TS}(h:PS X st t)(m:∀D σ H,t' D σ H→t D σ H):PS X st t':=fun pins s σ H D I q=>h pins s σ H D I (m D σ H q)
theorem nJ.mono{X:Cx}{st:List Stmt}{t t':TS}(h:nJ X st t)(m:∀D σ H,t' D σ H→t D σ H):nJ X st t':=fun pins s σ H D I q=>h pins s σ H D I (m D σ H q)
theorem oF.later{K:PySem.W.Frag}{W W1 W2:List Nat}{σ σ1:L2.St}{F H F1 H1:Hp}{e e1:En}{D:uC}{fl:Fl}(h:oF K W σ F H e D fl)(x:ed W1 σ F H e σ1 F1 H1 e1)(h1:∀j,j∈W1→j∈W)(h2:∀j,j∈W2→j∈W):oF K W2 σ1 F1 H1 e1 D fl:=by
  cases fl with
  | nx e'=>exact fun F' H' σ' y R=>h F' H' σ' ((x.mono h1).trans (y.mono h2)) R
  | bk e'=>exact fun F' H' σ' y R=>h F' H' σ' ((x.mono h1).trans (y.mono h2)) R
  | ct e'=>exact fun F' H' σ' y R=>h F' H' σ' ((x.mono h1).trans (y.mono h2)) R
  | rt r e'=>exact fun F' H' σ' v y R A=>h F' H' σ' v ((x.mono h1).trans (y.mono h2)) R (A.weak x.dom)
section
variable{X:Cx}{K:PySem.W.Frag}{W W1 W2:List Nat}{st:Stmt}{jj:List Stmt}{f g:FS}{a b:Expr}{fa:FE}{ft:FT}{pos:Pos}
def eC:FS:=fun e=>some (.nx e)
def ay(f g:FS):FS:=fun e=>(f e).bind fun fl=>match fl with
  | .nx e1=>g e1
  | fl=>some fl
theorem ck:nJ X [] (fS K eC []):=BU.mono fun D σ H h=>by
  obtain⟨F,e,fl,R,hf,q⟩:=h
  cases hf
  exact q F H σ ed.refl R
theorem af(h1:PS X st (fS K f W1))(h2:nJ X jj (fS K g W2)):nJ X (st::jj) (fS K (ay f g) (W1++W2)):=(zK h1 h2).mono fun D σ H h=>by
  obtain⟨F,e,fl,R,hf,q⟩:=h
  unfold ay at hf
  obtain⟨fl1,h1,hf⟩:=Option.bind_eq_some_iff.mp hf
  have s1:∀j,j∈W1→j∈W1++W2:=fun j h=>List.mem_append.mpr (.inl h)
  have s2:∀j,j∈W2→j∈W1++W2:=fun j h=>List.mem_append.mpr (.inr h)
  refine⟨F,e,fl1,R,h1,?_⟩
  cases fl1 with
  | nx e1=>exact fun F' H' σ' x R'=>⟨F',e1,fl,R',hf,q.later x s1 s2⟩
  | bk e1=>cases hf;exact fun F' H' σ' x R'=>q F' H' σ' (x.mono s1) R'
  | ct e1=>cases hf;exact fun F' H' σ' x R'=>q F' H' σ' (x.mono s1) R'
  | rt r e1=>cases hf;exact fun F' H' σ' v x R' A=>q F' H' σ' v (x.mono s1) R' A
theorem am(h1:PS X st (fS K f W)):nJ X [st] (fS K f W):=BV h1
def cO(fa:FE):FS:=fun e=>(fa e).map fun p=>.nx p.2
theorem dU(he:PE X a (fE K fa))(hs:swapsWith a none pos.line X.env=pure false):PS X (.Expr a pos) (fS K (cO fa) []):=(BS he hs).mono fun D σ H h=>by
  obtain⟨F,e,fl,R,hf,q⟩:=h
  obtain⟨⟨x,e1⟩,h1,hf⟩:=Option.map_eq_some_iff.mp hf
  cases hf
  exact⟨F,e,x,e1,R,h1,fun F1 H1 v X1 R1 A1=>q F1 H1 σ X1.s R1⟩
def bo(fa:FE):FS:=fun e=>(fa e).map fun p=>.rt p.1 p.2
theorem aG(he:PE X a (fE K fa)):PS X (.Return (some a) pos) (fS K (bo fa) []):=(DY he).mono fun D σ H h=>by
  obtain⟨F,e,fl,R,hf,q⟩:=h
  obtain⟨⟨x,e1⟩,h1,hf⟩:=Option.map_eq_some_iff.mp hf
  cases hf
  exact⟨F,e,x,e1,R,h1,fun F1 H1 v X1 R1 A1=>q F1 H1 σ v X1.s R1 A1⟩
def kD(ft:FT)(f g:FS):FS:=fun e=>(ft e).bind fun p=>if p.1=true then f p.2 else g p.2
theorem gH{c:Expr}{bs cs:List Stmt}(hc:PT X c (fT K ft))(ha:nJ X bs (fS K f W1))(hb:nJ X cs (fS K g W2)):PS X (.If c bs cs pos) (fS K (kD ft f g) (W1++W2)):=(Fu hc ha hb).mono fun D σ H h=>by
  obtain⟨F,e,fl,R,hf,q⟩:=h
  unfold kD at hf
  obtain⟨⟨x,e1⟩,h1,hf⟩:=Option.bind_eq_some_iff.mp hf
  refine⟨F,e,x,e1,R,h1,fun F1 H1 X1 R1=>?_⟩
  cases x with
  | true=>exact⟨F1,e1,fl,R1,hf,q.later (W1:=[]) X1.s (fun j h=>by cases h) fun j h=>List.mem_append.mpr (.inl h)⟩
  | false=>exact⟨F1,e1,fl,R1,hf,q.later (W1:=[]) X1.s (fun j h=>by cases h) fun j h=>List.mem_append.mpr (.inr h)⟩
def p6(i:Nat)(r:Rv)(e:En):Option En:=match r with
  | .d x=>some (e.set i (some (.d x)))
  | .l xs=>some (e.set i (some (.l xs)))
  | .s _=>none
theorem zL{σ:L2.St}{H F H1 F1:Hp}{e e1 e2:En}{i:Nat}{r:Rv}{v:V}(R:a8 K F H σ e)(X1:fB σ F H e F1 H1 e1)(R1:a8 K F1 H1 σ e1)(A1:cz K σ H F1 H1 e1 r v)(h:p6 i r e1=some e2):
    ed [i] σ F H e (σ.set i (some v)) F1 H1 e2∧a8 K F1 H1 (σ.set i (some v)) e2:=by
  have wr:∀j,j∉[i]→(σ.set i (some v))[j]?=σ[j]?:=fun j n=>List.getElem?_set_ne (fun z=>n (by simp [z]))
  cases r with
  | d x=>
    cases h
    obtain⟨R2,o2⟩:=R1.setD i A1
    exact⟨⟨X1.sf,X1.dom,X1.fr,X1.lst,X1.tmp,fun a h=>X1.ow a (o2 a h),wr⟩,R2⟩
  | l xs=>
    cases h
    obtain⟨l,vs,rfl,h1,h2,h3,h4,h5⟩:=A1
    obtain⟨R2,o2⟩:=R1.setL i h2 h3 h4 h5
    refine⟨⟨X1.sf,X1.dom,X1.fr,X1.lst,X1.tmp,fun a h=>?_,wr⟩,R2⟩
    rcases o2 a h with z | z
    · exact X1.ow a z
    · exact .inr (by rw [z];exact h1)
  | s j=>cases h
def aV(i:Nat)(fa:FE):FS:=fun e=>(fa e).bind fun p=>(p6 i p.1 p.2).map .nx
theorem az{i:Nat}{x:Str}{pos':Pos}(hN:X.N.Nodup)(hi:X.N[i]?=some x)(hx:C8 X.env.scope x)(he:PE X a (fE K fa))(hs:swapsWith a (some (.Name x pos')) pos.line X.env=pure false)(hf:X.fn x=true∨X.env.scope.names.lookup x=some .local):
    PS X (.Assign [.Name x pos'] a pos) (fS K (aV i fa) [i]):=(zI hN hi hx he hs hf).mono fun D σ H h=>by
  obtain⟨F,e,fl,R,hf,q⟩:=h
  unfold aV at hf
  obtain⟨⟨r,e1⟩,h1,hf⟩:=Option.bind_eq_some_iff.mp hf
  obtain⟨e2,h2,hf⟩:=Option.map_eq_some_iff.mp hf
  cases hf
  refine⟨F,e,r,e1,R,h1,fun F1 H1 v X1 R1 A1=>?_⟩
  obtain⟨x,R2⟩:=zL R X1 R1 A1 h2
  exact q F1 H1 _ x R2
abbrev FG:=PyData→En→Option En
def fG(K:PySem.W.Frag)(g:FG)(W:List Nat):TG:=fun v σ H Q=>∃F e x e',a8 K F H σ e∧DA K F x v∧g x e=some e'∧∀σ',ed W σ F H e σ' F H e'→a8 K F H σ' e'→Q σ' H
abbrev Cr:=List PyData→En→Option En
def Gh(K:PySem.W.Frag)(g:Cr)(W:List Nat):AH:=fun vs σ H Q=>∃F e xs e',a8 K F H σ e∧aL K F xs vs∧g xs e=some e'∧∀σ',ed W σ F H e σ' F H e'→a8 K F H σ' e'→Q σ' H
theorem PG.mono{tg:Expr}{t t':TG}(h:PG X tg t)(m:∀v σ H Q,t' v σ H Q→t v σ H Q):PG X tg t':=fun pins s σ H v u Q I r q=>h pins s σ H v u Q I r (m v σ H Q q)
theorem yi.mono{tg:List Expr}{t t':AH}(h:yi X tg t)(m:∀v σ H Q,t' v σ H Q→t v σ H Q):yi X tg t':=fun pins s σ H v u Q I r q=>h pins s σ H v u Q I r (m v σ H Q q)
def ag(i:Nat):FG:=fun x e=>some (e.set i (some (.d x)))
def aU:Cr:=fun xs e=>match xs with
  | []=>some e
  | _=>none
def ao(g:FG)(gs:Cr):Cr:=fun xs e=>match xs with
  | x::r=>(g x e).bind fun e1=>gs r e1
  | _=>none
def aX(gs:Cr):FG:=fun x e=>match x with
  | .tuple xs=>gs xs e
  | _=>none
theorem ap{i:Nat}{x:Str}(hN:X.N.Nodup)(hi:X.N[i]?=some x)(hx:C8 X.env.scope x)(hf:X.fn x=true∨X.env.scope.names.lookup x=some .local):PG X (.Name x pos) (fG K (ag i) [i]):=(BJ hN hi hx hf).mono fun v σ H Q h=>by
  obtain⟨F,e,x,e',R,hx,hg,q⟩:=h
  cases hg
  obtain⟨R2,o2⟩:=R.setD i hx
  exact q _ ⟨av.refl _,fun _ h=>h,fun _ _ h _ _=>h,fun _ vs h=>⟨vs,h⟩,fun _ _ h _=>h,fun a h=>.inl (o2 a h),fun j n=>List.getElem?_set_ne (fun z=>n (by simp [z]))⟩ R2
theorem bP:yi X [] (Gh K aU []):=BL.mono fun v σ H Q h=>by
  obtain⟨F,e,x,e',R,hx,hg,q⟩:=h
  unfold aU at hg
  split at hg
  · cases hg
    simp only [aL] at hx
    exact⟨hx,q σ ed.refl R⟩
  · cases hg
theorem ax{es:List Expr}{g1:FG}{gs:Cr}(h1:PG X a (fG K g1 W1))(h2:yi X es (Gh K gs W2))
    (hs:(assignEach (a::es) X.env).map (·.2)=assign a X.env::(assignEach es X.env).map (·.2)):yi X (a::es) (Gh K (ao g1 gs) (W1++W2)):=(zy h1 h2 hs).mono fun v σ H Q h=>by
  obtain⟨F,e,xs,e',R,hx,hg,q⟩:=h
  unfold ao at hg
  match xs,hg,hx with
  | x::r,hg,hx=>
    simp only [aL] at hx
    obtain⟨w,ws,e1,hw,hr⟩:=hx
    dsimp only at hg
    obtain⟨e1',h3,h4⟩:=Option.bind_eq_some_iff.mp hg
    refine⟨w,ws,e1,F,e,x,e1',R,hw,h3,fun σ1 x1 R1=>⟨F,e1',r,e',R1,hr,h4,fun σ2 x2 R2=>?_⟩⟩
    exact q σ2 ((x1.mono fun j h=>List.mem_append.mpr (.inl h)).trans (x2.mono fun j h=>List.mem_append.mpr (.inr h))) R2
theorem cT{es:List Expr}{k n:Nat}{gs:Cr}(hK:X.K=K)(hc:X.calm=true)(h:yi X es (Gh K gs W))(hl:∀xs e e',gs xs e=some e'→xs.length=n)(hn:(assignEach es X.env).length=n)(hst:(assignEach es X.env).findIdx? (·.1)=none):PG X (.Tuple es k pos) (fG K (aX gs) W):=(BK hK hc h hn hst).mono fun v σ H Q h=>by
  obtain⟨F,e,x,e',R,hx,hg,q⟩:=h
  unfold aX at hg
  match x,hg,hx with
  | .tuple xs,hg,hx=>
    obtain⟨p,vs,e1,e2,e3⟩:=ej.mp hx
    exact⟨p,vs,e1,R.sm.tup e2,by rw [←e3.len];exact hl xs e e' hg,F,e,xs,e',R,e3,hg,q⟩
theorem cQ(xs:List PyData)(e e':En)(h:aU xs e=some e'):xs.length=0:=by
  unfold aU at h
  split at h
  · rfl
  · cases h
theorem aH{g:FG}{gs:Cr}{n:Nat}(hl:∀xs e e',gs xs e=some e'→xs.length=n)(xs:List PyData)(e e':En)(h:ao g gs xs e=some e'):xs.length=n+1:=by
  unfold ao at h
  match xs,h with
  | x::r,h=>
    obtain⟨e1,h3,h4⟩:=Option.bind_eq_some_iff.mp h
    simp [hl r e1 e' h4]
def jk(fa:FE)(g:FG):FS:=fun e=>(fa e).bind fun p=>match p.1 with
  | .d x=>(g x p.2).map .nx
  | _=>none
theorem jM{tg:Expr}{g:FG}(he:PE X a (fE K fa))(hg:PG X tg (fG K g W))(hs:swapsWithSole [tg] a pos.line X.env=pure false)(hw:swappedStores [tg] a X.env=pure none)
    (h1:(assignEach [tg] X.env).map (·.2)=[assign tg X.env]):PS X (.Assign [tg] a pos) (fS K (jk fa g) W):=(vj he hg hs hw h1).mono fun D σ H h=>by
  obtain⟨F,e,fl,R,hf,q⟩:=h
  unfold jk at hf
  obtain⟨⟨r,e1⟩,h1,hf⟩:=Option.bind_eq_some_iff.mp hf
  match r,h1,hf with
  | .d x,h1,hf=>
    obtain⟨e2,h2,hf⟩:=Option.map_eq_some_iff.mp hf
    cases hf
    exact⟨F,e,_,e1,R,h1,fun F1 H1 v X1 R1 A1=>⟨F1,e1,x,e2,R1,A1,h2,fun σ' x2 R2=>q F1 H1 σ' (X1.s.trans x2) R2⟩⟩
def nM(i j:Nat)(fs:FA):FS:=fun e=>(fs e).bind fun p=>match p.1 with
  | [.d x,.d y]=>some (.nx ((p.2.set i (some (.d x))).set j (some (.d y))))
  | _=>none
theorem zQ{i j:Nat}{x y:Str}{fs:FA}{px py pt:Pos}{kt k2 pt2}(hc:X.calm=true)(hN:X.N.Nodup)(hi:X.N[i]?=some x)(hj:X.N[j]?=some y)(hij:i≠j)
    (hx:X.env.scope.names.lookup x=some .local)(hy:X.env.scope.names.lookup y=some .local)(ha:PA X [a,b] (fA K fs))
    (hw:swappedStores [.Tuple [.Name x px,.Name y py] kt pt] (.Tuple [a,b] k2 pt2) X.env=pure (some [x,y]))
    (hs:swapsWithSole [.Tuple [.Name x px,.Name y py] kt pt] (.Tuple [a,b] k2 pt2) pos.line X.env=pure false):
    PS X (.Assign [.Tuple [.Name x px,.Name y py] kt pt] (.Tuple [a,b] k2 pt2) pos) (fS K (nM i j fs) [i,j]):=(DX hc hN hi hj hij hx hy ha hw hs).mono fun D σ H h=>by
  obtain⟨F,e,fl,R,hf,q⟩:=h
  unfold nM at hf
  obtain⟨⟨rs,e1⟩,h1,hf⟩:=Option.bind_eq_some_iff.mp hf
  refine⟨F,e,rs,e1,R,h1,fun F1 H1 vs X1 R1 A1=>?_⟩
  match rs,hf,A1 with
  | [.d x,.d y],hf,A1=>
    cases hf
    obtain⟨v,u,rfl,a1,a2⟩:=r8 A1
    obtain⟨R2,o2⟩:=R1.setD i a1
    obtain⟨R3,o3⟩:=R2.setD j a2
    refine⟨v,u,rfl,q F1 H1 _ ⟨X1.sf,X1.dom,X1.fr,X1.lst,X1.tmp,fun a h=>X1.ow a (o2 a (o3 a h)),fun m n=>?_⟩ R3⟩
    rw [List.getElem?_set_ne (fun z=>n (by simp [z])),List.getElem?_set_ne (fun z=>n (by simp [z]))]
def mv:Rv→Option PyData
  | .d x=>some x
  | .l xs=>some (.list xs)
  | .s _=>none
theorem mw{r:Rv}{d:PyData}(h:mv r=some d):gp [r]=some [d]:=by
  cases r with
  | d x=>cases h;rfl
  | l xs=>cases h;rfl
  | s i=>cases h
def iz(e:En):Rv→Option (Nat × List PyData)
  | .s n=>match e[n]? with
    | some (some (.l xs))=>some (n,xs)
    | _=>none
  | _=>none
theorem qM{e:En}{r:Rv}{n:Nat}{xs:List PyData}(h:iz e r=some (n,xs)):r=.s n∧e[n]?=some (some (.l xs)):=by
  unfold iz at h
  split at h
  · split at h
    · rename_i heq
      cases h;exact⟨rfl,heq⟩
    · cases h
  · cases h
def nO(fa fo fi:FE):FS:=fun e=>(fa e).bind fun p=>(mv p.1).bind fun d=>(fo p.2).bind fun o=>(fi o.2).bind fun i=>(bC i.1).bind fun k=>(iz i.2 o.1).bind fun s=>(k8 s.2.length k).map fun j=>.nx (i.2.set s.1 (some (.l (s.2.set j d))))
theorem o6{o i:Expr}{fo fi:FE}{ps:Pos}(he:PE X a (fE K fa))(ho:PE X o (fE K fo))(hi:PE X i (fE K fi))
    (ha:∀v,assign (.Subscript o i ps) X.env v=(do
      let ov ←holding [v] (eval o X.env)
      let iv ←holding [v,ov] (eval i X.env)
      standAt ps
      holding [v,ov,iv] (setItem ov iv v)
      release [v,ov,iv] []))
    (hs:swapsWithSole [.Subscript o i ps] a pos.line X.env=pure false)(hw:swappedStores [.Subscript o i ps] a X.env=pure none)
    (h1:(assignEach [.Subscript o i ps] X.env).map (·.2)=[assign (.Subscript o i ps) X.env]):PS X (.Assign [.Subscript o i ps] a pos) (fS K (nO fa fo fi) []):=(vj he (zx ho hi t_ ha) hs hw h1).mono fun D σ H h=>by
  obtain⟨F,e,fl,R,hf,q⟩:=h
  unfold nO at hf
  obtain⟨⟨r,e1⟩,g1,hf⟩:=Option.bind_eq_some_iff.mp hf
  obtain⟨d,g2,hf⟩:=Option.bind_eq_some_iff.mp hf
  obtain⟨⟨ro,e2⟩,g3,hf⟩:=Option.bind_eq_some_iff.mp hf
  obtain⟨⟨ri,e3⟩,g4,hf⟩:=Option.bind_eq_some_iff.mp hf
  obtain⟨k,g5,hf⟩:=Option.bind_eq_some_iff.mp hf
  obtain⟨⟨n,xs⟩,g6,hf⟩:=Option.bind_eq_some_iff.mp hf
  obtain⟨j,g7,hf⟩:=Option.map_eq_some_iff.mp hf
  cases hf
  obtain⟨z6,g6'⟩:=qM g6
  dsimp only at z6 g6'
  subst z6
  refine⟨F,e,r,e1,R,g1,fun F1 H1 v X1 R1 A1=>?_⟩
  refine⟨F1,e1,_,e2,R1,g3,fun F2 H2 u X2 R2 A2=>⟨F2,e2,ri,e3,R2,g4,fun F3 H3 w X3 R3 A3=>?_⟩⟩
  have X12:=X1.trans X2
  have X13:=X12.trans X3
  have A1':=(A1.ext X2).ext X3
  obtain⟨F4,R4,s4,d4,f4⟩:=cV.frozen R3 (rs:=[r]) (vs:=[v]) ⟨v,[],rfl,A1',rfl⟩ (mw g2)
  obtain⟨h1,_⟩:=A2
  obtain⟨l,vs,k1,k2,k3,k4⟩:=R4.own n xs g6'
  rw [h1] at k1;cases k1
  simp only [aL] at d4
  obtain⟨v',r',e',hv,_⟩:=d4
  cases e'
  refine⟨l,vs,k,j,rfl,bR A3 g5,k3,by rw [←k4.len];exact g7,?_⟩
  obtain⟨R5,X5⟩:=R4.putL g6' h1 (k4.set hv j)
  exact q _ _ σ ((X13.frz s4 f4).trans X5).s R5
def jb(ft:FT)(f:FS):Nat→FS
  | 0,_=>none
  | n+1,e=>(ft e).bind fun p=>if p.1=true then(f p.2).bind fun fl=>match fl with
      | .nx e1=>jb ft f n e1
      | .ct e1=>jb ft f n e1
      | .bk e1=>some (.nx e1)
      | .rt r e1=>some (.rt r e1)
    else some (.nx p.2)
def eD(n:Nat)(ft:FT)(f:FS):FS:=jb ft f n
theorem iQ{n:Nat}{c:Expr}{body:List Stmt}(hp:PassesOwn (model X.prog X.w) X.A X.env X.xe)(hc:PT X c (fT K ft))(hb:nJ X body (fS K f W)):PS X (.While c body [] pos) (fS K (eD n ft f) W):=(zJ hp hc hb).mono fun D σ H h=>by
  refine⟨fun m σ H=>∃F e fl,a8 K F H σ e∧jb ft f m e=some fl∧oF K W σ F H e D fl,⟨n,h⟩,?_⟩
  rintro m σ H ⟨F,e,fl,R,hf,q⟩
  cases m with
  | zero=>cases hf
  | succ m=>
    unfold jb at hf
    obtain⟨⟨x,e1⟩,h1,hf⟩:=Option.bind_eq_some_iff.mp hf
    refine⟨F,e,x,e1,R,h1,fun F1 H1 X1 R1=>?_⟩
    have sub:∀j,j∈([]:List Nat)→j∈W:=fun j h=>by cases h
    cases x with
    | false=>
      rw [if_neg (by simp)] at hf
      cases hf
      exact E9 (q F1 H1 σ X1.s R1)
    | true=>
      rw [if_pos rfl] at hf
      refine E_ ?_
      obtain⟨fl1,h2,hf⟩:=Option.bind_eq_some_iff.mp hf
      have q1:oF K W σ F1 H1 e1 D fl:=q.later (W1:=[]) X1.s sub fun j h=>h
      refine⟨fun σ' H'=>∃F' e',a8 K F' H' σ' e'∧jb ft f m e'=some fl∧oF K W σ' F' H' e' D fl,fun σ' H' ⟨F',e',r1,r2,r3⟩=>⟨m,Nat.lt_succ_self m,F',e',fl,r1,r2,r3⟩,F1,e1,fl1,R1,h2,?_⟩
      cases fl1 with
      | nx e2=>exact fun F2 H2 σ2 x R2=>⟨F2,e2,R2,hf,q1.later x (fun j h=>h) fun j h=>h⟩
      | ct e2=>exact fun F2 H2 σ2 x R2=>⟨F2,e2,R2,hf,q1.later x (fun j h=>h) fun j h=>h⟩
      | bk e2=>cases hf;exact fun F2 H2 σ2 x R2=>q1 F2 H2 σ2 x R2
      | rt r e2=>cases hf;exact fun F2 H2 σ2 v x R2 A=>q1 F2 H2 σ2 v x R2 A
end
end L2
namespace L2
open PySem PySem.Spec PyProof.Rows
theorem PI.mono{X:Cx}{tg iter:Expr}{t t':TI}(h:PI X tg iter t)(m:∀σ H R,t' σ H R→t σ H R):PI X tg iter t':=fun pins s σ H R I q=>h pins s σ H R I (m σ H R q)
theorem PI.or{X:Cx}{tg iter:Expr}{t t':TI}(h:PI X tg iter t)(h':PI X tg iter t'):PI X tg iter (fun σ H R=>t σ H R∨t' σ H R):=fun pins s σ H R I q=>by
  rcases q with q | q
  · exact h pins s σ H R I q
  · exact h' pins s σ H R I q
abbrev gS:=List (Nat × List PyData)
def yl(K:PySem.W.Frag)(σ:L2.St)(F H:Hp)(own:gS):Prop:=∀p∈own,∃l vs,σ[p.1]?=some (some (.ref l))∧H l=some (.lst vs)∧aL K F p.2 vs
def sE(K:PySem.W.Frag)(σ:L2.St)(J:It)(items:List PyData)(own:gS)(F0:Hp):Prop:=∀F H,av F0 F→av F H→yl K σ F H own→
  (∀i,i < items.length→J.go i H)∧(∀i,items.length≤i→J.stop i H)∧∀i d x H',items[i]?=some d→J.yld i H x H'→∃F',av H H'∧av F F'∧av F' H'∧(∀a,F a=none→H a≠none→F' a=none)∧DA K F' d x
abbrev FI:=En→Option (List PyData × gS × En)
def keeps(own:gS)(e:En):Prop:=∀p∈own,e[p.1]?=some (some (.l p.2))
def fI(K:PySem.W.Frag)(f:FI):TI:=fun σ H R=>∃F e items own e',a8 K F H σ e∧f e=some (items,own,e')∧∀J F' H',fB σ F H e F' H' e'→a8 K F' H' σ e'→keeps own e'→sE K σ J items own F'→R J H'
section
variable{K:PySem.W.Frag}{σ:L2.St}{H0 F H F' H':Hp}{e e':En}
theorem a8.held(R:a8 K F H σ e){own:gS}(h:keeps own e):yl K σ F H own:=fun p hp=>by
  obtain⟨l,vs,h1,h2,h3,h4⟩:=R.own p.1 p.2 (h p hp)
  exact⟨l,vs,h1,h3,h4⟩
theorem a8.step(R:a8 K F H σ e)(s:av H H')(sF:av F F')(sm:av F' H')(fz:∀a,F a=none→H a≠none→F' a=none):a8 K F' H' σ e∧fB σ F H e F' H' e:=by
  obtain⟨R',o'⟩:=R.keep sF sm (fun a ⟨i,h⟩=>by
    obtain⟨h1,vs,h2⟩:=R.fpAt h
    exact fz a h1 (by rw [h2];simp)) fun a o _ h=>s a o h
  exact⟨R',⟨sF,fun a h=>s.free h,fun a vs h1 h2 _=>fz a h1 (by rw [h2];simp),fun a vs h=>⟨vs,s _ _ h⟩,fun a o h _=>s a o h,fun _=>Iff.rfl,fun a h=>.inl ((o' a).mp h)⟩⟩
inductive qZ (K:PySem.W.Frag) (σ:L2.St) (F:Hp) (p:Addr):Bool→List PyData→gS→Prop
  | tup {xs vs}:bX K F p vs→aL K F xs vs→qZ K σ F p false xs []
  | lst {xs vs}:d_ K F p vs→aL K F xs vs→qZ K σ F p true xs []
  | own {i xs}:σ[i]?=some (some (.ref p))→qZ K σ F p true xs [(i,xs)]
theorem qZ.at{p:Addr}{b:Bool}{xs:List PyData}{own:gS}{F0:Hp}(h:qZ K σ F0 p b xs own)(s0:av F0 F)(s1:av F H){own':gS}(hh:yl K σ F H own')(hs:∀q∈own,q∈own'):∃vs,aL K F xs vs∧(if b=true then d_ K H p vs else bX K H p vs):=by
  cases h with
  | tup h1 h2=>exact⟨_,h2.mono s0,(s0.trans s1).tup h1⟩
  | lst h1 h2=>exact⟨_,h2.mono s0,(s0.trans s1).seq h1⟩
  | @own i xs h1=>
    obtain⟨l,vs,g1,g2,g3⟩:=hh (i,xs) (hs (i,xs) (by simp))
    dsimp only at g1 g3
    rw [h1] at g1;cases g1
    exact⟨vs,g3,.inl (.inl g2)⟩
def ua(e:En):Rv→Option (Bool × List PyData × gS)
  | .d (.tuple xs)=>some (false,xs,[])
  | .d (.list xs)=>some (true,xs,[])
  | .l xs=>some (true,xs,[])
  | .s i=>match e[i]? with
    | some (some (.l xs))=>some (true,xs,[(i,xs)])
    | _=>none
  | _=>none
theorem ke{r:Rv}{v:V}{b:Bool}{xs:List PyData}{own:gS}(R:a8 K F H σ e)(A:cz K σ H0 F H e r v)(h:ua e r=some (b,xs,own)):
    ∃F' p,a8 K F' H σ e∧av F F'∧(∀a,F a=none→H0 a≠none→F' a=none)∧v=.ref p∧qZ K σ F' p b xs own∧keeps own e:=by
  cases r with
  | d x=>
    cases x with
    | tuple ds=>
      cases h
      obtain⟨a,ys,e1,e2,e3⟩:=ej.mp A
      exact⟨F,a,R,av.refl _,fun _ h _=>h,e1,.tup e2 e3,fun p hp=>by cases hp⟩
    | list ds=>
      cases h
      obtain⟨a,ys,e1,e2,e3⟩:=cP.mp A
      exact⟨F,a,R,av.refl _,fun _ h _=>h,e1,.lst e2 e3,fun p hp=>by cases hp⟩
    | _=>cases h
  | l ys=>
    cases h
    obtain⟨F',R',s',d',f'⟩:=A.frozen R
    obtain⟨a,ys,e1,e2,e3⟩:=cP.mp d'
    exact⟨F',a,R',s',f',e1,.lst e2 e3,fun p hp=>by cases hp⟩
  | s i=>
    obtain⟨h1,ys,h2⟩:=A
    simp only [ua,h2] at h
    cases h
    obtain⟨l,vs,e1,e2,e3,e4⟩:=R.own i _ h2
    rw [h1] at e1;cases e1
    exact⟨F,l,R,av.refl _,fun _ h _=>h,rfl,.own h1,fun p hp=>by simp only [List.mem_singleton] at hp;subst hp;exact h2⟩
theorem qz{p:Addr}{xs:List PyData}{own:gS}{F0:Hp}(h:qZ K σ F0 p true xs own):sE K σ (Gp K p) xs own F0:=by
  intro F H s0 s1 hh
  obtain⟨vs,d,q⟩:=h.at s0 s1 hh fun _ h=>h
  have q:d_ K H p vs:=q
  refine⟨fun i hi=>⟨vs,vs[i]'(by rw [←d.len];exact hi),q,List.getElem?_eq_getElem _⟩,fun i hi=>⟨vs,q,by rw [←d.len];exact hi⟩,fun i x v H' hx hy=>?_⟩
  obtain⟨rfl,hy⟩:=hy
  obtain⟨w,g1,g2⟩:=d.get hx
  have e:=hy vs q
  rw [g1] at e;cases e
  exact⟨F,av.refl _,av.refl _,s1,fun _ h _=>h,g2⟩
theorem yU{p:Addr}{xs:List PyData}{own:gS}{F0:Hp}(h:qZ K σ F0 p false xs own):sE K σ (Gq K p) xs own F0:=by
  intro F H s0 s1 hh
  obtain⟨vs,d,q⟩:=h.at s0 s1 hh fun _ h=>h
  have q:bX K H p vs:=q
  refine⟨fun i hi=>⟨vs,vs[i]'(by rw [←d.len];exact hi),q,List.getElem?_eq_getElem _⟩,fun i hi=>⟨vs,q,by rw [←d.len];exact hi⟩,fun i x v H' hx hy=>?_⟩
  obtain⟨rfl,hy⟩:=hy
  obtain⟨w,g1,g2⟩:=d.get hx
  have e:=hy vs q
  rw [g1] at e;cases e
  exact⟨F,av.refl _,av.refl _,s1,fun _ h _=>h,g2⟩
theorem oR{p:Addr}{x y:V}{a b:PyData}(s1:av F H)(hp:H p=none)(hx:DA K F a x)(hy:DA K F b y):∃F',av H (bi H p (.tup [x,y]))∧av F F'∧av F' (bi H p (.tup [x,y]))∧(∀c,F c=none→H c≠none→F' c=none)∧DA K F' (.tuple [a,b]) (.ref p):=by
  have hF:F p=none:=s1.free hp
  have sF:av F (bi F p (.tup [x,y])):=av.new hF
  refine⟨bi F p (.tup [x,y]),av.new hp,sF,fun b o q=>?_,fun c h n=>?_,ej.mpr ⟨p,_,rfl,.inl (.inl aA),.cons (DA.mono sF hx) (.one (DA.mono sF hy))⟩⟩
  · by_cases z:b=p
    · subst z;rw [aA] at q ⊢;exact q
    · rw [au z] at q ⊢;exact s1 _ _ q
  · have z:c≠p:=fun z=>n (by rw [z];exact hp)
    rw [au z];exact h
def gu:Nat→List PyData→List PyData
  | _,[]=>[]
  | n,x::r=>.tuple [.int n,x]::gu (n+1) r
theorem iI:∀{xs:List PyData} {n i:Nat},(gu n xs)[i]?=(xs[i]?).map fun x=>.tuple [.int ((n+i:Nat):Int),x]
  | [],n,i=>by simp [gu]
  | x::r,n,0=>by simp [gu]
  | x::r,n,i+1=>by
    simp only [gu,List.getElem?_cons_succ]
    rw [iI (xs:=r) (n:=n+1) (i:=i)]
    congr 1
    funext y
    rw [show n+1+i=n+(i+1) by lia]
theorem iJ:∀(xs:List PyData) (n:Nat),(gu n xs).length=xs.length
  | [],_=>rfl
  | x::r,n=>by simp [gu,iJ r (n+1)]
theorem uV{p:Addr}{xs:List PyData}{own:gS}{F0:Hp}(h:qZ K σ F0 p true xs own):sE K σ (C6 K p) (gu 0 xs) own F0:=by
  intro F H s0 s1 hh
  obtain⟨vs,d,q⟩:=h.at s0 s1 hh fun _ h=>h
  have q:d_ K H p vs:=q
  rw [iJ]
  refine⟨fun i hi=>⟨vs,vs[i]'(by rw [←d.len];exact hi),q,List.getElem?_eq_getElem _⟩,fun i hi=>⟨vs,q,by rw [←d.len];exact hi⟩,fun i x v H' hx hy=>?_⟩
  obtain⟨t,y,rfl,ht,rfl,hy⟩:=hy
  rw [iI] at hx
  obtain⟨x',hx2,rfl⟩:=Option.map_eq_some_iff.mp hx
  obtain⟨w,g1,g2⟩:=d.get hx2
  have e:=hy vs q
  rw [g1] at e;cases e
  exact oR s1 ht (cc.mpr (by simp)) g2
theorem uW{p:Addr}{xs:List PyData}{own:gS}{F0:Hp}(h:qZ K σ F0 p false xs own):sE K σ (C7 K p) (gu 0 xs) own F0:=by
  intro F H s0 s1 hh
  obtain⟨vs,d,q⟩:=h.at s0 s1 hh fun _ h=>h
  have q:bX K H p vs:=q
  rw [iJ]
  refine⟨fun i hi=>⟨vs,vs[i]'(by rw [←d.len];exact hi),q,List.getElem?_eq_getElem _⟩,fun i hi=>⟨vs,q,by rw [←d.len];exact hi⟩,fun i x v H' hx hy=>?_⟩
  obtain⟨t,y,rfl,ht,rfl,hy⟩:=hy
  rw [iI] at hx
  obtain⟨x',hx2,rfl⟩:=Option.map_eq_some_iff.mp hx
  obtain⟨w,g1,g2⟩:=d.get hx2
  have e:=hy vs q
  rw [g1] at e;cases e
  exact oR s1 ht (cc.mpr (by simp)) g2
def jc:List PyData→List PyData→List PyData
  | x::r,y::s=>.tuple [x,y]::jc r s
  | _,_=>[]
theorem pK:∀{xs ys:List PyData} {i:Nat} {d:PyData},(jc xs ys)[i]?=some d→∃x y,xs[i]?=some x∧ys[i]?=some y∧d=.tuple [x,y]
  | [],ys,i,d,h=>by simp [jc] at h
  | x::r,[],i,d,h=>by simp [jc] at h
  | x::r,y::s,0,d,h=>by
    simp only [jc,List.getElem?_cons_zero] at h
    cases h;exact⟨x,y,rfl,rfl,rfl⟩
  | x::r,y::s,i+1,d,h=>by
    simp only [jc,List.getElem?_cons_succ] at h
    obtain⟨a,b,h1,h2,h3⟩:=pK h
    exact⟨a,b,by simpa using h1,by simpa using h2,h3⟩
theorem pL:∀(xs ys:List PyData),(jc xs ys).length=min xs.length ys.length
  | [],ys=>by simp [jc]
  | x::r,[]=>by simp [jc]
  | x::r,y::s=>by simp [jc,pL r s]
theorem lN{P Q:Hp→Addr→List V→Prop}{J:It}{l1 l2:Addr}{b1 b2:Bool}{xs ys:List PyData}{own1 own2:gS}{F0:Hp}(h1:qZ K σ F0 l1 b1 xs own1)(h2:qZ K σ F0 l2 b2 ys own2)
    (hP:∀H vs,(if b1=true then d_ K H l1 vs else bX K H l1 vs)→P H l1 vs)(hQ:∀H vs,(if b2=true then d_ K H l2 vs else bX K H l2 vs)→Q H l2 vs)
    (go:∀i H vs us x y,P H l1 vs→Q H l2 us→vs[i]?=some x→us[i]?=some y→J.go i H)(stop:∀i H vs us,P H l1 vs→Q H l2 us→(vs.length≤i∨us.length≤i)→J.stop i H)
    (yld:∀i H v H',J.yld i H v H'→∃p x y,v=.ref p∧H p=none∧H'=bi H p (.tup [x,y])∧∀xs ys,P H l1 xs→Q H l2 ys→xs[i]?=some x∧ys[i]?=some y):
    sE K σ J (jc xs ys) (own1++own2) F0:=by
  intro F H s0 s1 hh
  obtain⟨vs,d1,q1⟩:=h1.at s0 s1 hh fun _ h=>List.mem_append.mpr (.inl h)
  obtain⟨us,d2,q2⟩:=h2.at s0 s1 hh fun _ h=>List.mem_append.mpr (.inr h)
  have q1:=hP H vs q1
  have q2:=hQ H us q2
  have l1':=d1.len
  have l2':=d2.len
  rw [pL]
  refine⟨fun i hi=>go i H vs us (vs[i]'(by lia)) (us[i]'(by lia)) q1 q2 (List.getElem?_eq_getElem _) (List.getElem?_eq_getElem _),fun i hi=>stop i H vs us q1 q2 (by lia),fun i x v H' hx hy=>?_⟩
  obtain⟨t,a,b,rfl,ht,rfl,hy3⟩:=yld i H v H' hy
  obtain⟨x',y',hx2,hy',rfl⟩:=pK hx
  obtain⟨w,g1,g2⟩:=d1.get hx2
  obtain⟨w',g3,g4⟩:=d2.get hy'
  obtain⟨e1,e2⟩:=hy3 vs us q1 q2
  rw [g1] at e1;cases e1
  rw [g3] at e2;cases e2
  exact oR s1 ht g2 g4
def bu(lo:Int)(n:Nat):List PyData:=(List.range n).map fun(i:Nat)=>.int (lo+(i:Int))
theorem uX{lo:Int}{n:Nat}{F0:Hp}:sE K σ (Gc lo n) (bu lo n) [] F0:=by
  intro F H s0 s1 hh
  unfold bu
  rw [List.length_map,List.length_range]
  refine⟨fun i hi=>hi,fun i hi=>hi,fun i x v H' hx hy=>?_⟩
  obtain⟨rfl,rfl⟩:=hy
  rw [List.getElem?_map] at hx
  obtain⟨k,h1,rfl⟩:=Option.map_eq_some_iff.mp hx
  have h2:=(List.getElem?_eq_some_iff.mp h1).2
  simp at h2
  subst h2
  exact⟨F,av.refl _,av.refl _,s1,fun _ h _=>h,cc.mpr rfl⟩
end
inductive Gm (K:PySem.W.Frag) (own:gS) (σ0:L2.St) (F1:Hp) (P:En→Prop) (G:L2.St→Hp→Hp→En→Prop) (σ:L2.St) (H:Hp):Prop
  | mk {F:Hp} {e:En} (R:a8 K F H σ e) (kp:keeps own e) (hσ:∀p∈own,σ[p.1]?=σ0[p.1]?) (sF:av F1 F) (hf:P e) (q:G σ F H e):Gm K own σ0 F1 P G σ H
section
variable{X:Cx}{K:PySem.W.Frag}{tg a b:Expr}{es:List Expr}{fa:FE}{fs:FA}{pos p tp:Pos}{k0:Nat}
def iL(fa:FE):FI:=fun e=>(fa e).bind fun p=>(ua p.2 p.1).map fun s=>(s.2.1,s.2.2,p.2)
theorem dS(hK:X.K=K)(h:PE X a (fE K fa)):PI X tg a (fI K (iL fa)):=((tP (tg:=tg) hK h).or (BN (tg:=tg) hK h)).mono fun σ H R hh=>by
  obtain⟨F,e,items,own,e',R0,hf,q⟩:=hh
  unfold iL at hf
  obtain⟨⟨r,e1⟩,h1,hf⟩:=Option.bind_eq_some_iff.mp hf
  obtain⟨⟨b,xs,ow⟩,h2,hf⟩:=Option.map_eq_some_iff.mp hf
  cases hf
  cases b with
  | true=>
    refine .inl ⟨F,e,r,e1,R0,h1,fun F1 H1 v X1 R1 A1=>?_⟩
    obtain⟨F2,p,R2,s2,f2,rfl,sc,kp⟩:=ke R1 A1 h2
    obtain⟨vs,_,c⟩:=sc.at (av.refl _) R2.sm (R2.held kp) fun _ h=>h
    exact⟨p,rfl,⟨vs,c⟩,q _ F2 H1 (X1.frz s2 f2) R2 kp (qz sc)⟩
  | false=>
    refine .inr ⟨F,e,r,e1,R0,h1,fun F1 H1 v X1 R1 A1=>?_⟩
    obtain⟨F2,p,R2,s2,f2,rfl,sc,kp⟩:=ke R1 A1 h2
    obtain⟨vs,_,c⟩:=sc.at (av.refl _) R2.sm (R2.held kp) fun _ h=>h
    exact⟨p,rfl,⟨vs,c⟩,q _ F2 H1 (X1.frz s2 f2) R2 kp (yU sc)⟩
def wx(fs:FA):FI:=fun e=>(fs e).bind fun p=>match p.1 with
  | [r]=>(ua p.2 r).map fun s=>(gu 0 s.2.1,s.2.2,p.2)
  | _=>none
theorem wF(hK:X.K=K)(hg:Gl X "enumerate")(hm:X.mg "enumerate"=none)(ha:PA X [a] (fA K fs))(hs:starEach [a] X.env=[(false,eval a X.env)]):PI X (.Tuple es k0 tp) (.Call (.Name "enumerate" p) [a] [] pos) (fI K (wx fs)):=((zz (es:=es) (k0:=k0) (tp:=tp) hK hg hm ha hs).or (zA (es:=es) (k0:=k0) (tp:=tp) hK hg hm ha hs)).mono fun σ H R hh=>by
  obtain⟨F,e,items,own,e',R0,hf,q⟩:=hh
  unfold wx at hf
  obtain⟨⟨rs,e1⟩,h1,hf⟩:=Option.bind_eq_some_iff.mp hf
  match rs,h1,hf with
  | [r],h1,hf=>
  obtain⟨⟨b,xs,ow⟩,h2,hf⟩:=Option.map_eq_some_iff.mp hf
  cases hf
  cases b with
  | true=>
    refine .inl ⟨F,e,_,e1,R0,h1,fun F1 H1 vs X1 R1 A1=>?_⟩
    obtain⟨v,rfl,A2⟩:=kc A1
    obtain⟨F2,p,R2,s2,f2,rfl,sc,kp⟩:=ke R1 A2 h2
    obtain⟨vs,_,c⟩:=sc.at (av.refl _) R2.sm (R2.held kp) fun _ h=>h
    exact⟨p,rfl,⟨vs,c⟩,q _ F2 H1 (X1.frz s2 f2) R2 kp (uV sc)⟩
  | false=>
    refine .inr ⟨F,e,_,e1,R0,h1,fun F1 H1 vs X1 R1 A1=>?_⟩
    obtain⟨v,rfl,A2⟩:=kc A1
    obtain⟨F2,p,R2,s2,f2,rfl,sc,kp⟩:=ke R1 A2 h2
    obtain⟨vs,_,c⟩:=sc.at (av.refl _) R2.sm (R2.held kp) fun _ h=>h
    exact⟨p,rfl,⟨vs,c⟩,q _ F2 H1 (X1.frz s2 f2) R2 kp (uW sc)⟩
def oJ(fs:FA):FI:=fun e=>(fs e).bind fun p=>match p.1 with
  | [r,t]=>(ua p.2 r).bind fun s=>(ua p.2 t).map fun u=>(jc s.2.1 u.2.1,s.2.2++u.2.2,p.2)
  | _=>none
theorem qZ.mono{σ:L2.St}{F F':Hp}{p:Addr}{b:Bool}{xs:List PyData}{own:gS}(h:qZ K σ F p b xs own)(s:av F F'):qZ K σ F' p b xs own:=by
  cases h with
  | tup h1 h2=>exact .tup (s.tup h1) (h2.mono s)
  | lst h1 h2=>exact .lst (s.seq h1) (h2.mono s)
  | own h1=>exact .own h1
theorem vm(hK:X.K=K)(hg:Gl X "zip")(hm:X.mg "zip"=none)(ha:PA X [a,b] (fA K fs))(hs:starEach [a,b] X.env=[(false,eval a X.env),(false,eval b X.env)])(hs2:starEach [b] X.env=[(false,eval b X.env)]):PI X (.Tuple es k0 tp) (.Call (.Name "zip" p) [a,b] [] pos) (fI K (oJ fs)):=
    (((DU (es:=es) (k0:=k0) (tp:=tp) hK hg hm ha hs hs2).or (zC (es:=es) (k0:=k0) (tp:=tp) hK hg hm ha hs hs2)).or ((zD (es:=es) (k0:=k0) (tp:=tp) hK hg hm ha hs hs2).or (zB (es:=es) (k0:=k0) (tp:=tp) hK hg hm ha hs hs2))).mono fun σ H R hh=>by
  obtain⟨F,e,items,own,e',R0,hf,q⟩:=hh
  unfold oJ at hf
  obtain⟨⟨rs,e1⟩,h1,hf⟩:=Option.bind_eq_some_iff.mp hf
  match rs,h1,hf with
  | [r,t],h1,hf=>
  obtain⟨⟨b,xs,ow⟩,h2,hf⟩:=Option.bind_eq_some_iff.mp hf
  obtain⟨⟨b',ys,ow'⟩,h3,hf⟩:=Option.map_eq_some_iff.mp hf
  cases hf
  have key:∀F1 H1 vs,fB σ F H e F1 H1 e1→a8 K F1 H1 σ e1→cV K σ H F1 H1 e1 [r,t] vs→∃p p' F2,vs=[.ref p,.ref p']∧fB σ F H e F2 H1 e1∧a8 K F2 H1 σ e1∧qZ K σ F2 p b xs ow∧qZ K σ F2 p' b' ys ow'∧keeps (ow++ow') e1:=by
    intro F1 H1 vs X1 R1 A1
    obtain⟨v,u,rfl,a1,a2⟩:=r8 A1
    obtain⟨F2,p,R2,s2,f2,rfl,sc,kp⟩:=ke R1 a1 h2
    have X2:=X1.frz s2 f2
    have a2':cz K σ H F2 H1 e1 t u∨∃zs,t=.l zs∧DA K F2 (.list zs) u:=by
      cases t with
      | d x=>exact .inl (DA.mono s2 a2)
      | s i=>exact .inl a2
      | l zs=>
        obtain⟨l,ws,rfl,g1,g2,g3,g4,g5⟩:=a2
        cases hl:F2 l with
        | none=>exact .inl ⟨l,ws,rfl,g1,hl,g3,aL.mono s2 g4,g5⟩
        | some o=>
          have:=R2.sm _ _ hl
          rw [g3] at this;cases this
          exact .inr ⟨zs,rfl,cP.mpr ⟨l,ws,rfl,.inl (.inl hl),aL.mono s2 g4⟩⟩
    rcases a2' with a2' | ⟨zs,rfl,d2⟩
    · obtain⟨F3,p',R3,s3,f3,rfl,sc',kp'⟩:=ke R2 a2' h3
      exact⟨p,p',F3,rfl,X2.frz s3 f3,R3,sc.mono s3,sc',fun z hz=>(List.mem_append.mp hz).elim (kp z) (kp' z)⟩
    · cases h3
      obtain⟨p',ws,rfl,g1,g2⟩:=cP.mp d2
      exact⟨p,p',F2,rfl,X2,R2,sc,.lst g1 g2,fun z hz=>(List.mem_append.mp hz).elim (kp z) fun h=>by cases h⟩
  have fin:∀{F2 H1:Hp} {p p':Addr},a8 K F2 H1 σ e1→qZ K σ F2 p b xs ow→qZ K σ F2 p' b' ys ow'→keeps (ow++ow') e1→(∃vs,if b=true then d_ K H1 p vs else bX K H1 p vs)∧(∃vs,if b'=true then d_ K H1 p' vs else bX K H1 p' vs):=by
    intro F2 H1 p p' R2 s1 s2 kp
    obtain⟨vs,_,c⟩:=s1.at (av.refl _) R2.sm (R2.held kp) fun _ h=>List.mem_append.mpr (.inl h)
    obtain⟨us,_,c'⟩:=s2.at (av.refl _) R2.sm (R2.held kp) fun _ h=>List.mem_append.mpr (.inr h)
    exact⟨⟨vs,c⟩,⟨us,c'⟩⟩
  cases b with
  | false=>cases b' with
    | false=>
      refine .inl (.inl ⟨F,e,_,e1,R0,h1,fun F1 H1 vs X1 R1 A1=>?_⟩)
      obtain⟨p,p',F2,rfl,X2,R2,s1,s2,kp⟩:=key F1 H1 vs X1 R1 A1
      obtain⟨c1,c2⟩:=fin R2 s1 s2 kp
      exact⟨p,p',rfl,c1,c2,q _ F2 H1 X2 R2 kp (lN (P:=bX K) (Q:=bX K) s1 s2 (fun _ _ h=>h) (fun _ _ h=>h) (fun i H vs us x y h1 h2 h3 h4=>⟨vs,us,x,y,h1,h2,h3,h4⟩) (fun i H vs us h1 h2 h3=>⟨vs,us,h1,h2,h3⟩) fun i H v H' h=>h)⟩
    | true=>
      refine .inr (.inl ⟨F,e,_,e1,R0,h1,fun F1 H1 vs X1 R1 A1=>?_⟩)
      obtain⟨p,p',F2,rfl,X2,R2,s1,s2,kp⟩:=key F1 H1 vs X1 R1 A1
      obtain⟨c1,c2⟩:=fin R2 s1 s2 kp
      exact⟨p,p',rfl,c1,c2,q _ F2 H1 X2 R2 kp (lN (P:=bX K) (Q:=d_ K) s1 s2 (fun _ _ h=>h) (fun _ _ h=>h) (fun i H vs us x y h1 h2 h3 h4=>⟨vs,us,x,y,h1,h2,h3,h4⟩) (fun i H vs us h1 h2 h3=>⟨vs,us,h1,h2,h3⟩) fun i H v H' h=>h)⟩
  | true=>cases b' with
    | false=>
      refine .inl (.inr ⟨F,e,_,e1,R0,h1,fun F1 H1 vs X1 R1 A1=>?_⟩)
      obtain⟨p,p',F2,rfl,X2,R2,s1,s2,kp⟩:=key F1 H1 vs X1 R1 A1
      obtain⟨c1,c2⟩:=fin R2 s1 s2 kp
      exact⟨p,p',rfl,c1,c2,q _ F2 H1 X2 R2 kp (lN (P:=d_ K) (Q:=bX K) s1 s2 (fun _ _ h=>h) (fun _ _ h=>h) (fun i H vs us x y h1 h2 h3 h4=>⟨vs,us,x,y,h1,h2,h3,h4⟩) (fun i H vs us h1 h2 h3=>⟨vs,us,h1,h2,h3⟩) fun i H v H' h=>h)⟩
    | true=>
      refine .inr (.inr ⟨F,e,_,e1,R0,h1,fun F1 H1 vs X1 R1 A1=>?_⟩)
      obtain⟨p,p',F2,rfl,X2,R2,s1,s2,kp⟩:=key F1 H1 vs X1 R1 A1
      obtain⟨c1,c2⟩:=fin R2 s1 s2 kp
      exact⟨p,p',rfl,c1,c2,q _ F2 H1 X2 R2 kp (lN (P:=d_ K) (Q:=d_ K) s1 s2 (fun _ _ h=>h) (fun _ _ h=>h) (fun i H vs us x y h1 h2 h3 h4=>⟨vs,us,x,y,h1,h2,h3,h4⟩) (fun i H vs us h1 h2 h3=>⟨vs,us,h1,h2,h3⟩) fun i H v H' h=>h)⟩
def Aa(j:Int):Bool:=decide (-1000000≤j)&&decide (j≤1000000)
theorem Ab{j:Int}(h:Aa j=true): -1000000≤j∧j≤1000000:=by
  unfold Aa at h
  rw [Bool.and_eq_true,decide_eq_true_iff,decide_eq_true_iff] at h
  exact h
def dG(fs:FA):FI:=fun e=>(fs e).bind fun p=>match p.1 with
  | [r]=>(bC r).bind fun j=>if Aa j=true then some (bu 0 j.toNat,[],p.2) else none
  | _=>none
theorem eB(hg:Gl X "range")(hm:X.mg "range"=none)(ha:PA X [a] (fA K fs))(hs:starEach [a] X.env=[(false,eval a X.env)]):PI X tg (.Call (.Name "range" p) [a] [] pos) (fI K (dG fs)):=(xR hg hm ha hs).mono fun σ H R hh=>by
  obtain⟨F,e,items,own,e',R0,hf,q⟩:=hh
  unfold dG at hf
  obtain⟨⟨rs,e1⟩,h1,hf⟩:=Option.bind_eq_some_iff.mp hf
  match rs,h1,hf with
  | [r],h1,hf=>
  obtain⟨j,h2,hf⟩:=Option.bind_eq_some_iff.mp hf
  split at hf
  case isFalse=>cases hf
  case isTrue hj=>
  cases hf
  refine⟨F,e,_,e1,R0,h1,fun F1 H1 vs X1 R1 A1=>?_⟩
  obtain⟨v,rfl,A2⟩:=kc A1
  have:=Ab hj
  exact⟨j,by rw [bR A2 h2],by lia,by lia,q _ F1 H1 X1 R1 (fun _ h=>by cases h) uX⟩
open Classical in
noncomputable def ij(own:gS)(g:FG)(f:FS):List PyData→FS
  | [],e=>some (.nx e)
  | x::r,e=>(g x e).bind fun e1=>(f e1).bind fun fl=>match fl with
    | .nx e2=>if keeps own e2 then ij own g f r e2 else none
    | .ct e2=>if keeps own e2 then ij own g f r e2 else none
    | .bk e2=>some (.nx e2)
    | .rt v e2=>some (.rt v e2)
noncomputable def cL(W:List Nat)(fi:FI)(g:FG)(f:FS):FS:=fun e=>(fi e).bind fun p=>if (p.2.1.all fun q=> !W.contains q.1)=true then ij p.2.1 g f p.1 p.2.2 else none
theorem cU{W1 W2:List Nat}{iter:Expr}{body:List Stmt}{fi:FI}{g:FG}{f:FS}(hp:PassesOwn (model X.prog X.w) X.A X.env X.xe)(hc:X.calm=true)(hi:PI X tg iter (fI K fi))(hg:PG X tg (fG K g W1))(hb:nJ X body (fS K f W2))(hs:∀x,foldedSetIterable iter X.env x=pure x):
    PS X (.For tg iter body [] pos) (fS K (cL (W1++W2) fi g f) (W1++W2)):=(DV hp hc hi hg hb hs).mono fun D σ0 H0 hh=>by
  obtain⟨F0,e0,fl,R0,hf,q0⟩:=hh
  unfold cL at hf
  obtain⟨⟨items,own,e1⟩,h1,hf⟩:=Option.bind_eq_some_iff.mp hf
  dsimp only at hf
  split at hf
  case isFalse=>cases hf
  case isTrue hW=>
  have hW':∀p∈own,p.1∉W1++W2:=fun p hp=>by
    have:=List.all_eq_true.mp hW p hp
    simpa using this
  refine⟨F0,e0,items,own,e1,R0,h1,fun J F1 H1 X1 R1 kp ok=>?_⟩
  have s1:∀j,j∈W1→j∈W1++W2:=fun j h=>List.mem_append.mpr (.inl h)
  have s2:∀j,j∈W2→j∈W1++W2:=fun j h=>List.mem_append.mpr (.inr h)
  have q1:oF K (W1++W2) σ0 F1 H1 e1 D fl:=q0.later (W1:=[]) X1.s (fun j h=>by cases h) fun j h=>h
  refine⟨fun i m σ H=>m=items.length - i∧i≤items.length∧Gm K own σ0 F1 (fun e=>ij own g f (items.drop i) e=some fl) (fun σ F H e=>oF K (W1++W2) σ F H e D fl) σ H,
    ⟨items.length,by simp,Nat.zero_le _,.mk R1 kp (fun _ _=>rfl) (av.refl _) hf q1⟩,?_⟩
  rintro i m σ H ⟨rfl,hi,⟨R,kp,hσ,sF,hf,q⟩⟩
  rename_i F e
  have held:yl K σ0 F H own:=fun p hp=>by
    obtain⟨l,vs,g1,g2⟩:=R.held kp p hp
    exact⟨l,vs,by rw [←hσ p hp];exact g1,g2⟩
  obtain⟨go,stop,yld⟩:=ok F H sF R.sm held
  by_cases hlt:i < items.length
  · have hd:items.drop i=items[i]::items.drop (i+1):=List.drop_eq_getElem_cons hlt
    rw [hd] at hf
    unfold ij at hf
    obtain⟨e2,h2,hf⟩:=Option.bind_eq_some_iff.mp hf
    obtain⟨fl2,h3,hf⟩:=Option.bind_eq_some_iff.mp hf
    refine .inr ⟨go i hlt,Gm K own σ0 F1 (fun e=>ij own g f (items.drop (i+1)) e=some fl) (fun σ F H e=>oF K (W1++W2) σ F H e D fl),
      fun σ' H' r=>⟨items.length - (i+1),by lia,rfl,hlt,r⟩,fun x H' hy=>?_⟩
    obtain⟨F',sH,sF',sm',fz,hx⟩:=yld i items[i] x H' (List.getElem?_eq_getElem hlt) hy
    obtain⟨R',X'⟩:=R.step sH sF' sm' fz
    refine⟨F',e,items[i],e2,R',hx,h2,fun σ2 x2 R2=>⟨F',e2,fl2,R2,h3,?_⟩⟩
    have q2:oF K (W1++W2) σ2 F' H' e2 D fl:=(q.later (W1:=[]) (W2:=W1++W2) X'.s (fun j h=>by cases h) fun j h=>h).later x2 s1 fun j h=>h
    have w2:∀p∈own,σ2[p.1]?=σ0[p.1]?:=fun p hp=>(x2.wr p.1 fun z=>hW' p hp (s1 _ z)).trans (hσ p hp)
    cases fl2 with
    | nx e3=>
      intro F3 H3 σ3 x3 R3
      dsimp only at hf
      split at hf
      case isFalse=>cases hf
      case isTrue kp3=>
      exact .mk R3 kp3 (fun p hp=>(x3.wr p.1 fun z=>hW' p hp (s2 _ z)).trans (w2 p hp)) (sF.trans (sF'.trans x3.sf)) hf (q2.later x3 s2 fun j h=>h)
    | ct e3=>
      intro F3 H3 σ3 x3 R3
      dsimp only at hf
      split at hf
      case isFalse=>cases hf
      case isTrue kp3=>
      exact .mk R3 kp3 (fun p hp=>(x3.wr p.1 fun z=>hW' p hp (s2 _ z)).trans (w2 p hp)) (sF.trans (sF'.trans x3.sf)) hf (q2.later x3 s2 fun j h=>h)
    | bk e3=>
      cases hf
      exact fun F3 H3 σ3 x3 R3=>q2 F3 H3 σ3 (x3.mono s2) R3
    | rt r e3=>
      cases hf
      exact fun F3 H3 σ3 v x3 R3 A3=>q2 F3 H3 σ3 v (x3.mono s2) R3 A3
  · have hd:items.drop i=[]:=List.drop_eq_nil_of_le (by lia)
    rw [hd] at hf
    cases hf
    exact .inl ⟨stop i (by lia),q F H σ ed.refl R⟩
end
end L2
namespace L2
open PySem PySem.Spec PyProof.Rows
def AN:Option (Option Sv)→Bool
  | some (some (.l _))=>true
  | _=>false
theorem Bf{s:Option (Option Sv)}:AN s=true↔ ∃xs,s=some (some (.l xs)):=by
  unfold AN
  split
  · simp
  · rename_i h
    constructor
    · intro z;cases z
    · rintro⟨xs,rfl⟩;exact absurd rfl (h xs)
def pI(pos:Nat→Option Nat)(ei e:En):En:=e.mapIdx fun i s=>match s with
  | some (.l xs)=>match pos i with
    | some k=>(ei[k]?).join
    | none=>some (.l xs)
  | s=>s
theorem bW{pos:Nat→Option Nat}{ei e:En}{i:Nat}:(pI pos ei e)[i]?=(e[i]?).map fun s=>match s with
  | some (.l xs)=>match pos i with
    | some k=>(ei[k]?).join
    | none=>some (.l xs)
  | s=>s:=by unfold pI;rw [List.getElem?_mapIdx]
structure sI (σ:L2.St) (e:En) (σi:L2.St) (ei:En) (pos:Nat→Option Nat):Prop where
  a:∀(i k:Nat) (xs:List PyData),e[i]?=some (some (.l xs))→pos i=some k→σi[k]?=σ[i]?
  b:∀(k:Nat) (ys:List PyData),ei[k]?=some (some (.l ys))→∃(i:Nat) (xs:List PyData),e[i]?=some (some (.l xs))∧pos i=some k∧σi[k]?=σ[i]?
section
variable{K:PySem.W.Frag}{σ σi σi':L2.St}{F H F' H':Hp}{e ei ei':En}{pos:Nat→Option Nat}
def EM(e:En):Prop:=∀(i:Nat) (xss:List (List PyData)),e[i]?≠some (some (.n xss))
theorem sI.own(s:sI σ e σi ei pos)(hn:EM ei){a:Addr}{H H':Hp}(h:dn σi ei H a):∃(i k:Nat) (xs:List PyData),e[i]?=some (some (.l xs))∧pos i=some k∧σ[i]?=some (some (.ref a)):=by
  obtain⟨k,⟨ys,h1,h2⟩ | ⟨xss,_,_,h1,_⟩⟩:=h
  · obtain⟨i,xs,g1,g2,g3⟩:=s.b k ys h1
    exact⟨i,k,xs,g1,g2,by rw [←g3];exact h2⟩
  · exact absurd h1 (hn k xss)
theorem uc(R:a8 K F H σ e)(s:sI σ e σi ei pos)(hnn:EM ei)(sf:av F F')(dom:∀a,H' a=none→H a=none)(fr:∀a vs,F a=none→H a=some (.lst vs)→¬dn σi ei H a→F' a=none)(lst:∀a vs,H a=some (.lst vs)→∃vs',H' a=some (.lst vs'))
    (tmp:∀a o,H a=some o→¬dn σi ei H a→H' a=some o)(R':a8 K F' H' σi' ei')(hσ:∀(i k:Nat) (xs:List PyData),e[i]?=some (some (.l xs))→pos i=some k→σi'[k]?=σi[k]?)(hsh:∀(i k:Nat) (xs:List PyData),e[i]?=some (some (.l xs))→pos i=some k→∃ys,ei'[k]?=some (some (.l ys))):
    a8 K F' H' σ (pI pos ei' e)∧fB σ F H e F' H' (pI pos ei' e)∧∀a,dn σ (pI pos ei' e) H' a→dn σ e H a:=by
  have shp:∀i:Nat,(∃xs,(pI pos ei' e)[i]?=some (some (.l xs)))↔ (∃xs,e[i]?=some (some (.l xs))):=by
    intro i
    rw [bW]
    match h:e[i]? with
    | none=>simp
    | some none=>simp
    | some (some (.d x))=>simp
    | some (some (.n x))=>simp
    | some (some (.l xs))=>
      simp only [Option.map_some]
      constructor
      · intro _;exact⟨xs,rfl⟩
      · intro _
        match hp:pos i with
        | none=>exact⟨xs,rfl⟩
        | some k=>
          obtain⟨ys,g⟩:=hsh i k xs h hp
          exact⟨ys,by show some ((ei'[k]?).join)=_;rw [g];rfl⟩
  have oth:∀(i:Nat) (s:Sv),(∀xs,s≠.l xs)→((pI pos ei' e)[i]?=some (some s)↔ e[i]?=some (some s)):=by
    intro i s hs
    constructor
    · intro h
      rw [bW] at h
      match h1:e[i]?,h with
      | some (some (.d y)),h=>exact h
      | some (some (.n y)),h=>exact h
      | some (some (.l ys)),h=>
        simp only [Option.map_some,Option.some.injEq] at h
        match hp:pos i,h with
        | none,h=>cases h;exact absurd rfl (hs _)
        | some k,h=>
          obtain⟨zs,g⟩:=hsh i k ys h1 hp
          change (ei'[k]?).join=_ at h
          rw [g] at h;cases h;exact absurd rfl (hs _)
      | some none,h=>simp at h
      | none,h=>simp at h
    · intro h
      rw [bW,h]
      cases s with
      | d y=>rfl
      | n y=>rfl
      | l y=>exact absurd rfl (hs y)
  have out:∀i a,Fp σ e H i a→(∀k xs,e[i]?=some (some (.l xs))→pos i≠some k)→¬dn σi ei H a:=by
    intro i a hi hp z
    obtain⟨j,k,ws,d1,d2,d3⟩:=s.own hnn (H':=H') z
    have:i=j:=R.fp i j a hi (.inl ⟨ws,d1,d3⟩)
    subst this
    exact hp k ws d1 d2
  have keep:∀i a o,Fp σ e H i a→(∀k xs,e[i]?=some (some (.l xs))→pos i≠some k)→H a=some o→H' a=some o:=fun i a o hi hp ha=>tmp a o ha (out i a hi hp)
  have sown:∀a,dn σi ei H a→dn σ e H a:=fun a z=>by
    obtain⟨j,k,ws,d1,d2,d3⟩:=s.own hnn (H':=H') z
    exact⟨j,.inl ⟨ws,d1,d3⟩⟩
  have fs:∀i a,Fp σ (pI pos ei' e) H' i a↔ Fp σ e H i a:=by
    intro i a
    have key:∀xss l,e[i]?=some (some (.n xss))→σ[i]?=some (some (.ref l))→H' l=H l:=fun xss l h1 h2=>by
      obtain⟨l',bs,g1,g2,g3,_⟩:=R.nst i xss h1
      rw [h2] at g1;cases g1
      rw [g3]
      exact keep i l _ (.inr ⟨xss,l,bs,h1,h2,g3,.inl rfl⟩) (fun k xs z=>by rw [h1] at z;cases z) g3
    constructor
    · rintro(⟨xs,h1,h2⟩ | ⟨xss,l,bs,h1,h2,h3,h4⟩)
      · obtain⟨ys,h⟩:=(shp i).mp ⟨xs,h1⟩
        exact .inl ⟨ys,h,h2⟩
      · have h1':=(oth i (.n xss) (fun _ z=>nomatch z)).mp h1
        exact .inr ⟨xss,l,bs,h1',h2,by rw [←key xss l h1' h2];exact h3,h4⟩
    · rintro(⟨xs,h1,h2⟩ | ⟨xss,l,bs,h1,h2,h3,h4⟩)
      · obtain⟨ys,h⟩:=(shp i).mpr ⟨xs,h1⟩
        exact .inl ⟨ys,h,h2⟩
      · exact .inr ⟨xss,l,bs,(oth i (.n xss) (fun _ z=>nomatch z)).mpr h1,h2,by rw [key xss l h1 h2];exact h3,h4⟩
  refine⟨⟨R'.sm,?_,fun i x h=>?_,fun i xs h=>?_,fun i xss h=>?_,fun i j a h1 h2=>R.fp i j a ((fs i a).mp h1) ((fs j a).mp h2)⟩,⟨sf,dom,fun a vs h1 h2 n=>fr a vs h1 h2 fun z=>n (sown a z),lst,fun a o h n=>tmp a o h fun z=>n (sown a z),shp,fun a ⟨i,h⟩=>.inl ⟨i,(fs i a).mp h⟩⟩,fun a ⟨i,h⟩=>⟨i,(fs i a).mp h⟩⟩
  · unfold pI;rw [List.length_mapIdx];exact R.len
  · obtain⟨v,g1,g2⟩:=R.dat i x ((oth i (.d x) (fun _ z=>nomatch z)).mp h)
    exact⟨v,g1,DA.mono sf g2⟩
  · obtain⟨ys,h1⟩:=(shp i).mp ⟨xs,h⟩
    obtain⟨l,vs,g1,g2,g3,g4⟩:=R.own i ys h1
    rw [bW,h1] at h
    simp only [Option.map_some,Option.some.injEq] at h
    match hp:pos i,h with
    | none,h=>
      cases h
      have np:∀k xs,e[i]?=some (some (Sv.l xs))→pos i≠some k:=fun k xs _ z=>by rw [hp] at z;cases z
      have fi:Fp σ e H i l:=.inl ⟨_,h1,g1⟩
      exact⟨l,vs,g1,fr l vs g2 g3 (out i l fi np),keep i l _ fi np g3,g4.mono sf⟩
    | some k,h=>
      obtain⟨zs,c1⟩:=hsh i k ys h1 hp
      change (ei'[k]?).join=_ at h
      rw [c1] at h;cases h
      obtain⟨l',vs',d1,d2,d3,d4⟩:=R'.own k _ c1
      rw [hσ i k ys h1 hp,s.a i k ys h1 hp] at d1
      exact⟨l',vs',d1,d2,d3,d4⟩
  · have h1:=(oth i (.n xss) (fun _ z=>nomatch z)).mp h
    obtain⟨l,bs,g1,g2,g3,g4,g5,g6,g7⟩:=R.nst i xss h1
    have np:∀k xs,e[i]?=some (some (Sv.l xs))→pos i≠some k:=fun k xs z=>by rw [h1] at z;cases z
    have fi:Fp σ e H i l:=.inr ⟨xss,l,bs,h1,g1,g3,.inl rfl⟩
    refine⟨l,bs,g1,fr l _ g2 g3 (out i l fi np),keep i l _ fi np g3,g4,g5,g6,fun k b ys q1 q2=>?_⟩
    obtain⟨c1,us,c2,c3⟩:=g7 k b ys q1 q2
    have fb:Fp σ e H i b:=.inr ⟨xss,l,bs,h1,g1,g3,.inr (List.mem_of_getElem? q1)⟩
    exact⟨fr b _ c1 c2 (out i b fb np),us,keep i b _ fb np c2,c3.mono sf⟩
end
def bQ(e:En):List Rv→Option (List Sv)
  | []=>some []
  | .d x::r=>(bQ e r).map (.d x::·)
  | .l xs::r=>(bQ e r).map (.d (.list xs)::·)
  | .s i::r=>match e[i]? with
    | some (some (.l xs))=>(bQ e r).map (.l xs::·)
    | _=>none
def aI:List Rv→List Nat
  | []=>[]
  | .s i::r=>i::aI r
  | .d _::r=>aI r
  | .l _::r=>aI r
def lb(rs:List Rv)(i:Nat):Option Nat:=rs.findIdx? fun r=>match r with
  | .s j=>j==i
  | _=>false
def noS:Rv→Prop
  | .s _=>False
  | _=>True
abbrev FM:=List Sv→Option (Rv × List Sv)
def bz(K:PySem.W.Frag)(n:Nat)(m:FM):Sp:=fun vs H Q _=>vs.length=n∧∃F as r as',a8 K F H (vs.map some) (as.map some)∧EM (as.map some)∧m as=some (r,as')∧noS r∧
  ∀F' H' v,fB (vs.map some) F H (as.map some) F' H' (as'.map some)→a8 K F' H' (vs.map some) (as'.map some)→cz K (vs.map some) H F' H' (as'.map some) r v→Q v H'
def bc:List Rv→List Sv→Bool
  | [],[]=>true
  | .s _::r,.l _::s=>bc r s
  | .d _::r,_::s=>bc r s
  | .l _::r,_::s=>bc r s
  | _,_=>false
def rO:Rv→Bool
  | .s _=>false
  | _=>true
def df:List Rv→List Sv→En→En
  | .s i::r,.l ys::s,e=>df r s (e.set i (some (.l ys)))
  | .d _::r,_::s,e=>df r s e
  | .l _::r,_::s,e=>df r s e
  | _,_,e=>e
def bO(n:Nat)(m:FM)(fs:FA):FE:=fun e=>(fs e).bind fun p=>(bQ p.2 p.1).bind fun as=>(m as).bind fun z=>if p.1.length=n∧(aI p.1).Nodup∧bc p.1 z.2=true∧rO z.1=true then some (z.1,df p.1 z.2 p.2) else none
theorem i4:∀{rs:List Rv} {as:List Sv},bc rs as=true→∀(k i:Nat),rs[k]?=some (.s i)→∃ys,as[k]?=some (.l ys)
  | [],[],_,k,i,h=>by simp at h
  | .s j::r,.l ys::s,h,k,i,hk=>by
    cases k with
    | zero=>exact⟨ys,rfl⟩
    | succ k=>simpa using i4 (rs:=r) (as:=s) (by simpa [bc] using h) k i (by simpa using hk)
  | .d x::r,y::s,h,k,i,hk=>by
    cases k with
    | zero=>simp at hk
    | succ k=>simpa using i4 (rs:=r) (as:=s) (by simpa [bc] using h) k i (by simpa using hk)
  | .l x::r,y::s,h,k,i,hk=>by
    cases k with
    | zero=>simp at hk
    | succ k=>simpa using i4 (rs:=r) (as:=s) (by simpa [bc] using h) k i (by simpa using hk)
  | .s _::_,.d _::_,h,_,_,_=>by simp [bc] at h
  | .s _::_,[],h,_,_,_=>by simp [bc] at h
  | .d _::_,[],h,_,_,_=>by simp [bc] at h
  | .l _::_,[],h,_,_,_=>by simp [bc] at h
theorem mG{r0:Rv}{rs:List Rv}{i:Nat}:lb (r0::rs) i=if (match r0 with | .s j=>j==i | _=>false)=true then some 0 else(lb rs i).map (· +1):=by
  unfold lb;rw [List.findIdx?_cons]
theorem mH{rs:List Rv}{i k:Nat}(h:lb rs i=some k):rs[k]?=some (.s i):=by
  unfold lb at h
  rw [List.findIdx?_eq_some_iff_getElem] at h
  obtain⟨hk,h1,_⟩:=h
  rw [List.getElem?_eq_getElem hk]
  split at h1
  · rename_i heq
    rw [heq]
    have:=eq_of_beq h1
    rw [this]
  · cases h1
theorem f_:∀{rs:List Rv} {i:Nat},i∈aI rs↔ Rv.s i∈rs
  | [],i=>by simp [aI]
  | .s j::r,i=>by simp [aI,f_ (rs:=r)]
  | .d x::r,i=>by simp [aI,f_ (rs:=r)]
  | .l x::r,i=>by simp [aI,f_ (rs:=r)]
theorem gQ:∀{rs:List Rv} {i k j:Nat},(aI rs).Nodup→rs[k]?=some (.s i)→rs[j]?=some (.s i)→k=j
  | [],i,k,j,_,h,_=>by simp at h
  | .s m::r,i,k,j,hn,h1,h2=>by
    simp only [aI,List.nodup_cons] at hn
    cases k with
    | zero=>
      simp at h1;subst h1
      cases j with
      | zero=>rfl
      | succ j=>exact absurd (f_.mpr (List.mem_of_getElem? (by simpa using h2))) hn.1
    | succ k=>
      cases j with
      | zero=>
        simp at h2;subst h2
        exact absurd (f_.mpr (List.mem_of_getElem? (by simpa using h1))) hn.1
      | succ j=>
        have:=gQ (rs:=r) (i:=i) (k:=k) (j:=j) hn.2 (by simpa using h1) (by simpa using h2)
        lia
  | .d x::r,i,k,j,hn,h1,h2=>by
    cases k with
    | zero=>simp at h1
    | succ k=>
      cases j with
      | zero=>simp at h2
      | succ j=>
        have:=gQ (rs:=r) (i:=i) (k:=k) (j:=j) (by simpa [aI] using hn) (by simpa using h1) (by simpa using h2)
        lia
  | .l x::r,i,k,j,hn,h1,h2=>by
    cases k with
    | zero=>simp at h1
    | succ k=>
      cases j with
      | zero=>simp at h2
      | succ j=>
        have:=gQ (rs:=r) (i:=i) (k:=k) (j:=j) (by simpa [aI] using hn) (by simpa using h1) (by simpa using h2)
        lia
theorem zF{rs:List Rv}{i:Nat}(h:i∉aI rs):lb rs i=none:=by
  unfold lb
  rw [List.findIdx?_eq_none_iff]
  intro r hr
  cases r with
  | d x=>rfl
  | l x=>rfl
  | s j=>
    have:j≠i:=fun z=>h (by rw [←z];exact f_.mpr hr)
    simpa using this
theorem nU:∀{rs:List Rv} {as:List Sv} {e:En},(aI rs).Nodup→bc rs as=true→(∀j∈aI rs,∃xs,e[j]?=some (some (.l xs)))→df rs as e=pI (lb rs) (as.map some) e
  | [],[],e,_,_,_=>by
    refine List.ext_getElem? fun i=>?_
    rw [bW]
    have:lb [] i=none:=rfl
    rw [this]
    simp only [df]
    match e[i]? with
    | none=>rfl
    | some none=>rfl
    | some (some (.d x))=>rfl
    | some (some (.l x))=>rfl
    | some (some (.n x))=>rfl
  | .d x::r,y::s,e,hn,hl,hs=>by
    rw [show df (.d x::r) (y::s) e=df r s e from rfl,nU (by simpa [aI] using hn) (by simpa [bc] using hl) (fun j hj=>hs j (by simpa [aI] using hj))]
    refine List.ext_getElem? fun i=>?_
    rw [bW,bW,mG]
    cases lb r i<;>simp
  | .l x::r,y::s,e,hn,hl,hs=>by
    rw [show df (.l x::r) (y::s) e=df r s e from rfl,nU (by simpa [aI] using hn) (by simpa [bc] using hl) (fun j hj=>hs j (by simpa [aI] using hj))]
    refine List.ext_getElem? fun i=>?_
    rw [bW,bW,mG]
    cases lb r i<;>simp
  | .s k::r,.l ys::s,e,hn,hl,hs=>by
    simp only [aI,List.nodup_cons] at hn
    obtain⟨xs,hk⟩:=hs k (by simp [aI])
    have hlt:k < e.length:=(List.getElem?_eq_some_iff.mp hk).1
    rw [show df (.s k::r) (.l ys::s) e=df r s (e.set k (some (.l ys))) from rfl,nU hn.2 (by simpa [bc] using hl) (fun j hj=>by
      have z:k≠j:=fun z=>hn.1 (by rw [z];exact hj)
      rw [List.getElem?_set_ne z]
      exact hs j (by simp [aI,hj]))]
    refine List.ext_getElem? fun i=>?_
    rw [bW,bW,mG]
    by_cases z:k=i
    · subst z
      rw [List.getElem?_set_self hlt,hk,zF hn.1]
      simp
    · rw [List.getElem?_set_ne z]
      have:((match (Rv.s k) with | .s j=>j==i | _=>false)=true)=False:=by simp [z]
      simp only [this,if_false]
      cases lb r i<;>simp
  | .s _::_,.d _::_,_,_,h,_=>by simp [bc] at h
  | .s _::_,.n _::_,_,_,h,_=>by simp [bc] at h
  | .s _::_,[],_,_,h,_=>by simp [bc] at h
  | .d _::_,[],_,_,h,_=>by simp [bc] at h
  | .l _::_,[],_,_,h,_=>by simp [bc] at h
  | [],_::_,_,_,h,_=>by simp [bc] at h
theorem fM{e:En}:∀{rs:List Rv} {as:List Sv},bQ e rs=some as→∀j∈aI rs,∃xs,e[j]?=some (some (.l xs))
  | [],_,_,j,h=>by simp [aI] at h
  | .d x::rs,as,q,j,h=>by
    obtain⟨as',q1,rfl⟩:=Option.map_eq_some_iff.mp q
    exact fM q1 j (by simpa [aI] using h)
  | .l x::rs,as,q,j,h=>by
    obtain⟨as',q1,rfl⟩:=Option.map_eq_some_iff.mp q
    exact fM q1 j (by simpa [aI] using h)
  | .s k::rs,as,q,j,h=>by
    unfold bQ at q
    match he:e[k]?,q with
    | some (some (.l xs)),q=>
      obtain⟨as',q1,rfl⟩:=Option.map_eq_some_iff.mp q
      simp only [aI,List.mem_cons] at h
      rcases h with rfl | h
      · exact⟨xs,he⟩
      · exact fM q1 j h
theorem lr{e:En}:∀{rs:List Rv} {as:List Sv} {k i:Nat},bQ e rs=some as→rs[k]?=some (.s i)→∃xs,as[k]?=some (.l xs)
  | [],_,k,i,_,h=>by simp at h
  | .d x::rs,as,k,i,q,h=>by
    obtain⟨as',q1,rfl⟩:=Option.map_eq_some_iff.mp q
    cases k with
    | zero=>simp at h
    | succ k=>simpa using lr (k:=k) (i:=i) q1 (by simpa using h)
  | .l x::rs,as,k,i,q,h=>by
    obtain⟨as',q1,rfl⟩:=Option.map_eq_some_iff.mp q
    cases k with
    | zero=>simp at h
    | succ k=>simpa using lr (k:=k) (i:=i) q1 (by simpa using h)
  | .s j::rs,as,k,i,q,h=>by
    unfold bQ at q
    match he:e[j]?,q with
    | some (some (.l xs)),q=>
      obtain⟨as',q1,rfl⟩:=Option.map_eq_some_iff.mp q
      cases k with
      | zero=>exact⟨xs,rfl⟩
      | succ k=>simpa using lr (k:=k) (i:=i) q1 (by simpa using h)
section
variable{X:Cx}{K:PySem.W.Frag}{σ:L2.St}{H0 H:Hp}{e:En}
theorem nQ:∀{rs:List Rv} {vs:List V} {as:List Sv} {F:Hp},a8 K F H σ e→cV K σ H0 F H e rs vs→bQ e rs=some as→
    ∃F',a8 K F' H σ e∧av F F'∧(∀a,F a=none→H0 a≠none→F' a=none)∧vs.length=as.length∧rs.length=as.length∧
      (∀(k:Nat) (x:PyData),as[k]?=some (.d x)→∃v,vs[k]?=some v∧DA K F' x v)∧∀(k:Nat) (xs:List PyData),as[k]?=some (.l xs)→∃i,rs[k]?=some (.s i)∧e[i]?=some (some (.l xs))∧∃v,vs[k]?=some v∧σ[i]?=some (some v)
  | [],vs,as,F,R,h,q=>by
    cases q
    have h':vs=[]:=h
    subst h'
    exact⟨F,R,av.refl _,fun _ h _=>h,rfl,rfl,fun k x h=>by simp at h,fun k x h=>by simp at h⟩
  | .d x::rs,_,as,F,R,h,q=>by
    obtain⟨v,ws,rfl,h1,h2⟩:=h
    obtain⟨as',q1,rfl⟩:=Option.map_eq_some_iff.mp q
    obtain⟨F',R',s',f',l1,l2,d',o'⟩:=nQ R h2 q1
    refine⟨F',R',s',f',by simp [l1],by simp [l2],fun k y hk=>?_,fun k ys hk=>?_⟩
    · cases k with
      | zero=>simp at hk;subst hk;exact⟨v,rfl,DA.mono s' h1⟩
      | succ k=>simpa using d' k y (by simpa using hk)
    · cases k with
      | zero=>simp at hk
      | succ k=>simpa using o' k ys (by simpa using hk)
  | .l xs::rs,_,as,F,R,h,q=>by
    obtain⟨v,ws,rfl,h1,h2⟩:=h
    obtain⟨as',q1,rfl⟩:=Option.map_eq_some_iff.mp q
    obtain⟨F',R',s',f',l1,l2,d',o'⟩:=nQ R h2 q1
    have key:∃F2,a8 K F2 H σ e∧av F' F2∧(∀a,F' a=none→H0 a≠none→F2 a=none)∧DA K F2 (.list xs) v:=by
      obtain⟨l,us,rfl,g1,g2,g3,g4,g5⟩:=h1
      cases hl:F' l with
      | none=>
        have h1':cz K σ H0 F' H e (.l xs) (.ref l):=⟨l,us,rfl,g1,hl,g3,aL.mono s' g4,g5⟩
        obtain⟨F2,R2,s2,d2,f2⟩:=h1'.frozen R'
        exact⟨F2,R2,s2,f2,d2⟩
      | some o=>
        have:=R'.sm _ _ hl
        rw [g3] at this;cases this
        exact⟨F',R',av.refl _,fun _ h _=>h,cP.mpr ⟨l,us,rfl,.inl (.inl hl),aL.mono s' g4⟩⟩
    obtain⟨F2,R2,s2,f2,d2⟩:=key
    refine⟨F2,R2,s'.trans s2,fun a ha hn=>f2 a (f' a ha hn) hn,by simp [l1],by simp [l2],fun k y hk=>?_,fun k ys hk=>?_⟩
    · cases k with
      | zero=>simp at hk;subst hk;exact⟨v,rfl,d2⟩
      | succ k=>
        obtain⟨u,c1,c2⟩:=d' k y (by simpa using hk)
        exact⟨u,by simpa using c1,DA.mono s2 c2⟩
    · cases k with
      | zero=>simp at hk
      | succ k=>simpa using o' k ys (by simpa using hk)
  | .s i::rs,_,as,F,R,h,q=>by
    obtain⟨v,ws,rfl,h1,h2⟩:=h
    unfold bQ at q
    match he:e[i]?,q with
    | some (some (.l xs)),q=>
      obtain⟨as',q1,rfl⟩:=Option.map_eq_some_iff.mp q
      obtain⟨F',R',s',f',l1,l2,d',o'⟩:=nQ R h2 q1
      refine⟨F',R',s',f',by simp [l1],by simp [l2],fun k y hk=>?_,fun k ys hk=>?_⟩
      · cases k with
        | zero=>simp at hk
        | succ k=>simpa using d' k y (by simpa using hk)
      · cases k with
        | zero=>simp at hk;subst hk;exact⟨i,rfl,he,v,rfl,h1.1⟩
        | succ k=>simpa using o' k ys (by simpa using hk)
theorem fQ{α:Type}{l:List α}{k:Nat}{x:α}:(l.map some)[k]?=some (some x)↔ l[k]?=some x:=by
  rw [List.getElem?_map]
  cases l[k]?<;>simp
theorem cz.noS{σ':L2.St}{e':En}{F H:Hp}{r:Rv}{v:V}(h:cz K σ' H0 F H e' r v)(n:L2.noS r)(ho:∀a,dn σ e H a→H0 a≠none):cz K σ H0 F H e r v:=by
  cases r with
  | d x=>exact h
  | l xs=>
    obtain⟨l,vs,e1,h1,h2,h3,h4,_⟩:=h
    exact⟨l,vs,e1,h1,h2,h3,h4,fun z=>ho l z h1⟩
  | s i=>exact absurd n (by simp [L2.noS])
theorem iX:∀{rs:List Rv} {as:List Sv},bQ e rs=some as→EM (as.map some)
  | [],_,q=>by cases q;intro i xss h;simp at h
  | .d x::rs,as,q=>by
    obtain⟨as',q1,rfl⟩:=Option.map_eq_some_iff.mp q
    have ih:=iX q1
    intro i xss h
    cases i with
    | zero=>simp at h
    | succ i=>exact ih i xss (by simpa using h)
  | .l x::rs,as,q=>by
    obtain⟨as',q1,rfl⟩:=Option.map_eq_some_iff.mp q
    have ih:=iX q1
    intro i xss h
    cases i with
    | zero=>simp at h
    | succ i=>exact ih i xss (by simpa using h)
  | .s j::rs,as,q=>by
    unfold bQ at q
    match he:e[j]?,q with
    | some (some (.l xs)),q=>
      obtain⟨as',q1,rfl⟩:=Option.map_eq_some_iff.mp q
      have ih:=iX q1
      intro i xss h
      cases i with
      | zero=>simp at h
      | succ i=>exact ih i xss (by simpa using h)
theorem EE{n:Nat}{m:FM}{fs:FA}{Q:VK}{E:XK}(h:fE K (bO n m fs) σ H Q):Ap (bz K n m) [] E (fA K fs) σ H Q:=by
  obtain⟨F,e,z,e',R,hf,q⟩:=h
  unfold bO at hf
  obtain⟨⟨rs,e1⟩,h1,hf⟩:=Option.bind_eq_some_iff.mp hf
  obtain⟨as,h2,hf⟩:=Option.bind_eq_some_iff.mp hf
  obtain⟨⟨r,as'⟩,h3,hf⟩:=Option.bind_eq_some_iff.mp hf
  split at hf
  case isFalse=>cases hf
  case isTrue hc=>
  obtain⟨c1,c2,c3,c4⟩:=hc
  cases hf
  refine⟨F,e,rs,e1,R,h1,fun F1 H1 vs X1 R1 A1=>?_⟩
  obtain⟨F2,R2,s2,f2,l1,l2,d2,o2⟩:=nQ R1 A1 h2
  have X2:=X1.frz s2 f2
  rw [List.append_nil]
  have hn:L2.noS r:=by
    cases r with
    | d x=>trivial
    | l x=>trivial
    | s i=>cases c4
  have nN:=iX h2
  have RA:a8 K F2 H1 (vs.map some) (as.map some):=by
    refine⟨R2.sm,by simp [l1],fun k x hk=>?_,fun k xs hk=>?_,fun k xss hk=>absurd hk (nN k xss),fun k j l f1 f2=>?_⟩
    · obtain⟨v,g1,g2⟩:=d2 k x (fQ.mp hk)
      exact⟨v,fQ.mpr g1,g2⟩
    · obtain⟨i,g1,g2,v,g3,g4⟩:=o2 k xs (fQ.mp hk)
      obtain⟨l,us,k1,k2,k3,k4⟩:=R2.own i xs g2
      rw [g4] at k1;cases k1
      exact⟨l,us,fQ.mpr g3,k2,k3,k4⟩
    · obtain⟨xs,g1,g3⟩:=f1.resolve_right fun⟨xss,_,_,z,_⟩=>nN k xss z
      obtain⟨ys,g2,g4⟩:=f2.resolve_right fun⟨xss,_,_,z,_⟩=>nN j xss z
      obtain⟨i1,a1,a2,v1,a3,a4⟩:=o2 k xs (fQ.mp g1)
      obtain⟨i2,b1,b2,v2,b3,b4⟩:=o2 j ys (fQ.mp g2)
      have e1:=fQ.mp g3
      have e2:=fQ.mp g4
      rw [a3] at e1;cases e1
      rw [b3] at e2;cases e2
      have:i1=i2:=R2.inj i1 i2 xs ys l a2 b2 a4 b4
      subst this
      exact gQ c2 a1 b1
  have sub:sI σ e1 (vs.map some) (as.map some) (lb rs):=by
    refine⟨fun i k xs g1 g2=>?_,fun k ys g1=>?_⟩
    · have g3:=mH g2
      obtain⟨zs,hs⟩:=lr h2 g3
      obtain⟨i',a1,a2,v,a3,a4⟩:=o2 k zs hs
      rw [g3] at a1;cases a1
      rw [fQ.mpr a3,a4]
    · obtain⟨i,a1,a2,v,a3,a4⟩:=o2 k ys (fQ.mp g1)
      refine⟨i,ys,a2,?_,by rw [fQ.mpr a3,a4]⟩
      cases hp:lb rs i with
      | none=>
        unfold lb at hp
        rw [List.findIdx?_eq_none_iff] at hp
        have:=hp _ (List.mem_of_getElem? a1)
        simp at this
      | some j=>rw [gQ c2 (mH hp) a1]
  refine⟨by rw [l1,←l2];exact c1,F2,as,r,as',RA,nN,h3,hn,fun F' H' v X3 R3 A3=>?_⟩
  obtain⟨R4,X4,o4⟩:=uc R2 sub nN X3.sf X3.dom X3.fr X3.lst X3.tmp R3 (fun _ _ _ _ _=>rfl) fun i k xs g1 g2=>by
    obtain⟨ys,g3⟩:=i4 c3 k i (mH g2)
    exact⟨ys,fQ.mpr g3⟩
  have hb:=nU (e:=e1) c2 c3 (fM h2)
  rw [←hb] at R4 X4 o4
  exact q F' H' v (X2.trans X4) R4 ((A3.noS hn fun a z=>R2.ownH a (o4 a z)).weak X2.dom)
theorem aR{x:Str}{st:Stmt}{f:Addr}{fd:FuncData}{ps:List Str}{k n:Nat}{m:FM}{a:Expr}{es:List Expr}{fs:FA}{p pos:Pos}(h:aZ X.K X.mg x st f fd ps)(G:aF X.prog X.w X.K X.mg X.base bv k f fd ps (bz K n m))(hr:ee k X.A)(ha:PA X (a::es) (fA K fs))
    (hg:Gl X x)(hdb:(x==("__debug__":Str))=false)(he:starEach (a::es) X.env=(false,eval a X.env)::starEach es X.env)(hpl:(backTo pos (starEach es X.env)).any (·.1)=false):
    PE X (.Call (.Name x p) (a::es) [] pos) (fE K (bO n m fs)):=(GO h G hr ha hg hdb he hpl).mono fun _ _ _ h=>EE h
def su:List Sv→En→Option (List Sv)
  | [],_=>some []
  | .d x::r,e=>(su r e.tail).map (.d x::·)
  | .l _::r,e=>match e.head? with
    | some (some (.l ys))=>(su r e.tail).map (.l ys::·)
    | _=>none
  | .n _::_,_=>none
def pU(n:Nat)(e:En):Rv→Option Rv
  | .s i=>if n≤i then match e[i]? with
      | some (some (.l xs))=>some (.l xs)
      | _=>none
    else none
  | r=>some r
def jK(W:List Nat)(as:List Sv):Bool:=W.all fun j=>match as[j]? with
  | some (.l _)=>false
  | _=>true
def f9(n k:Nat)(W:List Nat)(f:FS):FM:=fun as=>if as.length=n∧jK W as=true then(f (as.map some++List.replicate k none)).bind fun fl=>match fl with
    | .rt r e=>(pU n e r).bind fun r'=>(su as e).map fun as'=>(r',as')
    | .nx e=>(su as e).map fun as'=>(.d .none,as')
    | _=>none
  else none
theorem om:∀{as as':List Sv} {e:En},su as e=some as'→as'.length=as.length∧(∀(j:Nat) (x:PyData),as'[j]?=some (.d x)↔ as[j]?=some (.d x))∧(∀(j:Nat) (ys:List PyData),as'[j]?=some (.l ys)→(∃xs,as[j]?=some (.l xs))∧e[j]?=some (some (.l ys)))∧∀(j:Nat) (xs:List PyData),as[j]?=some (.l xs)→∃ys,as'[j]?=some (.l ys)
  | [],_,e,h=>by cases h;simp
  | .d x::r,_,e,h=>by
    obtain⟨s,h1,rfl⟩:=Option.map_eq_some_iff.mp h
    obtain⟨g1,g2,g3,g4⟩:=om h1
    refine⟨by simp [g1],fun j y=>?_,fun j ys hj=>?_,fun j xs hj=>?_⟩
    · cases j with
      | zero=>simp
      | succ j=>simpa using g2 j y
    · cases j with
      | zero=>simp at hj
      | succ j=>
        obtain⟨c1,c2⟩:=g3 j ys (by simpa using hj)
        refine⟨by simpa using c1,?_⟩
        rw [List.getElem?_tail] at c2
        exact c2
    · cases j with
      | zero=>simp at hj
      | succ j=>simpa using g4 j xs (by simpa using hj)
  | .l xs::r,_,e,h=>by
    unfold su at h
    match he:e.head?,h with
    | some (some (.l ys)),h=>
      obtain⟨s,h1,rfl⟩:=Option.map_eq_some_iff.mp h
      obtain⟨g1,g2,g3,g4⟩:=om h1
      refine⟨by simp [g1],fun j y=>?_,fun j zs hj=>?_,fun j zs hj=>?_⟩
      · cases j with
        | zero=>simp
        | succ j=>simpa using g2 j y
      · cases j with
        | zero=>
          simp at hj;subst hj
          exact⟨⟨xs,rfl⟩,by rw [List.head?_eq_getElem?] at he;exact he⟩
        | succ j=>
          obtain⟨c1,c2⟩:=g3 j zs (by simpa using hj)
          refine⟨by simpa using c1,?_⟩
          rw [List.getElem?_tail] at c2
          exact c2
      · cases j with
        | zero=>exact⟨ys,rfl⟩
        | succ j=>simpa using g4 j zs (by simpa using hj)
  | .n x::r,_,e,h=>by simp [su] at h
end
end L2
namespace L2
open PySem PySem.Spec PyProof.Rows
theorem eH{α:Type}{l:List (Option α)}{k i:Nat}{x:α}(h:(l++List.replicate k none)[i]?=some (some x)):l[i]?=some (some x):=by
  rw [List.getElem?_append] at h
  split at h
  · exact h
  · rw [List.getElem?_replicate] at h
    split at h<;>simp at h
theorem eY{α:Type}{l:List (Option α)}{k i:Nat}{x:α}(h:l[i]?=some (some x)):(l++List.replicate k none)[i]?=some (some x):=by
  have hi:i < l.length:=(List.getElem?_eq_some_iff.mp h).1
  rw [List.getElem?_append_left hi];exact h
section
variable{K:PySem.W.Frag}{F H:Hp}{σ:L2.St}{e:En}{k:Nat}
theorem rq{i:Nat}{a:Addr}:Fp (σ++List.replicate k none) (e++List.replicate k none) H i a↔ Fp σ e H i a:=by
  constructor
  · rintro(⟨xs,h1,h2⟩ | ⟨xss,l,bs,h1,h2,h3⟩)
    · exact .inl ⟨xs,eH h1,eH h2⟩
    · exact .inr ⟨xss,l,bs,eH h1,eH h2,h3⟩
  · rintro(⟨xs,h1,h2⟩ | ⟨xss,l,bs,h1,h2,h3⟩)
    · exact .inl ⟨xs,eY h1,eY h2⟩
    · exact .inr ⟨xss,l,bs,eY h1,eY h2,h3⟩
theorem rW{a:Addr}:dn (σ++List.replicate k none) (e++List.replicate k none) H a↔ dn σ e H a:=⟨fun⟨i,h⟩=>⟨i,rq.mp h⟩,fun⟨i,h⟩=>⟨i,rq.mpr h⟩⟩
theorem a8.pad(R:a8 K F H σ e):a8 K F H (σ++List.replicate k none) (e++List.replicate k none):=by
  refine⟨R.sm,by simp [R.len],fun i x h=>?_,fun i xs h=>?_,fun i xss h=>?_,fun i j a h1 h2=>R.fp i j a (rq.mp h1) (rq.mp h2)⟩
  · obtain⟨v,g1,g2⟩:=R.dat i x (eH h)
    exact⟨v,eY g1,g2⟩
  · obtain⟨l,vs,g1,g2⟩:=R.own i xs (eH h)
    exact⟨l,vs,eY g1,g2⟩
  · obtain⟨l,bs,g1,g2⟩:=R.nst i xss (eH h)
    exact⟨l,bs,eY g1,g2⟩
end
theorem sv:∀{as as':List Sv} {e:En},su as e=some as'→EM (as'.map some)
  | [],_,e,h=>by cases h;intro i xss z;simp at z
  | .d x::r,_,e,h=>by
    obtain⟨s,h1,rfl⟩:=Option.map_eq_some_iff.mp h
    have ih:=sv h1
    intro i xss z
    cases i with
    | zero=>simp at z
    | succ i=>exact ih i xss (by simpa using z)
  | .l xs::r,_,e,h=>by
    unfold su at h
    match he:e.head?,h with
    | some (some (.l ys)),h=>
      obtain⟨s,h1,rfl⟩:=Option.map_eq_some_iff.mp h
      have ih:=sv h1
      intro i xss z
      cases i with
      | zero=>simp at z
      | succ i=>exact ih i xss (by simpa using z)
  | .n x::r,_,e,h=>by simp [su] at h
theorem tG{W:List Nat}{as:List Sv}(h:jK W as=true){j:Nat}{xs:List PyData}(hj:as[j]?=some (.l xs)):j∉W:=fun z=>by
  unfold jK at h
  have:=List.all_eq_true.mp h j z
  rw [hj] at this
  cases this
section
variable{P:Program}{w:World}{K:PySem.W.Frag}{mg:Str→Option Value}{base:Heap}
theorem aZ.fn{x:Str}{st:Stmt}{f:Addr}{fd:FuncData}{N ps:List Str}{k n k0:Nat}{W:List Nat}{fb:FS}(h:aZ K mg x st f fd ps)(S:aB N ps (aj st))(hn:ps.length=n)(hN:N.length=n+k0)
    (hb:∀(cdv:Value) (A:Around) (outer:List Env) (s:Shared) (H:Hp) (E:XK),ee k (A.deeper (envOfC x (aj st) s.heap.objs.size f cdv))→nJ (uP bv P w K mg base N x (aj st) f cdv A outer s H E).nox (cJ st) (fS K fb W)):
    aF P w K mg base bv (k+1) f fd ps (bz K n (f9 n k0 W fb)):=by
  refine h.F.ok S (fun vs H Q E q=>?_) fun cdv A outer s H vs Q E hr hsp=>⟨_,hb cdv A outer s H E hr,?_⟩
  · rw [hn];exact q.1
  · obtain⟨hl,F,as,r,as',R,nN,hm,nr,q⟩:=hsp
    unfold f9 at hm
    split at hm
    case isFalse=>cases hm
    case isTrue hc=>
    obtain⟨la,nl⟩:=hc
    obtain⟨fl,h1,hm⟩:=Option.bind_eq_some_iff.mp hm
    have hst:jh N vs=vs.map some++List.replicate k0 none:=by unfold jh;rw [hN,hl];congr 2;lia
    rw [hst]
    have key:∀{as':List Sv} {e':En},su as e'=some as'→∀F' H' σ',ed W (vs.map some++List.replicate k0 none) F H (as.map some++List.replicate k0 none) σ' F' H' e'→a8 K F' H' σ' e'→
        fB (vs.map some) F H (as.map some) F' H' (as'.map some)∧a8 K F' H' (vs.map some) (as'.map some)∧∀a,dn (vs.map some) (as'.map some) H' a→dn (vs.map some) (as.map some) H a:=by
      intro as' e' hu F' H' σ' X' R'
      obtain⟨u1,u2,u3,u4⟩:=om hu
      have uN:=sv hu
      have ow:∀a,dn (vs.map some) (as'.map some) H' a→dn (vs.map some) (as.map some) H a:=by
        rintro a ⟨j,⟨ys,c1,c2⟩ | ⟨xss,_,_,z,_⟩⟩
        · obtain⟨⟨xs,c3⟩,_⟩:=u3 j ys (fQ.mp c1)
          exact⟨j,.inl ⟨xs,fQ.mpr c3,c2⟩⟩
        · exact absurd z (uN j xss)
      have sg:∀(j:Nat) (xs:List PyData),as[j]?=some (.l xs)→σ'[j]?=(vs.map some)[j]?:=fun j xs hj=>by
        rw [X'.wr j (tG nl hj)]
        have hj2:j < (vs.map some).length:=by rw [List.length_map,hl,←la];exact(List.getElem?_eq_some_iff.mp hj).1
        rw [List.getElem?_append_left hj2]
      refine⟨⟨X'.sf,X'.dom,fun a vs h1 h2 hn=>X'.fr a vs h1 h2 fun z=>hn (rW.mp z),X'.lst,fun a o ha hn=>X'.tmp a o ha fun z=>hn (rW.mp z),fun j=>?_,fun a z=>.inl (ow a z)⟩,⟨R'.sm,?_,fun j y hj=>?_,fun j ys hj=>?_,fun j xss hj=>absurd hj (uN j xss),fun j i l f1 f2=>?_⟩,ow⟩
      · constructor
        · rintro⟨ys,hj⟩
          obtain⟨⟨xs,c⟩,_⟩:=u3 j ys (fQ.mp hj)
          exact⟨xs,fQ.mpr c⟩
        · rintro⟨xs,hj⟩
          obtain⟨ys,c⟩:=u4 j xs (fQ.mp hj)
          exact⟨ys,fQ.mpr c⟩
      · simp [u1,hl,la]
      · obtain⟨v,c1,c2⟩:=R.dat j y (fQ.mpr ((u2 j y).mp (fQ.mp hj)))
        exact⟨v,c1,DA.mono X'.sf c2⟩
      · obtain⟨⟨xs,c1⟩,c2⟩:=u3 j ys (fQ.mp hj)
        obtain⟨l,us,d1,d2⟩:=R'.own j ys c2
        exact⟨l,us,by rw [←sg j xs c1];exact d1,d2⟩
      · obtain⟨xs,g1,g3⟩:=f1.resolve_right fun⟨xss,_,_,z,_⟩=>uN j xss z
        obtain⟨ys,g2,g4⟩:=f2.resolve_right fun⟨xss,_,_,z,_⟩=>uN i xss z
        obtain⟨⟨zs,c1⟩,c2⟩:=u3 j xs (fQ.mp g1)
        obtain⟨⟨ws,c3⟩,c4⟩:=u3 i ys (fQ.mp g2)
        exact R'.inj j i xs ys l c2 c4 (by rw [sg j zs c1];exact g3) (by rw [sg i ws c3];exact g4)
    refine⟨F,as.map some++List.replicate k0 none,fl,R.pad,h1,?_⟩
    cases fl with
    | bk e'=>cases hm
    | ct e'=>cases hm
    | nx e'=>
      obtain⟨as2,h2,hm⟩:=Option.map_eq_some_iff.mp hm
      cases hm
      intro F' H' σ' X' R'
      obtain⟨X2,R2,_⟩:=key h2 F' H' σ' X' R'
      exact q F' H' .non X2 R2 ((nW (K:=K) (F:=F')).mpr rfl)
    | rt r0 e'=>
      obtain⟨r1,h2,hm⟩:=Option.bind_eq_some_iff.mp hm
      obtain⟨as2,h3,hm⟩:=Option.map_eq_some_iff.mp hm
      cases hm
      intro F' H' σ' v X' R' A'
      obtain⟨X2,R2,ow2⟩:=key h3 F' H' σ' X' R'
      have noo:∀l,H l=none→¬dn (vs.map some) (as'.map some) H' l:=fun l hl z=>R.ownH l (ow2 l z) hl
      refine q F' H' v X2 R2 ?_
      cases r0 with
      | d y=>cases h2;exact A'
      | l ys=>
        cases h2
        obtain⟨l,us,d0,d1,d2,d3,d4,_⟩:=A'
        exact⟨l,us,d0,d1,d2,d3,d4,noo l d1⟩
      | s i=>
        simp only [pU] at h2
        split at h2
        case isFalse=>cases h2
        case isTrue hi=>
        obtain⟨a1,xs,a2⟩:=A'
        rw [a2] at h2
        cases h2
        obtain⟨l,us,d1,d2,d3,d4⟩:=R'.own i _ a2
        rw [a1] at d1;cases d1
        suffices hl0:H l=none from⟨l,us,rfl,hl0,d2,d3,d4,noo l hl0⟩
        rcases X'.own l ⟨i,.inl ⟨_,a2,a1⟩⟩ with z | z
        · obtain⟨j,zf⟩:=rW.mp z
          obtain⟨ys,z1,z2⟩:=zf.resolve_right fun⟨xss,_,_,z,_⟩=>nN j xss z
          have z1':=fQ.mp z1
          obtain⟨u1,u2,u3,u4⟩:=om h3
          obtain⟨ws,w1⟩:=u4 j ys z1'
          obtain⟨_,w2⟩:=u3 j ws w1
          have hj2:j < vs.length:=by rw [hl,←la];exact(List.getElem?_eq_some_iff.mp z1').1
          have e3:σ'[j]?=some (some (.ref l)):=by
            rw [X'.wr j (tG nl z1'),List.getElem?_append_left (by simpa using hj2)]
            exact z2
          have:=R'.inj i j _ ws l a2 w2 a1 e3
          lia
        · exact z
end
def Fb:Option Sv→Option Sv
  | some (.n _)=>none
  | s=>s
def sC(cp:List (Nat × Str))(nT:Nat)(e:En):En:=cp.map (fun p=>Fb (e[p.1]?).join)++List.replicate nT none
def oZ(cp:List (Nat × Str))(i:Nat):Option Nat:=cp.findIdx? fun p=>p.1==i
def eL(g:FG)(ft:FT)(fe:FE):List PyData→En→List PyData→Option (List PyData × En)
  | [],e,acc=>some (acc,e)
  | x::r,e,acc=>(g x e).bind fun e1=>(ft e1).bind fun b=>if b.1=true then(fe b.2).bind fun v=>(mv v.1).bind fun d=>if acc.length < 1000000 then eL g ft fe r v.2 (acc++[d]) else none else eL g ft fe r b.2 acc
def oB(cp:List (Nat × Str))(ei e:En):Bool:=cp.all fun p=> !AN e[p.1]? || AN ei[(oZ cp p.1).getD 0]?
def cw(cp:List (Nat × Str))(nT:Nat)(fi:FI)(g:FG)(ft:FT)(fe:FE):FE:=fun e=>(fi e).bind fun p=>if (p.2.1.all fun q=> !(cp.any fun c=>c.1==q.1))=true then(eL g ft fe p.1 (sC cp nT p.2.2) []).bind fun z=>if oB cp z.2 p.2.2=true then some (.l z.1,pI (oZ cp) z.2 p.2.2) else none else none
section
variable{K:PySem.W.Frag}{F H:Hp}{σ:L2.St}{e:En}{cp:List (Nat × Str)}{nT:Nat}
theorem iP{i k:Nat}(h:oZ cp i=some k):∃s,cp[k]?=some (i,s):=by
  unfold oZ at h
  rw [List.findIdx?_eq_some_iff_getElem] at h
  obtain⟨hk,h1,_⟩:=h
  refine⟨cp[k].2,?_⟩
  rw [List.getElem?_eq_getElem hk]
  have:=eq_of_beq h1
  rw [←this]
theorem j2{k:Nat}{x:Sv}(h:(sC cp nT e)[k]?=some (some x)):∃i s,cp[k]?=some (i,s)∧e[i]?=some (some x):=by
  unfold sC at h
  have h:=eH h
  rw [List.getElem?_map] at h
  obtain⟨p,h1,h2⟩:=Option.map_eq_some_iff.mp h
  refine⟨p.1,p.2,h1,?_⟩
  cases q:e[p.1]? with
  | none=>rw [q] at h2;cases h2
  | some y=>
    rw [q] at h2
    match y,h2 with
    | some (.d z),h2=>exact congrArg some h2
    | some (.l z),h2=>exact congrArg some h2
    | some (.n z),h2=>cases h2
    | none,h2=>cases h2
theorem lM:EM (sC cp nT e):=by
  intro k xss h
  unfold sC at h
  have h:=eH h
  rw [List.getElem?_map] at h
  obtain⟨p,h1,h2⟩:=Option.map_eq_some_iff.mp h
  match (e[p.1]?).join,h2 with
  | some (.d z),h2=>cases h2
  | some (.l z),h2=>cases h2
  | some (.n z),h2=>cases h2
  | none,h2=>cases h2
theorem oi{k i:Nat}{s:Str}{v:V}(h:cp[k]?=some (i,s))(hv:σ[i]?=some (some v)):(iR cp nT σ)[k]?=some (some v):=by
  unfold iR
  refine eY ?_
  rw [List.getElem?_map,h]
  simp [hv]
theorem pD{k i:Nat}{s:Str}{v:V}(h:cp[k]?=some (i,s))(hv:(iR cp nT σ)[k]?=some (some v)):σ[i]?=some (some v):=by
  unfold iR at hv
  have hv:=eH hv
  rw [List.getElem?_map,h] at hv
  simp only [Option.map_some,Option.some.injEq] at hv
  cases q:σ[i]? with
  | none=>rw [q] at hv;cases hv
  | some y=>rw [q] at hv;exact congrArg some hv
theorem rj:∀{cp:List (Nat × Str)} {k j i:Nat} {s t:Str},(cp.map (·.1)).Nodup→cp[k]?=some (i,s)→cp[j]?=some (i,t)→k=j
  | [],k,j,i,s,t,_,h,_=>by simp at h
  | p::r,k,j,i,s,t,hn,h1,h2=>by
    simp only [List.map_cons,List.nodup_cons] at hn
    cases k with
    | zero=>
      simp at h1;subst h1
      cases j with
      | zero=>rfl
      | succ j=>
        have hm:(i,t)∈r:=List.mem_of_getElem? (i:=j) (by simpa using h2)
        exact absurd (List.mem_map.mpr ⟨(i,t),hm,rfl⟩) hn.1
    | succ k=>
      cases j with
      | zero=>
        simp at h2;subst h2
        have hm:(i,s)∈r:=List.mem_of_getElem? (i:=k) (by simpa using h1)
        exact absurd (List.mem_map.mpr ⟨(i,s),hm,rfl⟩) hn.1
      | succ j=>
        have:=rj (cp:=r) (k:=k) (j:=j) hn.2 (by simpa using h1) (by simpa using h2)
        lia
theorem a8.inn(R:a8 K F H σ e)(hn:(cp.map (·.1)).Nodup):a8 K F H (iR cp nT σ) (sC cp nT e)∧sI σ e (iR cp nT σ) (sC cp nT e) (oZ cp):=by
  refine⟨⟨R.sm,by simp [iR,sC],fun k x h=>?_,fun k xs h=>?_,fun k xss h=>absurd h (lM k xss),fun k j l f1 f2=>?_⟩,⟨fun i k xs h1 h2=>?_,fun k ys h=>?_⟩⟩
  · obtain⟨i,s,h1,h2⟩:=j2 h
    obtain⟨v,g1,g2⟩:=R.dat i x h2
    exact⟨v,oi h1 g1,g2⟩
  · obtain⟨i,s,h1,h2⟩:=j2 h
    obtain⟨l,vs,g1,g2⟩:=R.own i xs h2
    exact⟨l,vs,oi h1 g1,g2⟩
  · obtain⟨xs,h1,h3⟩:=f1.resolve_right fun⟨xss,_,_,z,_⟩=>lM k xss z
    obtain⟨ys,h2,h4⟩:=f2.resolve_right fun⟨xss,_,_,z,_⟩=>lM j xss z
    obtain⟨i,s,a1,a2⟩:=j2 h1
    obtain⟨i',s',b1,b2⟩:=j2 h2
    have:i=i':=R.inj i i' xs ys l a2 b2 (pD a1 h3) (pD b1 h4)
    subst this
    exact rj hn a1 b1
  · obtain⟨s,g⟩:=iP h2
    obtain⟨l,vs,g1,_⟩:=R.own i xs h1
    rw [g1];exact oi g g1
  · obtain⟨i,s,h1,h2⟩:=j2 h
    obtain⟨l,vs,g1,_⟩:=R.own i ys h2
    refine⟨i,ys,h2,?_,by rw [g1];exact oi h1 g1⟩
    cases hp:oZ cp i with
    | none=>
      unfold oZ at hp
      rw [List.findIdx?_eq_none_iff] at hp
      have:=hp _ (List.mem_of_getElem? h1)
      simp at this
    | some j=>
      obtain⟨t,g⟩:=iP hp
      rw [rj hn g h1]
theorem a8.putT(R:a8 K F H σ e){l:Addr}{ws:List V}(h1:F l=none)(h2:¬dn σ e H l):a8 K F (bi H l (.lst ws)) σ e∧∀a,dn σ e (bi H l (.lst ws)) a↔ dn σ e H a:=
  R.keep (av.refl F) (fun b o q=>by
    have z:b≠l:=fun z=>by rw [z,h1] at q;cases q
    rw [au z];exact R.sm b o q) (fun a ⟨i,h⟩=>(R.fpAt h).1) fun a o ha q=>by
      have z:a≠l:=fun z=>h2 (by rw [←z];exact ha)
      rw [au z];exact q
theorem ed.putT{W:List Nat}{σ':L2.St}{F' H':Hp}{e':En}(x:ed W σ F H e σ' F' H' e'){l:Addr}{o:HO}(h:H l=none)(ho:∀a,dn σ' e' (bi H' l o) a↔ dn σ' e' H' a):ed W σ F H e σ' F' (bi H' l o) e':=by
  refine⟨x.sf,fun a q=>?_,x.fr,fun a vs q=>?_,fun a u q n=>?_,fun a q=>x.own a ((ho a).mp q),x.wr⟩
  · by_cases z:a=l
    · rw [z];exact h
    · rw [au z] at q;exact x.dom a q
  · have z:a≠l:=fun z=>by rw [z,h] at q;cases q
    rw [au z];exact x.lst a vs q
  · have z:a≠l:=fun z=>by rw [z,h] at q;cases q
    rw [au z];exact x.tmp a u q n
inductive CI (K:PySem.W.Frag) (W:List Nat) (σ0:L2.St) (F1 H1:Hp) (e0:En) (l:Addr) (P:Hp→En→List PyData→Prop) (σ':L2.St) (H':Hp):Prop
  | mk {F':Hp} {ei:En} {acc:List PyData} {vs:List V} (R:a8 K F' H' σ' ei) (X:ed W σ0 F1 H1 e0 σ' F' H' ei) (fl:F' l=none) (no:¬dn σ' ei H' l) (hl:H' l=some (.lst vs)) (da:aL K F' acc vs) (hc:P F' ei acc):CI K W σ0 F1 H1 e0 l P σ' H'
theorem um{Q:VK}{fi:FI}{g:FG}{W:List Nat}{ft:FT}{fe:FE}(hn:(cp.map (·.1)).Nodup)(hW:∀j∈W,cp.length≤j)(h:fE K (cw cp nT fi g ft fe) σ H Q):wX cp nT (fI K fi) (fG K g W) (fT K ft) (fE K fe) σ H Q:=by
  obtain⟨F0,e0,z,e',R0,hf,q⟩:=h
  unfold cw at hf
  obtain⟨⟨items,own,e1⟩,h1,hf⟩:=Option.bind_eq_some_iff.mp hf
  dsimp only at hf
  split at hf
  case isFalse=>cases hf
  case isTrue hO=>
  obtain⟨⟨out,eo⟩,h2,hf⟩:=Option.bind_eq_some_iff.mp hf
  dsimp only at hf
  split at hf
  case isFalse=>cases hf
  case isTrue hB=>
  cases hf
  refine⟨⟨F0,e0,items,own,e1,R0,h1,fun J F1 H1 X1 R1 kp ok=>?_⟩⟩
  intro l hl
  obtain⟨Ri,sub⟩:=R1.inn (nT:=nT) hn
  have hFl:F1 l=none:=R1.freeF hl
  let Iv:Nat→L2.St→Hp→Prop:=fun i=>CI K W (iR cp nT σ) F1 H1 (sC cp nT e1) l fun _ ei acc=>eL g ft fe (items.drop i) ei acc=some (out,eo)
  have notown:∀p∈own,∀a,σ[p.1]?=some (some (.ref a))→¬dn (iR cp nT σ) (sC cp nT e1) H1 a:=by
    rintro p hp a ha ⟨k,zf⟩
    obtain⟨xs,c1,c2⟩:=zf.resolve_right fun⟨xss,_,_,z,_⟩=>lM k xss z
    obtain⟨i,s,d1,d2⟩:=j2 c1
    have e2:=pD d1 c2
    have:p.1=i:=R1.inj p.1 i p.2 xs a (kp p hp) d2 ha e2
    have hh:=List.all_eq_true.mp hO p hp
    simp only [Bool.not_eq_true',List.any_eq_false,beq_iff_eq] at hh
    exact hh (i,s) (List.mem_of_getElem? d1) this.symm
  refine⟨fun i m σ' H'=>m=items.length - i∧i≤items.length∧Iv i σ' H',⟨items.length,by simp,Nat.zero_le _,.mk (Ri.putT hFl (fun z=>(Ri.ownH l z) hl)).1 (ed.refl.putT hl (Ri.putT hFl (fun z=>(Ri.ownH l z) hl)).2) hFl (fun z=>(Ri.ownH l (((Ri.putT hFl (fun z=>(Ri.ownH l z) hl)).2 l).mp z)) hl) aA aL.nil h2⟩,?_⟩
  rintro i m σ' H' ⟨rfl,hi,⟨R',X',fl,no,hl',da,hc⟩⟩
  rename_i F' ei acc vs
  have held:yl K σ F' H' own:=fun p hp=>by
    obtain⟨a,us,c1,c2,c3,c4⟩:=R1.own p.1 p.2 (kp p hp)
    exact⟨a,us,c1,X'.tmp a _ c3 (notown p hp a c1),c4.mono X'.sf⟩
  obtain⟨go,stop,yld⟩:=ok F' H' X'.sf R'.sm held
  by_cases hlt:i < items.length
  · have hd:items.drop i=items[i]::items.drop (i+1):=List.drop_eq_getElem_cons hlt
    rw [hd] at hc
    unfold eL at hc
    obtain⟨e2,c2,hc⟩:=Option.bind_eq_some_iff.mp hc
    obtain⟨⟨b,e3⟩,c3,hc⟩:=Option.bind_eq_some_iff.mp hc
    refine .inr ⟨go i hlt,Iv (i+1),fun σ2 H2 r=>⟨items.length - (i+1),by lia,rfl,hlt,r⟩,fun x H2 hy=>?_⟩
    obtain⟨F2,sH,sF2,sm2,fz,hx⟩:=yld i items[i] x H2 (List.getElem?_eq_getElem hlt) hy
    obtain⟨R2,X2⟩:=R'.step sH sF2 sm2 fz
    refine⟨F2,ei,items[i],e2,R2,hx,c2,fun σ3 X3 R3=>⟨F2,e2,b,e3,R3,c3,fun F4 H4 X4 R4=>?_⟩⟩
    have hlH2:H2 l=some (.lst vs):=sH _ _ hl'
    have no2:¬dn σ' ei H2 l:=fun z=>by
      rcases X2.ow l z with z | z
      · exact no z
      · rw [hl'] at z;cases z
    have no3:¬dn σ3 e2 H2 l:=fun z=>by
      rcases X3.own l z with z | z
      · exact no2 z
      · rw [hlH2] at z;cases z
    have fl2:F2 l=none:=fz l fl (by rw [hl'];simp)
    have hlH4:H4 l=some (.lst vs):=X4.tmp l _ hlH2 no3
    have fl4:F4 l=none:=X4.fr l vs fl2 hlH2 no3
    have no4:¬dn σ3 e3 H4 l:=fun z=>by
      rcases X4.ow l z with z | z
      · exact no3 z
      · rw [hlH2] at z;cases z
    have E4:ed W (iR cp nT σ) F1 H1 (sC cp nT e1) σ3 F4 H4 e3:=((X'.trans X2.s).trans X3).trans X4.s
    cases b with
    | false=>
      rw [if_neg (by simp)] at hc
      exact E9 (.mk R4 E4 fl4 no4 hlH4 (da.mono (sF2.trans X4.sf)) hc)
    | true=>
      rw [if_pos rfl] at hc
      obtain⟨⟨r,e5⟩,c5,hc⟩:=Option.bind_eq_some_iff.mp hc
      obtain⟨d,c6,hc⟩:=Option.bind_eq_some_iff.mp hc
      split at hc
      case isFalse=>cases hc
      case isTrue hlen=>
      refine E_ ⟨F4,e3,r,e5,R4,c5,fun F5 H5 v X5 R5 A5=>?_⟩
      have hlH5:H5 l=some (.lst vs):=X5.tmp l _ hlH4 no4
      have fl5:F5 l=none:=X5.fr l vs fl4 hlH4 no4
      have no5:¬dn σ3 e5 H5 l:=fun z=>by
        rcases X5.ow l z with z | z
        · exact no4 z
        · rw [hlH4] at z;cases z
      obtain⟨F6,R6,s6,d6,f6⟩:=cV.frozen R5 (rs:=[r]) (vs:=[v]) ⟨v,[],rfl,A5,rfl⟩ (mw c6)
      have fl6:F6 l=none:=f6 l fl5 (by rw [hlH4];simp)
      have X6:=X5.frz s6 f6
      have ll:=da.len
      have sl:sizeLine=16777216:=sizeLine_eq
      have dv:DA K F6 d v:=by
        simp only [aL] at d6
        obtain⟨v',r',e',hv,_⟩:=d6
        cases e';exact hv
      obtain⟨R7,o7⟩:=R6.putT (ws:=vs++[v]) fl6 no5
      exact⟨vs,hlH5,by lia,.mk R7 ((E4.trans X6.s).putT hl o7) fl6 (fun z=>no5 ((o7 l).mp z)) aA ((da.mono (sF2.trans (X4.sf.trans (X5.sf.trans s6)))).append (aL.one dv)) hc⟩
  · have hd:items.drop i=[]:=List.drop_eq_nil_of_le (by lia)
    rw [hd] at hc
    cases hc
    refine .inl ⟨stop i (by lia),?_⟩
    obtain⟨R9,X9,o9⟩:=uc R1 sub lM X'.sf X'.dom X'.fr X'.lst X'.tmp R' (fun i k xs g1 g2=>X'.wr k fun z=>by
      obtain⟨s,g⟩:=iP g2
      have:=(List.getElem?_eq_some_iff.mp g).1
      have:=hW k z
      lia) fun i k xs g1 g2=>by
        obtain⟨s,g⟩:=iP g2
        unfold oB at hB
        have hb:=List.all_eq_true.mp hB _ (List.mem_of_getElem? g)
        simp only [g1,g2,Option.getD_some,AN,Bool.not_true,Bool.false_or] at hb
        exact Bf.mp hb
    exact q F' H' (.ref l) (X1.trans X9) R9 ⟨l,vs,rfl,X1.dom l hl,fl,hl',da,fun z=>R1.ownH l (o9 l z) hl⟩
end
end L2
namespace L2
open PySem PySem.Spec PyProof.Rows
section
variable{X:Cx}{K:PySem.W.Frag}{a b:Expr}{es:List Expr}{fa fb:FE}{fs:FA}{pos p p2 p3:Pos}{lo hi:Option Expr}
def my:En→Rv→Option Rv:=fun _ x=>(bC x).map fun i=>.d (.int (-i))
theorem Fh:Gf K (rU fun i=>.int (-i)) my:=by
  intro σ H0 F H e x z v Q R A hg q
  obtain⟨i,h5,h4⟩:=Option.map_eq_some_iff.mp hg
  cases h4
  exact⟨i,bR A h5,q F H _ (fB.refl _ _ _ _) R mJ⟩
theorem nv(ha:PE X a (fE K fa)):PE X (.UnaryOp .USub a pos) (fE K (pN my fa)):=Fx ED Fh ha
theorem bK(hK:X.K=K)(ha:PE X a (fE K fa))(hb:PE X b (fE K fb)):PE X (.BinOp a .Add b pos) (fE K (aq bY fa fb)):=qE (hK ▸ Bs) ET ha hb
theorem wD(ha:PE X a (fE K fa))(hb:PE X b (fE K fb)):PE X (.BinOp a .Sub b pos) (fE K (aq kZ fa fb)):=qE DP FP ha hb
theorem dQ(hK:X.K=K)(ha:PE X a (fE K fa))(hb:PE X b (fE K fb)):PE X (.BinOp a .Mult b pos) (fE K (aq ce fa fb)):=qE (hK ▸ Bx) Fg ha hb
theorem iu(ha:PE X a (fE K fa))(hb:PE X b (fE K fb)):PE X (.BinOp a .FloorDiv b pos) (fE K (aq ef fa fb)):=qE zo Dl ha hb
theorem a_(ha:PE X a (fE K fa))(hb:PE X b (fE K fb)):PE X (.BinOp a .Mod b pos) (fE K (aq bg fa fb)):=qE Bw Ff ha hb
theorem CU(ha:PE X a (fE K fa))(hb:PE X b (fE K fb)):PE X (.BinOp a .Pow b pos) (fE K (aq uT fa fb)):=qE DN Ft ha hb
theorem aO(hK:X.K=K)(ha:PE X a (fE K fa))(hb:PE X b (fE K fb))(hs:nP b):PE X (.Subscript a b pos) (fE K (aq bH fa fb)):=Fw (hK ▸ GJ) GK ha hb hs
theorem j7{fl fh:FO}(hK:X.K=K)(he:PE X a (fE K fa))(hl:PO X lo (fO K fl))(hh:PO X hi (fO K fh)):PE X (.Subscript a (.Slice lo hi none p2) pos) (fE K (ut fa fl fh)):=by subst hK;exact zP he hl hh
structure sD (X:Cx) (K:PySem.W.Frag) (op:CmpOp) (g:En→Rv→Rv→Option Rv):Prop where
  ex:∃r,jo X (compareOp op) r∧jT K r g
theorem yA:sD X K .Lt yM:=⟨_,Fn,GM⟩
theorem Dd:sD X K .Gt EL:=⟨_,Fm,GA⟩
theorem xk:sD X K .GtE AL:=⟨_,Fk,Gz⟩
theorem uK{k:Nat}(hK:X.K=K)(hr:ee k X.A):sD X K .Eq (cK false):=⟨_,hK ▸ DH hr,CF⟩
theorem rh{k:Nat}(hK:X.K=K)(hr:ee k X.A):sD X K .NotEq (cK true):=⟨_,hK ▸ DM hr,CF⟩
theorem De{k:Nat}(hK:X.K=K)(hr:ee k X.A):sD X K .In (Bd false):=⟨_,hK ▸ DK hr,GH⟩
theorem zM{op:CmpOp}{g:En→Rv→Rv→Option Rv}(h:sD X K op g)(ha:PE X a (fE K fa))(hb:PE X b (fE K fb))(hm:behindInMarks op b=false):PE X (.Compare a [op] [b] pos) (fE K (aq g fa fb)):=by
  obtain⟨r,h1,h2⟩:=h.ex;exact D_ h1 h2 ha hb hm
theorem bf{op:CmpOp}{g:En→Rv→Rv→Option Rv}(h:sD X K op g)(ha:PE X a (fE K fa))(hb:PE X b (fE K fb))(hm:behindInMarks op b=false):PT X (.Compare a [op] [b] pos) (fT K (aK (aq g fa fb))):=by
  obtain⟨r,h1,h2⟩:=h.ex;exact Ed h1 h2 ha hb hm
structure qU (X:Cx) (K:PySem.W.Frag) (x:Str) (g:En→List Rv→Option Rv):Prop where
  ex:(∃id r,fH X (.builtin id) r∧gh K r g∧bootBuiltins x=some (.builtin id))∨∃T r,fH X (.type T) r∧gh K r g∧bootBuiltins x=some (.type T)
theorem a9{x:Str}{g:En→List Rv→Option Rv}(h:qU X K x g)(hg:Gl X x)(hm:X.mg x=none)(ha:PA X (a::es) (fA K fs))(hn:x≠"__name__")(hdb:(x==("__debug__":Str))=false)
    (he:starEach (a::es) X.env=(false,eval a X.env)::starEach es X.env)(hpl:(backTo pos (starEach es X.env)).any (·.1)=false):PE X (.Call (.Name x p) (a::es) [] pos) (fE K (aJ g fs)):=by
  rcases h.ex with ⟨id,r,h1,h2,h3⟩ | ⟨T,r,h1,h2,h3⟩
  · exact zO h1 h2 hg hm h3 ha hn hdb he hpl
  · exact xT h1 h2 hg hm h3 ha hn hdb he hpl
theorem b_len(hK:X.K=K):qU X K "len" (g1 ik):=⟨.inl ⟨_,_,hK ▸ lC,E',PySem.boot_len⟩⟩
theorem b_abs:qU X K "abs" (g1 uS):=⟨.inl ⟨_,_,yB,ES,PyProof.Rows.boot_abs⟩⟩
theorem b_min(hc:X.calm=true):qU X K "min" (g2 yN):=⟨.inl ⟨_,_,xo hc,Fe,PyProof.Rows.boot_min⟩⟩
theorem b_max(hc:X.calm=true):qU X K "max" (g2 xu):=⟨.inl ⟨_,_,xn hc,Fd,PyProof.Rows.boot_max⟩⟩
theorem b_int:qU X K "int" (g1 pV):=⟨.inr ⟨_,_,xl,E7,PyProof.Rows.boot_int⟩⟩
theorem b_tuple(hK:X.K=K):qU X K "tuple" (g1 cf):=⟨.inr ⟨_,_,hK ▸ pS,Cd,PyProof.Rows.boot_tuple⟩⟩
theorem b_sorted(hK:X.K=K):qU X K "sorted" (g1 i3):=⟨.inl ⟨_,_,hK ▸ uM,B9,PyProof.Rows.boot_sorted⟩⟩
theorem b_repr{k:Nat}(hK:X.K=K)(hr:ee k X.A):qU X K "repr" (g1 nj):=⟨.inl ⟨_,_,hK ▸ uL hr,El,PyProof.Rows.boot_repr⟩⟩
abbrev cv:FT:=fun e=>some (true,e)
theorem ym.mono{ifs:List Expr}{t t':TT}(h:ym X ifs t)(m:∀σ H Q,t' σ H Q→t σ H Q):ym X ifs t':=fun pins s σ H Q I q=>h pins s σ H Q I (m σ H Q q)
theorem ie:ym X [] (fT K cv):=BX.mono fun σ H Q h=>by
  obtain⟨F,e,b,e',R,hf,q⟩:=h
  cases hf
  exact q F H (fB.refl _ _ _ _) R
theorem oa{c:Expr}{ft:FT}(h:PT X c (fT K ft)):ym X [c] (fT K ft):=BY h
theorem i7{elt iter tg:Expr}{ifs:List Expr}{scope:Scope}{fi:FI}{g:FG}{ft:FT}{fe:FE}{W:List Nat}(sc0:Scope)(N0:List Str)(cp:List (Nat × Str))(tgN:List Str)
    (hc:X.calm=true)(hsc:X.env.scope=sc0)(hN0:X.N=N0)(hi:PI X tg iter (fI K fi))
    (hg:∀C s0 H0 fp,PG (aP X scope cp tgN C s0 H0 fp) tg (fG K g W))
    (ht:∀C s0 H0 fp,ym (aP X scope cp tgN C s0 H0 fp) ifs (fT K ft))
    (he:∀C s0 H0 fp,PE (aP X scope cp tgN C s0 H0 fp) elt (fE K fe))
    (hk:scope.kind=.function)(hcell:∀y∈scope.names,y.2≠.cell)(hnames:∀y∈scope.names,y.2=.local→scope.names.lookup y.1=some .local)
    (hfr:∀y∈scope.names,y.2=.free→scope.names.lookup y.1=some .free∧sc0.names.lookup y.1=some .cell)
    (hcp:∀p∈cp,N0[p.1]?=some p.2)(hcq:∀p∈cp,sc0.names.lookup p.2=some .cell∧scope.names.lookup p.2=some .free)(hnd:(cp.map (·.1)).Nodup)(hW:∀j∈W,cp.length≤j)
    (hs:∀x,foldedSetIterable iter X.env x=pure x):
    PE X (.ListComp elt [⟨tg,iter,ifs,0⟩] scope pos) (fE K (cw cp tgN.length fi g ft fe)):=(BG sc0 N0 cp tgN hc hsc hN0 hi hg ht he hk hcell hnames hfr hcp hcq hs).mono fun _ _ _ h=>um hnd hW h
theorem mI{ix:Nat}{nm:Str}{posn poss:Pos}{elt iter tg:Expr}{ifs:List Expr}{scope:Scope}{fi:FI}{g:FG}{ft:FT}{fe:FE}{W:List Nat}(sc0:Scope)(N0:List Str)(cp:List (Nat × Str))(tgN:List Str)
    (hc:X.calm=true)(hsc:X.env.scope=sc0)(hN0:X.N=N0)(hi:PI X tg iter (fI K fi))
    (hg:∀C s0 H0 fp,PG (aP X scope cp tgN C s0 H0 fp) tg (fG K g W))
    (ht:∀C s0 H0 fp,ym (aP X scope cp tgN C s0 H0 fp) ifs (fT K ft))
    (he:∀C s0 H0 fp,PE (aP X scope cp tgN C s0 H0 fp) elt (fE K fe))
    (hk:scope.kind=.function)(hcell:∀y∈scope.names,y.2≠.cell)(hnames:∀y∈scope.names,y.2=.local→scope.names.lookup y.1=some .local)
    (hfr:∀y∈scope.names,y.2=.free→scope.names.lookup y.1=some .free∧sc0.names.lookup y.1=some .cell)
    (hcp:∀p∈cp,N0[p.1]?=some p.2)(hcq:∀p∈cp,sc0.names.lookup p.2=some .cell∧scope.names.lookup p.2=some .free)(hnd:(cp.map (·.1)).Nodup)(hW:∀j∈W,cp.length≤j)
    (hNd:X.N.Nodup)(hix:X.N[ix]?=some nm)(hlc:X.env.scope.names.lookup nm=some .local)(hsw:swapsWith (.ListComp elt [⟨tg,iter,ifs,0⟩] scope pos) (some (.Name nm posn)) poss.line X.env=pure true)
    (hs:∀x,foldedSetIterable iter X.env x=pure x):
    PS X (.Assign [.Name nm posn] (.ListComp elt [⟨tg,iter,ifs,0⟩] scope pos) poss) (fS K (aV ix (cw cp tgN.length fi g ft fe)) [ix]):=(vk sc0 N0 cp tgN hc hsc hN0 hi hg ht he hk hcell hnames hfr hcp hcq hNd hix hlc hsw hs).mono fun D σ H h=>by
  obtain⟨F,e,fl,R,hf,q⟩:=h
  unfold aV at hf
  obtain⟨⟨r,e1⟩,h1,hf⟩:=Option.bind_eq_some_iff.mp hf
  obtain⟨e2,h2,hf⟩:=Option.map_eq_some_iff.mp hf
  cases hf
  refine um hnd hW ⟨F,e,r,e1,R,h1,fun F1 H1 v X1 R1 A1=>?_⟩
  obtain⟨x,R2⟩:=zL R X1 R1 A1 h2
  exact q F1 H1 _ x R2
variable{o:Expr}{fo:FE}{apos cpos:Pos}
theorem dP(hK:X.K=K)(ho:PE X o (fE K fo))(ha:PA X (a::es) (fA K fs))(hbase:attributeBase o "append" X.env (eval o X.env)=eval o X.env)
    (hfew:((backTo cpos (starEach (a::es) X.env)).all (fun x=> !x.1)&&(backToKw cpos (keywordEach [] X.env)).all (fun x=>x.1.isSome)
      &&decide ((a::es).length+([]:List Keyword).length+(if ([]:List Keyword).isEmpty then 0 else 1) < 30))=true)
    (hline:(apos.endLine==cpos.line)=true)(hs:starEach (a::es) X.env=(false,eval a X.env)::starEach es X.env)(hplain:(backTo cpos (starEach es X.env)).any (·.1)=false):
    PE X (.Call (.Attribute o "append" apos) (a::es) [] cpos) (fE K (bZ br fo fs)):=by
  subst hK;exact CV PySem.F.slot_list_append PySem.F.type_list_append j6 yo ho ha hbase hfew hline hs hplain
theorem rY(hK:X.K=K)(ho:PE X o (fE K fo))(ha:PA X (a::es) (fA K fs))(hbase:attributeBase o "pop" X.env (eval o X.env)=eval o X.env)
    (hfew:((backTo cpos (starEach (a::es) X.env)).all (fun x=> !x.1)&&(backToKw cpos (keywordEach [] X.env)).all (fun x=>x.1.isSome)
      &&decide ((a::es).length+([]:List Keyword).length+(if ([]:List Keyword).isEmpty then 0 else 1) < 30))=true)
    (hline:(apos.endLine==cpos.line)=true)(hs:starEach (a::es) X.env=(false,eval a X.env)::starEach es X.env)(hplain:(backTo cpos (starEach es X.env)).any (·.1)=false):
    PE X (.Call (.Attribute o "pop" apos) (a::es) [] cpos) (fE K (bZ dJ fo fs)):=by
  subst hK;exact CV PySem.F.slot_list_pop PySem.F.type_list_pop y6 BQ ho ha hbase hfew hline hs hplain
end
end L2
namespace L2
open PySem PySem.Spec PyProof.Rows
theorem vt{K:PySem.W.Frag}{H:Hp}{a:Addr}{ns:List Int}{m:FM}{as':List Sv}{Q:VK}{E:XK}(hS:d_ K H a (ns.map V.int))(hm:m [.d (.list (ns.map .int))]=some (.d (.bool true),as'))(q:∀H',Q (.bl true) H'):bz K 1 m [.ref a] H Q E:=by
  refine⟨rfl,H,[.d (.list (ns.map .int))],_,as',?_,?_,hm,trivial,fun F' H' v X' R' A'=>?_⟩
  · refine⟨av.refl _,rfl,fun i x h=>?_,fun i xs h=>?_,fun i xss h=>?_,fun i j l f1 _=>?_⟩
    · match i,h with
      | 0,h=>
        simp at h;subst h
        exact⟨.ref a,rfl,cP.mpr ⟨a,_,rfl,hS,aL.ints.mpr rfl⟩⟩
      | i+1,h=>simp at h
    · match i,h with
      | 0,h=>simp at h
      | i+1,h=>simp at h
    · match i,h with
      | 0,h=>simp at h
      | i+1,h=>simp at h
    · rcases f1 with ⟨_,h,_⟩ | ⟨_,_,_,h,_⟩
      · match i,h with
        | 0,h=>simp at h
        | i+1,h=>simp at h
      · match i,h with
        | 0,h=>simp at h
        | i+1,h=>simp at h
  · intro i xss h
    match i,h with
    | 0,h=>simp at h
    | i+1,h=>simp at h
  · rw [gZ.mp (show DA K F' (.bool true) v from A')];exact q H'
end L2
namespace L2
open PySem PySem.Spec PyProof.Rows
section
variable{K:PySem.W.Frag}{σ:L2.St}{H0 F H F' H':Hp}{e e':En}
theorem a8.putN(R:a8 K F H σ e){i:Nat}{xss yss:List (List PyData)}{l:Addr}{bs:List Addr}{H':Hp}(hi:e[i]?=some (some (.n xss)))(hs:σ[i]?=some (some (.ref l)))
    (hF:F l=none)(hl:H' l=some (.lst (bs.map V.ref)))(hlen:bs.length=yss.length)(hnd:bs.Nodup)(hnl:l∉bs)(hin:∀(k:Nat) (b:Addr) (ys:List PyData),bs[k]?=some b→yss[k]?=some ys→F b=none∧∃us,H' b=some (.lst us)∧aL K F ys us)
    (hbs:∀b∈bs,Fp σ e H i b∨¬dn σ e H b)(hdom:∀a,H' a=none→H a=none)(hst:∀a o,H a=some o→a≠l→a∉bs→H' a=some o)(hlst:∀a vs,H a=some (.lst vs)→∃vs',H' a=some (.lst vs')):
    a8 K F H' σ (e.set i (some (.n yss)))∧(∀a,dn σ (e.set i (some (.n yss))) H' a→dn σ e H a∨a∈bs)∧∀j:Nat,(∃xs,(e.set i (some (Sv.n yss)))[j]?=some (some (.l xs)))↔ (∃xs,e[j]?=some (some (.l xs))):=by
  have hlt:i < e.length:=(List.getElem?_eq_some_iff.mp hi).1
  have gi:(e.set i (some (Sv.n yss)))[i]?=some (some (.n yss)):=List.getElem?_set_self hlt
  obtain⟨l0,bs0,a1,a2,a3,_⟩:=R.nst i xss hi
  rw [hs] at a1;cases a1
  have fl:Fp σ e H i l:=.inr ⟨xss,l,bs0,hi,hs,a3,.inl rfl⟩
  have own:∀j a,j≠i→Fp σ e H j a→a≠l∧a∉bs:=fun j a hj hq=>by
    refine⟨fun z=>hj (R.fp j i a hq (by rw [z];exact fl)),fun z=>?_⟩
    rcases hbs a z with h | h
    · exact hj (R.fp j i a hq h)
    · exact h ⟨j,hq⟩
  have fpi:∀a,Fp σ (e.set i (some (.n yss))) H' i a→a=l∨a∈bs:=fun a q=>by
    rcases q with ⟨zs,q,_⟩ | ⟨zss,l',bs',q,q2,q3,q4⟩
    · rw [gi] at q;cases q
    · rw [hs] at q2;cases q2
      rw [hl] at q3
      have e1:bs=bs':=List.map_inj_right (fun _ _ z=>V.ref.inj z) |>.mp (HO.lst.inj (Option.some.inj q3))
      subst e1;exact q4
  obtain⟨R',fs⟩:=R.upd1 (F':=F) (H':=H') (e':=e.set i (some (.n yss))) i (by rw [List.length_set];exact R.len) (fun _ _=>rfl) (fun j hj=>List.getElem?_set_ne (Ne.symm hj)) (av.refl F)
    (fun b o q=>by
      have z1:b≠l:=fun z=>by rw [z,hF] at q;cases q
      have z2:b∉bs:=fun z=>by
        obtain⟨k,hk⟩:=List.getElem?_of_mem z
        have hk2:k < yss.length:=by rw [←hlen];exact(List.getElem?_eq_some_iff.mp hk).1
        rw [(hin k b yss[k] hk (List.getElem?_eq_getElem hk2)).1] at q;cases q
      exact hst b o (R.sm b o q) z1 z2)
    (fun j a _ q=>(R.fpAt q).1) (fun j a o hj q ha=>let ⟨z1,z2⟩:=own j a hj q;hst a o ha z1 z2)
    (fun x q=>by rw [gi] at q;cases q) (fun zs q=>by rw [gi] at q;cases q) (fun zss q=>by rw [gi] at q;cases q;exact⟨l,bs,hs,hF,hl,hlen,hnd,hnl,hin⟩)
    (fun a j hj q q2=>by
      obtain⟨z1,z2⟩:=own j a hj q2
      exact(fpi a q).elim z1 z2)
  refine⟨R',fun a ⟨j,q⟩=>?_,fun j=>?_⟩
  · by_cases z:j=i
    · subst z
      rcases fpi a q with z | z
      · exact .inl ⟨j,by rw [z];exact fl⟩
      · exact .inr z
    · exact .inl ⟨j,(fs j a z).mp q⟩
  · by_cases z:j=i
    · subst z;rw [gi,hi];simp
    · rw [List.getElem?_set_ne (Ne.symm z)]
theorem a8.frzN(R:a8 K F H σ e){i:Nat}{xss:List (List PyData)}(hi:e[i]?=some (some (.n xss))):∃F' v,σ[i]?=some (some v)∧DA K F' (.list (xss.map .list)) v∧a8 K F' H σ (e.set i (some (.d (.list (xss.map .list)))))∧fB σ F H e F' H (e.set i (some (.d (.list (xss.map .list))))):=by
  obtain⟨l,bs,a1,a2,a3,a4,a5,a6,a7⟩:=R.nst i xss hi
  have hlt:i < e.length:=(List.getElem?_eq_some_iff.mp hi).1
  have inF:∀a,a=l∨a∈bs→Fp σ e H i a:=fun a h=>.inr ⟨xss,l,bs,hi,a1,a3,h⟩
  let F':Hp:=fun a=>if a=l∨a∈bs then H a else F a
  have pos:∀a,(a=l∨a∈bs)→F' a=H a:=fun a h=>if_pos h
  have neg:∀a,¬(a=l∨a∈bs)→F' a=F a:=fun a h=>if_neg h
  have sF:av F F':=fun b o q=>by
    have z:¬(b=l∨b∈bs):=fun z=>by rw [(R.fpAt (inF b z)).1] at q;cases q
    rw [neg b z];exact q
  have sm:av F' H:=fun b o q=>by
    by_cases z:b=l∨b∈bs
    · rw [pos b z] at q;exact q
    · rw [neg b z] at q;exact R.sm b o q
  have dd:∀(cs:List Addr) (yss:List (List PyData)),cs.length=yss.length→(∀(k:Nat) (b:Addr) (ys:List PyData),cs[k]?=some b→yss[k]?=some ys→b∈bs∧∃us,H b=some (.lst us)∧aL K F ys us)→aL K F' (yss.map .list) (cs.map V.ref):=by
    intro cs
    induction cs with
    | nil=>
      intro yss h _
      cases yss with
      | nil=>exact aL.nil
      | cons _ _=>simp at h
    | cons c cs ih=>
      intro yss h hh
      cases yss with
      | nil=>simp at h
      | cons ys yss=>
        obtain⟨c1,us,c2,c3⟩:=hh 0 c ys rfl rfl
        refine aL.cons (cP.mpr ⟨c,us,rfl,.inl (.inl ?_),c3.mono sF⟩) (ih yss (by simpa using h) fun k b zs q1 q2=>hh (k+1) b zs (by simpa using q1) (by simpa using q2))
        rw [pos c (.inr c1)];exact c2
  have da:DA K F' (.list (xss.map .list)) (.ref l):=cP.mpr ⟨l,_,rfl,.inl (.inl (by rw [pos l (.inl rfl)];exact a3)),dd bs xss a4 fun k b ys q1 q2=>by
    obtain⟨_,us,c2,c3⟩:=a7 k b ys q1 q2
    exact⟨List.mem_of_getElem? q1,us,c2,c3⟩⟩
  have gi:(e.set i (some (Sv.d (.list (xss.map .list)))))[i]?=some (some (.d (.list (xss.map .list)))):=List.getElem?_set_self hlt
  have nofp:∀a,¬Fp σ (e.set i (some (.d (.list (xss.map .list))))) H i a:=fun a q=>by
    rcases q with ⟨zs,q,_⟩ | ⟨xss,_,_,q,_⟩
    · rw [gi] at q;cases q
    · rw [gi] at q;cases q
  obtain⟨R',fs⟩:=R.upd1 (F':=F') (H':=H) (e':=e.set i (some (.d (.list (xss.map .list))))) i (by rw [List.length_set];exact R.len) (fun _ _=>rfl) (fun j hj=>List.getElem?_set_ne (Ne.symm hj)) sF sm
    (fun j a hj q=>by
      rw [neg a fun z=>hj (R.fp j i a q (inF a z))]
      exact(R.fpAt q).1)
    (fun j a o _ _ ha=>ha) (fun x q=>by rw [gi] at q;cases q;exact⟨_,a1,da⟩) (fun zs q=>by rw [gi] at q;cases q) (fun zss q=>by rw [gi] at q;cases q) (fun a j hj q=>absurd q (nofp a))
  refine⟨F',.ref l,a1,da,R',⟨sF,fun _ h=>h,fun a vs h1 h2 h3=>?_,fun a vs h=>⟨vs,h⟩,fun _ _ h _=>h,fun j=>?_,fun a ⟨j,q⟩=>?_⟩⟩
  · rw [neg a fun z=>h3 ⟨i,inF a z⟩];exact h1
  · by_cases z:j=i
    · subst z;rw [gi,hi];simp
    · rw [List.getElem?_set_ne (Ne.symm z)]
  · by_cases z:j=i
    · subst z;exact absurd q (nofp a)
    · exact .inl ⟨j,(fs j a z).mp q⟩
theorem a8.setN(R:a8 K F H σ e)(i:Nat){l:Addr}(h1:F l=none)(h2:H l=some (.lst []))(h4:¬dn σ e H l):a8 K F H (σ.set i (some (.ref l))) (e.set i (some (.n [])))∧∀a,dn (σ.set i (some (.ref l))) (e.set i (some (.n []))) H a→dn σ e H a∨a=l:=by
  have gi:∀s,(e.set i (some (Sv.n [])))[i]?=some (some s)→s=.n []∧i < e.length:=fun s q=>by
    have hlt:i < e.length:=by have:=(List.getElem?_eq_some_iff.mp q).1;simpa using this
    rw [List.getElem?_set_self hlt] at q
    exact⟨(Option.some.inj (Option.some.inj q)).symm,hlt⟩
  have onefp:∀a,Fp (σ.set i (some (.ref l))) (e.set i (some (.n []))) H i a→a=l:=fun a q=>by
    rcases q with ⟨zs,q,q2⟩ | ⟨xss,l',bs,q,q2,q3,q4⟩
    · cases (gi _ q).1
    · obtain⟨_,hlt⟩:=gi _ q
      rw [List.getElem?_set_self (by rw [R.len];exact hlt)] at q2
      cases q2
      rw [h2] at q3
      have:bs=[]:=by
        cases bs with
        | nil=>rfl
        | cons _ _=>have z:=HO.lst.inj (Option.some.inj q3);simp at z
      subst this
      exact q4.elim id fun z=>by cases z
  obtain⟨R',fs⟩:=R.upd1 (F':=F) (H':=H) (σ':=σ.set i (some (.ref l))) (e':=e.set i (some (.n []))) i (by rw [List.length_set,List.length_set];exact R.len) (fun j hj=>List.getElem?_set_ne (Ne.symm hj)) (fun j hj=>List.getElem?_set_ne (Ne.symm hj)) (av.refl F) R.sm
    (fun j a _ q=>(R.fpAt q).1) (fun j a o _ _ ha=>ha) (fun y q=>by cases (gi _ q).1) (fun zs q=>by cases (gi _ q).1)
    (fun zss q=>by
      obtain⟨z,hlt⟩:=gi _ q
      cases z
      exact⟨l,[],List.getElem?_set_self (by rw [R.len];exact hlt),h1,h2,rfl,List.nodup_nil,by simp,fun k b ys q=>by simp at q⟩)
    (fun a j hj q q2=>h4 ⟨j,by rw [onefp a q] at q2;exact q2⟩)
  refine⟨R',fun a ⟨j,q⟩=>?_⟩
  by_cases z:j=i
  · subst z;exact .inr (onefp a q)
  · exact .inl ⟨j,(fs j a z).mp q⟩
end
def ci(e:En)(i:Nat):Option (List (List PyData)):=match e[i]? with
  | some (some (.n xss))=>some xss
  | _=>none
theorem gb{e:En}{i:Nat}{xss:List (List PyData)}(h:ci e i=some xss):e[i]?=some (some (.n xss)):=by
  unfold ci at h
  split at h
  · rename_i heq;cases h;exact heq
  · cases h
section
variable{X:Cx}{K:PySem.W.Frag}{a b:Expr}{es:List Expr}{fa fb:FE}{fs:FA}{pos p p2 p3 pos':Pos}{x:Str}{i:Nat}
def Ae(i:Nat):FS:=fun e=>some (.nx (e.set i (some (.n []))))
theorem B1(hN:X.N.Nodup)(hi:X.N[i]?=some x)(hx:C8 X.env.scope x)(hs:swapsWith (.List [] p) (some (.Name x pos')) pos.line X.env=pure false)(hf:X.fn x=true∨X.env.scope.names.lookup x=some .local):
    PS X (.Assign [.Name x pos'] (.List [] p) pos) (fS K (Ae i) [i]):=(zI hN hi hx (zv oX) hs hf).mono fun D σ H h=>by
  obtain⟨F,e,fl,R,hf,q⟩:=h
  cases hf
  refine⟨Nat.zero_le _,fun l hl=>?_⟩
  obtain⟨R1,X1,f1,n1⟩:=R.newL (vs:=[]) hl
  obtain⟨R2,o2⟩:=R1.setN i f1 aA n1
  refine q F _ _ ⟨X1.sf,X1.dom,X1.fr,X1.lst,X1.tmp,fun a h=>?_,fun j n=>List.getElem?_set_ne (fun z=>n (by simp [z]))⟩ R2
  rcases o2 a h with z | z
  · exact X1.ow a z
  · exact .inr (by rw [z];exact hl)
def fK(i:Nat):FE:=fun e=>(ci e i).map fun xss=>(.d (.int xss.length),e)
theorem rX(hK:X.K=K)(hN:X.N[i]?=some x)(hv:AI X.env.scope x)(hd:(x==("__debug__":Str))=false)(hcd:(x==("__classdict__":Str))=false)(hg:Gl X "len")(hm:X.mg "len"=none)(hst:PySem.W.isStarred (.Name x p2)=false)
    (he:starEach [.Name x p2] X.env=(false,eval (.Name x p2) X.env)::starEach [] X.env)(hpl:(backTo pos (starEach [] X.env)).any (·.1)=false):PE X (.Call (.Name "len" p) [.Name x p2] [] pos) (fE K (fK i)):=
  (tO (xm hK) hg hm PySem.boot_len (BD (mE hN hv hd hcd) oX hst) (by decide) (by decide) he hpl).mono fun σ H Q h=>by
  obtain⟨F,e,z,e',R,hf,q⟩:=h
  unfold fK at hf
  obtain⟨xss,h1,hf⟩:=Option.map_eq_some_iff.mp hf
  cases hf
  obtain⟨l,bs,a1,a2,a3,a4,_⟩:=R.nst i xss (gb h1)
  refine⟨_,a1,l,_,rfl,.inl (.inl (.inl a3)),?_⟩
  rw [List.length_map,a4]
  exact q F H _ (fB.refl _ _ _ _) R mJ
def uq(i:Nat)(fa:FE):FE:=fun e=>(ci e i).bind fun _=>(fa e).bind fun p=>match p.1 with
  | .l ys=>(ci p.2 i).bind fun xss=>if xss.length < 1000000 then some (.d .none,p.2.set i (some (.n (xss++[ys])))) else none
  | _=>none
theorem D9{apos cpos:Pos}(hK:X.K=K)(hN:X.N[i]?=some x)(hv:AI X.env.scope x)(hd:(x==("__debug__":Str))=false)(hcd:(x==("__classdict__":Str))=false)(ha:PE X a (fE K fa))(hst:PySem.W.isStarred a=false)
    (hbase:attributeBase (.Name x p) "append" X.env (eval (.Name x p) X.env)=eval (.Name x p) X.env)
    (hfew:((backTo cpos (starEach [a] X.env)).all (fun x=> !x.1)&&(backToKw cpos (keywordEach [] X.env)).all (fun x=>x.1.isSome)
      &&decide ([a].length+([]:List Keyword).length+(if ([]:List Keyword).isEmpty then 0 else 1) < 30))=true)
    (hline:(apos.endLine==cpos.line)=true)(hs:starEach [a] X.env=(false,eval a X.env)::starEach [] X.env)(hplain:(backTo cpos (starEach [] X.env)).any (·.1)=false):
    PE X (.Call (.Attribute (.Name x p) "append" apos) [a] [] cpos) (fE K (uq i fa)):=by
  subst hK
  refine(zr PySem.F.plainAttrs_list PySem.F.slot_list_append PySem.F.type_list_append j6 (mE hN hv hd hcd) (BD ha oX hst) hbase hfew hline hs hplain).mono fun σ H Q h=>?_
  obtain⟨F,e,z,e',R,hf,q⟩:=h
  unfold uq at hf
  obtain⟨xss0,h0,hf⟩:=Option.bind_eq_some_iff.mp hf
  obtain⟨⟨r,e1⟩,h1,hf⟩:=Option.bind_eq_some_iff.mp hf
  match r,h1,hf with
  | .l ys,h1,hf=>
  obtain⟨xss,h2,hf⟩:=Option.bind_eq_some_iff.mp hf
  split at hf
  case isFalse=>cases hf
  case isTrue hlen=>
  cases hf
  obtain⟨l,bs0,a1,_,a3,_⟩:=R.nst i xss0 (gb h0)
  refine⟨_,a1,.inl ⟨rfl,_,.inl (.inl a3)⟩,F,e,_,e1,R,h1,fun F1 H1 v X1 R1 A1=>?_⟩
  obtain⟨t,us,rfl,t1,t2,t3,t4,t5⟩:=A1
  have h2':=gb h2
  obtain⟨l',bs,c1,c2,c3,c4,c5,c6,c7⟩:=R1.nst i xss h2'
  rw [a1] at c1;cases c1
  have fi:∀z,z=l∨z∈bs→Fp σ e1 H1 i z:=fun z h=>.inr ⟨xss,l,bs,h2',a1,c3,h⟩
  have tl:t≠l:=fun z=>t5 ⟨i,fi t (.inl z)⟩
  have tb:t∉bs:=fun z=>t5 ⟨i,fi t (.inr z)⟩
  have sl:sizeLine=16777216:=sizeLine_eq
  refine⟨l,_,_,rfl,rfl,c3,by rw [List.length_map,c4];lia,?_⟩
  have em:bs.map V.ref++[V.ref t]=(bs++[t]).map V.ref:=by simp
  rw [em]
  obtain⟨R2,o2,s2⟩:=R1.putN (yss:=xss++[ys]) (bs:=bs++[t]) (H':=bi H1 l (.lst ((bs++[t]).map V.ref))) h2' a1 c2 aA (by simp [c4]) (by
      rw [List.nodup_append]
      exact⟨c5,by simp,fun x hx y hy=>by simp at hy;subst hy;exact fun z=>tb (z ▸ hx)⟩) (by simp [c6,Ne.symm tl]) (fun k b zs q1 q2=>by
      rw [List.getElem?_append] at q1 q2
      rw [c4] at q1
      by_cases hk:k < xss.length
      · rw [if_pos hk] at q1 q2
        obtain⟨d1,us',d2,d3⟩:=c7 k b zs q1 q2
        have zb:b≠l:=fun z=>c6 (z ▸ List.mem_of_getElem? q1)
        exact⟨d1,us',by rw [au zb];exact d2,d3⟩
      · rw [if_neg hk] at q1 q2
        have hk0:k - xss.length=0:=by
          have:=(List.getElem?_eq_some_iff.mp q1).1
          simp at this;lia
        rw [hk0] at q1 q2
        simp at q1 q2
        subst q1 q2
        exact⟨t2,us,by rw [au tl];exact t3,t4⟩)
    (fun b hb=>by
      rcases List.mem_append.mp hb with hb | hb
      · exact .inl (fi b (.inr hb))
      · simp at hb;subst hb;exact .inr t5)
    (fun z q=>by
      by_cases e0:z=l
      · rw [e0,aA] at q;cases q
      · rw [au e0] at q;exact q)
    (fun z o q n1 _=>by rw [au n1];exact q) (fun z vs q=>by
      by_cases e0:z=l
      · rw [e0];exact⟨_,aA⟩
      · rw [au e0];exact⟨vs,q⟩)
  refine q F1 _ .non ⟨X1.sf,fun z q=>X1.dom z ?_,X1.fr,fun z vs h=>?_,fun z o h n=>?_,fun j=>(s2 j).trans (X1.shp j),fun z h=>?_⟩ R2 ((nW (K:=X.K) (F:=F1)).mpr rfl)
  · by_cases e0:z=l
    · rw [e0,aA] at q;cases q
    · rw [au e0] at q;exact q
  · obtain⟨vs',h'⟩:=X1.lst z vs h
    by_cases e0:z=l
    · rw [e0];exact⟨_,aA⟩
    · rw [au e0];exact⟨vs',h'⟩
  · have e0:z≠l:=fun e0=>by
      rcases X1.ow z ⟨i,fi z (.inl e0)⟩ with w | w
      · exact n w
      · rw [h] at w;cases w
    rw [au e0];exact X1.tmp z o h n
  · rcases o2 z h with w | w
    · exact X1.ow z w
    · rcases List.mem_append.mp w with w | w
      · exact X1.ow z ⟨i,fi z (.inr w)⟩
      · simp at w;subst w;exact .inr t1
def Qt(X:Cx)(K:PySem.W.Frag)(a:Expr)(f:En→Option Int):Prop:=∃t:TE,PE X a t∧∀σ F H e i (Q:VK),a8 K F H σ e→f e=some i→Q (.int i) H→t σ H Q
def xI(i:Nat):En→Option Int:=fun e=>match e[i]? with
  | some (some (.d (.int k)))=>some k
  | _=>none
theorem Ec(i:Nat)(hN:X.N[i]?=some x)(hv:AI X.env.scope x)(hd:(x==("__debug__":Str))=false)(hcd:(x==("__classdict__":Str))=false):Qt X K (.Name x pos) (xI i):=⟨_,mE hN hv hd hcd,fun σ F H e k Q R hf q=>by
  unfold xI at hf
  split at hf
  · rename_i heq
    cases hf
    obtain⟨v,h1,h2⟩:=R.dat i _ heq
    exact⟨v,h1,by rw [cc.mp h2];exact q⟩
  · cases hf⟩
def nC(k:Int):En→Option Int:=fun _=>some k
theorem Eb{k:Int}{j}:Qt X K (.Constant (.int k) j pos) (nC k):=⟨_,zu,fun σ F H e i Q R hf q=>by cases hf;exact q⟩
def xH(f g:En→Option Int):En→Option Int:=fun e=>(f e).bind fun i=>(g e).map fun j=>i+j
theorem Ea{f g:En→Option Int}(ha:Qt X K a f)(hb:Qt X K b g):Qt X K (.BinOp a .Add b pos) (xH f g):=by
  obtain⟨ta,h1,h2⟩:=ha
  obtain⟨tb,h3,h4⟩:=hb
  refine⟨_,CT zm h1 h3,fun σ F H e k Q R hf q=>?_⟩
  unfold xH at hf
  obtain⟨i,g1,hf⟩:=Option.bind_eq_some_iff.mp hf
  obtain⟨j,g2,hf⟩:=Option.map_eq_some_iff.mp hf
  cases hf
  exact h2 σ F H e i _ R g1 (h4 σ F H e j _ R g2 ⟨i,j,rfl,rfl,q⟩)
def qH(i:Nat)(fv fp:FE)(fq:En→Option Int):FS:=fun e=>(fv e).bind fun r=>(mv r.1).bind fun d=>(ci r.2 i).bind fun _=>(fp r.2).bind fun p=>(bC p.1).bind fun k=>(ci p.2 i).bind fun xss=>(k8 xss.length k).bind fun kn=>(xss[kn]?).bind fun ys=>(fq p.2).bind fun j=>(k8 ys.length j).map fun jn=>.nx (p.2.set i (some (.n (xss.set kn (ys.set jn d)))))
theorem B2{c pq:Expr}{fv fp:FE}{fq:En→Option Int}{ps ps2:Pos}(hK:X.K=K)(he:PE X c (fE K fv))(hN:X.N[i]?=some x)(hv:AI X.env.scope x)(hd:(x==("__debug__":Str))=false)(hcd:(x==("__classdict__":Str))=false)(hp:PE X a (fE K fp))(hpl:nP a)(hq:Qt X K pq fq)
    (ha:∀v,assign (.Subscript (.Subscript (.Name x p) a ps2) pq ps) X.env v=(do
      let ov ←holding [v] (eval (.Subscript (.Name x p) a ps2) X.env)
      let iv ←holding [v,ov] (eval pq X.env)
      standAt ps
      holding [v,ov,iv] (setItem ov iv v)
      release [v,ov,iv] []))
    (hs:swapsWithSole [.Subscript (.Subscript (.Name x p) a ps2) pq ps] c pos.line X.env=pure false)(hw:swappedStores [.Subscript (.Subscript (.Name x p) a ps2) pq ps] c X.env=pure none)
    (h1:(assignEach [.Subscript (.Subscript (.Name x p) a ps2) pq ps] X.env).map (·.2)=[assign (.Subscript (.Subscript (.Name x p) a ps2) pq ps) X.env]):
    PS X (.Assign [.Subscript (.Subscript (.Name x p) a ps2) pq ps] c pos) (fS K (qH i fv fp fq) []):=by
  obtain⟨tq,q1,q2⟩:=hq
  refine(vj he (zx (CS (yV hK) (mE hN hv hd hcd) hp hpl) q1 t_ ha) hs hw h1).mono fun D σ H h=>?_
  obtain⟨F,e,fl,R,hf,q⟩:=h
  unfold qH at hf
  obtain⟨⟨r,e1⟩,g1,hf⟩:=Option.bind_eq_some_iff.mp hf
  obtain⟨d,g2,hf⟩:=Option.bind_eq_some_iff.mp hf
  obtain⟨xs0,g3,hf⟩:=Option.bind_eq_some_iff.mp hf
  obtain⟨⟨rp,e2⟩,g4,hf⟩:=Option.bind_eq_some_iff.mp hf
  obtain⟨k,g5,hf⟩:=Option.bind_eq_some_iff.mp hf
  obtain⟨xss,g6,hf⟩:=Option.bind_eq_some_iff.mp hf
  obtain⟨kn,g7,hf⟩:=Option.bind_eq_some_iff.mp hf
  obtain⟨ys,g8,hf⟩:=Option.bind_eq_some_iff.mp hf
  obtain⟨j,g9,hf⟩:=Option.bind_eq_some_iff.mp hf
  obtain⟨jn,g10,hf⟩:=Option.map_eq_some_iff.mp hf
  cases hf
  refine⟨F,e,r,e1,R,g1,fun F1 H1 v X1 R1 A1=>?_⟩
  obtain⟨l,bs0,a1,_⟩:=R1.nst i xs0 (gb g3)
  refine⟨_,a1,F1,e1,rp,e2,R1,g4,fun F2 H2 w X2 R2 A2=>?_⟩
  have X12:=X1.trans X2
  obtain⟨F3,R3,s3,d3,f3⟩:=cV.frozen R2 (rs:=[r]) (vs:=[v]) ⟨v,[],rfl,A1.ext X2,rfl⟩ (mw g2)
  have X13:=X12.frz s3 f3
  have g6':=gb g6
  obtain⟨l',bs,c1,c2,c3,c4,c5,c6,c7⟩:=R3.nst i xss g6'
  rw [a1] at c1;cases c1
  obtain⟨b,hb⟩:∃b,bs[kn]?=some b:=⟨bs[kn]'(by rw [c4];exact(List.getElem?_eq_some_iff.mp g8).1),List.getElem?_eq_getElem _⟩
  obtain⟨b1,us,b2,b3⟩:=c7 kn b ys hb g8
  have fi:∀z,z=l∨z∈bs→Fp σ e2 H2 i z:=fun z h=>.inr ⟨xss,l,bs,g6',a1,c3,h⟩
  have bm:b∈bs:=List.mem_of_getElem? hb
  have bl:b≠l:=fun z=>c6 (z ▸ bm)
  refine⟨l,_,k,.ref b,rfl,bR A2 g5,.inl (.inl c3),?_,q2 σ F3 H2 e2 j _ R3 g9 ?_⟩
  · unfold atI
    rw [List.length_map,c4,g7]
    show(bs.map V.ref)[kn]?=_
    rw [List.getElem?_map,hb];rfl
  refine⟨b,us,j,jn,rfl,rfl,b2,by rw [←b3.len];exact g10,?_⟩
  have dv:DA K F3 d v:=by
    simp only [aL] at d3
    obtain⟨v',r',e',hv,_⟩:=d3
    cases e';exact hv
  obtain⟨R4,o4,s4⟩:=R3.putN (yss:=xss.set kn (ys.set jn d)) (bs:=bs) (H':=bi H2 b (.lst (us.set jn v))) g6' a1 c2 (by rw [au (Ne.symm bl)];exact c3) (by simp [c4]) c5 c6 (fun m z zs z1 z2=>by
      by_cases em:m=kn
      · subst em
        rw [hb] at z1;cases z1
        rw [List.getElem?_set_self (by exact(List.getElem?_eq_some_iff.mp g8).1)] at z2
        cases z2
        exact⟨b1,_,aA,b3.set dv jn⟩
      · rw [List.getElem?_set_ne (Ne.symm em)] at z2
        obtain⟨d1,us',d2,d3⟩:=c7 m z zs z1 z2
        have zb:z≠b:=fun ez=>by
          subst ez
          exact em ((List.getElem?_inj (List.getElem?_eq_some_iff.mp z1).1 c5).mp (z1.trans hb.symm))
        exact⟨d1,us',by rw [au zb];exact d2,d3⟩)
    (fun z hz=>.inl (fi z (.inr hz)))
    (fun z q=>by
      by_cases e0:z=b
      · rw [e0,aA] at q;cases q
      · rw [au e0] at q;exact q)
    (fun z o q _ n2=>by
      have e0:z≠b:=fun e0=>n2 (by rw [e0];exact bm)
      rw [au e0];exact q) (fun z vs q=>by
      by_cases e0:z=b
      · rw [e0];exact⟨_,aA⟩
      · rw [au e0];exact⟨vs,q⟩)
  refine q F3 _ σ ⟨X13.sf,fun z q=>X13.dom z ?_,X13.fr,fun z vs h=>?_,fun z o h n=>?_,fun z h=>?_,fun _ _=>rfl⟩ R4
  · by_cases e0:z=b
    · rw [e0,aA] at q;cases q
    · rw [au e0] at q;exact q
  · obtain⟨vs',h'⟩:=X13.lst z vs h
    by_cases e0:z=b
    · rw [e0];exact⟨_,aA⟩
    · rw [au e0];exact⟨vs',h'⟩
  · have e0:z≠b:=fun e0=>by
      rcases X13.ow z ⟨i,fi z (.inr (by rw [e0];exact bm))⟩ with w | w
      · exact n w
      · rw [h] at w;cases w
    rw [au e0];exact X13.tmp z o h n
  · rcases o4 z h with w | w
    · exact X13.ow z w
    · exact X13.ow z ⟨i,fi z (.inr w)⟩
def yS(i:Nat):FI:=fun e=>(ci e i).map fun xss=>(xss.map .list,[],e.set i (some (.d (.list (xss.map .list)))))
theorem B0{tg:Expr}(hK:X.K=K)(hN:X.N[i]?=some x)(hv:AI X.env.scope x)(hd:(x==("__debug__":Str))=false)(hcd:(x==("__classdict__":Str))=false):PI X tg (.Name x pos) (fI K (yS i)):=(tP (tg:=tg) hK (mE hN hv hd hcd)).mono fun σ H R hh=>by
  obtain⟨F,e,items,own,e',R0,hf,q⟩:=hh
  unfold yS at hf
  obtain⟨xss,h1,hf⟩:=Option.map_eq_some_iff.mp hf
  cases hf
  obtain⟨F',v,c1,c2,R1,X1⟩:=R0.frzN (gb h1)
  obtain⟨l,vs,rfl,d1,d2⟩:=cP.mp c2
  exact⟨_,c1,l,rfl,⟨vs,R1.sm.seq d1⟩,q _ F' H X1 R1 (fun _ h=>by cases h) (qz (.lst d1 d2))⟩
def Cf(fo fa:FE):FE:=fun e=>(fo e).bind fun o=>(fa o.2).bind fun p=>match p.1 with
  | .l ys=>(iz p.2 o.1).bind fun s=>if s.2.length+ys.length≤1000000 then some (.d .none,p.2.set s.1 (some (.l (s.2++ys)))) else none
  | _=>none
theorem zN{o:Expr}{fo:FE}{apos cpos:Pos}(hK:X.K=K)(ho:PE X o (fE K fo))(ha:PE X a (fE K fa))(hst:PySem.W.isStarred a=false)
    (hbase:attributeBase o "extend" X.env (eval o X.env)=eval o X.env)
    (hfew:((backTo cpos (starEach [a] X.env)).all (fun x=> !x.1)&&(backToKw cpos (keywordEach [] X.env)).all (fun x=>x.1.isSome)
      &&decide ([a].length+([]:List Keyword).length+(if ([]:List Keyword).isEmpty then 0 else 1) < 30))=true)
    (hline:(apos.endLine==cpos.line)=true)(hs:starEach [a] X.env=(false,eval a X.env)::starEach [] X.env)(hplain:(backTo cpos (starEach [] X.env)).any (·.1)=false):
    PE X (.Call (.Attribute o "extend" apos) [a] [] cpos) (fE K (Cf fo fa)):=by
  subst hK
  refine(zr PySem.F.plainAttrs_list PySem.F.slot_list_extend PySem.F.type_list_extend xG ho (BD ha oX hst) hbase hfew hline hs hplain).mono fun σ H Q h=>?_
  obtain⟨F,e,z,e',R,hf,q⟩:=h
  unfold Cf at hf
  obtain⟨⟨ro,e1⟩,h1,hf⟩:=Option.bind_eq_some_iff.mp hf
  obtain⟨⟨r,e2⟩,h2,hf⟩:=Option.bind_eq_some_iff.mp hf
  match r,h2,hf with
  | .l ys,h2,hf=>
  obtain⟨⟨n,xs⟩,h3,hf⟩:=Option.bind_eq_some_iff.mp hf
  split at hf
  case isFalse=>cases hf
  case isTrue hlen=>
  cases hf
  obtain⟨z3,h3'⟩:=qM h3
  dsimp only at z3 h3'
  subst z3
  refine⟨F,e,_,e1,R,h1,fun F1 H1 v X1 R1 A1=>?_⟩
  obtain⟨s1,zs,s2⟩:=A1
  obtain⟨l,vs,c1,c2,c3,c4⟩:=R1.own n zs s2
  rw [s1] at c1;cases c1
  refine⟨.inl ⟨rfl,vs,.inl (.inl c3)⟩,F1,e1,_,e2,R1,h2,fun F2 H2 w X2 R2 A2=>?_⟩
  obtain⟨t,us,rfl,t1,t2,t3,t4,t5⟩:=A2
  obtain⟨l',vs',d1,d2,d3,d4⟩:=R2.own n xs h3'
  rw [s1] at d1;cases d1
  have l1:=d4.len
  have l2:=t4.len
  have sl:sizeLine=16777216:=sizeLine_eq
  dsimp only at hlen
  refine⟨l,t,vs',us,rfl,rfl,d3,t3,by lia,?_⟩
  obtain⟨R3,X3⟩:=R2.putL h3' s1 (d4.append t4)
  exact q _ _ _ ((X1.trans X2).trans X3) R3 ((nW (K:=X.K) (F:=F2)).mpr rfl)
end
end L2
namespace L2
open PySem PySem.Spec PyProof.Rows
theorem mx{C:Int→Int→Bool}{f:Int→Int→PyData}{e:En}{i j:Int}(h:C i j=true):gI C f e (.d (.int i)) (.d (.int j))=some (.d (f i j)):=by simp [gI,bC,h]
theorem eQ{e:En}{i j:Int}:bY e (.d (.int i)) (.d (.int j))=some (.d (.int (i+j))):=rfl
theorem cG{e:En}{i j:Int}:kZ e (.d (.int i)) (.d (.int j))=some (.d (.int (i - j))):=rfl
theorem bJ{e:En}{i j:Int}(h:k9 i j=true):ce e (.d (.int i)) (.d (.int j))=some (.d (.int (i*j))):=by
  unfold ce AM sS;rw [mx h];rfl
theorem vd{i j:Int}(h1: -(2 ^ 64) < i)(h2:i < 2 ^ 64):k9 i j=true:=by
  have:i_ i=true:=by unfold i_;rw [decide_eq_true h1,decide_eq_true h2];rfl
  unfold k9;rw [this];simp
theorem rL{i j:Int}(h1: -(2 ^ 64) < j)(h2:j < 2 ^ 64):k9 i j=true:=by
  have:i_ j=true:=by unfold i_;rw [decide_eq_true h1,decide_eq_true h2];rfl
  unfold k9;rw [this];simp
theorem ir{i j:Int}(h1:Bt 4000 i)(h2:Bt 4000 j):k9 i j=true:=by unfold k9;rw [i0.mpr h1,i0.mpr h2];simp
theorem aT{e:En}{i j:Int}(h:0 < j):bg e (.d (.int i)) (.d (.int j))=some (.d (.int (i % j))):=by
  unfold bg;rw [mx (by simp;lia)]
  rw [Int.fmod_eq_emod_of_nonneg i (by lia)]
theorem fY{e:En}{i j:Int}(h:0 < j)(h2:Bt 8000 j):ef e (.d (.int i)) (.d (.int j))=some (.d (.int (i / j))):=by
  unfold ef;rw [mx (by simp [i0.mpr h2];lia)]
  rw [Int.fdiv_eq_ediv_of_nonneg i (by lia)]
theorem hV{e:En}{i j:Int}{neg:Bool}:cK neg e (.d (.int i)) (.d (.int j))=some (.d (.bool (if neg then !(i==j) else i==j))):=by
  unfold cK;simp [lG,SeqAt.shaped,PyData.canLay0,PyData.depth,PyData.eqv]
theorem ia{e:En}{i j:Int}:yM e (.d (.int i)) (.d (.int j))=some (.d (.bool (decide (i < j)))):=rfl
theorem h9{e:En}{i j:Int}:Hi e (.d (.int i)) (.d (.int j))=some (.d (.bool (decide (i≤j)))):=rfl
theorem hZ{e:En}{i j:Int}:EL e (.d (.int i)) (.d (.int j))=some (.d (.bool (decide (j < i)))):=rfl
theorem hX{e:En}{i j:Int}:AL e (.d (.int i)) (.d (.int j))=some (.d (.bool (decide (j≤i)))):=rfl
theorem eT{e:En}{i j:Int}:g2 yN e [.d (.int i),.d (.int j)]=some (.d (.int (min i j))):=by
  show some (Rv.d (.int (if j < i then j else i)))=_
  congr 3
  split<;>lia
theorem eS{e:En}{i j:Int}:g2 xu e [.d (.int i),.d (.int j)]=some (.d (.int (max i j))):=by
  show some (Rv.d (.int (if j > i then j else i)))=_
  congr 3
  split<;>lia
theorem eU{e:En}{i:Int}:my e (.d (.int i))=some (.d (.int (-i))):=rfl
theorem di{e:En}{b:Bool}:g1 pV e [.d (.bool b)]=some (.d (.int (if b then 1 else 0))):=rfl
theorem eP{e:En}{i:Int}:g1 uS e [.d (.int i)]=some (.d (.int i.natAbs)):=by
  show some (Rv.d (.int (if i < 0 then -i else i)))=_
  congr 3
  split<;>lia
theorem mr{j:Int}(h1:0 < j)(h2:j < 2 ^ 64):Bt 8000 j:=Bt.mono (m:=64) (by unfold Bt;lia) (by decide)
theorem eh{α:Type}{xs:List α}{i:Int}(h0:0≤i)(h:i < xs.length):atI xs i=xs[i.toNat]?:=by
  unfold atI k8
  rw [if_pos h0,if_pos h];rfl
theorem lK{e:En}{i:Nat}{xs:List PyData}{neg:Bool}(h:e[i]?=some (some (.l xs)))(hs:SeqAt.shaped (.list xs)=true):cK neg e (.s i) (.l [])=some (.d (.bool (if neg then !xs.isEmpty else xs.isEmpty))):=by
  unfold cK
  simp only [lG,h,Option.bind_some,hs]
  have h0:SeqAt.shaped (.list [])=true:=by simp [SeqAt.shaped,PyData.canLay0,PyData.canLayAll0,PyData.depth,PyData.depthAll]
  rw [h0]
  cases xs<;>simp [PyData.eqv,PyData.eqvAll]
theorem jQ(ns:List Int):SeqAt.shaped (.list (ns.map .int))=true∧SeqAt.shaped (.tuple (ns.map .int))=true:=by
  have h1:PyData.canLayAll0 (ns.map PyData.int)=true:=by
    induction ns with
    | nil=>rfl
    | cons n r ih=>simp [PyData.canLayAll0,PyData.canLay0,ih]
  have h2:PyData.depthAll (ns.map PyData.int)=0:=by
    clear h1
    induction ns with
    | nil=>rfl
    | cons n r ih=>simp [PyData.depthAll,PyData.depth,ih]
  constructor<;>simp [SeqAt.shaped,PyData.canLay0,PyData.depth,h1,h2]
theorem bI{own:gS}{g:FG}{f:FS}(P:Nat→En→Prop):∀(items:List PyData) (k:Nat) (e:En),(∀i x e,items[i]?=some x→P (k+i) e→∃e1 e2,g x e=some e1∧f e1=some (.nx e2)∧keeps own e2∧P (k+i+1) e2)→P k e→∃e',ij own g f items e=some (.nx e')∧P (k+items.length) e'
  | [],k,e,_,h=>⟨e,rfl,h⟩
  | x::r,k,e,hs,h=>by
    obtain⟨e1,e2,h1,h2,h3,h4⟩:=hs 0 x e rfl h
    obtain⟨e',h5,h6⟩:=bI P r (k+1) e2 (fun i y e hy hp=>by
      have:=hs (i+1) y e (by simpa using hy) (by rw [show k+(i+1)=k+1+i by lia];exact hp)
      rw [show k+(i+1)+1=k+1+i+1 by lia] at this
      exact this) h4
    refine⟨e',?_,by rw [List.length_cons,show k+(r.length+1)=k+1+r.length by lia];exact h6⟩
    unfold ij
    simp only [h1,h2,Option.bind_some,if_pos h3]
    exact h5
theorem aW{e:En}:keeps [] e:=fun _ h=>by cases h
theorem cm{W:List Nat}{fi:FI}{g:FG}{f:FS}{e e1:En}{items:List PyData}(h:fi e=some (items,[],e1)):cL W fi g f e=ij [] g f items e1:=by
  unfold cL;rw [h];rfl
theorem dc{lo:Int}{n i:Nat}{x:PyData}(h:(bu lo n)[i]?=some x):x=.int (lo+i)∧i < n:=by
  unfold bu at h
  rw [List.getElem?_map] at h
  obtain⟨k,h1,rfl⟩:=Option.map_eq_some_iff.mp h
  obtain⟨h2,h3⟩:=List.getElem?_eq_some_iff.mp h1
  simp at h2 h3
  subst h3
  exact⟨rfl,h2⟩
theorem gJ{lo:Int}{n:Nat}:(bu lo n).length=n:=by simp [bu]
theorem el{fs:FA}{e e1:En}{n:Int}(h:fs e=some ([.d (.int n)],e1))(h1: -1000000≤n)(h2:n≤1000000):dG fs e=some (bu 0 n.toNat,[],e1):=by
  unfold dG;rw [h]
  have:Aa n=true:=by unfold Aa;rw [decide_eq_true h1,decide_eq_true h2];rfl
  simp [bC,this]
theorem eE{ft:FT}{f:FS}(P:En→Prop)(μ:En→Nat)(hs:∀e,P e→(∃e1,ft e=some (false,e1)∧True)∨∃e1 e2,ft e=some (true,e1)∧f e1=some (.nx e2)∧P e2∧μ e2 < μ e):
    ∀(n:Nat) (e:En),P e→μ e < n→∃e0 e',jb ft f n e=some (.nx e')∧P e0∧ft e0=some (false,e'):=by
  intro n
  induction n with
  | zero=>intro e _ h;lia
  | succ n ih=>
    intro e hp hm
    rcases hs e hp with ⟨e1,h1,_⟩ | ⟨e1,e2,h1,h2,h3,h4⟩
    · exact⟨e,e1,by unfold jb;rw [h1];rfl,hp,h1⟩
    · obtain⟨e0,e',g1,g2⟩:=ih e2 h3 (by lia)
      exact⟨e0,e',by unfold jb;rw [h1];simp only [Option.bind_some,if_true,h2];exact g1,g2⟩
theorem bG{cs:En}{ft:FT}{fe:FE}{b:PyData→Bool}{y:PyData→PyData}:∀(items:List PyData) (t:Option Sv) (acc:List PyData),(∀x∈items,ft (cs++[some (.d x)])=some (b x,cs++[some (.d x)]))→(∀x∈items,b x=true→fe (cs++[some (.d x)])=some (.d (y x),cs++[some (.d x)]))→
    acc.length+items.length≤1000000→∃t',eL (ag cs.length) ft fe items (cs++[t]) acc=some (acc++(items.filter b).map y,cs++[t'])
  | [],t,acc,_,_,_=>⟨t,by simp [eL]⟩
  | x::r,t,acc,h1,h2,hl=>by
    have hg:ag cs.length x (cs++[t])=some (cs++[some (.d x)]):=by simp [ag]
    have h1x:=h1 x (by simp)
    unfold eL
    rw [hg]
    simp only [Option.bind_some,h1x]
    cases hb:b x with
    | true=>
      simp only [if_true,h2 x (by simp) hb,Option.bind_some,mv]
      rw [if_pos (by simp at hl;lia)]
      obtain⟨t',ih⟩:=bG (b:=b) (y:=y) r (some (.d x)) (acc++[y x]) (fun z hz=>h1 z (by simp [hz])) (fun z hz=>h2 z (by simp [hz])) (by simp at hl ⊢;lia)
      exact⟨t',by rw [ih];simp [hb]⟩
    | false=>
      simp only [Bool.false_eq_true,if_false]
      obtain⟨t',ih⟩:=bG (b:=b) (y:=y) r (some (.d x)) acc (fun z hz=>h1 z (by simp [hz])) (fun z hz=>h2 z (by simp [hz])) (by simp at hl;lia)
      exact⟨t',by rw [ih];simp [hb]⟩
theorem k7{fa:FE}{e e1:En}{xs:List PyData}(h:fa e=some (.d (.tuple xs),e1)):iL fa e=some (xs,[],e1):=by
  unfold iL;rw [h];rfl
theorem yT{fa:FE}{e e1:En}{xs:List PyData}(h:fa e=some (.l xs,e1)):iL fa e=some (xs,[],e1):=by
  unfold iL;rw [h];rfl
theorem d9{cp:List (Nat × Str)}{nT:Nat}{fi:FI}{g:FG}{ft:FT}{fe:FE}{e e1 cs:En}{t t':En}{items out:List PyData}(h1:fi e=some (items,[],e1))(hc:sC cp nT e1=cs++t)(hl:cs.length=cp.length)(h3:eL g ft fe items (sC cp nT e1) []=some (out,cs++t')):cw cp nT fi g ft fe e=some (.l out,e1):=by
  have key:∀i x,e1[i]?=some (some (.l x))→∀k,oZ cp i=some k→(cs++t')[k]?=some (some (.l x)):=by
    intro i x hi k hk
    obtain⟨s,hs⟩:=iP hk
    have hk2:k < cp.length:=(List.getElem?_eq_some_iff.mp hs).1
    have:(sC cp nT e1)[k]?=some (some (.l x)):=by
      unfold sC
      rw [List.getElem?_append_left (by simpa using hk2),List.getElem?_map,hs]
      simp [hi,Fb]
    rw [hc,List.getElem?_append_left (by lia)] at this
    rw [List.getElem?_append_left (by lia)]
    exact this
  unfold cw
  rw [h1]
  simp only [Option.bind_some,List.all_nil,if_true,h3]
  have hb:oB cp (cs++t') e1=true:=by
    unfold oB
    rw [List.all_eq_true]
    intro p hp
    match hi:e1[p.1]? with
    | none=>simp [AN]
    | some none=>simp [AN]
    | some (some (.d x))=>simp [AN]
    | some (some (.n x))=>simp [AN]
    | some (some (.l x))=>
      cases hq:oZ cp p.1 with
      | none=>
        unfold oZ at hq
        rw [List.findIdx?_eq_none_iff] at hq
        have:=hq p hp
        simp at this
      | some k=>simp [key p.1 x hi k hq,AN]
  rw [if_pos hb]
  congr 2
  refine List.ext_getElem? fun i=>?_
  rw [bW]
  match hi:e1[i]? with
  | none=>rfl
  | some none=>rfl
  | some (some (.d x))=>rfl
  | some (some (.n x))=>rfl
  | some (some (.l x))=>
    cases hp:oZ cp i with
    | none=>simp [hp]
    | some k=>simp [hp,key i x hi k hp]
theorem kR{α:Type}{xs:List α}{i:Int}(h0:0≤i)(h1:i < xs.length):∃x∈xs,atI xs i=some x:=by
  rw [eh h0 h1]
  exact⟨xs[i.toNat]'(by lia),List.getElem_mem _,List.getElem?_eq_getElem _⟩
theorem nh{e:En}{xs:List PyData}{i:Int}:bH e (.l xs) (.d (.int i))=(atI xs i).map .d:=rfl
theorem iK{e:En}{xs:List PyData}{i:Int}:bH e (.d (.tuple xs)) (.d (.int i))=(atI xs i).map .d:=rfl
theorem jy{e:En}{xs:List PyData}{i:Int}:bH e (.d (.list xs)) (.d (.int i))=(atI xs i).map .d:=rfl
theorem ni{e:En}{j:Nat}{xs:List PyData}{i:Int}(h:e[j]?=some (some (.l xs))):bH e (.s j) (.d (.int i))=(atI xs i).map .d:=by
  simp [bH,gW,h,bC]
theorem jB{e:En}{xs:List PyData}:g1 ik e [.d (.tuple xs)]=some (.d (.int xs.length)):=rfl
theorem h_{e:En}{xs:List PyData}:g1 ik e [.d (.list xs)]=some (.d (.int xs.length)):=rfl
theorem jz{e:En}{xs:List PyData}:g1 ik e [.l xs]=some (.d (.int xs.length)):=rfl
theorem jA{e:En}{j:Nat}{xs:List PyData}(h:e[j]?=some (some (.l xs))):g1 ik e [.s j]=some (.d (.int xs.length)):=by
  simp [g1,ik,gW,h]
theorem eW{e:En}{j:Nat}{xs:List PyData}(h:e[j]?=some (some (.l xs))):g1 cf e [.s j]=some (.d (.tuple xs)):=by
  simp [g1,cf,gW,h]
theorem eV{e:En}{xs:List PyData}:g1 cf e [.l xs]=some (.d (.tuple xs)):=rfl
theorem dj{e:En}{xs:List PyData}:g1 cf e [.d (.list xs)]=some (.d (.tuple xs)):=rfl
theorem eX{e:En}{xs:List PyData}:g1 cf e [.d (.tuple xs)]=some (.d (.tuple xs)):=rfl
theorem nq{e:En}{xs:List PyData}{lo hi:Option Int}:Gi e (.d (.tuple xs)) lo hi=some (.d (.tuple (lF xs lo hi))):=rfl
theorem oG{e:En}{xs ys:List PyData}(h:xs.length+ys.length≤1000000):bY e (.d (.tuple xs)) (.d (.tuple ys))=some (.d (.tuple (xs++ys))):=by
  simp [bY,AM,yK,gI,bC,sR,gW,h]
theorem yO{e:En}{i j:Int}(h:j≠0):bg e (.d (.int i)) (.d (.int j))=some (.d (.int (i.fmod j))):=by
  unfold bg;rw [mx (by simpa using h)]
theorem wu{e:En}{i j:Int}(h:j≠0)(h2:Bt 8000 j):ef e (.d (.int i)) (.d (.int j))=some (.d (.int (i.fdiv j))):=by
  unfold ef;rw [mx (by simp [i0.mpr h2,h])]
theorem lL{e:En}{i j:Int}(h:zG i j=true):uT e (.d (.int i)) (.d (.int j))=some (.d (.int (i ^ j.toNat))):=by
  unfold uT;rw [mx h]
theorem lW:zG 10 18=true:=by decide
theorem bh{f g:FS}{e e1:En}(h:f e=some (.nx e1)):ay f g e=g e1:=by unfold ay;rw [h];rfl
theorem C0{ft:FT}{f g:FS}{e e1:En}(h:ft e=some (true,e1)):kD ft f g e=f e1:=by unfold kD;rw [h];rfl
theorem CZ{ft:FT}{f g:FS}{e e1:En}(h:ft e=some (false,e1)):kD ft f g e=g e1:=by unfold kD;rw [h];rfl
def ib(i:Nat)(e:En):Nat:=match e[i]? with
  | some (some (.l xs))=>xs.length
  | _=>0
def qD(i:Nat)(e:En):Nat:=match e[i]? with
  | some (some (.d (.int k)))=>k.natAbs
  | _=>0
theorem j3{n m:Nat}(h:n < 2 ^ m)(hm:m≤4200):n < 2 ^ 4200:=Nat.lt_of_lt_of_le h (Nat.pow_le_pow_right (by decide) hm)
theorem jp{α:Type}{a:α}{r:List α}:atI (a::r) 0=some a:=by
  rw [eh (by decide) (by simp)];rfl
theorem eg{α:Type}{a b:α}{r:List α}:atI (a::b::r) 1=some b:=by
  rw [eh (by decide) (by simp;lia)];rfl
theorem jq{α:Type}{a b c:α}{r:List α}:atI (a::b::c::r) 2=some c:=by
  rw [eh (by decide) (by simp;lia)];rfl
theorem jr{α:Type}{a b c d:α}{r:List α}:atI (a::b::c::d::r) 3=some d:=by
  rw [eh (by decide) (by simp;lia)];rfl
theorem js{W:aC}{k:Int}(h:km W k):atI (W.ties.map bL) k=some (bL (W.tie k)):=by
  rw [eh h.1 (by rw [List.length_map];exact h.2),List.getElem?_map,h.get];rfl
theorem yp{ns:List Int}{k:Int}(h0:0≤k)(h1:k < (ns.length:Int)):atI (ns.map PyData.int) k=some (.int (ns.getD k.toNat 0)):=by
  rw [eh h0 (by rw [List.length_map];exact h1),List.getElem?_map]
  have:k.toNat < ns.length:=by lia
  simp [this]
theorem mY{a b c d:PyData}:lF [a,b,c,d] none (some 2)=[a,b]:=rfl
theorem dh{a b c d:PyData}:lF [a,b,c,d] (some 2) none=[c,d]:=rfl
theorem dg{a b c:PyData}:lF [a,b,c] (some 1) none=[b,c]:=rfl
theorem sO(ns:List Int):PyData.canLayAll0 (ns.map PyData.int)=true:=by
  induction ns with
  | nil=>rfl
  | cons n r ih=>simp [PyData.canLayAll0,PyData.canLay0,ih]
theorem sL{x:Int}:∀(ns:List Int),((ns.map PyData.int).any fun y=>PyData.eqv y (.int x))=ns.contains x
  | []=>rfl
  | n::r=>by
    rw [List.map_cons,List.any_cons,sL r,List.contains_cons]
    show(n==x || _)=_
    rw [show(n==x)=(x==n) by rw [Bool.eq_iff_iff];simp;exact eq_comm]
theorem dC{e:En}{x:Int}{ns:List Int}{neg:Bool}:Bd neg e (.d (.int x)) (.d (.tuple (ns.map .int)))=some (.d (.bool (if neg then !ns.contains x else ns.contains x))):=by
  unfold Bd
  simp only [lG,gW,Option.bind_some,sO,sL]
  simp [PyData.canLay0,PyData.depth]
theorem h8{e:En}{x a b:Int}{neg:Bool}:Bd neg e (.d (.int x)) (.d (.tuple [.int a,.int b]))=some (.d (.bool (if neg then !(a==x || b==x) else(a==x || b==x)))):=by
  have h:=dC (e:=e) (x:=x) (ns:=[a,b]) (neg:=neg)
  simp only [List.map_cons,List.map_nil] at h
  rw [h]
  have:[a,b].contains x=(a==x || b==x):=by
    simp only [List.contains_cons,List.contains_nil,Bool.or_false]
    rw [show(x==a)=(a==x) by rw [Bool.eq_iff_iff];simp;exact eq_comm,show(x==b)=(b==x) by rw [Bool.eq_iff_iff];simp;exact eq_comm]
  rw [this]
theorem oH{e:En}{ns:List Int}(h:ns.length < 64):g1 i3 e [.d (.tuple (ns.map .int))]=some (.l ((jR ns).map .int)):=by
  simp [g1,i3,gW,qu,h]
def vh(p:Int→Bool):PyData→Bool
  | .int k=>p k
  | _=>false
theorem xW{W:aC}{asked taken:List Int}:((bu 0 W.ties.length).filter (vh fun k=>W.may asked taken k))=(W.can asked taken).map .int:=by
  unfold bu aC.can aC.rng
  rw [List.filter_map,List.filter_map,List.map_map]
  have:(List.range W.ties.length).filter ((vh fun k=>W.may asked taken k) ∘ fun(i:Nat)=>PyData.int (0+(i:Int)))=(List.range W.ties.length).filter ((fun k=>W.may asked taken k) ∘ Int.ofNat):=by
    congr 1
    funext i
    simp [vh]
  rw [this]
  refine List.map_congr_left fun i _=>?_
  simp
theorem eM(W:aC):aN W=.tuple [.int W.things,.tuple (W.ties.map bL),.tuple (W.pat.map .int),.int W.asks]:=rfl
end L2
namespace L2
open PySem PySem.Spec PyProof.Rows
def Sh(n:Nat)(d:PyData):Prop:=d.canLay0=true∧d.depth≤n
theorem Sh.mono{n m:Nat}{d:PyData}(h:Sh n d)(l:n≤m):Sh m d:=⟨h.1,Nat.le_trans h.2 l⟩
theorem Sh.ok{n:Nat}{d:PyData}(h:Sh n d)(l:n≤64):SeqAt.shaped d=true:=by
  unfold SeqAt.shaped;rw [h.1,decide_eq_true (Nat.le_trans h.2 l)];rfl
theorem Sh.int{k:Int}:Sh 2 (.int k):=⟨by simp [PyData.canLay0],by simp [PyData.depth]⟩
theorem Sh.all{n:Nat}:∀{ds:List PyData},(∀d∈ds,Sh n d)→PyData.canLayAll0 ds=true∧PyData.depthAll ds≤n
  | [],_=>⟨rfl,by simp [PyData.depthAll]⟩
  | d::r,h=>by
    obtain⟨a1,a2⟩:=h d (by simp)
    obtain⟨b1,b2⟩:=Sh.all (ds:=r) fun x hx=>h x (by simp [hx])
    exact⟨by simp [PyData.canLayAll0,a1,b1],by simp only [PyData.depthAll];lia⟩
theorem Sh.tup{n:Nat}{ds:List PyData}(h:∀d∈ds,Sh n d):Sh (n+2) (.tuple ds):=by
  obtain⟨b1,b2⟩:=Sh.all h
  exact⟨by simp [PyData.canLay0,b1],by simp only [PyData.depth];lia⟩
theorem Sh.list{n:Nat}{ds:List PyData}(h:∀d∈ds,Sh n d):Sh (n+2) (.list ds):=by
  obtain⟨b1,b2⟩:=Sh.all h
  exact⟨by simp [PyData.canLay0,b1],by simp only [PyData.depth];lia⟩
theorem Sh.ints{ns:List Int}:Sh 4 (.tuple (ns.map .int)):=Sh.tup (n:=2) fun d hd=>by
  obtain⟨k,_,rfl⟩:=List.mem_map.mp hd
  exact Sh.int
theorem Sh.st{a b:List Int}:Sh 6 (ms a b):=Sh.tup (n:=4) fun d hd=>by
  simp only [List.mem_cons,List.not_mem_nil,or_false] at hd
  rcases hd with rfl | rfl<;>exact Sh.ints
theorem tI:∀(n:Nat) (l:List Int),l.Nodup→(∀k∈l,0≤k∧k < (n:Int))→l.length≤n
  | 0,l,_,h=>by
    cases l with
    | nil=>simp
    | cons a r=>have:=h a (by simp);lia
  | n+1,l,hd,h=>by
    have ih:=tI n (l.erase (n:Int)) (hd.erase _) fun k hk=>by
      obtain⟨h1,h2⟩:=hd.mem_erase_iff.mp hk
      have:=h k h2
      lia
    by_cases c:(n:Int)∈l
    · rw [List.length_erase_of_mem c] at ih;lia
    · rw [List.erase_of_not_mem c] at ih;lia
abbrev Std:=List Int × List Int
structure mq (W:aC) (s:Std):Prop where
  inw:∀k∈s.1,km W k
  nd:s.1.Nodup
  tk:s.2.length≤2*s.1.length
  th:∀t∈s.2,0≤t∧t < W.things
def nxt(W:aC)(s:Std)(k:Int)(b:Bool):Std:=(aC.askd s.1 k,W.took s.2 k b)
theorem mq.len{W:aC}{s:Std}(h:mq W s):s.1.length≤W.ties.length:=tI _ _ h.nd fun k hk=>h.inw k hk
theorem mq.first(W:aC):mq W ([],[]):=⟨fun k h=>(by cases h),List.nodup_nil,Nat.le_refl _,fun k h=>(by cases h)⟩
theorem gj{a:List Int}{k:Int}:(aC.askd a k).length=a.length+1:=by unfold aC.askd;rw [qO];simp
theorem mq.nxt{W:aC}{s:Std}{k:Int}(b:Bool)(ok:W.Ok)(h:mq W s)(hk:km W k)(hn:k∉s.1):mq W (nxt W s k b):=by
  refine⟨fun j hj=>?_,?_,?_,?_⟩
  · have:=mM.mp hj
    rcases List.mem_append.mp this with z | z
    · exact h.inw j z
    · simp at z;rw [z];exact hk
  · refine(gR _).nodup_iff.mpr ?_
    rw [List.nodup_append]
    refine⟨h.nd,by simp,fun a ha b hb=>?_⟩
    simp at hb
    rintro rfl
    exact hn (hb ▸ ha)
  · have:=h.tk
    show(W.took s.2 k b).length≤2*(aC.askd s.1 k).length
    rw [gj]
    unfold aC.took
    split
    · rw [qO];simp;lia
    · lia
  · intro t ht
    have o:=hk.ok ok
    have:=o.o0;have:=o.o1;have:=o.o2
    change t∈W.took s.2 k b at ht
    unfold aC.took at ht
    split at ht
    · rcases List.mem_append.mp (mM.mp ht) with z | z
      · exact h.th t z
      · simp at z
        rcases z with rfl | rfl<;>lia
    · exact h.th t ht
theorem lT{W:aC}{a t:List Int}{k:Int}(h:W.may a t k=true):k∉a:=by
  unfold aC.may at h
  intro c
  have:a.contains k=true:=by simpa using c
  simp [c] at h
structure Nd where
  tie:Int
  yes:Int
  no:Int
def cy(x:Nd):PyData:=.tuple [.int x.tie,.int x.yes,.int x.no]
def xC(x:Nd):List PyData:=[.int x.tie,.int x.yes,.int x.no]
def kh(W:aC)(n:Nat)(S:Nat→Std)(i:Nat)(k:Int)(b:Bool)(l:Int):Prop:=l= -1∨(0≤l∧l < (n:Int)∧S l.toNat=nxt W (S i) k b)
structure sG (W:aC) (n:Nat) (S:Nat→Std) (i:Nat) (x:Nd):Prop where
  tie:km W x.tie
  st:mq W (S i)
  may:W.may (S i).1 (S i).2 x.tie=true
  yes:kh W n S i x.tie true x.yes
  no:kh W n S i x.tie false x.no
def bN(W:aC)(T:List Nd)(S:Nat→Std):Prop:=∀(i:Nat) (x:Nd),T[i]?=some x→sG W T.length S i x
structure Wt where
  st:Std
  par:Int
  side:Int
def A8(w:Wt):PyData:=.tuple [ms w.st.1 w.st.2,.int w.par,.int w.side]
theorem Sh.wt{w:Wt}:Sh 8 (A8 w):=Sh.tup (n:=6) fun d hd=>by
  simp only [List.mem_cons,List.not_mem_nil,or_false] at hd
  rcases hd with rfl | rfl | rfl
  · exact Sh.st
  · exact Sh.int.mono (by decide)
  · exact Sh.int.mono (by decide)
def C2(S:Nat→Std)(n:Nat)(s:Std):Nat→Std:=fun i=>if i=n then s else S i
structure qV (W:aC) (T:List Nd) (S:Nat→Std) (ws:List Wt):Prop where
  tr:bN W T S
  wt:∀w∈ws,mq W w.st∧(w.par= -1∨∃(p:Nat) (x:Nd),w.par=(p:Int)∧T[p]?=some x∧((w.side=0∧w.st=L2.nxt W (S p) x.tie true)∨(w.side=1∧w.st=L2.nxt W (S p) x.tie false)))
  side:∀w∈ws,w.side=0∨w.side=1
theorem kh.up{W:aC}{n:Nat}{S:Nat→Std}{i:Nat}{k:Int}{b:Bool}{l:Int}{s:Std}(h:kh W n S i k b l)(hi:i < n):kh W (n+1) (C2 S n s) i k b l:=by
  rcases h with h | ⟨h1,h2,h3⟩
  · exact .inl h
  · refine .inr ⟨h1,by lia,?_⟩
    unfold C2
    rw [if_neg (by lia),if_neg (by lia)]
    exact h3
def gU(x:Nd)(side n:Int):Nd:=if side=0 then{x with yes:=n} else{x with no:=n}
theorem y0{x:Nd}{s n:Int}:(gU x s n).tie=x.tie:=by unfold gU;split<;>rfl
theorem qV.more{W:aC}{T:List Nd}{S:Nat→Std}{w:Wt}{ws:List Wt}{k:Int}(ok:W.Ok)(h:qV W T S (w::ws))(hk:km W k)(hm:W.may w.st.1 w.st.2 k=true):
    qV W ((if 0≤w.par then T.modify w.par.toNat (fun x=>gU x w.side T.length) else T)++[⟨k, -1, -1⟩]) (C2 S T.length w.st) (ws++[⟨L2.nxt W w.st k true,T.length,0⟩,⟨L2.nxt W w.st k false,T.length,1⟩]):=by
  obtain⟨ws1,ws2⟩:=h.wt w (by simp)
  generalize hT:(if 0≤w.par then T.modify w.par.toNat (fun x=>gU x w.side T.length) else T)=T'
  have len:T'.length=T.length:=by rw [←hT];split<;>simp
  have old:∀(i:Nat) (y:Nd),T'[i]?=some y→i < T.length∧∃x,T[i]?=some x∧y.tie=x.tie:=by
    intro i y hy
    have hi:i < T.length:=by rw [←len];exact(List.getElem?_eq_some_iff.mp hy).1
    refine⟨hi,?_⟩
    rw [←hT] at hy
    split at hy
    · rw [List.getElem?_modify] at hy
      obtain⟨x,hx,e⟩:=Option.map_eq_some_iff.mp hy
      refine⟨x,hx,?_⟩
      rw [←e]
      split
      · exact y0
      · rfl
    · exact⟨y,hy,rfl⟩
  have keep:∀(i:Nat) (x:Nd),T[i]?=some x→∃y,T'[i]?=some y∧y.tie=x.tie:=by
    intro i x hx
    have hi:i < T'.length:=by rw [len];exact(List.getElem?_eq_some_iff.mp hx).1
    obtain⟨_,x',hx',e⟩:=old i _ (List.getElem?_eq_getElem hi)
    rw [hx] at hx'
    cases hx'
    exact⟨_,List.getElem?_eq_getElem hi,e⟩
  have up:∀i,i < T.length→C2 S T.length w.st i=S i:=fun i hi=>by unfold C2;rw [if_neg (by lia)]
  have upn:C2 S T.length w.st T.length=w.st:=by unfold C2;rw [if_pos rfl]
  refine⟨fun i y hy=>?_,fun v hv=>?_,fun v hv=>?_⟩
  · rw [List.length_append,len]
    show sG W (T.length+1) _ i y
    by_cases c:i < T.length
    · rw [List.getElem?_append_left (by lia)] at hy
      have hy0:=hy
      rw [←hT] at hy
      split at hy
      case isFalse=>
        have o:=h.tr i y hy
        exact⟨o.tie,by rw [up i c];exact o.st,by rw [up i c];exact o.may,o.yes.up c,o.no.up c⟩
      case isTrue hp=>
        rw [List.getElem?_modify] at hy
        obtain⟨x,hx,e⟩:=Option.map_eq_some_iff.mp hy
        have o:=h.tr i x hx
        split at e
        case isFalse=>
          subst e
          exact⟨o.tie,by rw [up i c];exact o.st,by rw [up i c];exact o.may,o.yes.up c,o.no.up c⟩
        case isTrue hi=>
          rcases ws2 with z | ⟨p,x2,z1,z2,z3⟩
          · lia
          · have:i=p:=by lia
            subst this
            rw [hx] at z2
            cases z2
            have new:∀b,w.st=L2.nxt W (S i) x.tie b→kh W (T.length+1) (C2 S T.length w.st) i x.tie b (T.length:Int):=fun b hb=>.inr ⟨by lia,by lia,by
              rw [show((T.length:Int)).toNat=T.length by lia,upn,up i c];exact hb⟩
            rw [←e]
            rcases z3 with ⟨s0,s1⟩ | ⟨s0,s1⟩
            · have:gU x w.side T.length={x with yes:=T.length}:=by unfold gU;rw [if_pos s0]
              rw [this]
              exact⟨o.tie,by rw [up i c];exact o.st,by rw [up i c];exact o.may,new true s1,o.no.up c⟩
            · have:gU x w.side T.length={x with no:=T.length}:=by unfold gU;rw [if_neg (by lia)]
              rw [this]
              exact⟨o.tie,by rw [up i c];exact o.st,by rw [up i c];exact o.may,o.yes.up c,new false s1⟩
    · rw [List.getElem?_append_right (by lia)] at hy
      have:i=T.length:=by
        have:=(List.getElem?_eq_some_iff.mp hy).1
        simp at this;lia
      subst this
      rw [len] at hy
      simp at hy
      subst hy
      exact⟨hk,by rw [upn];exact ws1,by rw [upn];exact hm,.inl rfl,.inl rfl⟩
  · rcases List.mem_append.mp hv with hv | hv
    · obtain⟨v1,v2⟩:=h.wt v (by simp [hv])
      refine⟨v1,?_⟩
      rcases v2 with z | ⟨p,x,z1,z2,z3⟩
      · exact .inl z
      · obtain⟨y,hy,e⟩:=keep p x z2
        have hp:p < T.length:=(List.getElem?_eq_some_iff.mp z2).1
        refine .inr ⟨p,y,z1,by rw [List.getElem?_append_left (by lia)];exact hy,?_⟩
        rw [up p hp,e]
        exact z3
    · have key:∀b,mq W (L2.nxt W w.st k b):=fun b=>ws1.nxt b ok hk (lT hm)
      have at':(T'++[(⟨k, -1, -1⟩:Nd)])[T.length]?=some ⟨k, -1, -1⟩:=by rw [List.getElem?_append_right (by lia),len];simp
      simp only [List.mem_cons,List.not_mem_nil,or_false] at hv
      rcases hv with rfl | rfl
      · exact⟨key true,.inr ⟨T.length,_,rfl,at',.inl ⟨rfl,by rw [upn]⟩⟩⟩
      · exact⟨key false,.inr ⟨T.length,_,rfl,at',.inr ⟨rfl,by rw [upn]⟩⟩⟩
  · rcases List.mem_append.mp hv with hv | hv
    · exact h.side v (by simp [hv])
    · simp only [List.mem_cons,List.not_mem_nil,or_false] at hv
      rcases hv with rfl | rfl
      · exact .inl rfl
      · exact .inr rfl
theorem qV.less{W:aC}{T:List Nd}{S:Nat→Std}{w:Wt}{ws:List Wt}(h:qV W T S (w::ws)):qV W T S ws:=⟨h.tr,fun v hv=>h.wt v (by simp [hv]),fun v hv=>h.side v (by simp [hv])⟩
theorem x4{T:List Nd}{p:Nat}{x:Nd}{n:Int}(h:T[p]?=some x):(T.map xC).set p [.int x.tie,.int n,.int x.no]=(T.modify p (fun x=>gU x 0 n)).map xC:=by
  refine List.ext_getElem? fun i=>?_
  rw [List.getElem?_set,List.getElem?_map,List.getElem?_map,List.getElem?_modify]
  by_cases c:p=i
  · subst c
    obtain⟨hp,e⟩:=List.getElem?_eq_some_iff.mp h
    simp [h,hp,gU,xC,e]
  · simp [c]
theorem x5{T:List Nd}{p:Nat}{x:Nd}{n:Int}(h:T[p]?=some x):(T.map xC).set p [.int x.tie,.int x.yes,.int n]=(T.modify p (fun x=>gU x 1 n)).map xC:=by
  refine List.ext_getElem? fun i=>?_
  rw [List.getElem?_set,List.getElem?_map,List.getElem?_map,List.getElem?_modify]
  by_cases c:p=i
  · subst c
    obtain⟨hp,e⟩:=List.getElem?_eq_some_iff.mp h
    simp [h,hp,gU,xC,e]
  · simp [c]
theorem A6{W:aC}{a t:List Int}{k:Int}(h:k∈W.can a t):km W k∧W.may a t k=true:=by
  unfold aC.can at h
  rw [List.mem_filter] at h
  exact⟨n_.mp h.1,h.2⟩
end L2
namespace L2
open PySem PySem.Spec PyProof.Rows
theorem yd{cp:List (Nat × Str)}{nT:Nat}{fi:FI}{g:FG}{ft:FT}{fe:FE}{e e1 cs:En}{t t':En}{items out:List PyData}{own:gS}(h1:fi e=some (items,own,e1))(ho:(own.all fun q=> !(cp.any fun c=>c.1==q.1))=true)(hc:sC cp nT e1=cs++t)(hl:cs.length=cp.length)(h3:eL g ft fe items (sC cp nT e1) []=some (out,cs++t')):cw cp nT fi g ft fe e=some (.l out,e1):=by
  have key:=d9 (cp:=cp) (nT:=nT) (fi:=fun _=>some (items,[],e1)) (g:=g) (ft:=ft) (fe:=fe) (e:=e) rfl hc hl h3
  unfold cw at key ⊢
  rw [h1]
  simp only [Option.bind_some,List.all_nil,if_true] at key
  simp only [Option.bind_some,ho,if_true]
  exact key
theorem Ad{W:List Nat}{fi:FI}{g:FG}{f:FS}{e e1:En}{items:List PyData}{own:gS}(h:fi e=some (items,own,e1))(ho:(own.all fun q=> !W.contains q.1)=true):cL W fi g f e=ij own g f items e1:=by
  unfold cL;rw [h];simp only [Option.bind_some,ho,if_true]
theorem qp{α:Type}(x:α):∀n,(List.replicate n [x]).flatten=List.replicate n x
  | 0=>rfl
  | n+1=>by rw [List.replicate_succ,List.flatten_cons,qp x n];rfl
theorem CG{e:En}{x:PyData}{n:Int}(h0:0≤n)(h1:n≤100000):ce e (.l [x]) (.d (.int n))=some (.l (List.replicate n.toNat x)):=by
  have a:sT e (.l [x]) (.d (.int n))=some (.l (List.replicate n.toNat [x]).flatten):=by
    simp [sT,u_,bC]
    lia
  have b:sS e (.l [x]) (.d (.int n))=none:=by simp [sS,gI,bC]
  have c:sU e (.l [x]) (.d (.int n))=none:=by simp [sU,gW,bC]
  unfold ce AM
  rw [b,c,a,qp]
  rfl
theorem xi{α:Type}{xs:List α}{x:α}:atI (xs++[x]) (-1)=some x:=by
  unfold atI k8
  rw [if_neg (by decide),if_pos (by simp;lia)]
  simp
  rw [show(-1+((xs.length:Int)+1)).toNat=xs.length by lia]
  simp
theorem EY{n:Nat}:lF [.int 0] none (some (n:Int))=(if n=0 then [] else [.int 0]):=by
  unfold lF
  rw [HT.sIx_none,HT.sIx_nat]
  cases n with
  | zero=>simp
  | succ n=>simp
def nm(nums:List Int)(l:Int):Int:=(atI nums l).getD (-1)
theorem AY{α β:Type}{f:α→β}{xs:List α}{i:Int}:atI (xs.map f) i=(atI xs i).map f:=by
  unfold atI
  rw [List.length_map]
  cases k8 xs.length i with
  | none=>rfl
  | some j=>simp
theorem yq{α:Type}{xs:List α}{i:Int}(h0: -(xs.length:Int)≤i)(h1:i < xs.length):∃x,atI xs i=some x:=by
  unfold atI k8
  split
  · simp only [if_pos h1,Option.bind_some]
    exact⟨_,List.getElem?_eq_getElem (by lia)⟩
  · simp only [if_pos h0,Option.bind_some]
    exact⟨_,List.getElem?_eq_getElem (by lia)⟩
theorem CP{nums:List Int}{l:Int}(h0: -(nums.length:Int)≤l)(h1:l < nums.length):atI (nums.map PyData.int) l=some (.int (nm nums l)):=by
  obtain⟨x,hx⟩:=yq h0 h1
  unfold nm
  rw [AY,hx];rfl
structure jm (order:List Int) (n:Nat) (nums:List Int):Prop where
  len:nums.length=n+1
  top:nums[n]?=some (-1)
  at':∀(j:Nat) (v:Int),j < n→nums[j]?=some v→v= -1∨∃p:Nat,v=(p:Int)∧order[p]?=some (j:Int)
theorem jm.first{order:List Int}{n:Nat}:jm order n (List.replicate (n+1) (-1)):=⟨by simp,by simp [List.getElem?_replicate],fun j v hj h=>by
  rw [List.getElem?_replicate] at h
  split at h
  · cases h;exact .inl rfl
  · cases h⟩
theorem jm.set{order:List Int}{n:Nat}{nums:List Int}(h:jm order n nums){i:Nat}{w:Int}(hw:order[i]?=some w)(w0:0≤w)(w1:w < (n:Int)):jm order n (nums.set w.toNat (i:Int)):=by
  refine⟨by rw [List.length_set];exact h.len,by rw [List.getElem?_set_ne (by lia)];exact h.top,fun j v hj hv=>?_⟩
  rw [List.getElem?_set] at hv
  split at hv
  case isTrue c=>
    rw [if_pos (by rw [h.len];lia)] at hv
    cases hv
    exact .inr ⟨i,rfl,by rw [hw];congr 1;lia⟩
  case isFalse c=>exact h.at' j v hj hv
def aQ(T:List Nd)(w:Int):Nd:=T.getD w.toNat ⟨0,0,0⟩
theorem cY{T:List Nd}{w:Int}(h0:0≤w)(h1:w < (T.length:Int)):T[w.toNat]?=some (aQ T w):=by
  have:w.toNat < T.length:=by lia
  simp [aQ,this]
theorem uH{T:List Nd}{w:Int}(h0:0≤w)(h1:w < (T.length:Int)):atI (T.map cy) w=some (cy (aQ T w)):=by
  rw [eh h0 (by rw [List.length_map];exact h1),List.getElem?_map,cY h0 h1];rfl
def renum(T:List Nd)(nums:List Int)(w:Int):Nd:=⟨(aQ T w).tie,nm nums (aQ T w).yes,nm nums (aQ T w).no⟩
theorem kh.rng{W:aC}{n:Nat}{S:Nat→Std}{i:Nat}{k:Int}{b:Bool}{l:Int}(h:kh W n S i k b l): -1≤l∧l < (n:Int):=by
  rcases h with h | h<;>lia
theorem kh.renum{W:aC}{n:Nat}{S:Nat→Std}{order nums:List Int}{i j:Nat}{w:Int}{k:Int}{b:Bool}{l:Int}(hn:jm order n nums)(hj:order[j]?=some w)(hi:w.toNat=i)(h:kh W n S i k b l):kh W order.length (fun j=>S (order.getD j 0).toNat) j k b (nm nums l):=by
  have hj2:(fun j=>S (order.getD j 0).toNat) j=S i:=by
    simp only [List.getD_eq_getElem?_getD,hj,Option.getD_some,hi]
  rcases h with h | ⟨h1,h2,h3⟩
  · left
    subst h
    unfold nm atI k8
    rw [if_neg (by decide),if_pos (by rw [hn.len];lia)]
    simp only [Option.bind_some]
    rw [show(-1+(nums.length:Int)).toNat=n by rw [hn.len];lia,hn.top]
    rfl
  · have hl:l.toNat < n:=by lia
    have e:nm nums l=nums.getD l.toNat (-1):=by
      unfold nm
      rw [eh h1 (by rw [hn.len];lia)]
      simp
    have hx:nums[l.toNat]?=some (nums.getD l.toNat (-1)):=by
      have:l.toNat < nums.length:=by rw [hn.len];lia
      simp [this]
    rcases hn.at' l.toNat _ hl hx with z | ⟨p,z1,z2⟩
    · left;rw [e];exact z
    · right
      rw [e,z1]
      have hp:p < order.length:=(List.getElem?_eq_some_iff.mp z2).1
      refine⟨by lia,by lia,?_⟩
      rw [hj2]
      have:(fun j=>S (order.getD j 0).toNat) ((p:Int)).toNat=S l.toNat:=by
        simp only [Int.toNat_natCast,List.getD_eq_getElem?_getD,z2,Option.getD_some]
      rw [this]
      exact h3
theorem bN.renum{W:aC}{T:List Nd}{S:Nat→Std}{order nums:List Int}(h:bN W T S)(ho:∀w∈order,0≤w∧w < (T.length:Int))(hn:jm order T.length nums):bN W (order.map (L2.renum T nums)) (fun j=>S (order.getD j 0).toNat):=by
  intro j y hy
  rw [List.getElem?_map] at hy
  obtain⟨w,hw,rfl⟩:=Option.map_eq_some_iff.mp hy
  obtain⟨w0,w1⟩:=ho w (List.mem_of_getElem? hw)
  have o:=h w.toNat _ (cY w0 w1)
  have hj2:S (order.getD j 0).toNat=S w.toNat:=by
    simp only [List.getD_eq_getElem?_getD,hw,Option.getD_some]
  rw [List.length_map]
  exact⟨o.tie,by rw [hj2];exact o.st,by rw [hj2];exact o.may,o.yes.renum hn hw rfl,o.no.renum hn hw rfl⟩
def hang(S:Nat→Std)(w:Int):Nat:=2 ^ (16 - (S w.toNat).1.length) - 1
def dD(S:Nat→Std)(ws:List Int):Nat:=(ws.map (hang S)).sum
theorem sG.room{W:aC}{n:Nat}{S:Nat→Std}{i:Nat}{x:Nd}(ok:W.Ok)(h:sG W n S i x):(S i).1.length≤15:=by
  have h1:=(h.st.nxt true ok h.tie (lT h.may)).len
  have h2:=ok.len
  have:(nxt W (S i) x.tie true).1.length=(S i).1.length+1:=gj
  lia
theorem mz{W:aC}{n:Nat}{S:Nat→Std}{i:Nat}{k:Int}{b:Bool}{l:Int}(hi:(S i).1.length≤15)(h:kh W n S i k b l)(hn:l≠ -1):hang S l=2 ^ (15 - (S i).1.length) - 1:=by
  rcases h with h | ⟨h1,h2,h3⟩
  · exact absurd h hn
  · unfold hang
    rw [h3]
    have:(nxt W (S i) k b).1.length=(S i).1.length+1:=gj
    rw [this,show 16 - ((S i).1.length+1)=15 - (S i).1.length by lia]
def rF(x:Nd):List Int:=[x.yes,x.no].filter fun l=>l != -1
theorem sG.hang{W:aC}{n:Nat}{S:Nat→Std}{w:Int}{x:Nd}(ok:W.Ok)(h:sG W n S w.toNat x):dD S (rF x)+1≤L2.hang S w:=by
  have r:=h.room ok
  have e:L2.hang S w=2*2 ^ (15 - (S w.toNat).1.length) - 1:=by
    unfold L2.hang
    rw [show 16 - (S w.toNat).1.length=(15 - (S w.toNat).1.length)+1 by lia,Nat.pow_succ,Nat.mul_comm]
  have p:1≤2 ^ (15 - (S w.toNat).1.length):=Nat.one_le_two_pow
  rw [e]
  unfold dD rF
  by_cases c1:x.yes= -1
  · by_cases c2:x.no= -1
    · simp [c1,c2];lia
    · have:=mz r h.no c2
      simp [c1,c2,this];lia
  · have l1:=mz r h.yes c1
    by_cases c2:x.no= -1
    · simp [c1,c2,l1];lia
    · have:=mz r h.no c2
      simp [c1,c2,l1,this];lia
theorem Dw{W:aC}{n:Nat}{S:Nat→Std}{i:Nat}{x:Nd}(h:sG W n S i x):∀l∈rF x,0≤l∧l < (n:Int):=by
  intro l hl
  unfold rF at hl
  rw [List.mem_filter] at hl
  obtain⟨h1,h2⟩:=hl
  simp at h1 h2
  rcases h1 with rfl | rfl
  · have:=h.yes.rng;lia
  · have:=h.no.rng;lia
theorem qo{α β:Type}{f:α→β}:∀{xs:List α} {i:Nat},(xs.map f).eraseIdx i=(xs.eraseIdx i).map f
  | [],_=>by simp
  | x::r,0=>by simp
  | x::r,i+1=>by simp [qo (xs:=r) (i:=i)]
def GN(f:Int→PyData):PyData→PyData
  | .int k=>f k
  | d=>d
theorem E2{e:En}{xs:List PyData}{lo hi:Option Int}:Gi e (.l xs) lo hi=some (.l (lF xs lo hi)):=rfl
theorem qs{S:Nat→Std}:∀{ws:List Int} {j:Nat} (h:j < ws.length),dD S (ws.eraseIdx j)+hang S ws[j]=dD S ws
  | [],j,h=>by simp at h
  | w::r,0,h=>by simp [dD];lia
  | w::r,j+1,h=>by
    have:=qs (S:=S) (ws:=r) (j:=j) (by simpa using h)
    simp [dD] at this ⊢
    lia
theorem xw{S:Nat→Std}{a b:List Int}:dD S (a++b)=dD S a+dD S b:=by
  unfold dD;rw [List.map_append,List.sum_append]
theorem qr{W:aC}{T:List Nd}{S:Nat→Std}{ws:List Int}(ok:W.Ok)(h:bN W T S)(hw:∀w∈ws,0≤w∧w < (T.length:Int)):ws.length≤dD S ws:=by
  induction ws with
  | nil=>simp
  | cons w r ih=>
    have i:=ih fun v hv=>hw v (by simp [hv])
    obtain⟨w0,w1⟩:=hw w (by simp)
    have:=(h _ _ (cY w0 w1)).hang ok
    unfold dD at i ⊢
    rw [List.map_cons,List.sum_cons,List.length_cons]
    lia
end L2
namespace L2
open PySem PySem.Spec PyProof.Rows
def stp(W:aC)(ss:List Std)(i:Nat)(k:Int)(b:Bool)(l:Int):List Std:=if l= -1 then ss else ss.set l.toNat (nxt W (ss.getD i ([],[])) k b)
structure Hh (S:Nat→Std) (n:Nat) (ss:List Std):Prop where
  len:ss.length=n
  at':∀(j:Nat) (s:Std),ss[j]?=some s→s.1.length≤(S j).1.length∧s.2.length≤2*s.1.length∧(∀k∈s.1,0≤k∧k < 16)∧∀t∈s.2,0≤t∧t < 12
theorem yG{T:List Nd}{i:Nat}{x:PyData}(h:(gu 0 (T.map cy))[i]?=some x):∃y,T[i]?=some y∧x=.tuple [.int (i:Int),cy y]:=by
  rw [iI,List.getElem?_map,Option.map_map] at h
  obtain⟨y,hy,rfl⟩:=Option.map_eq_some_iff.mp h
  exact⟨y,hy,by simp⟩
end L2
namespace L2
open PySem PySem.Spec PyProof.Rows
theorem me(s:String):PyData.strOk (Str.ofString s)=true:=by
  rw [Str.ofString_eq_toList]
  unfold PyData.strOk
  simp only [List.size_toArray,List.length_map]
  rw [show(List.map Char.toNat s.toList).toArray.all (fun a=>decide (a < 1114112)) 0 s.toList.length=(List.map Char.toNat s.toList).all (fun a=>decide (a < 1114112)) by simp]
  rw [List.all_map,List.all_eq_true]
  intro c _
  show decide (c.toNat < 1114112)=true
  rw [decide_eq_true_eq]
  have:=c.valid
  unfold UInt32.isValidChar Nat.isValidChar at this
  show c.val.toNat < _
  lia
theorem kf{a b:Str}(h1:PyData.strOk a=true)(h2:PyData.strOk b=true):PyData.strOk (a++b)=true:=by
  unfold PyData.strOk at*
  rw [show(a++b).cps=a.cps++b.cps from rfl]
  simp only [Array.all_append,h1,h2,Bool.and_self]
theorem pF{sep:Str}(h:PyData.strOk sep=true):∀(ts:List Str),(∀t∈ts,PyData.strOk t=true)→PyData.strOk (Str.join sep ts)=true
  | [],_=>by show PyData.strOk Str.empty=true;simp [PyData.strOk,Str.empty]
  | [x],hx=>hx x (by simp)
  | x::y::r,hx=>kf (kf (hx x (by simp)) h) (pF h (y::r) fun t ht=>hx t (by simp at ht ⊢;exact .inr ht))
theorem x8{ts:List Str}(h:∀t∈ts,PyData.strOk t=true):PyData.strOk (tupleText ts)=true:=by
  unfold tupleText
  exact kf (kf (me _) (pF (me _) ts h)) (me _)
structure Sz (n dep:Nat) (d:PyData):Prop where
  fl:lI d=true
  sh:d.showable=true
  dp:d.depth≤dep
  ln:d.shown.length≤n
  so:PyData.strOk d.shown=true
theorem Sz.mono{n m dep e:Nat}{d:PyData}(h:Sz n dep d)(h1:n≤m)(h2:dep≤e):Sz m e d:=⟨h.fl,h.sh,Nat.le_trans h.dp h2,Nat.le_trans h.ln h1,h.so⟩
theorem Sz.all{n dep:Nat}:∀{ds:List PyData},(∀d∈ds,Sz n dep d)→jY ds=true∧PyData.showableAll ds=true∧PyData.depthAll ds≤dep∧piled (PyData.shownAll ds)≤ds.length*(n+2)∧∀t∈PyData.shownAll ds,PyData.strOk t=true
  | [],_=>⟨rfl,rfl,by simp [PyData.depthAll],by simp [PyData.shownAll,piled],by simp [PyData.shownAll]⟩
  | d::r,h=>by
    obtain⟨a1,a2,a3,a4,a5⟩:=h d (by simp)
    obtain⟨b1,b2,b3,b4,b5⟩:=Sz.all (ds:=r) fun x hx=>h x (by simp [hx])
    refine⟨?_,?_,?_,?_,?_⟩
    · simp only [jY,a1,b1,Bool.and_self]
    · simp only [PyData.showableAll,a2,b2,Bool.and_self]
    · simp only [PyData.depthAll];lia
    · simp only [PyData.shownAll,oY,List.length_cons,Nat.succ_mul];lia
    · intro t ht
      simp only [PyData.shownAll,List.mem_cons] at ht
      rcases ht with rfl | ht
      · exact a5
      · exact b5 t ht
theorem Sz.tup{n dep m:Nat}{ds:List PyData}(h:∀d∈ds,Sz n dep d)(hl:ds.length≤m):Sz (m*(n+2)+3) (dep+2) (.tuple ds):=by
  obtain⟨b1,b2,b3,b4,b5⟩:=Sz.all h
  refine⟨by simpa [lI] using b1,b2,by simp only [PyData.depth];lia,?_,by simp only [PyData.shown];exact x8 b5⟩
  have h2:=qS (PyData.shownAll ds)
  have:=Nat.mul_le_mul_right (n+2) hl
  simp only [PyData.shown]
  lia
theorem Sz.ok{n dep:Nat}{d:PyData}(h:Sz n dep d)(h1:n≤16777216)(h2:dep≤60):l_ d=true:=by
  have sl:sizeLine=16777216:=sizeLine_eq
  unfold l_
  rw [h.fl,h.sh,decide_eq_true (Nat.le_trans h.dp h2),decide_eq_true (show d.shown.length≤sizeLine by rw [sl];exact Nat.le_trans h.ln h1)]
  rfl
theorem Be{e:En}{d:PyData}(h:l_ d=true):g1 nj e [.d d]=some (.d (.str d.shown)):=by
  simp [g1,nj,h]
theorem Bc{e:En}{s:Str}(h:PyData.strOk s=true):cK false e (.d (.str s)) (.d (.str s))=some (.d (.bool true)):=by
  simp [cK,lG,SeqAt.shaped,PyData.canLay0,PyData.depth,PyData.eqv,h]
end L2
namespace L2
open PySem PySem.Spec PyProof.Rows
theorem Bb{e:En}{xs ys:List PyData}(hl:xs.length+ys.length≤1000000):bY e (.l xs) (.l ys)=some (.l (xs++ys)):=by
  simp [bY,AM,yK,gI,bC,sR,gW,wq,u_,hl]
theorem xh{bs:List Bool}{k:Int}(h0:0≤k)(h1:k < (bs.length:Int)):atI (bs.map PyData.bool) k=some (.bool (bs.getD k.toNat false)):=by
  rw [eh h0 (by rw [List.length_map];exact h1),List.getElem?_map]
  have:k.toNat < bs.length:=by lia
  simp [this]
def dR(p:Int × Bool):PyData:=.tuple [.int p.1,.bool p.2]
def rn(T:List Nd)(ans:List Bool):Nat→Int→List (Int × Bool)
  | 0,_=>[]
  | f+1,at'=>if at' < 0 then [] else((aQ T at').tie,ans.getD (aQ T at').tie.toNat false)::rn T ans f (if ans.getD (aQ T at').tie.toNat false=true then(aQ T at').yes else(aQ T at').no)
theorem lc{T:List Nd}{ans:List Bool}{f:Nat}{a:Int}(h:a < 0):rn T ans f a=[]:=by
  cases f with
  | zero=>rfl
  | succ f=>unfold rn;rw [if_pos h]
def rt(T:List Nd):Int:=if T.length=0 then -1 else 0
structure lp (W:aC) (T:List Nd) (S:Nat→Std) (ans:List Bool) (r:List (Int × Bool)) (a:Int):Prop where
  at':a= -1∨(0≤a∧a < (T.length:Int)∧r.length≤(S a.toNat).1.length)
  eq:r++rn T ans (17 - r.length) a=rn T ans 17 (rt T)
  len:r.length≤16
  inw:∀p∈r,km W p.1
theorem lp.first{W:aC}{T:List Nd}{S:Nat→Std}{ans:List Bool}:lp W T S ans [] (rt T):=⟨by
  unfold rt
  split
  · exact .inl rfl
  · exact .inr ⟨by lia,by lia,by simp⟩,rfl,by simp,fun p h=>by cases h⟩
theorem lp.step{W:aC}(ok:W.Ok){T:List Nd}{S:Nat→Std}{ans:List Bool}{r:List (Int × Bool)}{a:Int}(hT:bN W T S)(h:lp W T S ans r a)(h0:0≤a):
    a < (T.length:Int)∧r.length≤15∧km W (aQ T a).tie∧lp W T S ans (r++[((aQ T a).tie,ans.getD (aQ T a).tie.toNat false)]) (if ans.getD (aQ T a).tie.toNat false=true then(aQ T a).yes else(aQ T a).no):=by
  rcases h.at' with z | ⟨z1,z2,z3⟩
  · lia
  have o:=hT _ _ (cY z1 z2)
  have rm:=o.room ok
  refine⟨z2,by lia,o.tie,?_,?_,by simp;lia,fun p hp=>?_⟩
  · have key:∀b l,kh W T.length S a.toNat (aQ T a).tie b l→l= -1∨(0≤l∧l < (T.length:Int)∧(r++[((aQ T a).tie,ans.getD (aQ T a).tie.toNat false)]).length≤(S l.toNat).1.length):=by
      intro b l hl
      rcases hl with hl | ⟨h1,h2,h3⟩
      · exact .inl hl
      · refine .inr ⟨h1,h2,?_⟩
        rw [h3]
        have:(nxt W (S a.toNat) (aQ T a).tie b).1.length=(S a.toNat).1.length+1:=gj
        rw [this]
        simp;lia
    split
    · exact key _ _ o.yes
    · exact key _ _ o.no
  · have e:=h.eq
    rw [show 17 - r.length=(17 - (r.length+1))+1 by lia] at e
    unfold rn at e
    rw [if_neg (by lia)] at e
    rw [List.append_assoc,List.length_append]
    exact e
  · rcases List.mem_append.mp hp with hp | hp
    · exact h.inw p hp
    · simp at hp;rw [hp];exact o.tie
theorem lp.done{W:aC}{T:List Nd}{S:Nat→Std}{ans:List Bool}{r:List (Int × Bool)}{a:Int}(h:lp W T S ans r a)(h0:a < 0):r=rn T ans 17 (rt T):=by
  have e:=h.eq
  rw [lc h0,List.append_nil] at e
  exact e
end L2
namespace L2
open PySem PySem.Spec PyProof.Rows
abbrev Fr:=Int × Int
def dF(f:Fr):PyData:=.tuple [.int f.1,.int f.2]
def tm(a b:Fr):Fr:=lowM (a.1*b.1) (a.2*b.2)
def pl(a b:Fr):Fr:=lowM (a.1*b.2+b.1*a.2) (a.2*b.2)
theorem i5{t b:Int}(hb:0 < b)(ht:0≤t):∃d:Int,0 < d∧(lowM t b).1*d=t∧(lowM t b).2*d=b∧0 < (lowM t b).2∧0≤(lowM t b).1:=by
  obtain⟨d,h1,h2,h3,h4,h5⟩:=et (t:=t) (b:=b) (by lia)
  have d0:0 < d:=by
    rcases Int.lt_trichotomy d 0 with z | z | z
    · have:=Int.mul_neg_of_pos_of_neg h5 z
      lia
    · exact absurd z h2
    · exact z
  refine⟨d,d0,h3,h4,h5,?_⟩
  rcases Int.lt_or_le (lowM t b).1 0 with z | z
  · have:=Int.mul_neg_of_neg_of_pos z d0
    lia
  · exact z
theorem nZ{t b i:Int}(hb:0 < b)(ht:0≤t)(h:t≤i*b):(lowM t b).1≤i*(lowM t b).2:=by
  obtain⟨d,d0,h3,h4,h5,h6⟩:=i5 hb ht
  refine Int.le_of_mul_le_mul_right (a:=d) ?_ d0
  rw [h3,Int.mul_assoc,h4]
  exact h
theorem sZ{t b:Int}(hb:0 < b)(ht:0≤t):(lowM t b).2 ∣ b:=by
  obtain⟨d,d0,h3,h4,h5,h6⟩:=i5 hb ht
  exact⟨d,h4.symm⟩
theorem sY{t b M u:Int}(hb:0 < b)(ht:0≤t)(h:t*M=b*u):(lowM t b).2 ∣ M:=by
  have g:=oM (t:=t) (b:=b) (by lia)
  obtain⟨d,d0,h3,h4,h5,h6⟩:=i5 hb ht
  generalize (lowM t b).1=p at*
  generalize (lowM t b).2=q at*
  have e:p*M=q*u:=by
    refine Int.eq_of_mul_eq_mul_right (a:=d) (by lia) ?_
    rw [show p*M*d=(p*d)*M by rw [Int.mul_assoc,Int.mul_comm M d,←Int.mul_assoc],h3,h,←h4,Int.mul_assoc,Int.mul_comm d u,←Int.mul_assoc]
  have dv:q.natAbs ∣ (p*M).natAbs:=Int.natAbs_dvd_natAbs.mpr ⟨u,e⟩
  rw [Int.natAbs_mul] at dv
  have cp:Nat.Coprime q.natAbs p.natAbs:=by
    have:Nat.gcd p.natAbs q.natAbs=1:=g
    rw [Nat.Coprime,Nat.gcd_comm];exact this
  exact Int.natAbs_dvd_natAbs.mp (cp.dvd_of_dvd_mul_left dv)
structure pM (M:Int) (f:Fr):Prop where
  pos:0 < f.2
  lo:0≤f.1
  hi:f.1≤f.2
  dv:f.2 ∣ M
theorem pM.tm{M N:Int}{a b:Fr}(h:pM M a)(k:pM N b):pM (M*N) (tm a b):=by
  have p:0 < a.2*b.2:=Int.mul_pos h.pos k.pos
  have t:0≤a.1*b.1:=Int.mul_nonneg h.lo k.lo
  obtain⟨d,d0,h3,h4,h5,h6⟩:=i5 p t
  refine⟨h5,h6,?_,Int.dvd_trans (sZ p t) (Int.mul_dvd_mul h.dv k.dv)⟩
  have:=nZ (i:=1) p t (by rw [Int.one_mul];exact Int.mul_le_mul h.hi k.hi k.lo (Int.le_of_lt h.pos))
  rw [Int.one_mul] at this
  exact this
structure kr (M i:Int) (f:Fr):Prop where
  pos:0 < f.2
  lo:0≤f.1
  hi:f.1≤i*f.2
  dv:f.2 ∣ M
theorem kr.pl{M i:Int}{a b:Fr}(h:kr M i a)(k:pM M b):kr M (i+1) (pl a b):=by
  have p:0 < a.2*b.2:=Int.mul_pos h.pos k.pos
  have t:0≤a.1*b.2+b.1*a.2:=Int.add_nonneg (Int.mul_nonneg h.lo (Int.le_of_lt k.pos)) (Int.mul_nonneg k.lo (Int.le_of_lt h.pos))
  obtain⟨d,d0,h3,h4,h5,h6⟩:=i5 p t
  refine⟨h5,h6,nZ p t ?_,?_⟩
  · have e1:a.1*b.2≤i*a.2*b.2:=Int.mul_le_mul_of_nonneg_right h.hi (Int.le_of_lt k.pos)
    have e2:b.1*a.2≤b.2*a.2:=Int.mul_le_mul_of_nonneg_right k.hi (Int.le_of_lt h.pos)
    rw [Int.add_mul,Int.one_mul,←Int.mul_assoc,Int.mul_comm a.2 b.2]
    rw [Int.mul_assoc i a.2 b.2,Int.mul_comm a.2 b.2,←Int.mul_assoc] at*
    lia
  · obtain⟨x,hx⟩:=h.dv
    obtain⟨y,hy⟩:=k.dv
    refine sY (u:=a.1*x+b.1*y) p t ?_
    rw [Int.add_mul,Int.mul_add]
    congr 1
    · rw [hx]
      rw [show a.1*b.2*(a.2*x)=a.2*b.2*(a.1*x) by ac_rfl]
    · rw [hy]
      rw [show b.1*a.2*(b.2*y)=a.2*b.2*(b.1*y) by ac_rfl]
theorem kr.mono{M i j:Int}{f:Fr}(h:kr M i f)(hj:i≤j):kr M j f:=⟨h.pos,h.lo,Int.le_trans h.hi (Int.mul_le_mul_of_nonneg_right hj (Int.le_of_lt h.pos)),h.dv⟩
theorem pM.bt{M:Int}{f:Fr}{n:Nat}(h:pM M f)(hM:Bt n M)(h0:0 < M):Bt n f.1∧Bt n f.2:=by
  have l:=Int.le_of_dvd h0 h.dv
  have:=h.pos;have:=h.lo;have:=h.hi
  exact⟨hM.of_le (by lia),hM.of_le (by lia)⟩
theorem kr.bt{M i:Int}{f:Fr}{n m:Nat}(h:kr M i f)(hM:Bt n M)(h0:0 < M)(hi:Bt m i):Bt (m+n) f.1∧Bt n f.2:=by
  have l:=Int.le_of_dvd h0 h.dv
  have p:=h.pos;have q:=h.lo;have r:=h.hi
  have b2:Bt n f.2:=hM.of_le (by lia)
  exact⟨(hi.mul b2).of_le (by lia),b2⟩
def bp(W:aC):List Int→Int
  | []=>1
  | k::r=>(W.tie k).bot*bp W r
theorem nV{W:aC}{a b:List Int}(h:a.Perm b):bp W a=bp W b:=by
  induction h with
  | nil=>rfl
  | cons x _ ih=>simp only [bp,ih]
  | swap x y l=>simp only [bp];ac_rfl
  | trans _ _ i1 i2=>rw [i1,i2]
theorem A4{W:aC}{a:List Int}{k:Int}:bp W (aC.askd a k)=bp W a*(W.tie k).bot:=by
  unfold aC.askd
  rw [nV (gR _),nV (List.perm_append_comm (l₁:=a) (l₂:=[k]))]
  show(W.tie k).bot*bp W a=_
  rw [Int.mul_comm]
theorem uJ{W:aC}:∀{a L:List Int},a.Nodup→(∀k∈a,k∈L)→bp W a ∣ bp W L
  | [],L,_,_=>Int.one_dvd _
  | k::r,L,hn,hs=>by
    have hk:=hs k (by simp)
    rw [List.nodup_cons] at hn
    rw [nV (List.perm_cons_erase hk)]
    refine Int.mul_dvd_mul (Int.dvd_refl _) (uJ hn.2 fun j hj=>?_)
    have:j≠k:=fun z=>hn.1 (z ▸ hj)
    exact(List.mem_erase_of_ne this).mpr (hs j (by simp [hj]))
theorem yx{W:aC}(ok:W.Ok):∀{a:List Int},(∀k∈a,km W k)→0 < bp W a∧Bt (7*a.length+1) (bp W a)
  | [],_=>⟨by simp [bp],by unfold Bt;simp [bp]⟩
  | k::r,h=>by
    obtain⟨i1,i2⟩:=yx ok (a:=r) fun j hj=>h j (by simp [hj])
    have o:=(h k (by simp)).ok ok
    have b0:=o.b0;have b1:=o.b1
    have bt:Bt 7 (W.tie k).bot:=by unfold Bt;lia
    refine⟨Int.mul_pos (by lia) i1,?_⟩
    have:=bt.mul i2
    exact this.mono (by simp;lia)
def mW(W:aC):Int:=bp W W.rng
theorem jx{W:aC}(ok:W.Ok):0 < mW W∧Bt 113 (mW W):=by
  obtain⟨h1,h2⟩:=yx ok (a:=W.rng) fun k hk=>n_.mp hk
  refine⟨h1,h2.mono ?_⟩
  have:=ok.len
  have:W.rng.length=W.ties.length:=by unfold aC.rng;simp
  lia
theorem mq.bp{W:aC}{s:Std}(h:mq W s):L2.bp W s.1 ∣ mW W:=uJ h.nd fun k hk=>n_.mpr (h.inw k hk)
def ch(W:aC)(k:Int)(b:Bool):Fr:=if b then((W.tie k).top,(W.tie k).bot) else((W.tie k).bot - (W.tie k).top,(W.tie k).bot)
theorem qj{W:aC}(ok:W.Ok){k:Int}(hk:km W k)(b:Bool):pM (W.tie k).bot (ch W k b):=by
  have o:=hk.ok ok
  have:=o.c0;have:=o.c1;have:=o.b0
  cases b<;>refine⟨?_,?_,?_,?_⟩<;>simp [ch]<;>lia
theorem s_{t b:Int}(hb:0 < b)(hg:Int.gcd t b=1):lowM (b - t) b=(b - t,b):=by
  have g:Int.gcd (b - t) b=1:=by
    rw [show b - t= -(t - b) by lia,Int.neg_gcd,Int.gcd_sub_self_left,hg]
  unfold lowM
  rw [if_neg (by lia),g]
  simp
def rstp(W:aC)(rs:List Fr)(i:Nat)(k:Int)(b:Bool)(l:Int):List Fr:=if l= -1 then rs else rs.set l.toNat (tm (rs.getD i (1,1)) (ch W k b))
def p7(W:aC)(rs:List Fr)(i:Nat)(x:Nd):List Fr:=rstp W (rstp W rs i x.tie true x.yes) i x.tie false x.no
def a'(W:aC)(T:List Nd):Nat→List Fr
  | 0=>List.replicate T.length (1,1)
  | i+1=>match T[i]? with
    | some x=>p7 W (a' W T i) i x
    | none=>a' W T i
theorem r6{W:aC}{T:List Nd}{i:Nat}{x:Nd}(h:T[i]?=some x):a' W T (i+1)=p7 W (a' W T i) i x:=by
  rw [a',h]
structure fL (W:aC) (S:Nat→Std) (n:Nat) (rs:List Fr):Prop where
  len:rs.length=n
  at':∀(j:Nat) (f:Fr),rs[j]?=some f→pM (bp W (S j).1) f
theorem lX{W:aC}{rs:List Fr}{i:Nat}{k:Int}{b:Bool}{l:Int}:(rstp W rs i k b l).length=rs.length:=by unfold rstp;split<;>simp
theorem fL.stp{W:aC}(ok:W.Ok){S:Nat→Std}{n:Nat}{rs:List Fr}{i:Nat}{k:Int}{b:Bool}{l:Int}(h:fL W S n rs)(hi:i < n)(hk:km W k)(hl:kh W n S i k b l):fL W S n (rstp W rs i k b l):=by
  refine⟨by rw [lX];exact h.len,fun j s hs=>?_⟩
  unfold L2.rstp at hs
  split at hs
  · exact h.at' j s hs
  case isFalse c=>
    rw [List.getElem?_set] at hs
    split at hs
    case isFalse=>exact h.at' j s hs
    case isTrue cj=>
      split at hs
      case isFalse=>cases hs
      case isTrue=>
      cases hs
      have hil:i < rs.length:=by rw [h.len];exact hi
      have e:rs[i]?=some (rs.getD i (1,1)):=by simp [hil]
      rcases hl with hl | ⟨h1,h2,h3⟩
      · exact absurd hl c
      · rw [←cj,h3]
        show pM (bp W (aC.askd (S i).1 k)) _
        rw [A4]
        exact(h.at' i _ e).tm (qj ok hk b)
theorem fL.first{W:aC}{S:Nat→Std}{n:Nat}:fL W S n (List.replicate n (1,1)):=⟨by simp,fun j s hs=>by
  rw [List.getElem?_replicate] at hs
  split at hs
  · cases hs;exact⟨by decide,by decide,by decide,Int.one_dvd _⟩
  · cases hs⟩
theorem fL.all{W:aC}(ok:W.Ok){S:Nat→Std}{T:List Nd}(h:bN W T S):∀i,fL W S T.length (a' W T i)
  | 0=>fL.first
  | i+1=>by
    unfold a'
    split
    · rename_i x hx
      have hi:=(List.getElem?_eq_some_iff.mp hx).1
      have o:=h i x hx
      exact((fL.all ok h i).stp ok hi o.tie o.yes).stp ok hi o.tie o.no
    · exact fL.all ok h i
theorem uG{rs:List Fr}{i:Nat}{z:Fr}(h:i < rs.length):atI (rs.map dF) (i:Int)=some (dF (rs.getD i z)):=by
  rw [eh (by lia) (by rw [List.length_map];lia),List.getElem?_map]
  simp [h,dF]
theorem rf{rs:List Fr}{k:Int}{z:Fr}(h0:0≤k)(h:k < (rs.length:Int)):atI (rs.map dF) k=some (dF (rs.getD k.toNat z)):=by
  have:=uG (rs:=rs) (i:=k.toNat) (z:=z) (by lia)
  rw [show((k.toNat:Nat):Int)=k by lia] at this
  exact this
theorem fL.one{W:aC}(ok:W.Ok){S:Nat→Std}{T:List Nd}{rs:List Fr}(h:bN W T S)(hs:fL W S T.length rs){i:Nat}(hi:i < T.length):pM (mW W) (rs.getD i (1,1)):=by
  have hil:i < rs.length:=by rw [hs.len];exact hi
  have e:rs[i]?=some (rs.getD i (1,1)):=by simp [hil]
  have r:=hs.at' i _ e
  exact⟨r.pos,r.lo,r.hi,Int.dvd_trans r.dv (h i _ (List.getElem?_eq_getElem hi)).st.bp⟩
def B6(ss:List Fr)(k:Int)(r:Fr):List Fr:=ss.set k.toNat (pl (ss.getD k.toNat (0,1)) r)
def fV(W:aC)(T:List Nd)(rs:List Fr):Nat→List Fr
  | 0=>List.replicate W.ties.length (0,1)
  | i+1=>match T[i]? with
    | some x=>B6 (fV W T rs i) x.tie (rs.getD i (1,1))
    | none=>fV W T rs i
theorem r9{W:aC}{T:List Nd}{rs:List Fr}{i:Nat}{x:Nd}(h:T[i]?=some x):fV W T rs (i+1)=B6 (fV W T rs i) x.tie (rs.getD i (1,1)):=by
  rw [fV,h]
structure pP (W:aC) (i:Nat) (ss:List Fr):Prop where
  len:ss.length=W.ties.length
  at':∀(j:Nat) (f:Fr),ss[j]?=some f→kr (mW W) (i:Int) f
theorem pP.all{W:aC}(ok:W.Ok){S:Nat→Std}{T:List Nd}{rs:List Fr}(h:bN W T S)(hs:fL W S T.length rs):∀i,pP W i (fV W T rs i)
  | 0=>⟨by simp [fV],fun j f hf=>by
    simp only [fV] at hf
    rw [List.getElem?_replicate] at hf
    split at hf
    · cases hf;exact⟨by decide,by decide,by simp,Int.one_dvd _⟩
    · cases hf⟩
  | i+1=>by
    have ih:=pP.all ok h hs i
    unfold fV
    split
    · rename_i x hx
      have hi:=(List.getElem?_eq_some_iff.mp hx).1
      have o:=h i x hx
      have k0:=o.tie.1;have k1:=o.tie.2
      refine⟨by unfold B6;rw [List.length_set];exact ih.len,fun j f hf=>?_⟩
      unfold B6 at hf
      rw [List.getElem?_set] at hf
      split at hf
      · split at hf
        · cases hf
          have hil:x.tie.toNat < (fV W T rs i).length:=by rw [ih.len];lia
          have e:(fV W T rs i)[x.tie.toNat]?=some ((fV W T rs i).getD x.tie.toNat (0,1)):=by simp [hil]
          have:=(ih.at' _ _ e).pl (hs.one ok h hi)
          exact this.mono (by lia)
        · cases hf
      · exact(ih.at' j f hf).mono (by lia)
    · exact⟨ih.len,fun j f hf=>(ih.at' j f hf).mono (by lia)⟩
theorem Sz.intB{n:Nat}{k:Int}(h:Bt n k)(h0:0 < n)(hn:n≤1900):Sz (n+1) 2 (.int k):=by
  have l:=h.log h0
  refine⟨rfl,?_,by simp [PyData.depth],?_,me _⟩
  · show decide (k.natAbs.log2 < 1920)=true
    rw [decide_eq_true_eq];lia
  · have:=int_text_length_le h0 l
    show(Str.ofString (toString k)).length≤n+1
    rw [PySem.ofString_length];exact this
theorem Sz.fr{n:Nat}{f:Fr}(h1:Bt n f.1)(h2:Bt n f.2)(h0:0 < n)(hn:n≤1900):Sz (2*(n+3)+3) 4 (dF f):=Sz.tup (n:=n+1) (dep:=2) (m:=2) (fun d hd=>by
  simp only [List.mem_cons,List.not_mem_nil,or_false] at hd
  rcases hd with rfl | rfl
  · exact Sz.intB h1 h0 hn
  · exact Sz.intB h2 h0 hn) (by simp)
theorem pP.shown{W:aC}(ok:W.Ok){ss:List Fr}{i:Nat}(hi:i≤65535)(hs:pP W i ss):Sz 10000 6 (.tuple (ss.map dF)):=by
  have wl:=ok.len
  refine(Sz.tup (n:=267) (dep:=4) (m:=16) (fun d hd=>?_) (by rw [List.length_map,hs.len];exact wl)).mono (by decide) (by decide)
  obtain⟨f,hm,rfl⟩:=List.mem_map.mp hd
  obtain⟨j,hj⟩:=List.getElem?_of_mem hm
  have b:=jx ok
  obtain⟨b1,b2⟩:=(hs.at' j f hj).bt b.2 b.1 (m:=16) (by unfold Bt;lia)
  exact Sz.fr (n:=129) b1 (b2.mono (by decide)) (by decide) (by decide)
def mi(l:Int)(f:Fr):PyData:=.tuple [.int l,dF f]
def uw(W:aC)(x:Nd):List PyData:=(if x.yes= -1 then [] else [mi x.yes (ch W x.tie true)])++(if x.no= -1 then [] else [mi x.no (ch W x.tie false)])
theorem lY{W:aC}{rs:List Fr}{i:Nat}{k:Int}{b:Bool}:rstp W rs i k b (-1)=rs:=by unfold rstp;rw [if_pos rfl]
theorem wm{W:aC}{k:Int}:dF (ch W k true)=.tuple [.int (W.tie k).top,.int (W.tie k).bot]:=rfl
end L2
namespace L2
open PySem PySem.Spec PyProof.Rows
def EI(sc:Scope)(x:Str):Bool:=match sc.names.lookup x with
  | some .local=>true
  | some .cell=>true
  | some .free=>true
  | _=>false
theorem Cj{sc:Scope}{x:Str}(h:EI sc x=true):AI sc x:=by
  unfold EI at h
  unfold AI
  split at h
  · rename_i e;exact .inl e
  · rename_i e;exact .inr (.inl e)
  · rename_i e;exact .inr (.inr e)
  · cases h
section
variable{X:Cx}{K:PySem.W.Frag}
theorem qw(i:Nat){x:Str}{pos:Pos}(hN:X.N[i]?=some x)(hv:EI X.env.scope x=true)(hd:((x==("__debug__":Str)) || (x==("__classdict__":Str)))=false):PE X (.Name x pos) (fE K (ac i)):=qv i hN (Cj hv) (Bool.or_eq_false_iff.mp hd).1 (Bool.or_eq_false_iff.mp hd).2
end
end L2
namespace L2
open PySem PySem.Spec PyProof.Rows
def Gn(top:Int)(n:Nat):It:=⟨fun i _=>i < n,fun i H x H'=>H'=H∧x=.int (top - i),fun i _=>n≤i⟩
theorem uk{P:Program}{w:World}{K:PySem.W.Frag}{tg:Expr}(it:Addr)(top:Int)(n:Nat):ou P w K tg (Gn top n) [it] it (fun i h=>IsRangeIter h it (top+(i:Nat)*(-1)) ((n:Int) - (i:Nat)) (-1)) where
  mem:=by simp
  obj:=fun i h st b hb=>by
    have e:b=it:=by simpa using hb
    subst e
    exact⟨_,st,fun v z=>by
      have z':Data.fields _=Data.cell v:=z
      cases z'⟩
  keep:=fun i h h' st k=>k it (by simp) _ st
  item:=by
    intro X hP hw hK hc i pins s σ H E I hf st hg
    subst hP hw hK
    obtain⟨f0,f1,f2,f3,f4,f5⟩:=hf it (by simp)
    have W:=Walks.range (prog:=X.prog) (w:=X.w) (I.ok.hd hc) it top (-1) n
    refine W.item i s _ _ hg st fun v h' tk hv st' kk=>?_
    obtain⟨t,rfl⟩:=hv
    have I1:aE X pins σ H {s with heap:=h',toks:=tk}:=I.turned (fun b o hb e=>kk b o (by simpa using hb) e) f0 f1 f3 f4 f5
    refine⟨_,rfl,ww (s:={s with heap:=h',toks:=tk}) (n:="range_iterator") st' rfl rfl (by decide) ⟨.int (top - i),H,I1,⟨t,?_⟩,⟨rfl,rfl⟩,st',fun b hb=>(hf b hb).1⟩⟩
    rw [show(top+(i:Int)* -1:Int)=top - (i:Int) by lia]
  done:=by
    intro X hP hw hK hc i pins s σ H E I hf st hg
    subst hP hw hK
    obtain⟨f0,f1,f2,f3,f4,f5⟩:=hf it (by simp)
    exact wpAny_pyNext_range_end (I.ok.hd hc) st (by have:n≤i:=hg;lia) fun h' eb=>⟨rfl,I.turned (t':=s.toks) (fun b o hb e=>eb b o hb e) f0 f1 f3 f4 f5⟩
  self:=fun _ _ _ _ _ st h=>wpAny_pyIter_rangeiter st h
section
variable{X:Cx}{tg a b c:Expr}{ta:TA}{p pos p2 pos2:Pos}
def GF(ta:TA):TI:=fun σ H R=>ta σ H fun vs H1=>∃j:Int,vs=[.int j]∧(0≤j∧j≤100000∧R (Gn (j - 1) j.toNat) H1)
theorem DS(hgv:Gl X "reversed")(hmv:X.mg "reversed"=none)(hg:Gl X "range")(hm:X.mg "range"=none)(ha:PA X [a] ta)(hs:starEach [a] X.env=[(false,eval a X.env)])
    (he:starEach [.Call (.Name "range" p) [a] [] pos] X.env=(false,eval (.Call (.Name "range" p) [a] [] pos) X.env)::starEach [] X.env):
    PI X tg (.Call (.Name "reversed" p2) [.Call (.Name "range" p) [a] [] pos] [] pos2) (GF ta):=by
  intro pins s σ H R I h
  refine wpAny_Call_Name_kw (gD I hgv hmv pQ ?_ (by decide) (by decide))
  refine PyProof.Rows.callWith_type1 ?_ he rfl
  rw [he]
  refine Calls.spliced_cons (cA (yH hg hm ha hs I h) fun u s1 ⟨r,j,H1,t,u1,w,e,hr,lt,I1,j0,j1,q⟩=>?_)
  subst e
  refine wpAny_pure ?_
  refine zZ hr j0 j1 ?_
  have hI:IsRangeIter (s1.heap.push (qG j)) s1.heap.objs.size (j - 1) (j.toNat:Int) (-1):=by
    have:((j.toNat:Nat):Int)=j:=by lia
    rw [this];exact Heap.get?_push_size _ rfl
  have I2:aE X pins σ H1 {s1 with heap:=s1.heap.push (qG j)}:=I1.kept (t':=s1.toks) fun b o e=>Heap.get?_push_of_some _ e
  refine wpAny_pyIter_rangeiter hI ?_
  refine⟨s1.heap.objs.size,[s1.heap.objs.size],_,_,H1,rfl,I2,uk _ (j - 1) j.toNat,?_,fun b hb=>?_,q⟩
  · show IsRangeIter _ _ (j - 1+((0:Nat):Int)*(-1)) ((j.toNat:Int) - ((0:Nat):Int)) (-1)
    rw [show(j - 1+((0:Nat):Int)*(-1):Int)=j - 1 by lia,show((j.toNat:Int) - ((0:Nat):Int):Int)=(j.toNat:Int) by lia]
    exact hI
  · have e:b=s1.heap.objs.size:=by simpa using hb
    subst e
    exact I1.fpOk (Nat.le_refl _) (I1.hok.fresh (Nat.le_refl _))
end
def lH(top:Int)(n:Nat):List PyData:=(List.range n).map fun(i:Nat)=>.int (top - (i:Int))
section
variable{K:PySem.W.Frag}{σ:L2.St}
theorem xB{top:Int}{n:Nat}{F0:Hp}:sE K σ (Gn top n) (lH top n) [] F0:=by
  intro F H s0 s1 hh
  unfold lH
  rw [List.length_map,List.length_range]
  refine⟨fun i hi=>hi,fun i hi=>hi,fun i x v H' hx hy=>?_⟩
  obtain⟨rfl,rfl⟩:=hy
  rw [List.getElem?_map] at hx
  obtain⟨k,h1,rfl⟩:=Option.map_eq_some_iff.mp hx
  have h2:=(List.getElem?_eq_some_iff.mp h1).2
  simp at h2
  subst h2
  exact⟨F,av.refl _,av.refl _,s1,fun _ h _=>h,cc.mpr rfl⟩
end
section
variable{X:Cx}{K:PySem.W.Frag}{tg a b c:Expr}{fs:FA}{pos p p2 pos2:Pos}
def wz(fs:FA):FI:=fun e=>(fs e).bind fun p=>match p.1 with
  | [r]=>(bC r).bind fun j=>if 0≤j∧j≤100000 then some (lH (j - 1) j.toNat,[],p.2) else none
  | _=>none
theorem D'(hgv:Gl X "reversed")(hmv:X.mg "reversed"=none)(hg:Gl X "range")(hm:X.mg "range"=none)(ha:PA X [a] (fA K fs))(hs:starEach [a] X.env=[(false,eval a X.env)])
    (he:starEach [.Call (.Name "range" p) [a] [] pos] X.env=(false,eval (.Call (.Name "range" p) [a] [] pos) X.env)::starEach [] X.env):
    PI X tg (.Call (.Name "reversed" p2) [.Call (.Name "range" p) [a] [] pos] [] pos2) (fI K (wz fs)):=(DS hgv hmv hg hm ha hs he).mono fun σ H R hh=>by
  obtain⟨F,e,items,own,e',R0,hf,q⟩:=hh
  unfold wz at hf
  obtain⟨⟨rs,e1⟩,h1,hf⟩:=Option.bind_eq_some_iff.mp hf
  match rs,h1,hf with
  | [r],h1,hf=>
  obtain⟨j,h2,hf⟩:=Option.bind_eq_some_iff.mp hf
  split at hf
  case isFalse=>cases hf
  case isTrue hj=>
  cases hf
  refine⟨F,e,_,e1,R0,h1,fun F1 H1 vs X1 R1 A1=>?_⟩
  obtain⟨v,rfl,A2⟩:=kc A1
  exact⟨j,by rw [bR A2 h2],hj.1,hj.2,q _ F1 H1 X1 R1 (fun _ h=>by cases h) xB⟩
end
theorem xq{top:Int}{n i:Nat}{x:PyData}(h:(lH top n)[i]?=some x):x=.int (top - i)∧i < n:=by
  unfold lH at h
  rw [List.getElem?_map] at h
  obtain⟨k,h1,rfl⟩:=Option.map_eq_some_iff.mp h
  obtain⟨h2,h3⟩:=List.getElem?_eq_some_iff.mp h1
  simp at h2 h3
  subst h3
  exact⟨rfl,h2⟩
theorem xr{top:Int}{n:Nat}:(lH top n).length=n:=by simp [lH]
end L2
namespace L2
open PySem PySem.Spec PyProof.Rows
end L2
namespace L2
open PySem PySem.Spec PyProof.Rows
section
variable(P:Program)(w:World)
end
section
variable{P:Program}{w:World}{H H':Hp}{h h':Heap}{a:Addr}{o:HO}
end
section
variable{P:Program}{w:World}{H:Hp}{h h':Heap}{x e:Addr}{o':HO}
end
section
variable{fs fs' ex ex':List Addr}{H H1 H2:Hp}{h h1 h2 h':Heap}{a x e:Addr}{o:HO}
end
end L2
namespace L2
open PySem PySem.Spec PyProof.Rows
section
variable{X:Cx}{pins:List (Addr × Obj)}{σ:List (Option V)}{H H':Hp}{s:Shared}{h':Heap}
end
end L2
namespace L2
open PySem PySem.Spec PyProof.Rows
section
variable{X:Cx}
variable{a b:Expr}{ta tb:TE}{pos:Pos}
variable{tA tB':TT}{jj:List Expr}
end
end L2
namespace L2
open PySem PySem.Spec PyProof.Rows
section
variable{X:Cx}{pins:List (Addr × Obj)}{σ:St}{H:Hp}{s:Shared}{a:Addr}{xs ys:List V}
end
section
variable{X:Cx}{pins:List (Addr × Obj)}{σ:St}{H:Hp}{s:Shared}{E:Value→Shared→Prop}
end
section
variable{X:Cx}{st:Stmt}{jj:List Stmt}{t u:TS}{e:Expr}{te:TE}{pos:Pos}
end
section
variable{X:Cx}{pos:Pos}
end
section
variable{X:Cx}{pos:Pos}
end
end L2
namespace L2
open PySem PySem.Spec PyProof.Rows
section
variable{X:Cx}{tg:Expr}
end
end L2
namespace L2
open PySem PySem.Spec PyProof.Rows
section
variable{X:Cx}{a b c:Expr}{ta tb tc:TE}{pos:Pos}
end
section
variable{X:Cx}{a b c:Expr}{ta tb tc:TE}{pos:Pos}
end
end L2
namespace L2
open PySem PySem.Spec PyProof.Rows
section
variable{prog:Program}{w:World}{A:Around}{E:Value→Shared→Prop}{s:Shared}{K:PySem.W.Frag}{x dx C f:Addr}{mA:Str→Option Value}{name:Str}{v:Value}
end
section
variable{P:Program}{w:World}{H H':Hp}{h h':Heap}{a C dx:Addr}{fs fs':List (Str × V)}
end
section
variable{X:Cx}{pins:List (Addr × Obj)}{σ:St}{H:Hp}{s:Shared}{a C dx:Addr}{fs:List (Str × V)}{f:Str}{v:V}{A:Around}{E:Value→Shared→Prop}
end
section
variable{X:Cx}{o e value:Expr}{f:Str}{pos pos' tpos:Pos}{ta tv:TE}
end
section
variable{X:Cx}{pins:List (Addr × Obj)}{σ:St}{H:Hp}{s:Shared}{A:Around}{E:Value→Shared→Prop}{Q:Value→Shared→Prop}{c:Value}{b:Bool}
end
end L2
namespace L2
open PySem PySem.Spec PyProof.Rows
section
variable{X:Cx}{e:Expr}{es:List Expr}{te:TE}{t:TA}{pos:Pos}
end
section
variable{X:Cx}{pins:List (Addr × Obj)}{σ:St}{H:Hp}{s s':Shared}
end
section
variable{X:Cx}{CX:xg}{k:Nat}{f C:Addr}{fd:FuncData}{ps:List Str}{sp:Sp}{dvs:List V}{ds:List Value}{E:XK}{x m:Str}{p pos apos:Pos}{e o:Expr}{es:List Expr}{ta:TE}{t:TA}
end
section
variable{X:Cx}{CX:xg}{k:Nat}{f C:Addr}{fd:FuncData}{ps ks:List Str}{sp:Sp}{E:XK}{x m:Str}{p pos apos kpos:Pos}{e o:Expr}{es:List Expr}{kws:List Keyword}{te ta:TE}{t tk:TA}{nm:Option Str}
variable{g:List Value→List Value→List Value}{gV:List V→List V→List V}
end
end L2
namespace L2
open PySem PySem.Spec PyProof.Rows
section
variable{X:Cx}{x:Str}{p pos:Pos}{e:Expr}{es:List Expr}{t:TA}{id T:String}{r:List V→Hp→VK→Prop}
end
end L2
namespace L2
open PySem PySem.Spec PyProof.Rows
section
variable{κ:Type}[DecidableEq κ]
end
section
variable{P:Program}{w:World}{H:Hp}{h:Heap}{a:Addr}
end
section
variable{X:Cx}{pins:List (Addr × Obj)}{σ:St}{H:Hp}{s:Shared}{a:Addr}{y v:V}{u r:Value}{o:Option V}{A:Around}{E:Value→Shared→Prop}
end
section
variable{X:Cx}{pins:List (Addr × Obj)}{σ:St}{H:Hp}{s:Shared}{a:Addr}{kvs:List (oq × V)}{k:oq}{u:Value}{A:Around}{E:Value→Shared→Prop}
end
section
variable{X:Cx}{o i e value:Expr}{pos pos' tpos:Pos}{td ty tv:TE}
end
section
variable{X:Cx}{pos:Pos}
end
section
variable{X:Cx}{pins:List (Addr × Obj)}{σ:St}{H:Hp}{s:Shared}{a:Addr}{y d:V}{u r:Value}{o:Option V}{A:Around}{E:Value→Shared→Prop}
end
section
variable{X:Cx}{o e f:Expr}{apos cpos:Pos}{td ty tx:TE}
end
section
variable{X:Cx}{pins:List (Addr × Obj)}{σ:St}{H:Hp}{s:Shared}{a:Addr}{kvs:List (oq × V)}{A:Around}{E:Value→Shared→Prop}
end
section
variable{X:Cx}{pins:List (Addr × Obj)}{σ:St}{H:Hp}{s:Shared}{a:Addr}{y:V}{u:Value}{A:Around}{E:Value→Shared→Prop}
end
end L2
namespace Att
open PySem PySem.W PySem.Calls PyProof.Rows
section
variable{prog:Program}{w:World}{A:Around}{E:Value→Shared→Prop}{s:Shared}{K:Frag}
end
end Att
namespace L2
open PySem PySem.Spec PyProof.Rows
end L2
namespace L2
open PySem PySem.Spec PyProof.Rows
end L2
namespace L2
open PySem PySem.Spec PyProof.Rows
section
variable{P:Program}{w:World}{K:PySem.W.Frag}{mg:Str→Option Value}{base:Heap}
end
section
variable{X:Cx}
end
section
variable{κ:Type}[DecidableEq κ]
end
end L2
namespace L2
open PySem PySem.Spec PyProof.Rows
section
variable{X:Cx}{K:PySem.W.Frag}{a:Expr}{fa:FE}{pos p p2:Pos}
end
end L2
namespace L2
open PySem PySem.Spec PyProof.Rows
section
variable{X:Cx}{K:PySem.W.Frag}
end
end L2
namespace L2
open PySem PySem.Spec PyProof.Rows
section
variable{X:Cx}{K:PySem.W.Frag}{σ:L2.St}{F H:Hp}{e:En}{pos p1 p2:Pos}
end
end L2
namespace L2
open PySem PySem.Spec PyProof.Rows
section
variable{X:Cx}{K:PySem.W.Frag}{a b c d:Expr}{ta tb tc td:TE}{fa fb fc fd:FE}{pos:Pos}
end
end L2
namespace L2
open PySem PySem.Spec PyProof.Rows
section
variable{X:Cx}{K:PySem.W.Frag}{a b:Expr}{es:List Expr}{fa fb:FE}{fs:FA}{pos p apos:Pos}
end
end L2
namespace L2
open PySem PySem.Spec PyProof.Rows
section
variable{X:Cx}{K:PySem.W.Frag}{a b:Expr}{fa fb:FE}{fs:FA}{pos p p2 p3:Pos}
end
end L2
namespace L2
open PySem PySem.Spec PyProof.Rows
theorem pM.tmS{N M i:Int}{c y:Fr}(hc:pM N c)(hy:kr M i y):kr (N*M) i (L2.tm c y):=by
  have p:0 < c.2*y.2:=Int.mul_pos hc.pos hy.pos
  have t:0≤c.1*y.1:=Int.mul_nonneg hc.lo hy.lo
  obtain⟨d,d0,h3,h4,h5,h6⟩:=i5 p t
  refine⟨h5,h6,nZ p t ?_,Int.dvd_trans (sZ p t) (Int.mul_dvd_mul hc.dv hy.dv)⟩
  have e1:c.1*y.1≤c.2*y.1:=Int.mul_le_mul_of_nonneg_right hc.hi hy.lo
  have e2:c.2*y.1≤c.2*(i*y.2):=Int.mul_le_mul_of_nonneg_left hy.hi (Int.le_of_lt hc.pos)
  rw [show i*(c.2*y.2)=c.2*(i*y.2) by ac_rfl]
  lia
theorem kr.plS{M i j:Int}{a b:Fr}(h:kr M i a)(k:kr M j b):kr M (i+j) (L2.pl a b):=by
  have p:0 < a.2*b.2:=Int.mul_pos h.pos k.pos
  have t:0≤a.1*b.2+b.1*a.2:=Int.add_nonneg (Int.mul_nonneg h.lo (Int.le_of_lt k.pos)) (Int.mul_nonneg k.lo (Int.le_of_lt h.pos))
  obtain⟨d,d0,h3,h4,h5,h6⟩:=i5 p t
  refine⟨h5,h6,nZ p t ?_,?_⟩
  · have e1:a.1*b.2≤i*a.2*b.2:=Int.mul_le_mul_of_nonneg_right h.hi (Int.le_of_lt k.pos)
    have e2:b.1*a.2≤j*b.2*a.2:=Int.mul_le_mul_of_nonneg_right k.hi (Int.le_of_lt h.pos)
    rw [Int.add_mul,show i*(a.2*b.2)=i*a.2*b.2 by ac_rfl,show j*(a.2*b.2)=j*b.2*a.2 by ac_rfl]
    lia
  · obtain⟨x,hx⟩:=h.dv
    obtain⟨y,hy⟩:=k.dv
    refine sY (u:=a.1*x+b.1*y) p t ?_
    rw [Int.add_mul,Int.mul_add]
    congr 1
    · rw [hx]
      rw [show a.1*b.2*(a.2*x)=a.2*b.2*(a.1*x) by ac_rfl]
    · rw [hy]
      rw [show b.1*a.2*(b.2*y)=a.2*b.2*(b.1*y) by ac_rfl]
def bq(W:aC)(as:List Int):Int:=bp W (W.rng.filter fun k=> !as.contains k)
theorem qF(W:aC):W.rng.Nodup:=by
  unfold aC.rng
  rw [List.Nodup,List.pairwise_map]
  exact List.nodup_range.imp fun h z=>h (by have:((_:Nat):Int)=((_:Nat):Int):=z;lia)
theorem wg{W:aC}{as:List Int}{k:Int}(hk:km W k)(hn:k∉as):bq W as=(W.tie k).bot*bq W (aC.askd as k):=by
  unfold bq
  have hm:k∈W.rng.filter fun k=> !as.contains k:=by
    rw [List.mem_filter]
    exact⟨n_.mpr hk,by simpa using hn⟩
  rw [nV (List.perm_cons_erase hm)]
  show(W.tie k).bot*_=_
  congr 2
  have nd:(W.rng.filter fun k=> !as.contains k).Nodup:=(qF W).filter _
  rw [nd.erase_eq_filter,List.filter_filter]
  congr 1
  funext j
  have:(aC.askd as k).contains j=(as.contains j || j==k):=by
    rw [Bool.eq_iff_iff]
    simp [aC.askd,mM]
  rw [this]
  cases as.contains j<;>cases h:(j==k)<;>simp [bne,h]
theorem Dc{W:aC}{as:List Int}:bq W as ∣ mW W:=uJ ((qF W).filter _) fun k hk=>(List.mem_filter.mp hk).1
def wI(l:Nat):Int:=1000*(2 ^ (16 - l) - 1)
theorem Ck{l:Nat}(h:l≤15):wI l=1000+wI (l+1)+wI (l+1):=by
  unfold wI
  rw [show 16 - l=(16 - (l+1))+1 by lia,Int.pow_succ]
  lia
theorem AC{l:Nat}:0≤wI l∧wI l≤65536000:=by
  unfold wI
  have h1:(2:Nat) ^ (16 - l)≤2 ^ 16:=Nat.pow_le_pow_right (by decide) (by lia)
  have h2:1≤(2:Nat) ^ (16 - l):=Nat.one_le_two_pow
  have e:((2:Int) ^ (16 - l))=((2 ^ (16 - l):Nat):Int):=by simp
  rw [e]
  lia
def aw(W:aC)(k:Int)(y n:Fr):Fr:=pl (tm (ch W k true) (pl ((W.tie k).worth,1) y)) (tm (ch W k false) n)
structure nI (W:aC) (k:Int) (as:List Int) (y n:Fr):Prop where
  y:kr (bq W (aC.askd as k)) (wI (as.length+1)) y
  n:kr (bq W (aC.askd as k)) (wI (as.length+1)) n
  len:as.length≤15
  inw:km W k
  new:k∉as
theorem nI.w{W:aC}{k:Int}{as:List Int}{y n:Fr}(ok:W.Ok)(h:nI W k as y n):kr (bq W (aC.askd as k)) 1000 ((W.tie k).worth,1):=by
  have o:=h.inw.ok ok
  have:=o.w0;have:=o.w1
  exact⟨by show(0:Int) < 1;decide,by show 0≤(W.tie k).worth;lia,by show(W.tie k).worth≤1000*1;lia,Int.one_dvd _⟩
theorem nI.t1{W:aC}{k:Int}{as:List Int}{y n:Fr}(ok:W.Ok)(h:nI W k as y n):kr (bq W (aC.askd as k)) (1000+wI (as.length+1)) (pl ((W.tie k).worth,1) y):=(h.w ok).plS h.y
theorem nI.t2{W:aC}{k:Int}{as:List Int}{y n:Fr}(ok:W.Ok)(h:nI W k as y n):kr (bq W as) (1000+wI (as.length+1)) (tm (ch W k true) (pl ((W.tie k).worth,1) y)):=by
  rw [wg h.inw h.new]
  exact(qj ok h.inw true).tmS (h.t1 ok)
theorem nI.t3{W:aC}{k:Int}{as:List Int}{y n:Fr}(ok:W.Ok)(h:nI W k as y n):kr (bq W as) (wI (as.length+1)) (tm (ch W k false) n):=by
  rw [wg h.inw h.new]
  exact(qj ok h.inw false).tmS h.n
theorem nI.t4{W:aC}{k:Int}{as:List Int}{y n:Fr}(ok:W.Ok)(h:nI W k as y n):kr (bq W as) (wI as.length) (aw W k y n):=by
  rw [Ck h.len]
  exact(h.t2 ok).plS (h.t3 ok)
theorem kr.b{W:aC}(ok:W.Ok){as:List Int}{i:Int}{f:Fr}(h:kr (bq W as) i f)(h0:0≤i)(hi:i≤65537000):Bt 140 f.1∧Bt 140 f.2:=by
  have b:=jx ok
  have h2:kr (mW W) i f:=⟨h.pos,h.lo,h.hi,Int.dvd_trans h.dv Dc⟩
  obtain⟨b1,b2⟩:=h2.bt b.2 b.1 (m:=27) (by unfold Bt;lia)
  exact⟨b1,b2.mono (by decide)⟩
def lk(ws:List Fr)(l:Int):Fr:=if l= -1 then(0,1) else ws.getD l.toNat (0,1)
structure lq (W:aC) (S:Nat→Std) (n:Nat) (ws:List Fr):Prop where
  len:ws.length=n
  at':∀(j:Nat) (f:Fr),ws[j]?=some f→kr (bq W (S j).1) (wI (S j).1.length) f
theorem sA{M i:Int}(h:0≤i):kr M i (0,1):=⟨by decide,by decide,by show(0:Int)≤i*1;lia,Int.one_dvd _⟩
theorem qC{W:aC}{S:Nat→Std}{n:Nat}{ws:List Fr}{i:Nat}{k:Int}{b:Bool}{l:Int}(h:lq W S n ws)(hl:kh W n S i k b l):kr (bq W (aC.askd (S i).1 k)) (wI ((S i).1.length+1)) (lk ws l):=by
  unfold lk
  rcases hl with hl | ⟨h1,h2,h3⟩
  · rw [if_pos hl];exact sA AC.1
  · rw [if_neg (by lia)]
    have hil:l.toNat < ws.length:=by rw [h.len];lia
    have e:ws[l.toNat]?=some (ws.getD l.toNat (0,1)):=by simp [hil]
    have:=h.at' _ _ e
    rw [h3] at this
    have e1:(nxt W (S i) k b).1.length=(S i).1.length+1:=gj
    rw [e1] at this
    exact this
theorem Cw{W:aC}(ok:W.Ok){S:Nat→Std}{T:List Nd}{ws:List Fr}{i:Nat}{x:Nd}(h:bN W T S)(hs:lq W S T.length ws)(hx:T[i]?=some x):nI W x.tie (S i).1 (lk ws x.yes) (lk ws x.no):=by
  have o:=h i x hx
  exact⟨qC hs o.yes,qC hs o.no,o.room ok,o.tie,lT o.may⟩
def wd1(W:aC)(ws:List Fr)(i:Nat)(x:Nd):List Fr:=ws.set i (aw W x.tie (lk ws x.yes) (lk ws x.no))
def iT(W:aC)(T:List Nd):Nat→List Fr
  | 0=>List.replicate T.length (0,1)
  | m+1=>match T[T.length - 1 - m]? with
    | some x=>wd1 W (iT W T m) (T.length - 1 - m) x
    | none=>iT W T m
theorem AD{W:aC}{T:List Nd}{m:Nat}{x:Nd}(h:T[T.length - 1 - m]?=some x):iT W T (m+1)=wd1 W (iT W T m) (T.length - 1 - m) x:=by
  rw [iT,h]
theorem lq.wd1{W:aC}(ok:W.Ok){S:Nat→Std}{T:List Nd}{ws:List Fr}{i:Nat}{x:Nd}(h:bN W T S)(hs:lq W S T.length ws)(hx:T[i]?=some x):lq W S T.length (L2.wd1 W ws i x):=by
  refine⟨by unfold L2.wd1;rw [List.length_set];exact hs.len,fun j f hf=>?_⟩
  unfold L2.wd1 at hf
  rw [List.getElem?_set] at hf
  split at hf
  case isFalse=>exact hs.at' j f hf
  case isTrue c=>
    split at hf
    case isFalse=>cases hf
    case isTrue=>
      cases hf
      rw [←c]
      exact(Cw ok h hs hx).t4 ok
theorem lq.all{W:aC}(ok:W.Ok){S:Nat→Std}{T:List Nd}(h:bN W T S):∀m,lq W S T.length (iT W T m)
  | 0=>⟨by simp [iT],fun j f hf=>by
    simp only [iT] at hf
    rw [List.getElem?_replicate] at hf
    split at hf
    · cases hf;exact sA AC.1
    · cases hf⟩
  | m+1=>by
    unfold iT
    split
    · rename_i x hx
      exact(lq.all ok h m).wd1 ok h hx
    · exact lq.all ok h m
theorem AZ{T:List Nd}{i:Nat}{y:Nd}(h:T[i]?=some y):atI (T.map cy) (i:Int)=some (cy y):=by
  have hi:i < T.length:=(List.getElem?_eq_some_iff.mp h).1
  rw [eh (by lia) (by rw [List.length_map];lia),List.getElem?_map]
  simp [h]
theorem AX{ws:List Fr}{l:Int}(c:l≠ -1)(h0: -1≤l)(h1:l < (ws.length:Int)):atI (ws.map dF) l=some (dF (lk ws l)):=by
  unfold lk
  rw [if_neg c]
  exact rf (by lia) h1
end L2
namespace L2
open PySem PySem.Spec PyProof.Rows
theorem mO{nT:Nat}{fi:FI}{g:FG}{ft:FT}{fe:FE}{e e1 eo:En}{items out:List PyData}{own:gS}(h1:fi e=some (items,own,e1))(h3:eL g ft fe items (List.replicate nT none) []=some (out,eo)):cw [] nT fi g ft fe e=some (.l out,e1):=by
  unfold cw
  rw [h1]
  simp only [Option.bind_some]
  rw [if_pos (by simp),show sC [] nT e1=List.replicate nT none from rfl,h3]
  simp only [Option.bind_some]
  rw [if_pos (by simp [oB])]
  congr 2
  refine List.ext_getElem? fun i=>?_
  rw [bW]
  match h:e1[i]? with
  | none=>rfl
  | some none=>rfl
  | some (some (.d x))=>rfl
  | some (some (.n x))=>rfl
  | some (some (.l x))=>rfl
end L2
namespace L2
open PySem PySem.Spec PyProof.Rows
section
variable{X:Cx}{K:PySem.W.Frag}{a:Expr}{fa:FE}{pos p pos2 p2:Pos}
end
end L2
namespace L2
open PySem PySem.Spec PyProof.Rows
section
variable{X:Cx}{K:PySem.W.Frag}{a:Expr}{fa:FE}
end
end L2
namespace L2
open PySem PySem.Spec PyProof.Rows
abbrev Rn:=List (Int × Bool)
def Ba(R:Rn):List Int:=R.map (·.1)
def CD(W:aC)(R:Rn):List Int:=(R.filter (·.2)).flatMap fun r=>[(W.tie r.1).one,(W.tie r.1).other]
structure Hg (W:aC) (R:Rn) (asked taken:List Int):Prop where
  pa:asked.Perm (Ba R)
  pt:taken.Perm (CD W R)
  inw:∀k∈Ba R,km W k
  nd:(Ba R).Nodup
  nk:(CD W R).Nodup
  bd:∀t:Int,0≤t→t < W.things→W.many (Ba R) t≤W.pat.getD t.toNat 0
  ak:(R.length:Int)≤W.asks
  sa:asked.Pairwise (· ≤·)
  st:taken.Pairwise (· ≤·)
end L2
namespace L2
open PySem PySem.Spec PyProof.Rows
section
variable{prog:Program}{w:World}{A:Around}{R:Result→Shared→Prop}
end
def Et(l:Addr)(wi:TI)(g:TG)(tc:TT)(te:TE)(σ:L2.St)(H:Hp)(N:L2.St→Hp→Prop):Prop:=
  wi σ H fun J H1=>∃W:Nat→Nat→L2.St→Hp→Prop,(∃m,W 0 m σ H1)∧∀i m σ' H',W i m σ' H'→
    (J.stop i H'∧N σ' H')∨(J.go i H'∧∃N2:L2.St→Hp→Prop,(∀σ2 H2,N2 σ2 H2→∃m',m' < m∧W (i+1) m' σ2 H2)∧
      ∀x H2,J.yld i H' x H2→g x σ' H2 fun σ2 H3=>tc σ2 H3 fun b H4=>if b=true then te σ2 H4 fun v H5=>∃ys,H5 l=some (.lst ys)∧ys.length < sizeLine∧N2 σ2 (bi H5 l (.lst (ys++[v]))) else N2 σ2 H4)
structure GV (cp:List (Nat × Str)) (nT:Nat) (wi:TI) (g:TG) (tc:TT) (wi2:TI) (g2:TG) (tc2:TT) (te:TE) (σ:L2.St) (H:Hp) (Q:VK):Prop where
  go:wi σ H fun J H1=>∀l,H1 l=none→
  ∃W:Nat→Nat→L2.St→Hp→Prop,(∃m,W 0 m (iR cp nT σ) (bi H1 l (.lst [])))∧∀i m σ' H',W i m σ' H'→
    (J.stop i H'∧Q (.ref l) H')∨(J.go i H'∧∃N:L2.St→Hp→Prop,(∀σ2 H2,N σ2 H2→∃m',m' < m∧W (i+1) m' σ2 H2)∧
      ∀x H2,J.yld i H' x H2→g x σ' H2 fun σ2 H3=>tc σ2 H3 fun b H4=>if b=true then Et l wi2 g2 tc2 te σ2 H4 N else N σ2 H4)
section
variable{K:PySem.W.Frag}{F H:Hp}{σ:L2.St}{e:En}{cp:List (Nat × Str)}{nT:Nat}
end
section
variable{X:Cx}{K:PySem.W.Frag}{pos:Pos}
end
section
variable{X:Cx}{K:PySem.W.Frag}{pos:Pos}
variable{o:Expr}{fo:FE}{apos cpos:Pos}
end
end L2
namespace L2
open PySem PySem.Spec PyProof.Rows
section
variable{X:Cx}{K:PySem.W.Frag}
end
end L2
namespace L2
open PySem PySem.Spec PyProof.Rows
structure kP (f:Fr):Prop where
  pos:0 < f.2
  cop:Int.gcd f.1 f.2=1
def Vl(M:Int)(f:Fr)(v:Int):Prop:=f.1*M=v*f.2
theorem kP.lowM{t b:Int}(h:0 < b):kP (L2.lowM t b):=by
  obtain⟨d,_,_,_,_,h5⟩:=et (t:=t) (b:=b) (by lia)
  exact⟨h5,oM (by lia)⟩
theorem kP.pl{a b:Fr}(pa:0 < a.2)(pb:0 < b.2):kP (pl a b):=kP.lowM (Int.mul_pos pa pb)
theorem kP.uniq{M v:Int}{a b:Fr}(hM:0 < M)(ha:kP a)(hb:kP b)(va:Vl M a v)(vb:Vl M b v):a=b:=by
  unfold Vl at*
  have cr:a.1*b.2=b.1*a.2:=by
    refine Int.eq_of_mul_eq_mul_right (a:=M) (by lia) ?_
    rw [show a.1*b.2*M=a.1*M*b.2 by rw [Int.mul_assoc,Int.mul_comm b.2,←Int.mul_assoc],va,show b.1*a.2*M=b.1*M*a.2 by rw [Int.mul_assoc,Int.mul_comm a.2,←Int.mul_assoc],vb,Int.mul_assoc,Int.mul_assoc,Int.mul_comm a.2]
  have pa:=ha.pos;have pb:=hb.pos
  have d1:a.2.natAbs ∣ b.2.natAbs:=by
    have dv:a.2.natAbs ∣ (a.1*b.2).natAbs:=Int.natAbs_dvd_natAbs.mpr ⟨b.1,by rw [cr,Int.mul_comm]⟩
    rw [Int.natAbs_mul] at dv
    have cp:Nat.Coprime a.2.natAbs a.1.natAbs:=by
      have:Nat.gcd a.1.natAbs a.2.natAbs=1:=ha.cop
      rw [Nat.Coprime,Nat.gcd_comm];exact this
    exact cp.dvd_of_dvd_mul_left dv
  have d2:b.2.natAbs ∣ a.2.natAbs:=by
    have dv:b.2.natAbs ∣ (b.1*a.2).natAbs:=Int.natAbs_dvd_natAbs.mpr ⟨a.1,by rw [←cr,Int.mul_comm]⟩
    rw [Int.natAbs_mul] at dv
    have cp:Nat.Coprime b.2.natAbs b.1.natAbs:=by
      have:Nat.gcd b.1.natAbs b.2.natAbs=1:=hb.cop
      rw [Nat.Coprime,Nat.gcd_comm];exact this
    exact cp.dvd_of_dvd_mul_left dv
  have e2:a.2=b.2:=by
    have:=Nat.dvd_antisymm d1 d2
    lia
  have e1:a.1=b.1:=by
    rw [e2] at cr
    exact Int.eq_of_mul_eq_mul_right (by lia) cr
  exact Prod.ext e1 e2
def jS(a:Fr)(L:List Fr):Fr:=L.foldl pl a
theorem mj:kP ((0,1):Fr):=⟨by decide,by decide⟩
def aY:Nat→List (List Bool)
  | 0=>[[]]
  | n+1=>(aY n).map (· ++[true])++(aY n).map (· ++[false])
theorem kb:∀n,(aY n).length=2 ^ n∧∀r∈aY n,r.length=n
  | 0=>⟨rfl,fun r hr=>by simp [aY] at hr;subst hr;rfl⟩
  | n+1=>by
    obtain⟨h1,h2⟩:=kb n
    refine⟨by simp only [aY,List.length_append,List.length_map,h1,Nat.pow_succ];lia,fun r hr=>?_⟩
    simp only [aY,List.mem_append,List.mem_map] at hr
    rcases hr with ⟨q,hq,rfl⟩ | ⟨q,hq,rfl⟩<;>simp [h2 q hq]
def qi(t:iC)(b:Bool):Fr:=if b then(t.top,t.bot) else(t.bot - t.top,t.bot)
def lj:Fr→List iC→List Bool→Fr
  | a,t::ts,b::bs=>lj (tm a (qi t b)) ts bs
  | a,_,_=>a
theorem yD{n:Int}{t:iC}(o:t.Ok n)(b:Bool):pM t.bot (qi t b):=by
  have:=o.c0;have:=o.c1;have:=o.b0
  unfold qi
  cases b with
  | true=>exact⟨by show 0 < t.bot;lia,by show 0≤t.top;lia,by show t.top≤t.bot;lia,Int.dvd_refl _⟩
  | false=>exact⟨by show 0 < t.bot;lia,by show 0≤t.bot - t.top;lia,by show t.bot - t.top≤t.bot;lia,Int.dvd_refl _⟩
def rM(M:Int)(ts:List iC):Int:=ts.foldl (fun m t=>m*t.bot) M
theorem tF{n:Int}:∀{ts:List iC} {M:Int} {k:Nat},(∀t∈ts,t.Ok n)→0 < M→Bt k M→0 < rM M ts∧Bt (k+7*ts.length) (rM M ts)
  | [],M,k,_,h0,hb=>⟨h0,by simpa [rM] using hb⟩
  | t::r,M,k,h,h0,hb=>by
    have o:=h t (by simp)
    have b0:=o.b0;have b1:=o.b1
    have:=tF (ts:=r) (M:=M*t.bot) (k:=k+7) (fun x hx=>h x (by simp [hx])) (Int.mul_pos h0 (by lia)) (hb.mul (show Bt 7 t.bot by unfold Bt;lia))
    refine⟨this.1,?_⟩
    have e:k+7*(t::r).length=k+7+7*r.length:=by simp only [List.length_cons];lia
    rw [e];exact this.2
theorem zH{n:Int}:∀{ts:List iC} {bs:List Bool} {M:Int} {a:Fr},(∀t∈ts,t.Ok n)→bs.length=ts.length→pM M a→pM (rM M ts) (lj a ts bs)
  | [],[],M,a,_,_,h=>h
  | t::ts,b::bs,M,a,ho,hl,h=>by
    show pM (rM (M*t.bot) ts) (lj (tm a (qi t b)) ts bs)
    exact zH (fun x hx=>ho x (by simp [hx])) (by simpa using hl) (h.tm (yD (ho t (by simp)) b))
  | [],_::_,_,_,_,hl,_=>by simp at hl
  | _::_,[],_,_,_,hl,_=>by simp at hl
abbrev Pg:=List Int × Int
structure G7 (k:Nat) (ps:List Pg):Prop where
  ne:ps≠[]
  len:ps.length≤2 ^ k
  pt:∀p∈ps,p.1.length≤2*k∧0≤p.2∧p.2≤1000*(k:Int)
end L2
namespace L2
open PySem PySem.Spec PyProof.Rows
end L2
namespace L2
open PySem PySem.Spec PyProof.Rows
section
variable{prog:Program}{w:World}{A:Around}{E:Value→Shared→Prop}{s:Shared}
end
section
variable{X:Cx}{a:Expr}{ta:TA}{p p2 pos pos2:Pos}
variable{K:PySem.W.Frag}{fs:FA}{p3:Pos}
end
end L2
namespace L2
open PySem PySem.Spec PyProof.Rows
def E8(lo hi:Int):PyData→Bool
  | .int i=>decide (lo≤i)&&decide (i≤hi)
  | _=>false
def uniq(many:Int):List Int→List PyData→Bool
  | _,[]=>true
  | pre,.int i::r=>E8 0 (many - 1) (.int i)&&(!pre.contains i&&uniq many (pre++[i]) r)
  | _,_::_=>false
theorem kY{α:Type}:∀(l:List α) (i:Nat) (h:i < l.length),(l[i]::l.eraseIdx i).Perm l
  | x::r,0,_=>.refl _
  | x::r,i+1,h=>(List.Perm.swap x _ _).trans ((kY r i (by simpa using h)).cons x)
  | [],_,h=>by simp at h
end L2
namespace L2
open PySem PySem.Spec PyProof.Rows
mutual
def wt:PyData→Nat
  | .list xs=>AE xs+1
  | .tuple xs=>AE xs+1
  | .dict _=>1
  | .none=>1
  | .bool _=>1
  | .int _=>1
  | .str _=>1
def AE:List PyData→Nat
  | []=>0
  | x::r=>wt x+AE r
end
structure Hn (d:PyData) (k:Nat):Prop where
  lay:d.canLay0=true
  sh:d.showable=true
  dp:d.depth≤k
  ln:d.shown.length+2≤104*wt d
  so:PyData.strOk d.shown=true
end L2
namespace L2
open PySem PySem.Spec PyProof.Rows
section
variable{X:Cx}{K:PySem.W.Frag}
variable{a b:Expr}{fa fb:FE}{pos:Pos}
end
end L2
namespace L2
open PySem PySem.Spec PyProof.Rows
def tx(s:Str):List Nat:=s.cps.toList
end L2
namespace L2
open PySem PySem.Spec PyProof.Rows
def Cv(i:Nat)(l:Int):Prop:=l= -1∨(i:Int) < l
def lm(T:List Nd):Prop:=∀(i:Nat) (x:Nd),T[i]?=some x→Cv i x.yes∧Cv i x.no
theorem y4{ws:List Fr}{i j:Nat}{v:Fr}{l:Int}(h:Cv j l)(hij:i≤j):lk (ws.set i v) l=lk ws l:=by
  unfold lk
  rcases h with h | h
  · rw [if_pos h,if_pos h]
  · have:i≠l.toNat:=by lia
    rw [if_neg (by lia),if_neg (by lia),List.getD_eq_getElem?_getD,List.getD_eq_getElem?_getD,List.getElem?_set_ne this]
theorem ja{W:aC}{T:List Nd}:∀m,(iT W T m).length=T.length
  | 0=>by simp [iT]
  | m+1=>by
    rw [iT]
    split
    · unfold wd1;rw [List.length_set];exact ja m
    · exact ja m
theorem sy{W:aC}{T:List Nd}(o:lm T):∀(m:Nat),m≤T.length→∀(i:Nat) (x:Nd),T.length - m≤i→T[i]?=some x→(iT W T m)[i]?=some (aw W x.tie (lk (iT W T m) x.yes) (lk (iT W T m) x.no))
  | 0,_,i,x,hi,hx=>by
    have:=(List.getElem?_eq_some_iff.mp hx).1
    lia
  | m+1,hm,i,x,hi,hx=>by
    have hi':i < T.length:=(List.getElem?_eq_some_iff.mp hx).1
    have hy:T[T.length - 1 - m]?=some (T[T.length - 1 - m]'(by lia)):=List.getElem?_eq_getElem (by lia)
    generalize T[T.length - 1 - m]'(by lia)=y at hy
    rw [AD hy]
    have ln:=ja (W:=W) (T:=T) m
    obtain⟨o1,o2⟩:=o i x hx
    unfold wd1
    rw [y4 o1 (by lia),y4 o2 (by lia)]
    by_cases c:i=T.length - 1 - m
    · subst c
      rw [hx] at hy
      cases hy
      rw [List.getElem?_set_self (by rw [ln];exact hi')]
    · rw [List.getElem?_set_ne (by lia)]
      exact sy o m (by lia) i x (by lia) hx
end L2
namespace L2
open PySem PySem.Spec PyProof.Rows
theorem xF{ws:List Int}{k:Nat}{w v:Int}(hw:ws[k]?=some w)(hv:v∈ws):v=w∨v∈ws.eraseIdx k:=by
  obtain⟨hk,e⟩:=List.getElem?_eq_some_iff.mp hw
  have:=(kY ws k hk).mem_iff (a:=v)
  rw [List.mem_cons,e] at this
  exact this.mpr hv
def qW(T:List Nd)(ws order:List Int):Prop:=∀(j:Nat) (w:Int),order[j]?=some w→∀l∈rF (aQ T w),l∈ws∨∃j':Nat,j < j'∧order[j']?=some l
theorem qW.first{T:List Nd}{ws:List Int}:qW T ws []:=fun j w h=>by simp at h
theorem qW.turn{T:List Nd}{ws ws' order:List Int}{w:Int}(h:qW T ws order)(h1:∀v∈ws,v=w∨v∈ws')(h2:∀l∈rF (aQ T w),l∈ws'):qW T ws' (order++[w]):=fun j u hj l hl=>by
  by_cases c:j < order.length
  · rw [List.getElem?_append_left c] at hj
    rcases h j u hj l hl with q | ⟨j',a,b⟩
    · rcases h1 l q with rfl | q
      · exact .inr ⟨order.length,c,by simp⟩
      · exact .inl q
    · exact .inr ⟨j',a,by rw [List.getElem?_append_left (List.getElem?_eq_some_iff.mp b).1];exact b⟩
  · have hj':=(List.getElem?_eq_some_iff.mp hj).1
    simp at hj'
    have:j=order.length:=by lia
    subst this
    simp at hj
    subst hj
    exact .inl (h2 l hl)
def ko(order nums:List Int)(i:Nat):Prop:=∀(j:Nat) (l:Int),j < i→order[j]?=some l→(j:Int)≤nums.getD l.toNat (-1)
theorem ko.first{order nums:List Int}:ko order nums 0:=fun j l h=>by lia
theorem ko.set{order nums:List Int}{i:Nat}{w:Int}(h:ko order nums i)(hw:order[i]?=some w)(hl:w.toNat < nums.length):ko order (nums.set w.toNat (i:Int)) (i+1):=fun j l hj e=>by
  rw [List.getD_eq_getElem?_getD]
  by_cases c:w.toNat=l.toNat
  · rw [←c,List.getElem?_set_self hl]
    show(j:Int)≤(i:Int)
    lia
  · rw [List.getElem?_set_ne c]
    by_cases d:j < i
    · have:=h j l d e
      rwa [List.getD_eq_getElem?_getD] at this
    · have:j=i:=by lia
      subst this
      rw [hw] at e
      cases e
      exact absurd rfl c
theorem xP{T:List Nd}{order nums:List Int}{W:aC}{S:Nat→Std}(h:bN W T S)(ho:∀w∈order,0≤w∧w < (T.length:Int))(hn:jm order T.length nums)(hg:ko order nums order.length)(hw:qW T [] order):lm (order.map (renum T nums)):=fun j y hy=>by
  rw [List.getElem?_map] at hy
  obtain⟨w,hw2,rfl⟩:=Option.map_eq_some_iff.mp hy
  obtain⟨a0,a1⟩:=ho w (List.mem_of_getElem? hw2)
  have o:=h _ _ (cY a0 a1)
  have key:∀l:Int,l=(aQ T w).yes∨l=(aQ T w).no→ -1≤l→l < (T.length:Int)→Cv j (nm nums l):=fun l hl l0 l1=>by
    by_cases c:l= -1
    · left
      subst c
      unfold nm atI k8
      rw [if_neg (by decide),if_pos (by rw [hn.len];lia)]
      simp only [Option.bind_some]
      rw [show(-1+(nums.length:Int)).toNat=T.length by rw [hn.len];lia,hn.top]
      rfl
    · right
      have hm:l∈rF (aQ T w):=by
        unfold rF
        rw [List.mem_filter]
        refine⟨?_,by simpa using c⟩
        rcases hl with rfl | rfl<;>simp
      rcases hw j w hw2 l hm with q | ⟨j',q1,q2⟩
      · cases q
      · have g:=hg j' l (List.getElem?_eq_some_iff.mp q2).1 q2
        have e:nm nums l=nums.getD l.toNat (-1):=by
          unfold nm atI k8
          rw [if_pos (by lia),if_pos (by rw [hn.len];lia)]
          simp only [Option.bind_some,List.getD_eq_getElem?_getD]
        rw [e]
        lia
  exact⟨key _ (.inl rfl) o.yes.rng.1 o.yes.rng.2,key _ (.inr rfl) o.no.rng.1 o.no.rng.2⟩
end L2
namespace L2
open PySem PySem.Spec PyProof.Rows
section
variable{X:Cx}{K:PySem.W.Frag}{es:List Expr}{k0:Nat}{tp:Pos}{a b:Expr}{fs:FA}{p pos:Pos}
end
end L2
namespace L2
open PySem PySem.Spec PyProof.Rows
def iV(x:Nd)(b:Bool):Int:=if b=true then x.yes else x.no
def fR(T:List Nd)(i:Nat)(b:Bool):Int:=match T[i]? with
  | some x=>iV x b
  | none=> -1
theorem bS{T:List Nd}{i:Nat}{x:Nd}{b:Bool}(h:T[i]?=some x):fR T i b=iV x b:=by unfold fR;rw [h]
theorem cW{T:List Nd}{i:Nat}{b:Bool}(h:T[i]?=none):fR T i b= -1:=by unfold fR;rw [h]
theorem y3{x:Nd}{s n:Int}{b:Bool}(hs:s=0∨s=1):iV (gU x s n) b=if b=(s==0) then n else iV x b:=by
  rcases hs with rfl | rfl<;>cases b<;>simp [iV,gU]
def sJ(T:List Nd):Prop:=∀(i j:Nat) (a b:Bool),fR T i a=fR T j b→fR T i a≠ -1→i=j∧a=b
def Cm(w:Wt):Int × Int:=(w.par,w.side)
structure vV (T:List Nd) (ws:List Wt):Prop where
  unq:sJ T
  rng:∀i a,fR T i a= -1∨(0 < fR T i a∧fR T i a < (T.length:Int))
  free:∀w∈ws,w.par= -1∨(0≤w.par∧w.par < (T.length:Int)∧fR T w.par.toNat (w.side==0)= -1)
  dst:(ws.map Cm).Nodup
  side:∀w∈ws,w.side=0∨w.side=1
theorem vV.first{s:Std}:vV [] [⟨s, -1,0⟩]:=⟨fun i j a b _ h=>absurd (cW (by simp)) h,fun i a=>.inl (cW (by simp)),fun w hw=>by simp at hw;subst hw;exact .inl rfl,by simp,fun w hw=>by simp at hw;subst hw;exact .inl rfl⟩
theorem vV.less{T:List Nd}{w:Wt}{ws:List Wt}(h:vV T (w::ws)):vV T ws:=⟨h.unq,h.rng,fun v hv=>h.free v (by simp [hv]),(List.nodup_cons.mp h.dst).2,fun v hv=>h.side v (by simp [hv])⟩
theorem y2{T:List Nd}{p s k:Int}{i:Nat}{a:Bool}(hs:s=0∨s=1)(hp:p= -1∨(0≤p∧p < (T.length:Int))):
    fR ((if 0≤p then T.modify p.toNat (fun x=>gU x s T.length) else T)++[⟨k, -1, -1⟩]) i a=if (i:Int)=p∧a=(s==0) then(T.length:Int) else fR T i a:=by
  generalize hT:(if 0≤p then T.modify p.toNat (fun x=>gU x s T.length) else T)=T'
  have len:T'.length=T.length:=by rw [←hT];split<;>simp
  by_cases c:i < T.length
  · have hx:T[i]?=some T[i]:=List.getElem?_eq_getElem c
    generalize T[i]=x at hx
    by_cases e:(i:Int)=p
    · have e2:p.toNat=i:=by lia
      have:(T'++[(⟨k, -1, -1⟩:Nd)])[i]?=some (gU x s T.length):=by
        rw [List.getElem?_append_left (by lia),←hT,if_pos (by lia),List.getElem?_modify,e2,hx]
        simp
      rw [bS this,y3 hs,bS hx]
      simp [e]
    · have:(T'++[(⟨k, -1, -1⟩:Nd)])[i]?=some x:=by
        rw [List.getElem?_append_left (by lia),←hT]
        split
        · rw [List.getElem?_modify,hx]
          have:¬p.toNat=i:=by lia
          simp [this]
        · exact hx
      rw [bS this,bS hx,if_neg (fun z=>e z.1)]
  · rw [if_neg (fun z=>by lia),cW (T:=T) (List.getElem?_eq_none (by lia))]
    by_cases d:i=T.length
    · subst d
      rw [bS (x:=⟨k, -1, -1⟩) (by rw [List.getElem?_append_right (by lia),len];simp)]
      cases a<;>rfl
    · exact cW (List.getElem?_eq_none (by simp [len];lia))
theorem vV.more{T:List Nd}{w:Wt}{ws:List Wt}{k:Int}{s1 s2:Std}(h:vV T (w::ws)):
    vV ((if 0≤w.par then T.modify w.par.toNat (fun x=>gU x w.side T.length) else T)++[⟨k, -1, -1⟩]) (ws++[⟨s1,T.length,0⟩,⟨s2,T.length,1⟩]):=by
  have hs:=h.side w (by simp)
  have hp:w.par= -1∨(0≤w.par∧w.par < (T.length:Int)):=(h.free w (by simp)).imp id fun z=>⟨z.1,z.2.1⟩
  have F:=fun i a=>y2 (T:=T) (k:=k) (i:=i) (a:=a) hs hp
  have len:((if 0≤w.par then T.modify w.par.toNat (fun x=>gU x w.side T.length) else T)++[(⟨k, -1, -1⟩:Nd)]).length=T.length+1:=by
    rw [List.length_append];split<;>simp
  generalize (if 0≤w.par then T.modify w.par.toNat (fun x=>gU x w.side T.length) else T)++[(⟨k, -1, -1⟩:Nd)]=T' at F len
  have hd:=h.dst
  rw [List.map_cons,List.nodup_cons] at hd
  refine⟨fun i j a b e n=>?_,fun i a=>?_,fun v hv=>?_,?_,fun v hv=>?_⟩
  · rw [F,F] at e
    rw [F] at n
    have r1:=h.rng i a
    have r2:=h.rng j b
    by_cases c1:(i:Int)=w.par∧a=(w.side==0)
    · by_cases c2:(j:Int)=w.par∧b=(w.side==0)
      · exact⟨by lia,by rw [c1.2,c2.2]⟩
      · rw [if_pos c1,if_neg c2] at e
        lia
    · by_cases c2:(j:Int)=w.par∧b=(w.side==0)
      · rw [if_neg c1,if_pos c2] at e
        lia
      · rw [if_neg c1,if_neg c2] at e
        rw [if_neg c1] at n
        exact h.unq i j a b e n
  · rw [F,len]
    split
    · rename_i c;right;lia
    · have:=h.rng i a;lia
  · rw [len]
    rcases List.mem_append.mp hv with hv | hv
    · rcases h.free v (by simp [hv]) with z | ⟨z1,z2,z3⟩
      · exact .inl z
      · refine .inr ⟨z1,by lia,?_⟩
        rw [F,if_neg ?_]
        · exact z3
        · intro ⟨c1,c2⟩
          refine hd.1 (List.mem_map.mpr ⟨v,hv,?_⟩)
          have e1:v.par=w.par:=by lia
          have e2:v.side=w.side:=by
            rcases h.side v (by simp [hv]) with q | q<;>rcases hs with r | r<;>rw [q,r] at c2 ⊢<;>simp at c2
          unfold Cm
          rw [e1,e2]
    · have:v.par=(T.length:Int):=by
        simp only [List.mem_cons,List.not_mem_nil,or_false] at hv
        rcases hv with rfl | rfl<;>rfl
      refine .inr ⟨by lia,by lia,?_⟩
      rw [this,F,if_neg (by lia)]
      exact cW (List.getElem?_eq_none (by simp))
  · rw [List.map_append,List.nodup_append]
    refine⟨hd.2,by simp [Cm],fun x hx y hy=>?_⟩
    obtain⟨v,hv,rfl⟩:=List.mem_map.mp hx
    have hv2:=h.free v (by simp [hv])
    intro e
    have:y.1=(T.length:Int):=by
      simp only [List.map_cons,List.map_nil,List.mem_cons,List.not_mem_nil,or_false,Cm] at hy
      rcases hy with rfl | rfl<;>rfl
    rw [←e] at this
    have:v.par=(T.length:Int):=this
    lia
  · rcases List.mem_append.mp hv with hv | hv
    · exact h.side v (by simp [hv])
    · simp only [List.mem_cons,List.not_mem_nil,or_false] at hv
      rcases hv with rfl | rfl
      · exact .inl rfl
      · exact .inr rfl
theorem rG{T:List Nd}{w l:Int}(h0:0≤w)(h1:w < (T.length:Int)):l∈rF (aQ T w)↔ l≠ -1∧∃b,fR T w.toNat b=l:=by
  have hx:=cY h0 h1
  unfold rF
  rw [List.mem_filter]
  simp only [List.mem_cons,List.not_mem_nil,or_false,bne_iff_ne]
  constructor
  · rintro⟨rfl | rfl,n⟩
    · exact⟨n,true,bS hx⟩
    · exact⟨n,false,bS hx⟩
  · rintro⟨n,b,e⟩
    rw [bS hx] at e
    refine⟨?_,n⟩
    cases b
    · exact .inr e.symm
    · exact .inl e.symm
theorem xE{T:List Nd}{w:Int}(u:sJ T)(h0:0≤w)(h1:w < (T.length:Int)):(rF (aQ T w)).Nodup:=by
  have hx:=cY h0 h1
  have key:(aQ T w).yes=(aQ T w).no→(aQ T w).yes= -1:=fun e=>by
    by_cases c:(aQ T w).yes= -1
    · exact c
    · have e1:fR T w.toNat true=(aQ T w).yes:=bS hx
      have e2:fR T w.toNat false=(aQ T w).no:=bS hx
      have:=(u w.toNat w.toNat true false (by rw [e1,e2];exact e) (by rw [e1];exact c)).2
      cases this
  unfold rF
  by_cases c1:(aQ T w).yes= -1
  · by_cases c2:(aQ T w).no= -1<;>simp [c1,c2]
  · by_cases c2:(aQ T w).no= -1
    · simp [c1,c2]
    · have:¬(aQ T w).yes=(aQ T w).no:=fun e=>c1 (key e)
      simp [c1,c2,this]
structure AV (T:List Nd) (w0 ws order:List Int):Prop where
  nd:(order++ws).Nodup
  par:∀v∈order++ws,v=0∨∃u∈order,∃b,fR T u.toNat b=v∧v≠ -1
  fst:(order=[]∧ws=w0)∨order[0]?=some 0
theorem AV.first{T:List Nd}{w0:List Int}(h:w0=[]∨w0=[0]):AV T w0 w0 []:=by
  rcases h with rfl | rfl
  · exact⟨by simp,fun v hv=>by simp at hv,.inl ⟨rfl,rfl⟩⟩
  · exact⟨by simp,fun v hv=>by simp at hv;exact .inl hv,.inl ⟨rfl,rfl⟩⟩
theorem AV.turn{T:List Nd}{w0 ws order:List Int}{k:Nat}{w:Int}(hw0:w0=[]∨w0=[0])(h:AV T w0 ws order)(u:sJ T)(rg:∀i a,fR T i a= -1∨(0 < fR T i a∧fR T i a < (T.length:Int)))(ho:∀v∈order++ws,0≤v∧v < (T.length:Int))(hw:ws[k]?=some w):AV T w0 (ws.eraseIdx k++rF (aQ T w)) (order++[w]):=by
  obtain⟨hk,e⟩:=List.getElem?_eq_some_iff.mp hw
  have hwm:w∈ws:=List.mem_of_getElem? hw
  obtain⟨a0,a1⟩:=ho w (by simp [hwm])
  have pm:(order++[w]++ws.eraseIdx k).Perm (order++ws):=by
    rw [List.append_assoc]
    refine List.Perm.append_left _ ?_
    have:=kY ws k hk
    rw [e] at this
    exact this
  have nd:=h.nd
  refine⟨?_,fun v hv=>?_,?_⟩
  · rw [←List.append_assoc,List.nodup_append]
    refine⟨pm.nodup_iff.mpr nd,xE u a0 a1,fun x hx y hy e2=>?_⟩
    subst e2
    obtain⟨n,b,eb⟩:=(rG a0 a1).mp hy
    have hx':=pm.mem_iff.mp hx
    rcases h.par x hx' with z | ⟨v,hv,c,ec,_⟩
    · have:=rg w.toNat b;lia
    · have q:=(u v.toNat w.toNat c b (by rw [ec,eb]) (by rw [ec];exact n)).1
      obtain⟨v0,v1⟩:=ho v (by simp [hv])
      have:v=w:=by lia
      subst this
      rw [List.nodup_append] at nd
      exact nd.2.2 v hv v hwm rfl
  · rw [←List.append_assoc] at hv
    rcases List.mem_append.mp hv with hv | hv
    · rcases h.par v (pm.mem_iff.mp hv) with z | ⟨x,hx,b,q⟩
      · exact .inl z
      · exact .inr ⟨x,by simp [hx],b,q⟩
    · obtain⟨n,b,eb⟩:=(rG a0 a1).mp hv
      exact .inr ⟨w,by simp,b,eb,n⟩
  · right
    rcases h.fst with ⟨z1,z2⟩ | z
    · subst z1 z2
      rcases hw0 with q | q
      · rw [q] at hwm;cases hwm
      · rw [q] at hwm
        simp at hwm
        subst hwm
        rfl
    · rw [List.getElem?_append_left (List.getElem?_eq_some_iff.mp z).1];exact z
def ku(T:List Nd):Prop:=sJ T∧∀j:Nat,0 < j→j < T.length→∃i b,fR T i b=(j:Int)
theorem oT{order:List Int}(h:order.Nodup){i j:Nat}{w:Int}(hi:order[i]?=some w)(hj:order[j]?=some w):i=j:=by
  obtain⟨a,e1⟩:=List.getElem?_eq_some_iff.mp hi
  obtain⟨b,e2⟩:=List.getElem?_eq_some_iff.mp hj
  have pw:=List.pairwise_iff_getElem.mp h
  rcases Nat.lt_trichotomy i j with c | c | c
  · exact absurd (e1.trans e2.symm) (pw i j a b c)
  · exact c
  · exact absurd (e2.trans e1.symm) (pw j i b a c)
theorem vD{T:List Nd}{order nums w0:List Int}{W:aC}{S:Nat→Std}(h:bN W T S)(u:sJ T)(ho:∀w∈order,0≤w∧w < (T.length:Int))(hn:jm order T.length nums)(hg:ko order nums order.length)(hw:qW T [] order)(hr:AV T w0 [] order):ku (order.map (renum T nums)):=by
  have nd:order.Nodup:=by have:=hr.nd;rwa [List.append_nil] at this
  have nmE:∀l:Int,0≤l→l < (T.length:Int)→nm nums l=nums.getD l.toNat (-1):=fun l l0 l1=>by
    unfold nm atI k8
    rw [if_pos l0,if_pos (by rw [hn.len];lia)]
    simp only [Option.bind_some,List.getD_eq_getElem?_getD]
  have nm1:nm nums (-1)= -1:=by
    unfold nm atI k8
    rw [if_neg (by decide),if_pos (by rw [hn.len];lia)]
    simp only [Option.bind_some]
    rw [show(-1+(nums.length:Int)).toNat=T.length by rw [hn.len];lia,hn.top]
    rfl
  have inv:∀(j:Nat) (l:Int),order[j]?=some l→nm nums l=(j:Int):=fun j l hj=>by
    obtain⟨l0,l1⟩:=ho l (List.mem_of_getElem? hj)
    have g:=hg j l (List.getElem?_eq_some_iff.mp hj).1 hj
    rw [nmE l l0 l1]
    have hx:nums[l.toNat]?=some (nums.getD l.toNat (-1)):=by
      have:l.toNat < nums.length:=by rw [hn.len];lia
      simp [this]
    rcases hn.at' l.toNat _ (by lia) hx with z | ⟨p,z1,z2⟩
    · lia
    · rw [show((l.toNat:Nat):Int)=l by lia] at z2
      rw [z1,oT nd z2 hj]
  have lkR:∀(i:Nat) (w:Int) (b:Bool),order[i]?=some w→fR (order.map (renum T nums)) i b=nm nums (fR T w.toNat b):=fun i w b hi=>by
    obtain⟨a0,a1⟩:=ho w (List.mem_of_getElem? hi)
    rw [bS (x:=renum T nums w) (by rw [List.getElem?_map,hi];rfl),bS (cY a0 a1)]
    cases b<;>rfl
  have inO:∀(i:Nat) (w:Int) (b:Bool),order[i]?=some w→fR T w.toNat b≠ -1→∃p:Nat,order[p]?=some (fR T w.toNat b):=fun i w b hi n=>by
    obtain⟨a0,a1⟩:=ho w (List.mem_of_getElem? hi)
    rcases hw i w hi (fR T w.toNat b) ((rG a0 a1).mpr ⟨n,b,rfl⟩) with q | ⟨p,_,q⟩
    · cases q
    · exact⟨p,q⟩
  refine⟨fun i j a b e n=>?_,fun j j0 j1=>?_⟩
  · cases hi:order[i]? with
    | none=>exact absurd (cW (by rw [List.getElem?_map,hi];rfl)) n
    | some w=>
      cases hj:order[j]? with
      | none=>rw [cW (i:=j) (by rw [List.getElem?_map,hj];rfl)] at e;exact absurd e n
      | some v=>
        rw [lkR i w a hi] at e n
        rw [lkR j v b hj] at e
        have n1:fR T w.toNat a≠ -1:=fun z=>n (by rw [z,nm1])
        have n2:fR T v.toNat b≠ -1:=fun z=>n (by rw [e,z,nm1])
        obtain⟨p,hp⟩:=inO i w a hi n1
        obtain⟨q,hq⟩:=inO j v b hj n2
        rw [inv p _ hp,inv q _ hq] at e
        have:p=q:=by lia
        subst this
        rw [hp] at hq
        have e3:=Option.some.inj hq
        obtain⟨e4,e5⟩:=u w.toNat v.toNat a b e3 n1
        obtain⟨a0,a1⟩:=ho w (List.mem_of_getElem? hi)
        obtain⟨b0,b1⟩:=ho v (List.mem_of_getElem? hj)
        have:w=v:=by lia
        subst this
        exact⟨oT nd hi hj,e5⟩
  · rw [List.length_map] at j1
    have hj:order[j]?=some order[j]:=List.getElem?_eq_getElem j1
    generalize order[j]=v at hj
    have h0:order[0]?=some 0:=by
      rcases hr.fst with ⟨z,_⟩ | z
      · rw [z] at j1;simp at j1
      · exact z
    rcases hr.par v (by rw [List.append_nil];exact List.mem_of_getElem? hj) with z | ⟨x,hx,b,e,n⟩
    · subst z
      have:=oT nd h0 hj
      lia
    · obtain⟨i,hi⟩:=List.getElem?_of_mem hx
      exact⟨i,b,by rw [lkR i x b hi,e];exact inv j v hj⟩
theorem oh{W:aC}{rs:List Fr}{i j:Nat}{k:Int}{b:Bool}{l:Int}(h:l= -1∨l.toNat≠j):(rstp W rs i k b l).getD j (1,1)=rs.getD j (1,1):=by
  unfold rstp
  split
  · rfl
  · rename_i c
    have:l.toNat≠j:=by rcases h with h | h;exact absurd h c;exact h
    rw [List.getD_eq_getElem?_getD,List.getElem?_set_ne this,List.getD_eq_getElem?_getD]
theorem tQ{W:aC}{rs:List Fr}{i:Nat}{k:Int}{b:Bool}{l:Int}(h:l≠ -1)(hl:l.toNat < rs.length):(rstp W rs i k b l).getD l.toNat (1,1)=tm (rs.getD i (1,1)) (ch W k b):=by
  unfold rstp
  rw [if_neg h,List.getD_eq_getElem?_getD,List.getElem?_set_self hl]
  rfl
theorem zY{W:aC}{rs:List Fr}{i:Nat}{x:Nd}:p7 W rs i x=rstp W (rstp W rs i x.tie true (iV x true)) i x.tie false (iV x false):=rfl
def Gv(W:aC)(T:List Nd)(rs:List Fr)(i:Nat):Prop:=∀(x:Nd) (b:Bool),T[i]?=some x→iV x b≠ -1→rs.getD (iV x b).toNat (1,1)=tm (rs.getD i (1,1)) (ch W x.tie b)
theorem pd{W:aC}{T:List Nd}:∀m,(a' W T m).length=T.length
  | 0=>by simp [a']
  | m+1=>by
    rw [a']
    split
    · unfold p7;rw [lX,lX];exact pd m
    · exact pd m
theorem BB{T:List Nd}(o:lm T){i:Nat}{x:Nd}(hx:T[i]?=some x)(b:Bool):Cv i (iV x b):=by
  cases b
  · exact(o i x hx).2
  · exact(o i x hx).1
theorem og{W:aC}{rs:List Fr}{i j:Nat}{x:Nd}(h:∀b,iV x b= -1∨(iV x b).toNat≠j):(p7 W rs i x).getD j (1,1)=rs.getD j (1,1):=by
  rw [zY,oh (h false),oh (h true)]
theorem o_{W:aC}{T:List Nd}{S:Nat→Std}(h:bN W T S)(o:lm T)(u:sJ T):∀m,∀i,i < m→Gv W T (a' W T m) i
  | 0,i,hi=>by lia
  | m+1,i,hi=>fun x b hx hn=>by
    have ln:=pd (W:=W) (T:=T) m
    have hb:=BB o hx b
    have hrx:(iV x b) < (T.length:Int):=by
      cases b
      · exact(h i x hx).no.rng.2
      · exact(h i x hx).yes.rng.2
    have hxi:i < T.length:=(List.getElem?_eq_some_iff.mp hx).1
    cases hy:T[m]? with
    | none=>
      rw [a',hy]
      have:T.length≤m:=List.getElem?_eq_none_iff.mp hy
      exact o_ h o u m i (by lia) x b hx hn
    | some y=>
      rw [r6 hy]
      have oy:=fun c=>BB o hy c
      by_cases c:i=m
      · subst c
        rw [hx] at hy
        cases hy
        have e0:(p7 W (a' W T i) i x).getD i (1,1)=(a' W T i).getD i (1,1):=og fun c=>by
          rcases oy c with z | z
          · exact .inl z
          · right;lia
        rw [e0]
        have dif:∀c,c≠b→iV x c= -1∨(iV x c).toNat≠(iV x b).toNat:=fun c hc=>by
          by_cases z:iV x c= -1
          · exact .inl z
          · right
            intro e
            have:=oy c
            have e1:fR T i c=iV x c:=bS hx
            have e2:fR T i b=iV x b:=bS hx
            have:=(u i i c b (by rw [e1,e2];unfold Cv at*;lia) (by rw [e1];exact z)).2
            exact hc this
        rw [zY]
        have hll:(iV x b).toNat < (a' W T i).length:=by rw [ln];unfold Cv at*;lia
        cases b
        · rw [tQ (l:=iV x false) hn (by rw [lX];exact hll)]
          rw [oh (l:=iV x true) (j:=i) (by
            rcases oy true with z | z
            · exact .inl z
            · right;lia)]
        · rw [oh (l:=iV x false) (dif false (by decide))]
          exact tQ (l:=iV x true) hn hll
      · have e0:(p7 W (a' W T m) m y).getD i (1,1)=(a' W T m).getD i (1,1):=og fun c=>by
          rcases oy c with z | z
          · exact .inl z
          · right;lia
        have e1:(p7 W (a' W T m) m y).getD (iV x b).toNat (1,1)=(a' W T m).getD (iV x b).toNat (1,1):=og fun d=>by
          by_cases z:iV y d= -1
          · exact .inl z
          · right
            intro e
            have a1:fR T m d=iV y d:=bS hy
            have a2:fR T i b=iV x b:=bS hx
            have z2:=oy d
            have:=(u m i d b (by rw [a1,a2];unfold Cv at*;lia) (by rw [a1];exact z)).1
            lia
        rw [e0,e1]
        exact o_ h o u m i (by lia) x b hx hn
theorem vo{W:aC}{T:List Nd}(o:lm T):∀m,(a' W T m).getD 0 (1,1)=(1,1)
  | 0=>by
    rw [a',List.getD_eq_getElem?_getD,List.getElem?_replicate]
    split<;>rfl
  | m+1=>by
    cases hy:T[m]? with
    | none=>rw [a',hy];exact vo o m
    | some y=>
      rw [r6 hy,og fun c=>by
        rcases BB o hy c with z | z
        · exact .inl z
        · right;lia]
      exact vo o m
end L2
namespace L2
open PySem PySem.Spec PyProof.Rows
section
variable{prog:Program}{w:World}{A:Around}{E:Value→Shared→Prop}{s:Shared}
end
section
variable{X:Cx}{tg a:Expr}{ta:TA}{p pos:Pos}
end
section
variable{X:Cx}{K:PySem.W.Frag}{σ:L2.St}{tg a:Expr}{fs:FA}{p pos:Pos}
end
end L2
namespace L2
open PySem PySem.Spec PyProof.Rows
section
variable{X:Cx}{a k:Expr}{p2 pos:Pos}{fa fk:FE}{K:PySem.W.Frag}
section
variable{prog:Program}{w:World}{A:Around}{E:Value→Shared→Prop}{s:Shared}
end
end
end L2
namespace L2
open PySem PySem.Spec PyProof.Rows
section
variable{X:Cx}{a b:Expr}{ta:TA}{p p2 pos pos2:Pos}{K:PySem.W.Frag}{fs:FA}
end
section
variable{X:Cx}{o i e:Expr}{fo fi:FE}{tpos pos:Pos}{K:PySem.W.Frag}
end
end L2
namespace L2
open PySem PySem.Spec PyProof.Rows
section
variable{X:Cx}{K:PySem.W.Frag}
end
end L2
namespace L2
open PySem PySem.Spec PyProof.Rows
section
open PySem.MeetsSeq2 PySem.AutoSeq1 PySem.SeqAt
end
section
variable{X:Cx}{K:PySem.W.Frag}{o a:Expr}{to te:TE}{name:Str}{apos cpos:Pos}{T id:String}{r:V→List V→Hp→VK→Prop}{fo fa:FE}
def gC(ns:List Int)(k:Int):Option Nat:=some (ns.count k)
end
end L2
namespace L2
open PySem PySem.Spec PyProof.Rows
section
variable{X:Cx}{K:PySem.W.Frag}{o a:Expr}{apos cpos:Pos}{fo fa:FE}
end
end L2
namespace L2
open PySem PySem.Spec PyProof.Rows
section
variable{K:PySem.W.Frag}{F H:Hp}{σ:L2.St}{e:En}{cp:List (Nat × Str)}{nT:Nat}
end
section
variable{X:Cx}{K:PySem.W.Frag}{a b:Expr}{es:List Expr}{fa fb:FE}{fs:FA}{pos p p2 p3:Pos}{lo hi:Option Expr}
end
end L2
namespace L2
open PySem PySem.Spec PyProof.Rows
section
variable{X:Cx}{K:PySem.W.Frag}
end
end L2
namespace L2
open PySem PySem.Spec PyProof.Rows
section
variable{X:Cx}{K:PySem.W.Frag}{a b:Expr}{fa fb:FE}{pos:Pos}
end
end L2
namespace L2
open PySem PySem.Spec PyProof.Rows
section
variable{X:Cx}{K:PySem.W.Frag}
end
end L2
namespace L2
open PySem PySem.Spec PyProof.Rows
structure Sw (b:Bool) (n dep:Nat) (d:PyData):Prop where
  dl:bif b then k_ d=true else d.hasDict=false
  sh:d.showable=true
  dp:d.depth≤dep
  ln:d.shown.length+2≤n
  so:PyData.strOk d.shown=true
end L2
namespace L2
open PySem PySem.Spec PyProof.Rows
structure S1 (n:Nat) (f:Fr):Prop where
  low:kP f
  lo:0≤f.1
  hi:f.1≤f.2
  bt:Bt n f.2
structure Hq (b f g:Fr):Prop where
  pf:0 < f.2
  pg:0 < g.2
  eq:g.1*(f.2*b.1)=g.2*(f.1*b.2)
end L2
namespace L2
open PySem PySem.Spec PyProof.Rows
def vR(f:Fr):Rat:=(f.1:Rat) / (f.2:Rat)
theorem fP{b:Int}(h:0 < b):(b:Rat)≠0:=fun e=>by
  have:b=0:=by exact_mod_cast e
  lia
theorem AA{t b:Int}(hb:0 < b):vR (lowM t b)=(t:Rat) / (b:Rat):=by
  have c:=uY (t:=t) (b:=b) (Int.ne_of_gt hb)
  have p:=(kP.lowM (t:=t) hb).pos
  have c':((lowM t b).1:Rat)*(b:Rat)=((lowM t b).2:Rat)*(t:Rat):=by exact_mod_cast c
  have h1:=fP hb
  have h2:=fP p
  unfold vR
  generalize ((lowM t b).1:Rat)=x at*
  generalize ((lowM t b).2:Rat)=y at*
  generalize (b:Rat)=z at*
  generalize (t:Rat)=w at*
  grind
theorem pJ{a b:Fr}(ha:0 < a.2)(hb:0 < b.2):vR (pl a b)=vR a+vR b:=by
  have h:=AA (t:=a.1*b.2+b.1*a.2) (Int.mul_pos ha hb)
  have h1:=fP ha
  have h2:=fP hb
  change vR (pl a b)=_ at h
  rw [h]
  unfold vR
  rw [Rat.intCast_add,Rat.intCast_mul,Rat.intCast_mul,Rat.intCast_mul]
  generalize (a.1:Rat)=x at*
  generalize (a.2:Rat)=y at*
  generalize (b.1:Rat)=z at*
  generalize (b.2:Rat)=w at*
  grind
theorem qT{a b:Fr}(ha:0 < a.2)(hb:0 < b.2):vR (tm a b)=vR a*vR b:=by
  have h:=AA (t:=a.1*b.1) (Int.mul_pos ha hb)
  have h1:=fP ha
  have h2:=fP hb
  change vR (tm a b)=_ at h
  rw [h]
  unfold vR
  rw [Rat.intCast_mul,Rat.intCast_mul]
  generalize (a.1:Rat)=x at*
  generalize (a.2:Rat)=y at*
  generalize (b.1:Rat)=z at*
  generalize (b.2:Rat)=w at*
  grind
theorem vM{a b:Fr}(ha:kP a)(hb:kP b)(h:vR a=vR b):a=b:=by
  have h1:=fP ha.pos
  have h2:=fP hb.pos
  have c:(b.1:Rat)*(a.2:Rat)=(a.1:Rat)*(b.2:Rat):=by
    unfold vR at h
    generalize (a.1:Rat)=x at*
    generalize (a.2:Rat)=y at*
    generalize (b.1:Rat)=z at*
    generalize (b.2:Rat)=w at*
    grind
  have c':b.1*a.2=a.1*b.2:=by exact_mod_cast c
  exact kP.uniq (M:=a.2) (v:=a.1) ha.pos ha hb rfl c'
theorem vL:vR (0,1)=0:=by unfold vR;simp;grind
theorem EG:vR (1,1)=1:=by unfold vR;simp;grind
theorem Az(n:Int):vR (n,1)=(n:Rat):=by unfold vR;simp;grind
def SR(n:Nat)(f:List Bool→Rat):Rat:=((aY n).map f).sum
theorem cZ(a b:List Rat):(a++b).sum=a.sum+b.sum:=by
  induction a with
  | nil=>simp only [List.nil_append,List.sum_nil];grind
  | cons x r ih=>simp only [List.cons_append,List.sum_cons,ih];grind
theorem Ao(c:Rat){α:Type}(f:α→Rat)(l:List α):(l.map fun x=>c*f x).sum=c*(l.map f).sum:=by
  induction l with
  | nil=>simp
  | cons x r ih=>simp only [List.map_cons,List.sum_cons,ih];grind
theorem An{α:Type}(f g:α→Rat)(l:List α):(l.map fun x=>f x+g x).sum=(l.map f).sum+(l.map g).sum:=by
  induction l with
  | nil=>simp only [List.map_nil,List.sum_nil];grind
  | cons x r ih=>simp only [List.map_cons,List.sum_cons,ih];grind
theorem lh{α:Type}{f g:α→Rat}{l:List α}(h:∀x∈l,f x=g x):(l.map f).sum=(l.map g).sum:=by rw [List.map_congr_left h]
theorem x9{a b:List Rat}(h:a.Perm b):a.sum=b.sum:=by
  induction h with
  | nil=>rfl
  | cons x _ ih=>simp only [List.sum_cons,ih]
  | swap x y l=>simp only [List.sum_cons];grind
  | trans _ _ h1 h2=>rw [h1,h2]
theorem qX{n:Nat}{f:List Bool→Rat}:SR (n+1) f=SR n (fun r=>f (r++[true]))+SR n (fun r=>f (r++[false])):=by
  unfold SR
  rw [aY,List.map_append,cZ,List.map_map,List.map_map]
  rfl
theorem kQ{n:Nat}(c:Rat)(f:List Bool→Rat):SR n (fun r=>c*f r)=c*SR n f:=Ao c f _
theorem yn{n:Nat}(f g:List Bool→Rat):SR n (fun r=>f r+g r)=SR n f+SR n g:=An f g _
theorem cq{n:Nat}{f g:List Bool→Rat}(h:∀r,r.length=n→f r=g r):SR n f=SR n g:=lh fun r hr=>h r ((kb n).2 r hr)
def cR(t:iC)(b:Bool):Rat:=vR (qi t b)
def wR:List iC→List Bool→Rat
  | t::ts,b::bs=>cR t b*wR ts bs
  | _,_=>1
theorem kg{t:iC}{b:Bool}:∀{ts:List iC} {bs:List Bool},bs.length=ts.length→wR (ts++[t]) (bs++[b])=cR t b*wR ts bs
  | [],[],_=>by simp [wR]
  | u::ts,c::bs,h=>by
    show cR u c*wR (ts++[t]) (bs++[b])=cR t b*(cR u c*wR ts bs)
    rw [kg (by simpa using h)]
    grind
  | [],_::_,h=>by simp at h
  | _::_,[],h=>by simp at h
theorem yz{t:iC}(h:0 < t.bot):cR t true+cR t false=1:=by
  have h1:=fP h
  unfold cR vR qi
  simp only [if_true,Bool.false_eq_true,if_false]
  rw [Rat.intCast_sub]
  generalize (t.top:Rat)=x at*
  generalize (t.bot:Rat)=y at*
  grind
theorem wW{α:Type}{n:Nat}{ts:List α}(h:ts.length=n+1):∃us t,ts=us++[t]∧us.length=n:=by
  have ne:ts≠[]:=by intro e;rw [e] at h;simp at h
  exact⟨ts.dropLast,ts.getLast ne,(List.dropLast_concat_getLast ne).symm,by simp [h]⟩
theorem vN:∀(n:Nat) (ts:List iC),ts.length=n→(∀t∈ts,0 < t.bot)→SR n (wR ts)=1
  | 0,ts,h,_=>by
    rw [List.length_eq_zero_iff.mp h]
    unfold SR
    simp only [aY,List.map_cons,List.map_nil,List.sum_cons,List.sum_nil,wR]
    grind
  | n+1,ts,h,hb=>by
    obtain⟨us,t,rfl,hu⟩:=wW h
    rw [qX]
    have e:∀b,SR n (fun r=>wR (us++[t]) (r++[b]))=cR t b*SR n (wR us):=fun b=>by
      rw [←kQ]
      exact cq fun r hr=>kg (by lia)
    rw [e,e,vN n us hu fun x hx=>hb x (by simp [hx])]
    have:=yz (hb t (by simp))
    grind
theorem gY{t:iC}(h:0 < t.bot)(b:Bool):0 < (qi t b).2:=by cases b<;>exact h
theorem AB:∀{ts:List iC} {bs:List Bool} {a:Fr},(∀t∈ts,0 < t.bot)→0 < a.2→vR (lj a ts bs)=vR a*wR ts bs
  | [],_,a,_,h=>by unfold lj wR;grind
  | _::_,[],a,_,h=>by unfold lj wR;grind
  | t::ts,b::bs,a,ht,h=>by
    have hc:=gY (ht t (by simp)) b
    unfold lj wR
    rw [AB (a:=tm a (qi t b)) (fun x hx=>ht x (by simp [hx])) (kP.lowM (Int.mul_pos h hc)).pos,qT h hc]
    unfold cR
    grind
theorem qY{n:Nat}:SR n (fun _=>0)=0:=by
  have:=kQ (n:=n) 0 (fun _=>0)
  simp only [Rat.zero_mul] at this
  exact this
theorem CJ:∀(n:Nat) (ts:List iC),ts.length=n→(∀t∈ts,0 < t.bot)→∀(k:Nat),k < n→∀(b:Bool) (v:List Bool→Rat),(∀r c,r.length=n→v (r.set k c)=v r)→
    SR n (fun r=>if r.getD k false=b then wR ts r*v r else 0)=cR (ts.getD k default) b*SR n (fun r=>wR ts r*v r)
  | 0,_,_,_,k,hk,_,_,_=>by lia
  | n+1,ts,h,hb,k,hk,b,v,hv=>by
    obtain⟨us,t,rfl,hu⟩:=wW h
    have tb:=hb t (by simp)
    have cs:=yz tb
    rw [qX,qX]
    by_cases c:k=n
    · subst c
      have gt:(us++[t]).getD us.length default=t:=by simp [List.getD_eq_getElem?_getD]
      rw [←hu,gt]
      have v2:∀r:List Bool,r.length=us.length→v (r++[false])=v (r++[true]):=fun r hr=>by
        have:=hv (r++[true]) false (by simp;lia)
        rw [←this]
        congr 1
        rw [←hu,←hr,List.set_append_right _ _ (Nat.le_refl _)]
        simp
      have ga:∀(r:List Bool) (x:Bool),r.length=us.length→(r++[x]).getD us.length false=x:=fun r x hr=>by
        rw [←hr];simp [List.getD_eq_getElem?_getD]
      have r1:SR us.length (fun r=>wR (us++[t]) (r++[true])*v (r++[true]))=cR t true*SR us.length (fun r=>wR us r*v (r++[true])):=by
        rw [←kQ]
        exact cq fun r hr=>by rw [kg hr];grind
      have r2:SR us.length (fun r=>wR (us++[t]) (r++[false])*v (r++[false]))=cR t false*SR us.length (fun r=>wR us r*v (r++[true])):=by
        rw [←kQ]
        exact cq fun r hr=>by rw [kg hr,v2 r hr];grind
      rw [r1,r2]
      have l1:SR us.length (fun r=>if (r++[true]).getD us.length false=b then wR (us++[t]) (r++[true])*v (r++[true]) else 0)=if b=true then cR t true*SR us.length (fun r=>wR us r*v (r++[true])) else 0:=by
        cases b with
        | true=>rw [if_pos rfl,←r1];exact cq fun r hr=>by rw [ga r true hr,if_pos rfl]
        | false=>rw [if_neg (by decide)];exact Eq.trans (cq (g:=fun _=>0) fun r hr=>by rw [ga r true hr,if_neg (by decide)]) qY
      have l2:SR us.length (fun r=>if (r++[false]).getD us.length false=b then wR (us++[t]) (r++[false])*v (r++[false]) else 0)=if b=false then cR t false*SR us.length (fun r=>wR us r*v (r++[true])) else 0:=by
        cases b with
        | false=>rw [if_pos rfl,←r2];exact cq fun r hr=>by rw [ga r false hr,if_pos rfl]
        | true=>rw [if_neg (by decide)];exact Eq.trans (cq (g:=fun _=>0) fun r hr=>by rw [ga r false hr,if_neg (by decide)]) qY
      rw [l1,l2]
      cases b
      · simp only [Bool.false_eq_true,if_false,if_true];grind
      · simp only [Bool.true_eq_false,if_false,if_true];grind
    · have hkn:k < n:=by lia
      have gt:(us++[t]).getD k default=us.getD k default:=by
        simp only [List.getD_eq_getElem?_getD]
        rw [List.getElem?_append_left (by lia)]
      rw [gt]
      have ga:∀(r:List Bool) (x:Bool),r.length=n→(r++[x]).getD k false=r.getD k false:=fun r x hr=>by
        simp only [List.getD_eq_getElem?_getD]
        rw [List.getElem?_append_left (by lia)]
      have step:∀x:Bool,SR n (fun r=>if (r++[x]).getD k false=b then wR (us++[t]) (r++[x])*v (r++[x]) else 0)=cR (us.getD k default) b*SR n (fun r=>wR (us++[t]) (r++[x])*v (r++[x])):=fun x=>by
        have ih:=CJ n us hu (fun y hy=>hb y (by simp [hy])) k hkn b (fun r=>v (r++[x])) fun r c hr=>by
          have:=hv (r++[x]) c (by simp;lia)
          rw [List.set_append_left _ _ (by lia)] at this
          exact this
        have e1:SR n (fun r=>if (r++[x]).getD k false=b then wR (us++[t]) (r++[x])*v (r++[x]) else 0)=cR t x*SR n (fun r=>if r.getD k false=b then wR us r*v (r++[x]) else 0):=by
          rw [←kQ]
          refine cq fun r hr=>?_
          rw [ga r x hr]
          split
          · rw [kg (by lia)];grind
          · grind
        have e2:SR n (fun r=>wR (us++[t]) (r++[x])*v (r++[x]))=cR t x*SR n (fun r=>wR us r*v (r++[x])):=by
          rw [←kQ]
          exact cq fun r hr=>by rw [kg (by lia)];grind
        rw [e1,e2,ih]
        grind
      rw [step,step]
      grind
end L2
namespace L2
open PySem PySem.Spec PyProof.Rows
theorem vY{a:List Int}{k q:Int}:q∈aC.askd a k↔ q∈a∨q=k:=by
  unfold aC.askd
  rw [(gR _).mem_iff,List.mem_append]
  simp
theorem CO{T:List Nd}{l:Int}{x:Nd}(h0:0≤l)(h:T[l.toNat]?=some x):aQ T l=x:=by
  unfold aQ
  rw [List.getD_eq_getElem?_getD,h]
  rfl
theorem y8{T:List Nd}{l:Int}(h0:0≤l)(h1:l < (T.length:Int)):∃x,T[l.toNat]?=some x:=⟨_,List.getElem?_eq_getElem (by lia)⟩
theorem ka{T:List Nd}{a:List Bool}{m:Nat}{l:Int}{x:Nd}(h0:0≤l)(h:T[l.toNat]?=some x):rn T a (m+1) l=(x.tie,a.getD x.tie.toNat false)::rn T a m (iV x (a.getD x.tie.toNat false)):=by
  rw [rn,if_neg (by lia),CO h0 h]
  rfl
theorem oK{W:aC}{n:Nat}{S:Nat→Std}{i:Nat}{x:Nd}(h:sG W n S i x)(b:Bool):kh W n S i x.tie b (iV x b):=by
  cases b
  · exact h.no
  · exact h.yes
theorem z_{W:aC}{T:List Nd}{S:Nat→Std}(h:bN W T S){a:List Bool}{q:Int}{c:Bool}(hq:0≤q):∀(m:Nat) (l:Int),(l= -1∨(0≤l∧l < (T.length:Int)∧q∈(S l.toNat).1))→rn T (a.set q.toNat c) m l=rn T a m l
  | 0,_,_=>rfl
  | m+1,l,hl=>by
    rcases hl with rfl | ⟨h0,h1,h2⟩
    · rw [lc (by decide),lc (by decide)]
    · obtain⟨x,hx⟩:=y8 h0 h1
      have nd:=h _ x hx
      have ne:x.tie≠q:=fun e=>lT nd.may (e ▸ h2)
      have t0:=nd.tie.1
      have ge:(a.set q.toNat c).getD x.tie.toNat false=a.getD x.tie.toNat false:=by
        simp only [List.getD_eq_getElem?_getD]
        rw [List.getElem?_set_ne (by lia)]
      rw [ka h0 hx,ka h0 hx,ge]
      congr 1
      refine z_ h hq m _ ?_
      rcases oK nd (a.getD x.tie.toNat false) with z | ⟨z1,z2,z3⟩
      · exact .inl z
      · refine .inr ⟨z1,z2,?_⟩
        rw [z3]
        exact vY.mpr (.inl h2)
theorem wK{W:aC}(ok:W.Ok){T:List Nd}{S:Nat→Std}(h:bN W T S){a:List Bool}:∀(m:Nat) (l:Int),(l= -1∨(0≤l∧l < (T.length:Int)∧W.ties.length≤m+(S l.toNat).1.length))→rn T a (m+1) l=rn T a m l
  | m,l,.inl hl=>by subst hl;rw [lc (by decide),lc (by decide)]
  | m,l,.inr ⟨h0,h1,h2⟩=>by
    obtain⟨x,hx⟩:=y8 h0 h1
    have nd:=h _ x hx
    have l1:=(nd.st.nxt true ok nd.tie (lT nd.may)).len
    have l2:(nxt W (S l.toNat) x.tie true).1.length=(S l.toNat).1.length+1:=gj
    cases m with
    | zero=>lia
    | succ m=>
      rw [ka h0 hx,ka (m:=m) h0 hx]
      congr 1
      refine wK ok h m _ ?_
      rcases oK nd (a.getD x.tie.toNat false) with z | ⟨z1,z2,z3⟩
      · exact .inl z
      · refine .inr ⟨z1,z2,?_⟩
        rw [z3,show(nxt W (S l.toNat) x.tie (a.getD x.tie.toNat false)).1.length=(S l.toNat).1.length+1 from gj]
        lia
def ki(k:Int)(r:List (Int × Bool)):Rat:=(r.map fun p=>if p.1=k then(1:Rat) else 0).sum
def eR(W:aC)(T:List Nd)(k:Int)(m:Nat)(l:Int):Rat:=SR W.ties.length (fun a=>wR W.ties a*ki k (rn T a m l))
theorem yF{W:aC}{T:List Nd}{k:Int}{m:Nat}:eR W T k m (-1)=0:=by
  unfold eR
  refine Eq.trans (cq (g:=fun _=>0) fun r _=>?_) qY
  rw [lc (by decide)]
  unfold ki
  simp only [List.map_nil,List.sum_nil]
  grind
def gK(k:Int)(x:Nd):Rat:=if x.tie=k then 1 else 0
theorem A0{W:aC}(ok:W.Ok):∀t∈W.ties,0 < t.bot:=fun t ht=>by have:=(ok.ties t ht).b0;lia
theorem Dj{W:aC}(ok:W.Ok){T:List Nd}{S:Nat→Std}(h:bN W T S){k:Int}{m i:Nat}{x:Nd}(hx:T[i]?=some x):eR W T k (m+1) (i:Int)=gK k x+cR (W.tie x.tie) true*eR W T k m x.yes+cR (W.tie x.tie) false*eR W T k m x.no:=by
  have nd:=h i x hx
  have t0:=nd.tie.1
  have t1:=nd.tie.2
  have hb:=A0 ok
  have one:=vN W.ties.length W.ties rfl hb
  have part:∀b:Bool,SR W.ties.length (fun a=>if a.getD x.tie.toNat false=b then wR W.ties a*ki k (rn T a m (iV x b)) else 0)=cR (W.tie x.tie) b*eR W T k m (iV x b):=fun b=>by
    refine CJ W.ties.length W.ties rfl hb x.tie.toNat (by lia) b (fun a=>ki k (rn T a m (iV x b))) fun r c _=>?_
    rw [z_ h t0 m (iV x b) ?_]
    rcases oK nd b with z | ⟨z1,z2,z3⟩
    · exact .inl z
    · refine .inr ⟨z1,z2,?_⟩
      rw [z3]
      exact vY.mpr (.inr rfl)
  have e:eR W T k (m+1) (i:Int)=SR W.ties.length (fun a=>gK k x*wR W.ties a+((if a.getD x.tie.toNat false=true then wR W.ties a*ki k (rn T a m (iV x true)) else 0)+(if a.getD x.tie.toNat false=false then wR W.ties a*ki k (rn T a m (iV x false)) else 0))):=by
    unfold eR
    refine cq fun a _=>?_
    rw [ka (T:=T) (l:=(i:Int)) (x:=x) (by lia) (by rw [Int.toNat_natCast];exact hx)]
    have:ki k ((x.tie,a.getD x.tie.toNat false)::rn T a m (iV x (a.getD x.tie.toNat false)))=gK k x+ki k (rn T a m (iV x (a.getD x.tie.toNat false))):=by
      unfold ki gK
      rw [List.map_cons,List.sum_cons]
    rw [this]
    cases a.getD x.tie.toNat false
    · rw [if_neg (by decide),if_pos rfl];grind
    · rw [if_pos rfl,if_neg (by decide)];grind
  rw [e,yn,yn,kQ,part,part,one]
  show gK k x*1+(cR (W.tie x.tie) true*eR W T k m x.yes+cR (W.tie x.tie) false*eR W T k m x.no)=_
  grind
theorem wn{W:aC}(ok:W.Ok){T:List Nd}{S:Nat→Std}(h:bN W T S){k l:Int}(hl:l= -1∨(0≤l∧l < (T.length:Int))):eR W T k 17 l=eR W T k 16 l:=by
  unfold eR
  refine cq fun a _=>?_
  rw [wK ok h 16 l (by
    rcases hl with z | ⟨z1,z2⟩
    · exact .inl z
    · exact .inr ⟨z1,z2,by have:=ok.len;lia⟩)]
theorem BI{l m:List Int}(hl:l.Nodup)(hm:m.Nodup)(h:∀x,x∈l↔ x∈m):l.Perm m:=by
  induction l generalizing m with
  | nil=>
    cases m with
    | nil=>exact .refl _
    | cons y r=>exact absurd ((h y).mpr (by simp)) (by simp)
  | cons x r ih=>
    have hx:x∈m:=(h x).mp (by simp)
    have nd:=List.nodup_cons.mp hl
    refine List.Perm.trans (.cons x (ih nd.2 (hm.erase x) fun y=>?_)) (List.perm_cons_erase hx).symm
    rw [hm.mem_erase_iff]
    constructor
    · intro hy
      exact⟨fun e=>nd.1 (e ▸ hy),(h y).mp (by simp [hy])⟩
    · rintro⟨ne,hy⟩
      rcases List.mem_cons.mp ((h y).mpr hy) with e | e
      · exact absurd e ne
      · exact e
def CM(T:List Nd)(i:Nat):List Int:=(if fR T i true= -1 then [] else [fR T i true])++(if fR T i false= -1 then [] else [fR T i false])
def AQ(T:List Nd):Nat→List Int
  | 0=>[]
  | m+1=>AQ T m++CM T m
theorem lO{T:List Nd}{i:Nat}{y:Int}:y∈CM T i↔ y≠ -1∧∃b,fR T i b=y:=by
  unfold CM
  rw [List.mem_append]
  constructor
  · rintro(h | h)
    · split at h
      · cases h
      · rename_i c;simp at h;subst h;exact⟨c,true,rfl⟩
    · split at h
      · cases h
      · rename_i c;simp at h;subst h;exact⟨c,false,rfl⟩
  · rintro⟨ne,b,rfl⟩
    cases b
    · right;rw [if_neg ne];simp
    · left;rw [if_neg ne];simp
theorem xD{T:List Nd}(u:sJ T)(i:Nat):(CM T i).Nodup:=by
  unfold CM
  split
  · split<;>simp
  · rename_i c
    split
    · simp
    · simp only [List.cons_append,List.nil_append,List.nodup_cons,List.mem_cons,List.not_mem_nil,or_false,not_false_eq_true,List.nodup_nil,and_true]
      intro e
      have:=u i i true false e c
      cases this.2
theorem nX{T:List Nd}{y:Int}:∀m,y∈AQ T m↔ ∃i,i < m∧y∈CM T i
  | 0=>by simp [AQ]
  | m+1=>by
    rw [AQ,List.mem_append,nX m]
    constructor
    · rintro(⟨i,hi,h⟩ | h)
      · exact⟨i,by lia,h⟩
      · exact⟨m,by lia,h⟩
    · rintro⟨i,hi,h⟩
      by_cases c:i=m
      · subst c;exact .inr h
      · exact .inl ⟨i,by lia,h⟩
theorem qB{T:List Nd}(u:sJ T):∀m,(AQ T m).Nodup
  | 0=>List.nodup_nil
  | m+1=>by
    rw [AQ,List.nodup_append]
    refine⟨qB u m,xD u m,fun a ha b hb e=>?_⟩
    subst e
    obtain⟨i,hi,hm⟩:=(nX m).mp ha
    obtain⟨ne,b1,e1⟩:=lO.mp hm
    obtain⟨_,b2,e2⟩:=lO.mp hb
    have:=(u i m b1 b2 (by rw [e1,e2]) (by rw [e1];exact ne)).1
    lia
theorem y1{T:List Nd}{W:aC}{S:Nat→Std}(h:bN W T S)(o:lm T)(t:ku T):(0::AQ T T.length).Perm ((List.range (max 1 T.length)).map Int.ofNat):=by
  have lt:∀i b,fR T i b≠ -1→0 < fR T i b∧fR T i b < (T.length:Int):=fun i b ne=>by
    cases hx:T[i]? with
    | none=>exact absurd (cW hx) ne
    | some x=>
      rw [bS hx] at ne ⊢
      have r:=(oK (h i x hx) b).rng
      have:=BB o hx b
      rcases this with z | z
      · exact absurd z ne
      · lia
  refine BI (List.nodup_cons.mpr ⟨fun hm=>?_,qB t.1 _⟩) ?_ fun y=>?_
  · obtain⟨i,_,hi⟩:=(nX _).mp hm
    obtain⟨ne,b,e⟩:=lO.mp hi
    have:=lt i b (by rw [e];exact ne)
    lia
  · exact List.Pairwise.map _ (fun a b hab e=>hab (Int.ofNat.inj e)) List.nodup_range
  · rw [List.mem_cons,nX,List.mem_map]
    constructor
    · rintro(rfl | ⟨i,_,hi⟩)
      · exact⟨0,by simp;lia,rfl⟩
      · obtain⟨ne,b,e⟩:=lO.mp hi
        have:=lt i b (by rw [e];exact ne)
        refine⟨y.toNat,by simp;lia,?_⟩
        show(y.toNat:Int)=y
        lia
    · rintro⟨j,hj,rfl⟩
      by_cases c:j=0
      · left;subst c;rfl
      · right
        have hj':j < T.length:=by simp at hj;lia
        obtain⟨i,b,e⟩:=t.2 j (by lia) hj'
        have ne:fR T i b≠ -1:=by rw [e];lia
        have il:i < T.length:=by
          by_cases z:i < T.length
          · exact z
          · exact absurd (cW (List.getElem?_eq_none (by lia))) ne
        exact⟨i,il,lO.mpr ⟨by show(j:Int)≠ -1;lia,b,e⟩⟩
theorem G3{W:aC}{T:List Nd}{S:Nat→Std}(h:bN W T S)(o:lm T)(t:ku T)(hn:0 < T.length)(R:Nat→Rat)(U:Int→Rat)(g:Nat→Rat)(p:Nat→Bool→Rat)(U0:U (-1)=0)
    (hU:∀i,i < T.length→U (i:Int)=g i+(p i true*U (fR T i true)+p i false*U (fR T i false)))
    (hR:∀i b,fR T i b≠ -1→R (fR T i b).toNat=R i*p i b):R 0*U 0=((List.range T.length).map fun i=>R i*g i).sum:=by
  have F:∀m,m≤T.length→((List.range m).map fun i=>R i*U (i:Int)).sum=((List.range m).map fun i=>R i*g i).sum+((AQ T m).map fun l=>R l.toNat*U l).sum:=fun m=>by
    induction m with
    | zero=>intro _;simp only [List.range_zero,List.map_nil,List.sum_nil,AQ];grind
    | succ m ih=>
      intro hm
      have ih:=ih (by lia)
      rw [List.range_succ,List.map_append,List.map_append,cZ,cZ,ih,AQ,List.map_append,cZ]
      have hu:=hU m (by lia)
      have e:((CM T m).map fun l=>R l.toNat*U l).sum=R m*p m true*U (fR T m true)+R m*p m false*U (fR T m false):=by
        unfold CM
        rw [List.map_append,cZ]
        congr 1
        · split
          · rename_i c;rw [c,U0];simp only [List.map_nil,List.sum_nil];grind
          · rename_i c;simp only [List.map_cons,List.map_nil,List.sum_cons,List.sum_nil];rw [hR m true c];grind
        · split
          · rename_i c;rw [c,U0];simp only [List.map_nil,List.sum_nil];grind
          · rename_i c;simp only [List.map_cons,List.map_nil,List.sum_cons,List.sum_nil];rw [hR m false c];grind
      rw [e]
      simp only [List.map_cons,List.map_nil,List.sum_cons,List.sum_nil]
      rw [hu]
      grind
  have f:=F T.length (Nat.le_refl _)
  have pm:=y1 h o t
  rw [Nat.max_eq_right hn] at pm
  have s:=x9 (pm.map fun l=>R l.toNat*U l)
  rw [List.map_map,List.map_cons,List.sum_cons] at s
  have e:((List.range T.length).map (Function.comp (fun l=>R l.toNat*U l) Int.ofNat)).sum=((List.range T.length).map fun i=>R i*U (i:Int)).sum:=rfl
  rw [e] at s
  have z:R (0:Int).toNat*U 0=R 0*U 0:=rfl
  rw [z] at s
  grind
def rR(W:aC)(T:List Nd)(i:Nat):Rat:=vR ((a' W T T.length).getD i (1,1))
def pR(W:aC)(T:List Nd)(i:Nat)(b:Bool):Rat:=cR (W.tie (aQ T (i:Int)).tie) b
theorem mD{T:List Nd}{i:Nat}{x:Nd}(h:T[i]?=some x):aQ T (i:Int)=x:=CO (by lia) (by rw [Int.toNat_natCast];exact h)
theorem uO(W:aC)(k:Int)(b:Bool):ch W k b=qi (W.tie k) b:=rfl
theorem sk{W:aC}(ok:W.Ok){k:Int}(hk:km W k):0 < (W.tie k).bot:=A0 ok _ (List.mem_of_getElem? hk.get)
theorem B4{W:aC}(ok:W.Ok){T:List Nd}{S:Nat→Std}(h:bN W T S)(o:lm T)(t:ku T)(i:Nat)(b:Bool)(ne:fR T i b≠ -1):rR W T (fR T i b).toNat=rR W T i*pR W T i b:=by
  cases hx:T[i]? with
  | none=>exact absurd (cW hx) ne
  | some x=>
    rw [bS hx] at ne ⊢
    have il:=(List.getElem?_eq_some_iff.mp hx).1
    have f:=o_ h o t.1 T.length i il x b hx ne
    have one:=(fL.all ok h T.length).one ok h il
    unfold rR pR
    rw [f,mD hx,uO,qT one.pos (gY (sk ok (h i x hx).tie) b)]
    rfl
theorem uj{W:aC}(ok:W.Ok){T:List Nd}{S:Nat→Std}(h:bN W T S)(o:lm T)(t:ku T)(hn:0 < T.length)(U:Int→Rat)(g:Nat→Rat)(U0:U (-1)=0)
    (hU:∀(i:Nat) (x:Nd),T[i]?=some x→U (i:Int)=g i+cR (W.tie x.tie) true*U x.yes+cR (W.tie x.tie) false*U x.no):U 0=((List.range T.length).map fun i=>rR W T i*g i).sum:=by
  have e:=G3 h o t hn (rR W T) U g (pR W T) U0 (fun i hi=>by
    have hx:=List.getElem?_eq_getElem hi
    rw [hU i _ hx,bS hx,bS hx]
    unfold pR
    rw [mD hx]
    show _=g i+(cR _ true*U (T[i]).yes+cR _ false*U (T[i]).no)
    grind) (B4 ok h o t)
  have r0:rR W T 0=1:=by unfold rR;rw [vo o];exact EG
  rw [r0] at e
  grind
theorem Ak{W:aC}(ok:W.Ok){T:List Nd}{S:Nat→Std}(h:bN W T S){k:Int}(hk:km W k):∀m,m≤T.length→vR ((fV W T (a' W T T.length) m).getD k.toNat (0,1))=((List.range m).map fun i=>rR W T i*gK k (aQ T (i:Int))).sum
  | 0,_=>by
    simp only [List.range_zero,List.map_nil,List.sum_nil]
    rw [fV,List.getD_eq_getElem?_getD,List.getElem?_replicate]
    split<;>exact vL
  | m+1,hm=>by
    have hx:=List.getElem?_eq_getElem (show m < T.length by lia)
    have nd:=h m _ hx
    have ih:=Ak ok h hk m (by lia)
    have hs:=pP.all ok h (fL.all ok h T.length) m
    have one:=(fL.all ok h T.length).one ok h (show m < T.length by lia)
    rw [r9 hx,List.range_succ,List.map_append,cZ,←ih]
    simp only [List.map_cons,List.map_nil,List.sum_cons,List.sum_nil]
    rw [mD hx]
    unfold B6 gK
    have k0:=hk.1;have k1:=hk.2;have t0:=nd.tie.1;have t1:=nd.tie.2
    by_cases c:(T[m]).tie=k
    · rw [if_pos c,c]
      have kl:k.toNat < (fV W T (a' W T T.length) m).length:=by rw [hs.len];lia
      have sp:0 < ((fV W T (a' W T T.length) m).getD k.toNat (0,1)).2:=by
        rw [List.getD_eq_getElem?_getD,List.getElem?_eq_getElem kl]
        exact(hs.at' _ _ (List.getElem?_eq_getElem kl)).pos
      have e:((fV W T (a' W T T.length) m).set k.toNat (pl ((fV W T (a' W T T.length) m).getD k.toNat (0,1)) ((a' W T T.length).getD m (1,1)))).getD k.toNat (0,1)=pl ((fV W T (a' W T T.length) m).getD k.toNat (0,1)) ((a' W T T.length).getD m (1,1)):=by
        rw [List.getD_eq_getElem?_getD,List.getElem?_set_self kl]
        rfl
      rw [e,pJ sp one.pos]
      unfold rR
      grind
    · rw [if_neg c]
      have e:((fV W T (a' W T T.length) m).set (T[m]).tie.toNat (pl ((fV W T (a' W T T.length) m).getD (T[m]).tie.toNat (0,1)) ((a' W T T.length).getD m (1,1)))).getD k.toNat (0,1)=(fV W T (a' W T T.length) m).getD k.toNat (0,1):=by
        rw [List.getD_eq_getElem?_getD,List.getElem?_set_ne (by lia),←List.getD_eq_getElem?_getD]
      rw [e]
      grind
theorem Ep{W:aC}(ok:W.Ok){T:List Nd}{S:Nat→Std}(h:bN W T S)(o:lm T)(t:ku T){k:Int}(hk:km W k):vR ((fV W T (a' W T T.length) T.length).getD k.toNat (0,1))=eR W T k 17 (rt T):=by
  rw [Ak ok h hk _ (Nat.le_refl _)]
  by_cases c:T.length=0
  · rw [show rt T= -1 by unfold rt;rw [if_pos c],yF,c]
    simp only [List.range_zero,List.map_nil,List.sum_nil]
  · rw [show rt T=0 by unfold rt;rw [if_neg c]]
    refine(uj ok h o t (by lia) (fun l=>eR W T k 17 l) (fun i=>gK k (aQ T (i:Int))) yF fun i x hx=>?_).symm
    have nd:=h i x hx
    show eR W T k 17 (i:Int)=_
    rw [show(17:Nat)=16+1 from rfl,Dj ok h hx,mD hx]
    have fy:=wn ok h (k:=k) (l:=x.yes) (by rcases nd.yes with z | ⟨z1,z2,_⟩;exact .inl z;exact .inr ⟨z1,z2⟩)
    have fn:=wn ok h (k:=k) (l:=x.no) (by rcases nd.no with z | ⟨z1,z2,_⟩;exact .inl z;exact .inr ⟨z1,z2⟩)
    rw [←fy,←fn]
theorem li{a b:Fr}(ha:0 < a.2)(hb:0 < b.2):0 < (tm a b).2:=(kP.lowM (Int.mul_pos ha hb)).pos
def hR(t:iC):Rat:=cR t true*(t.worth:Rat)
theorem ye{W:aC}(ok:W.Ok){T:List Nd}{S:Nat→Std}(h:bN W T S)(o:lm T)(t:ku T):vR ((iT W T T.length++[(0,1)]).getD 0 (0,1))=((List.range T.length).map fun i=>rR W T i*hR (W.tie (aQ T (i:Int)).tie)).sum:=by
  by_cases c:T.length=0
  · have e:iT W T T.length=[]:=by apply List.eq_nil_of_length_eq_zero;rw [ja,c]
    rw [e,c]
    simp only [List.range_zero,List.map_nil,List.sum_nil]
    exact vL
  · have wl:=ja (W:=W) (T:=T) T.length
    have e:(iT W T T.length++[(0,1)]).getD 0 (0,1)=lk (iT W T T.length) 0:=by
      unfold lk
      rw [if_neg (by decide),List.getD_eq_getElem?_getD,List.getElem?_append_left (by lia),←List.getD_eq_getElem?_getD]
      rfl
    rw [e]
    refine uj ok h o t (by lia) (fun l=>vR (lk (iT W T T.length) l)) (fun i=>hR (W.tie (aQ T (i:Int)).tie)) (by unfold lk;rw [if_pos rfl];exact vL) fun i x hx=>?_
    have nd:=h i x hx
    have il:=(List.getElem?_eq_some_iff.mp hx).1
    have f:=sy (W:=W) o T.length (Nat.le_refl _) i x (by lia) hx
    have ws:=lq.all ok h T.length
    have py:=(qC ws nd.yes).pos
    have pn:=(qC ws nd.no).pos
    have b0:=sk ok nd.tie
    show vR (lk (iT W T T.length) (i:Int))=_
    have e2:lk (iT W T T.length) (i:Int)=aw W x.tie (lk (iT W T T.length) x.yes) (lk (iT W T T.length) x.no):=by
      conv=>lhs;unfold lk
      rw [if_neg (by lia),Int.toNat_natCast,List.getD_eq_getElem?_getD,f]
      rfl
    rw [e2,mD hx]
    unfold aw
    have pw:0 < (((W.tie x.tie).worth,1):Fr).2:=by show(0:Int) < 1;decide
    have c1:=gY b0 true
    have c2:=gY b0 false
    have q1:=(kP.pl pw py).pos
    rw [uO,uO,pJ (li c1 q1) (li c2 pn),qT c1 q1,qT c2 pn,pJ pw py,Az]
    unfold hR cR
    grind
def HS(ss:List Fr)(ts:List iC):Rat:=((ss.zip ts).map fun p=>vR p.1*hR p.2).sum
theorem yj:∀(ss:List Fr) (ts:List iC) (j:Nat) (v:Fr) (t:iC),j < ss.length→ts[j]?=some t→HS (ss.set j v) ts=HS ss ts+(vR v - vR (ss.getD j (0,1)))*hR t
  | [],_,j,_,_,h,_=>by simp at h
  | s::ss,[],j,_,_,_,h=>by simp at h
  | s::ss,u::ts,0,v,t,_,h=>by
    simp at h
    subst h
    show vR v*hR u+HS ss ts=vR s*hR u+HS ss ts+(vR v - vR s)*hR u
    grind
  | s::ss,u::ts,j+1,v,t,hj,h=>by
    have ih:=yj ss ts j v t (by simpa using hj) (by simpa using h)
    show vR s*hR u+HS (ss.set j v) ts=vR s*hR u+HS ss ts+(vR v - vR (ss.getD j (0,1)))*hR t
    rw [ih]
    grind
theorem vU:∀(n:Nat) (ts:List iC),HS (List.replicate n (0,1)) ts=0
  | 0,ts=>by unfold HS;simp
  | n+1,[]=>by unfold HS;simp
  | n+1,t::ts=>by
    show vR (0,1)*hR t+HS (List.replicate n (0,1)) ts=0
    rw [vU n ts,vL]
    grind
theorem yk{W:aC}(ok:W.Ok){T:List Nd}{S:Nat→Std}(h:bN W T S):∀m,m≤T.length→HS (fV W T (a' W T T.length) m) W.ties=((List.range m).map fun i=>rR W T i*hR (W.tie (aQ T (i:Int)).tie)).sum
  | 0,_=>by
    rw [fV,vU]
    simp only [List.range_zero,List.map_nil,List.sum_nil]
  | m+1,hm=>by
    have hx:=List.getElem?_eq_getElem (show m < T.length by lia)
    have nd:=h m _ hx
    have ih:=yk ok h m (by lia)
    have hs:=pP.all ok h (fL.all ok h T.length) m
    have one:=(fL.all ok h T.length).one ok h (show m < T.length by lia)
    have t0:=nd.tie.1;have t1:=nd.tie.2
    have kl:(T[m]).tie.toNat < (fV W T (a' W T T.length) m).length:=by rw [hs.len];lia
    have sp:0 < ((fV W T (a' W T T.length) m).getD (T[m]).tie.toNat (0,1)).2:=by
      rw [List.getD_eq_getElem?_getD,List.getElem?_eq_getElem kl]
      exact(hs.at' _ _ (List.getElem?_eq_getElem kl)).pos
    rw [r9 hx]
    unfold B6
    rw [yj _ _ _ _ _ kl nd.tie.get,ih,pJ sp one.pos,List.range_succ,List.map_append,cZ]
    simp only [List.map_cons,List.map_nil,List.sum_cons,List.sum_nil]
    rw [mD hx]
    unfold rR
    grind
end L2
namespace V22
open PySem PySem.Spec PyProof.Rows L2
variable{P:Program}{w:World}{K:W.Frag}{mg:Str→Option Value}{base:Heap}{f:Addr}{fd:FuncData}
local macro_rules|`(tactic|trivial)=>`(tactic|first|exact .inl rfl|exact .inr rfl|assumption)
local macro_rules|`(¬$n:num)=>`(@qw _ _ $n _ _ (by rfl) (by rfl) (by decide))
local macro_rules|`($a∘$b)=>`(@GQ _ _ _ _ _ _ $a $b (by rfl))
def top(i:Nat):Stmt:=PySem.Challenge.pw_askedpairs_k22_whole_shares_by_answers.main.body.getD i (.Pass ⟨0,0,0,0⟩)
theorem m9{α:Type u}{β:Type v}{f:α→β}:List.map f []=[]:=rfl
theorem m8{α:Type u}{β:Type v}{f:α→β}{a:α}{l:List α}:List.map f (a::l)=f a::List.map f l:=rfl
theorem m4{α:Type u}{l:List α}:[]++l=l:=rfl
theorem mZ{α:Type u}{a:α}{l m:List α}:(a::l)++m=a::(l++m):=rfl
theorem m6{α:Type u}{a:α}{l:List α}:(a::l)[0]?=some a:=rfl
theorem m7{α:Type u}{a:α}{l:List α}{i:Nat}:(a::l)[i+1]?=l[i]?:=rfl
theorem m5{α:Type u}{β:Type v}{a:α}{f:α→Option β}:Option.bind (some a) f=f a:=rfl
theorem m_{α:Type u}{β:Type v}{a:α}{f:α→β}:Option.map f (some a)=some (f a):=rfl
abbrev bV:Stmt:=top 3
abbrev gM:Stmt:=top 4
abbrev mL:Stmt:=top 5
abbrev i9:Stmt:=top 6
abbrev de:Stmt:=top 7
abbrev fm:Stmt:=top 10
abbrev dY:Stmt:=top 11
abbrev dZ:Stmt:=top 12
abbrev gg:Stmt:=top 13
abbrev dm:Stmt:=top 15
abbrev gN:Stmt:=top 16
abbrev cM:Stmt:=top 17
abbrev bU:Stmt:=top 18
abbrev fx:Stmt:=top 20
abbrev dk:Stmt:=top 21
abbrev l3:Stmt:=top 23
abbrev lZ:Stmt:=top 24
abbrev i8:Stmt:=top 25
abbrev tR:Stmt:=top 26
abbrev ph:Stmt:=top 27
abbrev mK:Stmt:=top 28
abbrev l4:Stmt:=top 29
abbrev pj:Stmt:=top 30
abbrev jO:Stmt:=top 31
abbrev l5:Stmt:=top 32
abbrev pk:Stmt:=top 33
abbrev tT:Stmt:=top 34
abbrev gf:Stmt:=top 35
abbrev tS:Stmt:=top 36
abbrev jN:Stmt:=top 37
abbrev gc:Stmt:=top 38
abbrev kd:Stmt:=top 39
abbrev bM:Stmt:=top 40
abbrev gL:Stmt:=top 41
abbrev dX:Stmt:=top 42
abbrev cn:Stmt:=top 43
abbrev pv:Stmt:=top 44
abbrev pz:Stmt:=top 45
structure iW (mg:Str→Option Value):Prop where
  b_abs:mg "abs"=none
  b_len:mg "len"=none
  b_min:mg "min"=none
  b_max:mg "max"=none
  b_range:mg "range"=none
  b_repr:mg "repr"=none
  b_tuple:mg "tuple"=none
  b_int:mg "int"=none
  b_sorted:mg "sorted"=none
  b_zip:mg "zip"=none
  b_enumerate:mg "enumerate"=none
  b_reversed:mg "reversed"=none
noncomputable def bB:FT:=(aK (aq (cK true) (ac 1) (vC (.int 0))))
noncomputable def b_:FS:=(nM 0 1 (aa (ac 1) (aa (aq bg (ac 0) (ac 1)) ah)))
noncomputable def iG:FS:=(ay (eD (2 ^ 4200) bB b_)
    (bo (aJ (g1 uS) (aa (ac 0) ah))))
noncomputable def bT:FM:=f9 2 0 ([0,1]++[]) iG
theorem ig:aB ["one","other"] ["one","other"] (aj bV):=⟨rfl,rfl,rfl,by decide+kernel,rfl,by decide+kernel,by decide+kernel⟩
theorem lV(h:aZ K mg "common_divisor" bV f fd ["one","other"])(T:iW mg):aF P w K mg base bv 1 f fd ["one","other"] (bz K 2 bT):=by
  have nd:=ig.nd
  exact h.fn ig rfl rfl (fun cdv A outer s H E hr=>(@af _ _ _ _ _ _ _ _ (@iQ _ _ _ _ _ _ _ _ _ PassesOwn.never (@bf _ _ _ _ _ _ _ _ _ (@rh _ _ _ rfl hr) (¬1) ae (be _))
      (@am _ _ _ _ _ (@zQ _ _ _ _ _ 0 1 _ _ _ _ _ _ _ _ _ rfl nd rfl rfl (by decide) rfl rfl ((¬1)∘((@a_ _ _ _ _ _ _ _ (¬0) (¬1))∘ab)) (by rfl) (by rfl))))
      (@am _ _ _ _ _ (@aG _ _ _ _ _ (@a9 _ _ _ _ _ _ _ _ _ (@b_abs _ _) (by rfl) T.b_abs ((¬0)∘ab) (by decide) (by decide) (by rfl) (by rfl))))))
noncomputable def sM:FS:=(ay (aV 2 (bO 2 bT (aa (ac 0) (aa (ac 1) ah))))
    (ay (kD (aK (aq yM (ac 1) (vC (.int 0))))
    (aV 2 (pN my (ac 2)))
    eC)
    (bo (bE (aa (aq ef (ac 0) (ac 2)) (aa (aq ef (ac 1) (ac 2)) ah))))))
noncomputable def dM:FM:=f9 2 1 ([2]++(([2]++[])++[])) sM
theorem qK:aB ["top","bottom","divisor"] ["top","bottom"] (aj gM):=⟨rfl,rfl,rfl,by decide+kernel,rfl,by decide+kernel,by decide+kernel⟩
theorem xO(h:aZ K mg "lowest" gM f fd ["top","bottom"])(T:iW mg){f_common_divisor:Addr}{e_common_divisor:FuncData}(h_common_divisor:aZ K mg "common_divisor" bV f_common_divisor e_common_divisor ["one","other"])(G_common_divisor:aF P w K mg base bv 1 f_common_divisor e_common_divisor ["one","other"] (bz K 2 bT)):aF P w K mg base bv 2 f fd ["top","bottom"] (bz K 2 dM):=by
  have nd:=qK.nd
  exact h.fn qK rfl rfl (fun cdv A outer s H E hr=>(@af _ _ _ _ _ _ _ _ (@az _ _ _ _ _ 2 _ _ nd rfl (Or.inl rfl) (@aR _ _ _ _ _ _ _ _ _ _ _ _ _ _ _ h_common_divisor G_common_divisor (hr.mono (by decide)) ((¬0)∘((¬1)∘ab)) (by rfl) (by decide) (by rfl) (by rfl)) (by rfl) (by trivial))
      (@af _ _ _ _ _ _ _ _ (@gH _ _ _ _ _ _ _ _ _ _ _ (@bf _ _ _ _ _ _ _ _ _ (@yA _ _) (¬1) ae (be _))
      (@am _ _ _ _ _ (@az _ _ _ _ _ 2 _ _ nd rfl (Or.inl rfl) (@nv _ _ _ _ _ (¬2)) (by rfl) (by trivial)))
      (@ck _ _))
      (@am _ _ _ _ _ (@aG _ _ _ _ _ (@aS _ _ _ _ _ _ ((@iu _ _ _ _ _ _ _ (¬0) (¬2))∘((@iu _ _ _ _ _ _ _ (¬1) (¬2))∘ab))))))))
noncomputable def yw:FS:=(bo (bO 2 dM (aa (aq bY (aq ce (aq bH (ac 0) (vC (.int 0))) (aq bH (ac 1) (vC (.int 1)))) (aq ce (aq bH (ac 1) (vC (.int 0))) (aq bH (ac 0) (vC (.int 1))))) (aa (aq ce (aq bH (ac 0) (vC (.int 1))) (aq bH (ac 1) (vC (.int 1)))) ah))))
noncomputable def i6:FM:=f9 2 0 [] yw
theorem wV:aB ["one","other"] ["one","other"] (aj mL):=⟨rfl,rfl,rfl,by decide+kernel,rfl,by decide+kernel,by decide+kernel⟩
theorem Br(h:aZ K mg "plus" mL f fd ["one","other"])(T:iW mg){f_lowest:Addr}{e_lowest:FuncData}(h_lowest:aZ K mg "lowest" gM f_lowest e_lowest ["top","bottom"])(G_lowest:aF P w K mg base bv 2 f_lowest e_lowest ["top","bottom"] (bz K 2 dM)):aF P w K mg base bv 3 f fd ["one","other"] (bz K 2 i6):=by
  have nd:=wV.nd
  exact h.fn wV rfl rfl (fun cdv A outer s H E hr=>(@am _ _ _ _ _ (@aG _ _ _ _ _ (@aR _ _ _ _ _ _ _ _ _ _ _ _ _ _ _ h_lowest G_lowest (hr.mono (by decide)) ((@bK _ _ _ _ _ _ _ rfl (@dQ _ _ _ _ _ _ _ rfl (@aO _ _ _ _ _ _ _ rfl (¬0) ae (fun _ _=>rfl)) (@aO _ _ _ _ _ _ _ rfl (¬1) ae (fun _ _=>rfl))) (@dQ _ _ _ _ _ _ _ rfl (@aO _ _ _ _ _ _ _ rfl (¬1) ae (fun _ _=>rfl)) (@aO _ _ _ _ _ _ _ rfl (¬0) ae (fun _ _=>rfl))))∘((@dQ _ _ _ _ _ _ _ rfl (@aO _ _ _ _ _ _ _ rfl (¬0) ae (fun _ _=>rfl)) (@aO _ _ _ _ _ _ _ rfl (¬1) ae (fun _ _=>rfl)))∘ab)) (by rfl) (by decide) (by rfl) (by rfl)))))
noncomputable def we:FS:=(bo (bO 2 dM (aa (aq ce (aq bH (ac 0) (vC (.int 0))) (aq bH (ac 1) (vC (.int 0)))) (aa (aq ce (aq bH (ac 0) (vC (.int 1))) (aq bH (ac 1) (vC (.int 1)))) ah))))
noncomputable def c_:FM:=f9 2 0 [] we
theorem t9:aB ["one","other"] ["one","other"] (aj i9):=⟨rfl,rfl,rfl,by decide+kernel,rfl,by decide+kernel,by decide+kernel⟩
theorem zh(h:aZ K mg "times" i9 f fd ["one","other"])(T:iW mg){f_lowest:Addr}{e_lowest:FuncData}(h_lowest:aZ K mg "lowest" gM f_lowest e_lowest ["top","bottom"])(G_lowest:aF P w K mg base bv 2 f_lowest e_lowest ["top","bottom"] (bz K 2 dM)):aF P w K mg base bv 3 f fd ["one","other"] (bz K 2 c_):=by
  have nd:=t9.nd
  exact h.fn t9 rfl rfl (fun cdv A outer s H E hr=>(@am _ _ _ _ _ (@aG _ _ _ _ _ (@aR _ _ _ _ _ _ _ _ _ _ _ _ _ _ _ h_lowest G_lowest (hr.mono (by decide)) ((@dQ _ _ _ _ _ _ _ rfl (@aO _ _ _ _ _ _ _ rfl (¬0) ae (fun _ _=>rfl)) (@aO _ _ _ _ _ _ _ rfl (¬1) ae (fun _ _=>rfl)))∘((@dQ _ _ _ _ _ _ _ rfl (@aO _ _ _ _ _ _ _ rfl (¬0) ae (fun _ _=>rfl)) (@aO _ _ _ _ _ _ _ rfl (¬1) ae (fun _ _=>rfl)))∘ab)) (by rfl) (by decide) (by rfl) (by rfl)))))
noncomputable def kS:FS:=(bo (bO 2 dM (aa (aq kZ (aq bH (ac 0) (vC (.int 1))) (aq bH (ac 0) (vC (.int 0)))) (aa (aq bH (ac 0) (vC (.int 1))) ah))))
noncomputable def bD:FM:=f9 1 0 [] kS
theorem nB:aB ["chance"] ["chance"] (aj de):=⟨rfl,rfl,rfl,by decide+kernel,rfl,by decide+kernel,by decide+kernel⟩
theorem tL(h:aZ K mg "one_less" de f fd ["chance"])(T:iW mg){f_lowest:Addr}{e_lowest:FuncData}(h_lowest:aZ K mg "lowest" gM f_lowest e_lowest ["top","bottom"])(G_lowest:aF P w K mg base bv 2 f_lowest e_lowest ["top","bottom"] (bz K 2 dM)):aF P w K mg base bv 3 f fd ["chance"] (bz K 1 bD):=by
  have nd:=nB.nd
  exact h.fn nB rfl rfl (fun cdv A outer s H E hr=>(@am _ _ _ _ _ (@aG _ _ _ _ _ (@aR _ _ _ _ _ _ _ _ _ _ _ _ _ _ _ h_lowest G_lowest (hr.mono (by decide)) ((@wD _ _ _ _ _ _ _ (@aO _ _ _ _ _ _ _ rfl (¬0) ae (fun _ _=>rfl)) (@aO _ _ _ _ _ _ _ rfl (¬0) ae (fun _ _=>rfl)))∘((@aO _ _ _ _ _ _ _ rfl (¬0) ae (fun _ _=>rfl))∘ab)) (by rfl) (by decide) (by rfl) (by rfl)))))
noncomputable def mS:FS:=(ay (jk (ut (ac 0) (fJ (vC (.int 2))) gG) (aX (ao (ag 3) (ao (ag 4) aU))))
    (bo (bO 2 i6 (aa (bO 2 c_ (aa (ac 3) (aa (bO 2 i6 (aa (bE (aa (ac 4) (aa (vC (.int 1)) ah))) (aa (ac 1) ah))) ah))) (aa (bO 2 c_ (aa (bO 1 bD (aa (ac 3) ah)) (aa (ac 2) ah))) ah)))))
noncomputable def e_:FM:=f9 3 2 (([3]++([4]++[]))++[]) mS
theorem l6:aB ["tie","yes","no","chance","worth"] ["tie","yes","no"] (aj fm):=⟨rfl,rfl,rfl,by decide+kernel,rfl,by decide+kernel,by decide+kernel⟩
theorem rP(h:aZ K mg "ask_worth" fm f fd ["tie","yes","no"])(T:iW mg){f_plus:Addr}{e_plus:FuncData}(h_plus:aZ K mg "plus" mL f_plus e_plus ["one","other"])(G_plus:aF P w K mg base bv 3 f_plus e_plus ["one","other"] (bz K 2 i6)){f_times:Addr}{e_times:FuncData}(h_times:aZ K mg "times" i9 f_times e_times ["one","other"])(G_times:aF P w K mg base bv 3 f_times e_times ["one","other"] (bz K 2 c_)){f_one_less:Addr}{e_one_less:FuncData}(h_one_less:aZ K mg "one_less" de f_one_less e_one_less ["chance"])(G_one_less:aF P w K mg base bv 3 f_one_less e_one_less ["chance"] (bz K 1 bD)):aF P w K mg base bv 4 f fd ["tie","yes","no"] (bz K 3 e_):=by
  have nd:=l6.nd
  exact h.fn l6 rfl rfl (fun cdv A outer s H E hr=>(@af _ _ _ _ _ _ _ _ (@jM _ _ _ _ _ _ _ _ (@j7 _ _ _ _ _ _ _ _ _ _ rfl (¬0) (@j_ _ _ _ _ ae) (@j8 _ _)) (@cT _ _ _ _ _ _ _ _ rfl rfl (@ax _ _ _ _ _ _ _ _ (@ap _ _ _ 3 _ nd rfl (Or.inl rfl) (by trivial)) (@ax _ _ _ _ _ _ _ _ (@ap _ _ _ 4 _ nd rfl (Or.inl rfl) (by trivial)) (@bP _ _) (by rfl)) (by rfl)) (aH (aH cQ)) (by rfl) (by rfl)) (by rfl) (by rfl) (by rfl))
      (@am _ _ _ _ _ (@aG _ _ _ _ _ (@aR _ _ _ _ _ _ _ _ _ _ _ _ _ _ _ h_plus G_plus (hr.mono (by decide)) ((@aR _ _ _ _ _ _ _ _ _ _ _ _ _ _ _ h_times G_times (hr.mono (by decide)) ((¬3)∘((@aR _ _ _ _ _ _ _ _ _ _ _ _ _ _ _ h_plus G_plus (hr.mono (by decide)) ((@aS _ _ _ _ _ _ ((¬4)∘(ae∘ab)))∘((¬1)∘ab)) (by rfl) (by decide) (by rfl) (by rfl))∘ab)) (by rfl) (by decide) (by rfl) (by rfl))∘((@aR _ _ _ _ _ _ _ _ _ _ _ _ _ _ _ h_times G_times (hr.mono (by decide)) ((@aR _ _ _ _ _ _ _ _ _ _ _ _ _ _ _ h_one_less G_one_less (hr.mono (by decide)) ((¬3)∘ab) (by rfl) (by decide) (by rfl) (by rfl))∘((¬2)∘ab)) (by rfl) (by decide) (by rfl) (by rfl))∘ab)) (by rfl) (by decide) (by rfl) (by rfl))))))
noncomputable def iZ:FS:=(bo (uo (aK (aq (cK false) (ac 1) (vC (.int (-1))))) (vC (.tuple [.int (0),.int (1)])) (aq bH (ac 0) (ac 1))))
noncomputable def cg:FM:=f9 2 0 [] iZ
theorem kL:aB ["worths","link"] ["worths","link"] (aj dY):=⟨rfl,rfl,rfl,by decide+kernel,rfl,by decide+kernel,by decide+kernel⟩
theorem pZ(h:aZ K mg "link_worth" dY f fd ["worths","link"])(T:iW mg){g_ZERO:Addr}(m_ZERO:mg "ZERO"=some (.ref g_ZERO))(c_ZERO:∀F,DA K F (.tuple [.int (0),.int (1)]) (.ref g_ZERO)){t_END:Tok}(m_END:mg "END"=some (.int (-1) t_END)):aF P w K mg base bv 1 f fd ["worths","link"] (bz K 2 cg):=by
  have nd:=kL.nd
  exact h.fn kL rfl rfl (fun cdv A outer s H E hr=>(@am _ _ _ _ _ (@aG _ _ _ _ _ (@o5 _ _ _ _ _ _ _ _ _ (@bf _ _ _ _ _ _ _ _ _ (@uK _ _ _ rfl hr) (¬1) (@ic _ _ _ (V.int (-1)) _ _ (PyData.int (-1)) rfl m_END ⟨_,rfl⟩ (fun _=>cc.mpr rfl) (by decide)) (be _)) (@ic _ _ _ (V.ref g_ZERO) _ _ (PyData.tuple [.int (0),.int (1)]) rfl m_ZERO rfl c_ZERO (by decide)) (@aO _ _ _ _ _ _ _ rfl (¬0) (¬1) (fun _ _=>rfl))))))
noncomputable def lx:FS:=(ay (jk (ac 1) (aX (ao (ag 3) (ao (ag 4) (ao (ag 5) aU)))))
    (bo (bO 3 e_ (aa (aq bH (aq bH (ac 0) (vC (.int 1))) (ac 3)) (aa (bO 2 cg (aa (ac 2) (aa (ac 4) ah))) (aa (bO 2 cg (aa (ac 2) (aa (ac 5) ah))) ah))))))
noncomputable def dN:FM:=f9 3 3 (([3]++([4]++([5]++[])))++[]) lx
theorem kM:aB ["web","node","worths","tie","yes","no"] ["web","node","worths"] (aj dZ):=⟨rfl,rfl,rfl,by decide+kernel,rfl,by decide+kernel,by decide+kernel⟩
theorem p0(h:aZ K mg "node_worth" dZ f fd ["web","node","worths"])(T:iW mg){f_ask_worth:Addr}{e_ask_worth:FuncData}(h_ask_worth:aZ K mg "ask_worth" fm f_ask_worth e_ask_worth ["tie","yes","no"])(G_ask_worth:aF P w K mg base bv 4 f_ask_worth e_ask_worth ["tie","yes","no"] (bz K 3 e_)){f_link_worth:Addr}{e_link_worth:FuncData}(h_link_worth:aZ K mg "link_worth" dY f_link_worth e_link_worth ["worths","link"])(G_link_worth:aF P w K mg base bv 1 f_link_worth e_link_worth ["worths","link"] (bz K 2 cg)):aF P w K mg base bv 5 f fd ["web","node","worths"] (bz K 3 dN):=by
  have nd:=kM.nd
  exact h.fn kM rfl rfl (fun cdv A outer s H E hr=>(@af _ _ _ _ _ _ _ _ (@jM _ _ _ _ _ _ _ _ (¬1) (@cT _ _ _ _ _ _ _ _ rfl rfl (@ax _ _ _ _ _ _ _ _ (@ap _ _ _ 3 _ nd rfl (Or.inl rfl) (by trivial)) (@ax _ _ _ _ _ _ _ _ (@ap _ _ _ 4 _ nd rfl (Or.inl rfl) (by trivial)) (@ax _ _ _ _ _ _ _ _ (@ap _ _ _ 5 _ nd rfl (Or.inl rfl) (by trivial)) (@bP _ _) (by rfl)) (by rfl)) (by rfl)) (aH (aH (aH cQ))) (by rfl) (by rfl)) (by rfl) (by rfl) (by rfl))
      (@am _ _ _ _ _ (@aG _ _ _ _ _ (@aR _ _ _ _ _ _ _ _ _ _ _ _ _ _ _ h_ask_worth G_ask_worth (hr.mono (by decide)) ((@aO _ _ _ _ _ _ _ rfl (@aO _ _ _ _ _ _ _ rfl (¬0) ae (fun _ _=>rfl)) (¬3) (fun _ _=>rfl))∘((@aR _ _ _ _ _ _ _ _ _ _ _ _ _ _ _ h_link_worth G_link_worth (hr.mono (by decide)) ((¬2)∘((¬4)∘ab)) (by rfl) (by decide) (by rfl) (by rfl))∘((@aR _ _ _ _ _ _ _ _ _ _ _ _ _ _ _ h_link_worth G_link_worth (hr.mono (by decide)) ((¬2)∘((¬5)∘ab)) (by rfl) (by decide) (by rfl) (by rfl))∘ab))) (by rfl) (by decide) (by rfl) (by rfl))))))
noncomputable def jI:FI:=(iL (bE (aa (bE (aa (ac 3) (aa (ac 5) ah))) (aa (bE (aa (ac 4) (aa (bO 1 bD (aa (ac 5) ah)) ah))) ah))))
noncomputable def cE:FT:=(aK (aq (cK true) (ac 0) (vC (.int (-1)))))
noncomputable def cF:FE:=(bE (aa (ac 0) (aa (ac 1) ah)))
noncomputable def qd:FS:=(ay (jk (ac 1) (aX (ao (ag 2) (ao (ag 3) (ao (ag 4) aU)))))
    (ay (aV 5 (aq bH (aq bH (aq bH (ac 0) (vC (.int 1))) (ac 2)) (vC (.int 2))))
    (bo (cw [] 2 jI (aX (ao (ag 0) (ao (ag 1) aU))) cE cF))))
noncomputable def iN:FM:=f9 2 4 (([2]++([3]++([4]++[])))++([5]++[])) qd
theorem pC:aB ["web","node","tie","yes","no","chance"] ["web","node"] (aj gg):=⟨rfl,rfl,rfl,by decide+kernel,rfl,by decide+kernel,by decide+kernel⟩
theorem vg(h:aZ K mg "ways_on" gg f fd ["web","node"])(T:iW mg){f_one_less:Addr}{e_one_less:FuncData}(h_one_less:aZ K mg "one_less" de f_one_less e_one_less ["chance"])(G_one_less:aF P w K mg base bv 3 f_one_less e_one_less ["chance"] (bz K 1 bD)){t_END:Tok}(m_END:mg "END"=some (.int (-1) t_END)):aF P w K mg base bv 4 f fd ["web","node"] (bz K 2 iN):=by
  have nd:=pC.nd
  exact h.fn pC rfl rfl (fun cdv A outer s H E hr=>(@af _ _ _ _ _ _ _ _ (@jM _ _ _ _ _ _ _ _ (¬1) (@cT _ _ _ _ _ _ _ _ rfl rfl (@ax _ _ _ _ _ _ _ _ (@ap _ _ _ 2 _ nd rfl (Or.inl rfl) (by trivial)) (@ax _ _ _ _ _ _ _ _ (@ap _ _ _ 3 _ nd rfl (Or.inl rfl) (by trivial)) (@ax _ _ _ _ _ _ _ _ (@ap _ _ _ 4 _ nd rfl (Or.inl rfl) (by trivial)) (@bP _ _) (by rfl)) (by rfl)) (by rfl)) (aH (aH (aH cQ))) (by rfl) (by rfl)) (by rfl) (by rfl) (by rfl))
      (@af _ _ _ _ _ _ _ _ (@az _ _ _ _ _ 5 _ _ nd rfl (Or.inl rfl) (@aO _ _ _ _ _ _ _ rfl (@aO _ _ _ _ _ _ _ rfl (@aO _ _ _ _ _ _ _ rfl (¬0) ae (fun _ _=>rfl)) (¬2) (fun _ _=>rfl)) ae (fun _ _=>rfl)) (by rfl) (by trivial))
      (@am _ _ _ _ _ (@aG _ _ _ _ _ (@i7 _ _ _ _ _ _ _ _ _ _ _ _ _ (aj gg) ["web","node","tie","yes","no","chance"] [] ["link","share"] rfl rfl rfl (@dS _ _ _ _ _ rfl (@aS _ _ _ _ _ _ ((@aS _ _ _ _ _ _ ((¬3)∘((¬5)∘ab)))∘((@aS _ _ _ _ _ _ ((¬4)∘((@aR _ _ _ _ _ _ _ _ _ _ _ _ _ _ _ h_one_less G_one_less (hr.mono (by decide)) ((¬5)∘ab) (by rfl) (by decide) (by rfl) (by rfl))∘ab)))∘ab))))
        (fun C s0 H0 fp=>(@cT _ _ _ _ _ _ _ _ rfl rfl (@ax _ _ _ _ _ _ _ _ (@ap _ _ _ 0 _ (show List.Nodup (["link","share"]:List Str) by decide+kernel) rfl (Or.inl rfl) (by trivial)) (@ax _ _ _ _ _ _ _ _ (@ap _ _ _ 1 _ (show List.Nodup (["link","share"]:List Str) by decide+kernel) rfl (Or.inl rfl) (by trivial)) (@bP _ _) (by rfl)) (by rfl)) (aH (aH cQ)) (by rfl) (by rfl))) (fun C s0 H0 fp=>(@oa _ _ _ _ (@bf _ _ _ _ _ _ _ _ _ (@rh _ _ _ rfl hr) (¬0) (@ic _ _ _ (V.int (-1)) _ _ (PyData.int (-1)) rfl m_END ⟨_,rfl⟩ (fun _=>cc.mpr rfl) (by decide)) (be _))))
        (fun C s0 H0 fp=>(@aS _ _ _ _ _ _ ((¬0)∘((¬1)∘ab)))) rfl (by decide+kernel) (by decide+kernel) (by decide+kernel) (by decide+kernel) (by decide+kernel) (by decide+kernel) (by decide+kernel) (by intro _;rfl)))))))
noncomputable def iq:FI:=(wz (aa (aJ (g1 ik) (aa (ac 1) ah)) ah))
noncomputable def eF:FS:=(nO (bO 3 dN (aa (ac 0) (aa (aq bH (ac 1) (ac 3)) (aa (ac 2) ah)))) (ac 2) (ac 3))
noncomputable def ky:FI:=(iL (ac 1))
noncomputable def ii:FE:=(vC (.tuple [.int (0),.int (1)]))
noncomputable def mV:FS:=(ay (aV 2 (cw [] 1 ky (ag 0) cv ii))
    (ay (cL ([3]++[]) iq (ag 3) eF)
    (bo (aJ (g1 cf) (aa (ac 2) ah)))))
noncomputable def fj:FM:=f9 2 2 ([2]++(([3]++[])++[])) mV
theorem l9:aB ["web","tree","worths","at"] ["web","tree"] (aj dm):=⟨rfl,rfl,rfl,by decide+kernel,rfl,by decide+kernel,by decide+kernel⟩
theorem rT(h:aZ K mg "worths_of" dm f fd ["web","tree"])(T:iW mg){f_node_worth:Addr}{e_node_worth:FuncData}(h_node_worth:aZ K mg "node_worth" dZ f_node_worth e_node_worth ["web","node","worths"])(G_node_worth:aF P w K mg base bv 5 f_node_worth e_node_worth ["web","node","worths"] (bz K 3 dN)){g_ZERO:Addr}(m_ZERO:mg "ZERO"=some (.ref g_ZERO))(c_ZERO:∀F,DA K F (.tuple [.int (0),.int (1)]) (.ref g_ZERO)):aF P w K mg base bv 6 f fd ["web","tree"] (bz K 2 fj):=by
  have nd:=l9.nd
  exact h.fn l9 rfl rfl (fun cdv A outer s H E hr=>(@af _ _ _ _ _ _ _ _ (@mI _ _ _ (2) _ _ _ _ _ _ _ _ _ _ _ _ _ (aj dm) ["web","tree","worths","at"] [] ["node"] rfl rfl rfl (@dS _ _ _ _ _ rfl (¬1))
        (fun C s0 H0 fp=>(@ap _ _ _ 0 _ (show List.Nodup (["node"]:List Str) by decide+kernel) rfl (Or.inl rfl) (by trivial))) (fun C s0 H0 fp=>(@ie _ _))
        (fun C s0 H0 fp=>(@ic _ _ _ (V.ref g_ZERO) _ _ (PyData.tuple [.int (0),.int (1)]) rfl m_ZERO rfl c_ZERO (by decide))) rfl (by decide+kernel) (by decide+kernel) (by decide+kernel) (by decide+kernel) (by decide+kernel) (by decide+kernel) (by decide+kernel) nd rfl rfl (by rfl) (by intro _;rfl))
      (@af _ _ _ _ _ _ _ _ (@cU _ _ _ _ _ _ _ _ _ _ _ PassesOwn.never rfl (@D' _ _ _ _ _ _ _ _ _ rfl T.b_reversed rfl T.b_range ((@a9 _ _ _ _ _ _ _ _ _ (@b_len _ _ rfl) (by rfl) T.b_len ((¬1)∘ab) (by decide) (by decide) (by rfl) (by rfl))∘ab) (by rfl) (by rfl)) (@ap _ _ _ 3 _ nd rfl (Or.inl rfl) (by trivial))
      (@am _ _ _ _ _ (@o6 _ _ _ _ _ _ _ _ _ _ (@aR _ _ _ _ _ _ _ _ _ _ _ _ _ _ _ h_node_worth G_node_worth (hr.mono (by decide)) ((¬0)∘((@aO _ _ _ _ _ _ _ rfl (¬1) (¬3) (fun _ _=>rfl))∘((¬2)∘ab))) (by rfl) (by decide) (by rfl) (by rfl)) (¬2) (¬3) (by intro _;rfl) (by rfl) (by rfl) (by rfl))) (by intro _;rfl))
      (@am _ _ _ _ _ (@aG _ _ _ _ _ (@a9 _ _ _ _ _ _ _ _ _ (@b_tuple _ _ rfl) (by rfl) T.b_tuple ((¬2)∘ab) (by decide) (by decide) (by rfl) (by rfl)))))))
noncomputable def kU:FS:=(bo (uo (aK (aq EL (aJ (g1 ik) (aa (ac 1) ah)) (vC (.int 0)))) (aq bH (bO 2 fj (aa (ac 0) (aa (ac 1) ah))) (vC (.int 0))) (vC (.tuple [.int (0),.int (1)]))))
noncomputable def eu:FM:=f9 2 0 [] kU
theorem nD:aB ["web","tree"] ["web","tree"] (aj gN):=⟨rfl,rfl,rfl,by decide+kernel,rfl,by decide+kernel,by decide+kernel⟩
theorem tM(h:aZ K mg "worth_of" gN f fd ["web","tree"])(T:iW mg){f_worths_of:Addr}{e_worths_of:FuncData}(h_worths_of:aZ K mg "worths_of" dm f_worths_of e_worths_of ["web","tree"])(G_worths_of:aF P w K mg base bv 6 f_worths_of e_worths_of ["web","tree"] (bz K 2 fj)){g_ZERO:Addr}(m_ZERO:mg "ZERO"=some (.ref g_ZERO))(c_ZERO:∀F,DA K F (.tuple [.int (0),.int (1)]) (.ref g_ZERO)):aF P w K mg base bv 7 f fd ["web","tree"] (bz K 2 eu):=by
  have nd:=nD.nd
  exact h.fn nD rfl rfl (fun cdv A outer s H E hr=>(@am _ _ _ _ _ (@aG _ _ _ _ _ (@o5 _ _ _ _ _ _ _ _ _ (@bf _ _ _ _ _ _ _ _ _ (@Dd _ _) (@a9 _ _ _ _ _ _ _ _ _ (@b_len _ _ rfl) (by rfl) T.b_len ((¬1)∘ab) (by decide) (by decide) (by rfl) (by rfl)) ae (be _)) (@aO _ _ _ _ _ _ _ rfl (@aR _ _ _ _ _ _ _ _ _ _ _ _ _ _ _ h_worths_of G_worths_of (hr.mono (by decide)) ((¬0)∘((¬1)∘ab)) (by rfl) (by decide) (by rfl) (by rfl)) ae (fun _ _=>rfl)) (@ic _ _ _ (V.ref g_ZERO) _ _ (PyData.tuple [.int (0),.int (1)]) rfl m_ZERO rfl c_ZERO (by decide))))))
noncomputable def jF:FI:=(iL (bO 2 iN (aa (ac 0) (aa (ac 4) ah))))
noncomputable def gn:FS:=(nO (bO 2 c_ (aa (aq bH (ac 2) (ac 3)) (aa (ac 6) ah))) (ac 2) (ac 5))
noncomputable def jG:FI:=(wx (aa (ac 1) ah))
noncomputable def cC:FS:=(cL (([5]++([6]++[]))++[]) jF (aX (ao (ag 5) (ao (ag 6) aU))) gn)
noncomputable def jH:FI:=(iL (ac 1))
noncomputable def gq:FE:=(vC (.tuple [.int (1),.int (1)]))
noncomputable def ly:FS:=(ay (aV 2 (cw [] 1 jH (ag 0) cv gq))
    (ay (cL (([3]++([4]++[]))++(([5]++([6]++[]))++[])) jG (aX (ao (ag 3) (ao (ag 4) aU))) cC)
    (bo (aJ (g1 cf) (aa (ac 2) ah)))))
noncomputable def dO:FM:=f9 2 5 ([2]++((([3]++([4]++[]))++(([5]++([6]++[]))++[]))++[])) ly
theorem kN:aB ["web","tree","reaches","at","node","link","chance"] ["web","tree"] (aj cM):=⟨rfl,rfl,rfl,by decide+kernel,rfl,by decide+kernel,by decide+kernel⟩
theorem p5(h:aZ K mg "reaches_of" cM f fd ["web","tree"])(T:iW mg){f_ways_on:Addr}{e_ways_on:FuncData}(h_ways_on:aZ K mg "ways_on" gg f_ways_on e_ways_on ["web","node"])(G_ways_on:aF P w K mg base bv 4 f_ways_on e_ways_on ["web","node"] (bz K 2 iN)){f_times:Addr}{e_times:FuncData}(h_times:aZ K mg "times" i9 f_times e_times ["one","other"])(G_times:aF P w K mg base bv 3 f_times e_times ["one","other"] (bz K 2 c_)){g_ONE:Addr}(m_ONE:mg "ONE"=some (.ref g_ONE))(c_ONE:∀F,DA K F (.tuple [.int (1),.int (1)]) (.ref g_ONE)):aF P w K mg base bv 5 f fd ["web","tree"] (bz K 2 dO):=by
  have nd:=kN.nd
  exact h.fn kN rfl rfl (fun cdv A outer s H E hr=>(@af _ _ _ _ _ _ _ _ (@mI _ _ _ (2) _ _ _ _ _ _ _ _ _ _ _ _ _ (aj cM) ["web","tree","reaches","at","node","link","chance"] [] ["node"] rfl rfl rfl (@dS _ _ _ _ _ rfl (¬1))
        (fun C s0 H0 fp=>(@ap _ _ _ 0 _ (show List.Nodup (["node"]:List Str) by decide+kernel) rfl (Or.inl rfl) (by trivial))) (fun C s0 H0 fp=>(@ie _ _))
        (fun C s0 H0 fp=>(@ic _ _ _ (V.ref g_ONE) _ _ (PyData.tuple [.int (1),.int (1)]) rfl m_ONE rfl c_ONE (by decide))) rfl (by decide+kernel) (by decide+kernel) (by decide+kernel) (by decide+kernel) (by decide+kernel) (by decide+kernel) (by decide+kernel) nd rfl rfl (by rfl) (by intro _;rfl))
      (@af _ _ _ _ _ _ _ _ (@cU _ _ _ _ _ _ _ _ _ _ _ PassesOwn.never rfl (@wF _ _ _ _ _ _ _ _ _ rfl rfl T.b_enumerate ((¬1)∘ab) (by rfl)) (@cT _ _ _ _ _ _ _ _ rfl rfl (@ax _ _ _ _ _ _ _ _ (@ap _ _ _ 3 _ nd rfl (Or.inl rfl) (by trivial)) (@ax _ _ _ _ _ _ _ _ (@ap _ _ _ 4 _ nd rfl (Or.inl rfl) (by trivial)) (@bP _ _) (by rfl)) (by rfl)) (aH (aH cQ)) (by rfl) (by rfl))
      (@am _ _ _ _ _ (@cU _ _ _ _ _ _ _ _ _ _ _ PassesOwn.never rfl (@dS _ _ _ _ _ rfl (@aR _ _ _ _ _ _ _ _ _ _ _ _ _ _ _ h_ways_on G_ways_on (hr.mono (by decide)) ((¬0)∘((¬4)∘ab)) (by rfl) (by decide) (by rfl) (by rfl))) (@cT _ _ _ _ _ _ _ _ rfl rfl (@ax _ _ _ _ _ _ _ _ (@ap _ _ _ 5 _ nd rfl (Or.inl rfl) (by trivial)) (@ax _ _ _ _ _ _ _ _ (@ap _ _ _ 6 _ nd rfl (Or.inl rfl) (by trivial)) (@bP _ _) (by rfl)) (by rfl)) (aH (aH cQ)) (by rfl) (by rfl))
      (@am _ _ _ _ _ (@o6 _ _ _ _ _ _ _ _ _ _ (@aR _ _ _ _ _ _ _ _ _ _ _ _ _ _ _ h_times G_times (hr.mono (by decide)) ((@aO _ _ _ _ _ _ _ rfl (¬2) (¬3) (fun _ _=>rfl))∘((¬6)∘ab)) (by rfl) (by decide) (by rfl) (by rfl)) (¬2) (¬5) (by intro _;rfl) (by rfl) (by rfl) (by rfl))) (by intro _;rfl))) (by intro _;rfl))
      (@am _ _ _ _ _ (@aG _ _ _ _ _ (@a9 _ _ _ _ _ _ _ _ _ (@b_tuple _ _ rfl) (by rfl) T.b_tuple ((¬2)∘ab) (by decide) (by decide) (by rfl) (by rfl)))))))
noncomputable def en:FI:=(oJ (aa (ac 1) (aa (bO 2 dO (aa (ac 0) (aa (ac 1) ah))) ah)))
noncomputable def cI:FS:=(nO (bO 2 i6 (aa (aq bH (ac 2) (aq bH (ac 3) (vC (.int 0)))) (aa (ac 4) ah))) (ac 2) (aq bH (ac 3) (vC (.int 0))))
noncomputable def er:FI:=(iL (aq bH (ac 0) (vC (.int 1))))
noncomputable def ek:FE:=(vC (.tuple [.int (0),.int (1)]))
noncomputable def jv:FS:=(ay (aV 2 (cw [] 1 er (ag 0) cv ek))
    (ay (cL (([3]++([4]++[]))++[]) en (aX (ao (ag 3) (ao (ag 4) aU))) cI)
    (bo (aJ (g1 cf) (aa (ac 2) ah)))))
noncomputable def cH:FM:=f9 2 3 ([2]++((([3]++([4]++[]))++[])++[])) jv
theorem jg:aB ["web","tree","shares","node","reach"] ["web","tree"] (aj bU):=⟨rfl,rfl,rfl,by decide+kernel,rfl,by decide+kernel,by decide+kernel⟩
theorem nL(h:aZ K mg "asked_shares" bU f fd ["web","tree"])(T:iW mg){f_reaches_of:Addr}{e_reaches_of:FuncData}(h_reaches_of:aZ K mg "reaches_of" cM f_reaches_of e_reaches_of ["web","tree"])(G_reaches_of:aF P w K mg base bv 5 f_reaches_of e_reaches_of ["web","tree"] (bz K 2 dO)){f_plus:Addr}{e_plus:FuncData}(h_plus:aZ K mg "plus" mL f_plus e_plus ["one","other"])(G_plus:aF P w K mg base bv 3 f_plus e_plus ["one","other"] (bz K 2 i6)){g_ZERO:Addr}(m_ZERO:mg "ZERO"=some (.ref g_ZERO))(c_ZERO:∀F,DA K F (.tuple [.int (0),.int (1)]) (.ref g_ZERO)):aF P w K mg base bv 6 f fd ["web","tree"] (bz K 2 cH):=by
  have nd:=jg.nd
  exact h.fn jg rfl rfl (fun cdv A outer s H E hr=>(@af _ _ _ _ _ _ _ _ (@mI _ _ _ (2) _ _ _ _ _ _ _ _ _ _ _ _ _ (aj bU) ["web","tree","shares","node","reach"] [] ["tie"] rfl rfl rfl (@dS _ _ _ _ _ rfl (@aO _ _ _ _ _ _ _ rfl (¬0) ae (fun _ _=>rfl)))
        (fun C s0 H0 fp=>(@ap _ _ _ 0 _ (show List.Nodup (["tie"]:List Str) by decide+kernel) rfl (Or.inl rfl) (by trivial))) (fun C s0 H0 fp=>(@ie _ _))
        (fun C s0 H0 fp=>(@ic _ _ _ (V.ref g_ZERO) _ _ (PyData.tuple [.int (0),.int (1)]) rfl m_ZERO rfl c_ZERO (by decide))) rfl (by decide+kernel) (by decide+kernel) (by decide+kernel) (by decide+kernel) (by decide+kernel) (by decide+kernel) (by decide+kernel) nd rfl rfl (by rfl) (by intro _;rfl))
      (@af _ _ _ _ _ _ _ _ (@cU _ _ _ _ _ _ _ _ _ _ _ PassesOwn.never rfl (@vm _ _ _ _ _ _ _ _ _ _ rfl rfl T.b_zip ((¬1)∘((@aR _ _ _ _ _ _ _ _ _ _ _ _ _ _ _ h_reaches_of G_reaches_of (hr.mono (by decide)) ((¬0)∘((¬1)∘ab)) (by rfl) (by decide) (by rfl) (by rfl))∘ab)) (by rfl) (by rfl)) (@cT _ _ _ _ _ _ _ _ rfl rfl (@ax _ _ _ _ _ _ _ _ (@ap _ _ _ 3 _ nd rfl (Or.inl rfl) (by trivial)) (@ax _ _ _ _ _ _ _ _ (@ap _ _ _ 4 _ nd rfl (Or.inl rfl) (by trivial)) (@bP _ _) (by rfl)) (by rfl)) (aH (aH cQ)) (by rfl) (by rfl))
      (@am _ _ _ _ _ (@o6 _ _ _ _ _ _ _ _ _ _ (@aR _ _ _ _ _ _ _ _ _ _ _ _ _ _ _ h_plus G_plus (hr.mono (by decide)) ((@aO _ _ _ _ _ _ _ rfl (¬2) (@aO _ _ _ _ _ _ _ rfl (¬3) ae (fun _ _=>rfl)) (fun _ _=>rfl))∘((¬4)∘ab)) (by rfl) (by decide) (by rfl) (by rfl)) (¬2) (@aO _ _ _ _ _ _ _ rfl (¬3) ae (fun _ _=>rfl)) (by intro _;rfl) (by rfl) (by rfl) (by rfl))) (by intro _;rfl))
      (@am _ _ _ _ _ (@aG _ _ _ _ _ (@a9 _ _ _ _ _ _ _ _ _ (@b_tuple _ _ rfl) (by rfl) T.b_tuple ((¬2)∘ab) (by decide) (by decide) (by rfl) (by rfl)))))))
noncomputable def io:FI:=(oJ (aa (ac 0) (aa (ac 1) ah)))
noncomputable def cx:FS:=(aV 2 (bO 2 c_ (aa (ac 2) (aa (uo (aK (ac 4)) (ac 3) (bO 1 bD (aa (ac 3) ah))) ah))))
noncomputable def mT:FS:=(ay (aV 2 (vC (.tuple [.int (1),.int (1)])))
    (ay (cL (([3]++([4]++[]))++[2]) io (aX (ao (ag 3) (ao (ag 4) aU))) cx)
    (bo (ac 2))))
noncomputable def ff:FM:=f9 2 3 ([2]++((([3]++([4]++[]))++[2])++[])) mT
theorem l7:aB ["chances","answers","product","chance","truth"] ["chances","answers"] (aj fx):=⟨rfl,rfl,rfl,by decide+kernel,rfl,by decide+kernel,by decide+kernel⟩
theorem rQ(h:aZ K mg "chance_by" fx f fd ["chances","answers"])(T:iW mg){f_times:Addr}{e_times:FuncData}(h_times:aZ K mg "times" i9 f_times e_times ["one","other"])(G_times:aF P w K mg base bv 3 f_times e_times ["one","other"] (bz K 2 c_)){f_one_less:Addr}{e_one_less:FuncData}(h_one_less:aZ K mg "one_less" de f_one_less e_one_less ["chance"])(G_one_less:aF P w K mg base bv 3 f_one_less e_one_less ["chance"] (bz K 1 bD)){g_ONE:Addr}(m_ONE:mg "ONE"=some (.ref g_ONE))(c_ONE:∀F,DA K F (.tuple [.int (1),.int (1)]) (.ref g_ONE)):aF P w K mg base bv 4 f fd ["chances","answers"] (bz K 2 ff):=by
  have nd:=l7.nd
  exact h.fn l7 rfl rfl (fun cdv A outer s H E hr=>(@af _ _ _ _ _ _ _ _ (@az _ _ _ _ _ 2 _ _ nd rfl (Or.inl rfl) (@ic _ _ _ (V.ref g_ONE) _ _ (PyData.tuple [.int (1),.int (1)]) rfl m_ONE rfl c_ONE (by decide)) (by rfl) (by trivial))
      (@af _ _ _ _ _ _ _ _ (@cU _ _ _ _ _ _ _ _ _ _ _ PassesOwn.never rfl (@vm _ _ _ _ _ _ _ _ _ _ rfl rfl T.b_zip ((¬0)∘((¬1)∘ab)) (by rfl) (by rfl)) (@cT _ _ _ _ _ _ _ _ rfl rfl (@ax _ _ _ _ _ _ _ _ (@ap _ _ _ 3 _ nd rfl (Or.inl rfl) (by trivial)) (@ax _ _ _ _ _ _ _ _ (@ap _ _ _ 4 _ nd rfl (Or.inl rfl) (by trivial)) (@bP _ _) (by rfl)) (by rfl)) (aH (aH cQ)) (by rfl) (by rfl))
      (@am _ _ _ _ _ (@az _ _ _ _ _ 2 _ _ nd rfl (Or.inl rfl) (@aR _ _ _ _ _ _ _ _ _ _ _ _ _ _ _ h_times G_times (hr.mono (by decide)) ((¬2)∘((@o5 _ _ _ _ _ _ _ _ _ (@o8 _ _ _ _ (¬4) (by intro _;rfl)) (¬3) (@aR _ _ _ _ _ _ _ _ _ _ _ _ _ _ _ h_one_less G_one_less (hr.mono (by decide)) ((¬3)∘ab) (by rfl) (by decide) (by rfl) (by rfl)))∘ab)) (by rfl) (by decide) (by rfl) (by rfl)) (by rfl) (by trivial))) (by intro _;rfl))
      (@am _ _ _ _ _ (@aG _ _ _ _ _ (¬2))))))
noncomputable def ip:FI:=(iL (aq bH (ac 0) (vC (.int 1))))
noncomputable def eG:FE:=(aq bH (ac 0) (vC (.int 2)))
noncomputable def mU:FS:=(bo (bO 2 ff (aa (cw [] 1 ip (ag 0) cv eG) (aa (ac 1) ah))))
noncomputable def fg:FM:=f9 2 0 [] mU
theorem l8:aB ["web","answers"] ["web","answers"] (aj dk):=⟨rfl,rfl,rfl,by decide+kernel,rfl,by decide+kernel,by decide+kernel⟩
theorem rS(h:aZ K mg "chance_of" dk f fd ["web","answers"])(T:iW mg){f_chance_by:Addr}{e_chance_by:FuncData}(h_chance_by:aZ K mg "chance_by" fx f_chance_by e_chance_by ["chances","answers"])(G_chance_by:aF P w K mg base bv 4 f_chance_by e_chance_by ["chances","answers"] (bz K 2 ff)):aF P w K mg base bv 5 f fd ["web","answers"] (bz K 2 fg):=by
  have nd:=l8.nd
  exact h.fn l8 rfl rfl (fun cdv A outer s H E hr=>(@am _ _ _ _ _ (@aG _ _ _ _ _ (@aR _ _ _ _ _ _ _ _ _ _ _ _ _ _ _ h_chance_by G_chance_by (hr.mono (by decide)) ((@i7 _ _ _ _ _ _ _ _ _ _ _ _ _ (aj dk) ["web","answers"] [] ["tie"] rfl rfl rfl (@dS _ _ _ _ _ rfl (@aO _ _ _ _ _ _ _ rfl (¬0) ae (fun _ _=>rfl)))
        (fun C s0 H0 fp=>(@ap _ _ _ 0 _ (show List.Nodup (["tie"]:List Str) by decide+kernel) rfl (Or.inl rfl) (by trivial))) (fun C s0 H0 fp=>(@ie _ _))
        (fun C s0 H0 fp=>(@aO _ _ _ _ _ _ _ rfl (¬0) ae (fun _ _=>rfl))) rfl (by decide+kernel) (by decide+kernel) (by decide+kernel) (by decide+kernel) (by decide+kernel) (by decide+kernel) (by decide+kernel) (by intro _;rfl))∘((¬1)∘ab)) (by rfl) (by decide) (by rfl) (by rfl)))))
noncomputable def wb:FS:=(ay (aV 2 (aq bg (aq bY (aq bY (aq ce (aq bg (ac 0) (vC (.int 2147483647))) (vC (.int 48271))) (aq ce (aq ce (vC (.int 7919)) (ac 1)) (ac 1))) (vC (.int 104729))) (vC (.int 2147483647))))
    (bo (aq bg (aq ce (ac 2) (ac 2)) (vC (.int 2147483629)))))
noncomputable def j4:FM:=f9 2 1 ([2]++[]) wb
theorem tW:aB ["_law_cell","_law_k","_law_number"] ["_law_cell","_law_k"] (aj l3):=⟨rfl,rfl,rfl,by decide+kernel,rfl,by decide+kernel,by decide+kernel⟩
theorem zc(h:aZ K mg "_law_mixed" l3 f fd ["_law_cell","_law_k"])(T:iW mg):aF P w K mg base bv 1 f fd ["_law_cell","_law_k"] (bz K 2 j4):=by
  have nd:=tW.nd
  exact h.fn tW rfl rfl (fun cdv A outer s H E hr=>(@af _ _ _ _ _ _ _ _ (@az _ _ _ _ _ 2 _ _ nd rfl (Or.inl rfl) (@a_ _ _ _ _ _ _ _ (@bK _ _ _ _ _ _ _ rfl (@bK _ _ _ _ _ _ _ rfl (@dQ _ _ _ _ _ _ _ rfl (@a_ _ _ _ _ _ _ _ (¬0) ae) ae) (@dQ _ _ _ _ _ _ _ rfl (@dQ _ _ _ _ _ _ _ rfl ae (¬1)) (¬1))) ae) ae) (by rfl) (by trivial))
      (@am _ _ _ _ _ (@aG _ _ _ _ _ (@a_ _ _ _ _ _ _ _ (@dQ _ _ _ _ _ _ _ rfl (¬2) (¬2)) ae)))))
noncomputable def fX:FT:=(kj (aK (aq AL (ac 3) (aq uT (vC (.int 10)) (vC (.int 18))))) (aK (aq yM (aJ (g1 ik) (aa (ac 1) ah)) (vC (.int 900)))))
noncomputable def jU:FS:=(ay (cO (bZ br (ac 1) (aa (aq bg (ac 3) (vC (.int 2147483629))) ah)))
    (aV 3 (aq ef (ac 3) (vC (.int 2147483629)))))
noncomputable def jZ:FI:=(dG (aa (vC (.int 12)) ah))
noncomputable def iD:FS:=(cO (bZ br (ac 1) (aa (bO 2 j4 (aa (bO 2 j4 (aa (ac 3) (aa (aq bY (aq ce (vC (.int 3)) (ac 4)) (vC (.int 1))) ah))) (aa (aq bY (aq bY (ac 4) (ac 2)) (vC (.int 2))) ah))) ah)))
noncomputable def mB:FI:=(dG (aa (aJ (g2 yN) (aa (aJ (g1 ik) (aa (ac 0) ah)) (aa (vC (.int 63)) ah))) ah))
noncomputable def fW:FS:=(ay (aV 3 (aJ (g1 uS) (aa (aq bH (ac 0) (ac 2)) ah)))
    (ay (kD (aK (aq yM (ac 3) (aq uT (vC (.int 10)) (vC (.int 18)))))
    (cL ([4]++[]) jZ (ag 4) iD)
    eC)
    (ay (eD (2 ^ 4200) fX jU)
    (kD (aK (aq AL (ac 3) (vC (.int 2147483629))))
    (cO (bZ br (ac 1) (aa (aq bg (ac 3) (vC (.int 2147483629))) ah)))
    eC))))
noncomputable def v_:FS:=(ay (aV 1 (cN ah))
    (ay (cL ([2]++([3]++((([4]++[])++[])++(([]++[3])++([]++[]))))) mB (ag 2) fW)
    (bo (ac 1))))
noncomputable def lP:FM:=f9 1 4 ([1]++(([2]++([3]++((([4]++[])++[])++(([]++[3])++([]++[])))))++[])) v_
theorem tU:aB ["_law_script","_law_drawn","_law_k","_law_cell","_law_j"] ["_law_script"] (aj lZ):=⟨rfl,rfl,rfl,by decide+kernel,rfl,by decide+kernel,by decide+kernel⟩
theorem y_(h:aZ K mg "_law_draws" lZ f fd ["_law_script"])(T:iW mg){fLmixed:Addr}{eLmixed:FuncData}(hLmixed:aZ K mg "_law_mixed" l3 fLmixed eLmixed ["_law_cell","_law_k"])(GLmixed:aF P w K mg base bv 1 fLmixed eLmixed ["_law_cell","_law_k"] (bz K 2 j4)):aF P w K mg base bv 2 f fd ["_law_script"] (bz K 1 lP):=by
  have nd:=tU.nd
  exact h.fn tU rfl rfl (fun cdv A outer s H E hr=>(@af _ _ _ _ _ _ _ _ (@az _ _ _ _ _ 1 _ _ nd rfl (Or.inl rfl) (@bF _ _ _ _ _ ab) (by rfl) (by trivial))
      (@af _ _ _ _ _ _ _ _ (@cU _ _ _ _ _ _ _ _ _ _ _ PassesOwn.never rfl (@eB _ _ _ _ _ _ _ rfl T.b_range ((@a9 _ _ _ _ _ _ _ _ _ (@b_min _ _ rfl) (by rfl) T.b_min ((@a9 _ _ _ _ _ _ _ _ _ (@b_len _ _ rfl) (by rfl) T.b_len ((¬0)∘ab) (by decide) (by decide) (by rfl) (by rfl))∘(ae∘ab)) (by decide) (by decide) (by rfl) (by rfl))∘ab) (by rfl)) (@ap _ _ _ 2 _ nd rfl (Or.inl rfl) (by trivial))
      (@af _ _ _ _ _ _ _ _ (@az _ _ _ _ _ 3 _ _ nd rfl (Or.inl rfl) (@a9 _ _ _ _ _ _ _ _ _ (@b_abs _ _) (by rfl) T.b_abs ((@aO _ _ _ _ _ _ _ rfl (¬0) (¬2) (fun _ _=>rfl))∘ab) (by decide) (by decide) (by rfl) (by rfl)) (by rfl) (by trivial))
      (@af _ _ _ _ _ _ _ _ (@gH _ _ _ _ _ _ _ _ _ _ _ (@bf _ _ _ _ _ _ _ _ _ (@yA _ _) (¬3) (@CU _ _ _ _ _ _ _ ae ae) (be _))
      (@am _ _ _ _ _ (@cU _ _ _ _ _ _ _ _ _ _ _ PassesOwn.never rfl (@eB _ _ _ _ _ _ _ rfl T.b_range (ae∘ab) (by rfl)) (@ap _ _ _ 4 _ nd rfl (Or.inl rfl) (by trivial))
      (@am _ _ _ _ _ (@dU _ _ _ _ _ (@dP _ _ _ _ _ _ _ _ _ rfl (¬1) ((@aR _ _ _ _ _ _ _ _ _ _ _ _ _ _ _ hLmixed GLmixed (hr.mono (by decide)) ((@aR _ _ _ _ _ _ _ _ _ _ _ _ _ _ _ hLmixed GLmixed (hr.mono (by decide)) ((¬3)∘((@bK _ _ _ _ _ _ _ rfl (@dQ _ _ _ _ _ _ _ rfl ae (¬4)) ae)∘ab)) (by rfl) (by decide) (by rfl) (by rfl))∘((@bK _ _ _ _ _ _ _ rfl (@bK _ _ _ _ _ _ _ rfl (¬4) (¬2)) ae)∘ab)) (by rfl) (by decide) (by rfl) (by rfl))∘ab) (by rfl) (by rfl) (by rfl) (by rfl) (by rfl)) (by rfl))) (by intro _;rfl)))
      (@ck _ _))
      (@af _ _ _ _ _ _ _ _ (@iQ _ _ _ _ _ _ _ _ _ PassesOwn.never (@xU _ _ _ _ (@vn _ _ _ _ _ _ _ _ (@bf _ _ _ _ _ _ _ _ _ (@xk _ _) (¬3) (@CU _ _ _ _ _ _ _ ae ae) (be _)) (@wG _ _ _ _ _ (@bf _ _ _ _ _ _ _ _ _ (@yA _ _) (@a9 _ _ _ _ _ _ _ _ _ (@b_len _ _ rfl) (by rfl) T.b_len ((¬1)∘ab) (by decide) (by decide) (by rfl) (by rfl)) ae (be _)))))
      (@af _ _ _ _ _ _ _ _ (@dU _ _ _ _ _ (@dP _ _ _ _ _ _ _ _ _ rfl (¬1) ((@a_ _ _ _ _ _ _ _ (¬3) ae)∘ab) (by rfl) (by rfl) (by rfl) (by rfl) (by rfl)) (by rfl))
      (@am _ _ _ _ _ (@az _ _ _ _ _ 3 _ _ nd rfl (Or.inl rfl) (@iu _ _ _ _ _ _ _ (¬3) ae) (by rfl) (by trivial)))))
      (@am _ _ _ _ _ (@gH _ _ _ _ _ _ _ _ _ _ _ (@bf _ _ _ _ _ _ _ _ _ (@xk _ _) (¬3) ae (be _))
      (@am _ _ _ _ _ (@dU _ _ _ _ _ (@dP _ _ _ _ _ _ _ _ _ rfl (¬1) ((@a_ _ _ _ _ _ _ _ (¬3) ae)∘ab) (by rfl) (by rfl) (by rfl) (by rfl) (by rfl)) (by rfl)))
      (@ck _ _)))))) (by intro _;rfl))
      (@am _ _ _ _ _ (@aG _ _ _ _ _ (¬1))))))
noncomputable def uI:FS:=(ay (kD (aK (aq (cK false) (ac 0) (cN ah)))
    (bo (vC (.int 0)))
    eC)
    (bo (bZ dJ (ac 0) (aa (vC (.int 0)) ah))))
noncomputable def bj:FM:=f9 1 0 (([]++[])++[]) uI
theorem wM:aB ["_law_drawn"] ["_law_drawn"] (aj i8):=⟨rfl,rfl,rfl,by decide+kernel,rfl,by decide+kernel,by decide+kernel⟩
theorem Bm(h:aZ K mg "_law_next" i8 f fd ["_law_drawn"])(T:iW mg):aF P w K mg base bv 1 f fd ["_law_drawn"] (bz K 1 bj):=by
  have nd:=wM.nd
  exact h.fn wM rfl rfl (fun cdv A outer s H E hr=>(@af _ _ _ _ _ _ _ _ (@gH _ _ _ _ _ _ _ _ _ _ _ (@bf _ _ _ _ _ _ _ _ _ (@uK _ _ _ rfl hr) (¬0) (@bF _ _ _ _ _ ab) (be _))
      (@am _ _ _ _ _ (@aG _ _ _ _ _ ae))
      (@ck _ _))
      (@am _ _ _ _ _ (@aG _ _ _ _ _ (@rY _ _ _ _ _ _ _ _ _ rfl (¬0) (ae∘ab) (by rfl) (by rfl) (by rfl) (by rfl) (by rfl))))))
noncomputable def lB:FT:=(aK (aq (cK true) (ac 1) (vC (.int 0))))
noncomputable def nR:FS:=(nM 0 1 (aa (ac 1) (aa (aq bg (ac 0) (ac 1)) ah)))
noncomputable def Cy:FS:=(ay (eD (2 ^ 4200) lB nR)
    (bo (aJ (g1 uS) (aa (ac 0) ah))))
noncomputable def tj:FM:=f9 2 0 ([0,1]++[]) Cy
theorem Af:aB ["_law_one","_law_other"] ["_law_one","_law_other"] (aj tR):=⟨rfl,rfl,rfl,by decide+kernel,rfl,by decide+kernel,by decide+kernel⟩
theorem Dz(h:aZ K mg "_law_gcd" tR f fd ["_law_one","_law_other"])(T:iW mg):aF P w K mg base bv 1 f fd ["_law_one","_law_other"] (bz K 2 tj):=by
  have nd:=Af.nd
  exact h.fn Af rfl rfl (fun cdv A outer s H E hr=>(@af _ _ _ _ _ _ _ _ (@iQ _ _ _ _ _ _ _ _ _ PassesOwn.never (@bf _ _ _ _ _ _ _ _ _ (@rh _ _ _ rfl hr) (¬1) ae (be _))
      (@am _ _ _ _ _ (@zQ _ _ _ _ _ 0 1 _ _ _ _ _ _ _ _ _ rfl nd rfl rfl (by decide) rfl rfl ((¬1)∘((@a_ _ _ _ _ _ _ _ (¬0) (¬1))∘ab)) (by rfl) (by rfl))))
      (@am _ _ _ _ _ (@aG _ _ _ _ _ (@a9 _ _ _ _ _ _ _ _ _ (@b_abs _ _) (by rfl) T.b_abs ((¬0)∘ab) (by decide) (by decide) (by rfl) (by rfl))))))
noncomputable def Cz:FS:=(ay (aV 2 (bO 2 tj (aa (ac 0) (aa (ac 1) ah))))
    (bo (bE (aa (aq ef (ac 0) (ac 2)) (aa (aq ef (ac 1) (ac 2)) ah)))))
noncomputable def kz:FM:=f9 2 1 ([2]++[]) Cz
theorem Ag:aB ["_law_top","_law_bottom","_law_common"] ["_law_top","_law_bottom"] (aj ph):=⟨rfl,rfl,rfl,by decide+kernel,rfl,by decide+kernel,by decide+kernel⟩
theorem DB(h:aZ K mg "_law_low" ph f fd ["_law_top","_law_bottom"])(T:iW mg){fLgcd:Addr}{eLgcd:FuncData}(hLgcd:aZ K mg "_law_gcd" tR fLgcd eLgcd ["_law_one","_law_other"])(GLgcd:aF P w K mg base bv 1 fLgcd eLgcd ["_law_one","_law_other"] (bz K 2 tj)):aF P w K mg base bv 2 f fd ["_law_top","_law_bottom"] (bz K 2 kz):=by
  have nd:=Ag.nd
  exact h.fn Ag rfl rfl (fun cdv A outer s H E hr=>(@af _ _ _ _ _ _ _ _ (@az _ _ _ _ _ 2 _ _ nd rfl (Or.inl rfl) (@aR _ _ _ _ _ _ _ _ _ _ _ _ _ _ _ hLgcd GLgcd (hr.mono (by decide)) ((¬0)∘((¬1)∘ab)) (by rfl) (by decide) (by rfl) (by rfl)) (by rfl) (by trivial))
      (@am _ _ _ _ _ (@aG _ _ _ _ _ (@aS _ _ _ _ _ _ ((@iu _ _ _ _ _ _ _ (¬0) (¬2))∘((@iu _ _ _ _ _ _ _ (¬1) (¬2))∘ab)))))))
noncomputable def yr:FS:=(bo (bO 2 kz (aa (aq bY (aq ce (aq bH (ac 0) (vC (.int 0))) (aq bH (ac 1) (vC (.int 1)))) (aq ce (aq bH (ac 1) (vC (.int 0))) (aq bH (ac 0) (vC (.int 1))))) (aa (aq ce (aq bH (ac 0) (vC (.int 1))) (aq bH (ac 1) (vC (.int 1)))) ah))))
noncomputable def jJ:FM:=f9 2 0 [] yr
theorem wN:aB ["_law_one","_law_other"] ["_law_one","_law_other"] (aj mK):=⟨rfl,rfl,rfl,by decide+kernel,rfl,by decide+kernel,by decide+kernel⟩
theorem Bn(h:aZ K mg "_law_plus" mK f fd ["_law_one","_law_other"])(T:iW mg){fLlow:Addr}{eLlow:FuncData}(hLlow:aZ K mg "_law_low" ph fLlow eLlow ["_law_top","_law_bottom"])(GLlow:aF P w K mg base bv 2 fLlow eLlow ["_law_top","_law_bottom"] (bz K 2 kz)):aF P w K mg base bv 3 f fd ["_law_one","_law_other"] (bz K 2 jJ):=by
  have nd:=wN.nd
  exact h.fn wN rfl rfl (fun cdv A outer s H E hr=>(@am _ _ _ _ _ (@aG _ _ _ _ _ (@aR _ _ _ _ _ _ _ _ _ _ _ _ _ _ _ hLlow GLlow (hr.mono (by decide)) ((@bK _ _ _ _ _ _ _ rfl (@dQ _ _ _ _ _ _ _ rfl (@aO _ _ _ _ _ _ _ rfl (¬0) ae (fun _ _=>rfl)) (@aO _ _ _ _ _ _ _ rfl (¬1) ae (fun _ _=>rfl))) (@dQ _ _ _ _ _ _ _ rfl (@aO _ _ _ _ _ _ _ rfl (¬1) ae (fun _ _=>rfl)) (@aO _ _ _ _ _ _ _ rfl (¬0) ae (fun _ _=>rfl))))∘((@dQ _ _ _ _ _ _ _ rfl (@aO _ _ _ _ _ _ _ rfl (¬0) ae (fun _ _=>rfl)) (@aO _ _ _ _ _ _ _ rfl (¬1) ae (fun _ _=>rfl)))∘ab)) (by rfl) (by decide) (by rfl) (by rfl)))))
noncomputable def wc:FS:=(bo (bO 2 kz (aa (aq ce (aq bH (ac 0) (vC (.int 0))) (aq bH (ac 1) (vC (.int 0)))) (aa (aq ce (aq bH (ac 0) (vC (.int 1))) (aq bH (ac 1) (vC (.int 1)))) ah))))
noncomputable def j5:FM:=f9 2 0 [] wc
theorem tX:aB ["_law_one","_law_other"] ["_law_one","_law_other"] (aj l4):=⟨rfl,rfl,rfl,by decide+kernel,rfl,by decide+kernel,by decide+kernel⟩
theorem ze(h:aZ K mg "_law_times" l4 f fd ["_law_one","_law_other"])(T:iW mg){fLlow:Addr}{eLlow:FuncData}(hLlow:aZ K mg "_law_low" ph fLlow eLlow ["_law_top","_law_bottom"])(GLlow:aF P w K mg base bv 2 fLlow eLlow ["_law_top","_law_bottom"] (bz K 2 kz)):aF P w K mg base bv 3 f fd ["_law_one","_law_other"] (bz K 2 j5):=by
  have nd:=tX.nd
  exact h.fn tX rfl rfl (fun cdv A outer s H E hr=>(@am _ _ _ _ _ (@aG _ _ _ _ _ (@aR _ _ _ _ _ _ _ _ _ _ _ _ _ _ _ hLlow GLlow (hr.mono (by decide)) ((@dQ _ _ _ _ _ _ _ rfl (@aO _ _ _ _ _ _ _ rfl (¬0) ae (fun _ _=>rfl)) (@aO _ _ _ _ _ _ _ rfl (¬1) ae (fun _ _=>rfl)))∘((@dQ _ _ _ _ _ _ _ rfl (@aO _ _ _ _ _ _ _ rfl (¬0) ae (fun _ _=>rfl)) (@aO _ _ _ _ _ _ _ rfl (¬1) ae (fun _ _=>rfl)))∘ab)) (by rfl) (by decide) (by rfl) (by rfl)))))
noncomputable def yt:FS:=(bo (aq (cK false) (aJ (g1 nj) (aa (ac 0) ah)) (aJ (g1 nj) (aa (ac 1) ah))))
noncomputable def mC:FM:=f9 2 0 [] yt
theorem wO:aB ["_law_found","_law_due"] ["_law_found","_law_due"] (aj pj):=⟨rfl,rfl,rfl,by decide+kernel,rfl,by decide+kernel,by decide+kernel⟩
theorem Bo(h:aZ K mg "_law_same" pj f fd ["_law_found","_law_due"])(T:iW mg):aF P w K mg base bv 1 f fd ["_law_found","_law_due"] (bz K 2 mC):=by
  have nd:=wO.nd
  exact h.fn wO rfl rfl (fun cdv A outer s H E hr=>(@am _ _ _ _ _ (@aG _ _ _ _ _ (@zM _ _ _ _ _ _ _ _ _ (@uK _ _ _ rfl hr) (@a9 _ _ _ _ _ _ _ _ _ (@b_repr _ _ _ rfl hr) (by rfl) T.b_repr ((¬0)∘ab) (by decide) (by decide) (by rfl) (by rfl)) (@a9 _ _ _ _ _ _ _ _ _ (@b_repr _ _ _ rfl hr) (by rfl) T.b_repr ((¬1)∘ab) (by decide) (by decide) (by rfl) (by rfl)) (be _)))))
noncomputable def jt:FS:=(ay (kD (aK (aq (cK false) (ac 1) (vC (.int 0))))
    (bo (aq bH (cN (aa (bE (aa (vC (.int 1)) (aa (vC (.int 2)) ah))) (aa (bE (aa (vC (.int 1)) (aa (vC (.int 3)) ah))) (aa (bE (aa (vC (.int 2)) (aa (vC (.int 3)) ah))) (aa (bE (aa (vC (.int 1)) (aa (vC (.int 1)) ah))) (aa (bE (aa (vC (.int 0)) (aa (vC (.int 1)) ah))) (aa (bE (aa (vC (.int 3)) (aa (vC (.int 4)) ah))) ah))))))) (aq bg (ac 0) (vC (.int 6)))))
    eC)
    (ay (kD (aK (aq (cK false) (ac 1) (vC (.int 1))))
    (ay (aV 2 (aq bY (vC (.int 2)) (aq bg (ac 0) (vC (.int 9)))))
    (bo (bO 2 kz (aa (aq bY (vC (.int 1)) (aq bg (aq ef (ac 0) (vC (.int 9))) (aq kZ (ac 2) (vC (.int 1))))) (aa (ac 2) ah)))))
    eC)
    (ay (kD (aK (aq (cK false) (ac 1) (vC (.int 2))))
    (ay (aV 2 (aq bY (vC (.int 1)) (aq bg (ac 0) (vC (.int 100)))))
    (bo (bO 2 kz (aa (aq bg (aq ef (ac 0) (vC (.int 100))) (aq bY (ac 2) (vC (.int 1)))) (aa (ac 2) ah)))))
    eC)
    (bo (bE (aa (vC (.int 1)) (aa (vC (.int 1)) ah)))))))
noncomputable def e6:FM:=f9 2 1 (([]++[])++((([2]++[])++[])++((([2]++[])++[])++[]))) jt
theorem qJ:aB ["_law_number","_law_kind","_law_bottom"] ["_law_number","_law_kind"] (aj jO):=⟨rfl,rfl,rfl,by decide+kernel,rfl,by decide+kernel,by decide+kernel⟩
theorem xN(h:aZ K mg "_law_chance" jO f fd ["_law_number","_law_kind"])(T:iW mg){fLlow:Addr}{eLlow:FuncData}(hLlow:aZ K mg "_law_low" ph fLlow eLlow ["_law_top","_law_bottom"])(GLlow:aF P w K mg base bv 2 fLlow eLlow ["_law_top","_law_bottom"] (bz K 2 kz)):aF P w K mg base bv 3 f fd ["_law_number","_law_kind"] (bz K 2 e6):=by
  have nd:=qJ.nd
  exact h.fn qJ rfl rfl (fun cdv A outer s H E hr=>(@af _ _ _ _ _ _ _ _ (@gH _ _ _ _ _ _ _ _ _ _ _ (@bf _ _ _ _ _ _ _ _ _ (@uK _ _ _ rfl hr) (¬1) ae (be _))
      (@am _ _ _ _ _ (@aG _ _ _ _ _ (@aO _ _ _ _ _ _ _ rfl (@bF _ _ _ _ _ ((@aS _ _ _ _ _ _ (ae∘(ae∘ab)))∘((@aS _ _ _ _ _ _ (ae∘(ae∘ab)))∘((@aS _ _ _ _ _ _ (ae∘(ae∘ab)))∘((@aS _ _ _ _ _ _ (ae∘(ae∘ab)))∘((@aS _ _ _ _ _ _ (ae∘(ae∘ab)))∘((@aS _ _ _ _ _ _ (ae∘(ae∘ab)))∘ab))))))) (@a_ _ _ _ _ _ _ _ (¬0) ae) (fun _ _=>rfl))))
      (@ck _ _))
      (@af _ _ _ _ _ _ _ _ (@gH _ _ _ _ _ _ _ _ _ _ _ (@bf _ _ _ _ _ _ _ _ _ (@uK _ _ _ rfl hr) (¬1) ae (be _))
      (@af _ _ _ _ _ _ _ _ (@az _ _ _ _ _ 2 _ _ nd rfl (Or.inl rfl) (@bK _ _ _ _ _ _ _ rfl ae (@a_ _ _ _ _ _ _ _ (¬0) ae)) (by rfl) (by trivial))
      (@am _ _ _ _ _ (@aG _ _ _ _ _ (@aR _ _ _ _ _ _ _ _ _ _ _ _ _ _ _ hLlow GLlow (hr.mono (by decide)) ((@bK _ _ _ _ _ _ _ rfl ae (@a_ _ _ _ _ _ _ _ (@iu _ _ _ _ _ _ _ (¬0) ae) (@wD _ _ _ _ _ _ _ (¬2) ae)))∘((¬2)∘ab)) (by rfl) (by decide) (by rfl) (by rfl)))))
      (@ck _ _))
      (@af _ _ _ _ _ _ _ _ (@gH _ _ _ _ _ _ _ _ _ _ _ (@bf _ _ _ _ _ _ _ _ _ (@uK _ _ _ rfl hr) (¬1) ae (be _))
      (@af _ _ _ _ _ _ _ _ (@az _ _ _ _ _ 2 _ _ nd rfl (Or.inl rfl) (@bK _ _ _ _ _ _ _ rfl ae (@a_ _ _ _ _ _ _ _ (¬0) ae)) (by rfl) (by trivial))
      (@am _ _ _ _ _ (@aG _ _ _ _ _ (@aR _ _ _ _ _ _ _ _ _ _ _ _ _ _ _ hLlow GLlow (hr.mono (by decide)) ((@a_ _ _ _ _ _ _ _ (@iu _ _ _ _ _ _ _ (¬0) ae) (@bK _ _ _ _ _ _ _ rfl (¬2) ae))∘((¬2)∘ab)) (by rfl) (by decide) (by rfl) (by rfl)))))
      (@ck _ _))
      (@am _ _ _ _ _ (@aG _ _ _ _ _ (@aS _ _ _ _ _ _ (ae∘(ae∘ab)))))))))
noncomputable def wd:FS:=(bo (aq bH (cN (aa (aq bg (ac 0) (vC (.int 7))) (aa (aq bY (vC (.int 5)) (aq bg (ac 0) (vC (.int 2)))) (aa (aq bg (ac 0) (vC (.int 1001))) (aa (aq kZ (vC (.int 1000)) (aq bg (ac 0) (vC (.int 3)))) ah))))) (aq bg (ac 1) (vC (.int 4)))))
noncomputable def lS:FM:=f9 2 0 [] wd
theorem tY:aB ["_law_number","_law_kind"] ["_law_number","_law_kind"] (aj l5):=⟨rfl,rfl,rfl,by decide+kernel,rfl,by decide+kernel,by decide+kernel⟩
theorem zg(h:aZ K mg "_law_worth" l5 f fd ["_law_number","_law_kind"])(T:iW mg):aF P w K mg base bv 1 f fd ["_law_number","_law_kind"] (bz K 2 lS):=by
  have nd:=tY.nd
  exact h.fn tY rfl rfl (fun cdv A outer s H E hr=>(@am _ _ _ _ _ (@aG _ _ _ _ _ (@aO _ _ _ _ _ _ _ rfl (@bF _ _ _ _ _ ((@a_ _ _ _ _ _ _ _ (¬0) ae)∘((@bK _ _ _ _ _ _ _ rfl ae (@a_ _ _ _ _ _ _ _ (¬0) ae))∘((@a_ _ _ _ _ _ _ _ (¬0) ae)∘((@wD _ _ _ _ _ _ _ ae (@a_ _ _ _ _ _ _ _ (¬0) ae))∘ab))))) (@a_ _ _ _ _ _ _ _ (¬1) ae) (fun _ _=>rfl)))))
noncomputable def oI:FI:=(dG (aa (ac 2) ah))
noncomputable def iF:FS:=(ay (aV 8 (bO 1 bj (aa (ac 0) ah)))
    (ay (aV 9 (aq bH (cN (aa (aq bg (ac 8) (ac 1)) (aa (vC (.int 0)) (aa (aq bg (ac 7) (ac 1)) (aa (aq bg (ac 8) (ac 1)) (aa (aq bg (ac 8) (vC (.int 2))) (aa (aq bg (ac 8) (ac 1)) ah))))))) (ac 3)))
    (ay (aV 10 (aq bg (aq bY (aq bY (ac 9) (vC (.int 1))) (aq bg (aq ef (ac 8) (vC (.int 12))) (aq kZ (ac 1) (vC (.int 1))))) (ac 1)))
    (ay (kD (aK (aq (cK false) (ac 3) (vC (.int 4))))
    (jk (bE (aa (vC (.int 0)) (aa (vC (.int 1)) ah))) (aX (ao (ag 9) (ao (ag 10) aU))))
    eC)
    (ay (aV 11 (bO 1 bj (aa (ac 0) ah)))
    (ay (aV 12 (bE (aa (aJ (g2 yN) (aa (ac 9) (aa (ac 10) ah))) (aa (aJ (g2 xu) (aa (ac 9) (aa (ac 10) ah))) ah))))
    (cO (bZ br (ac 6) (aa (aq bY (ac 12) (bE (aa (bO 2 e6 (aa (ac 11) (aa (ac 4) ah))) (aa (bO 2 lS (aa (aq ef (ac 11) (vC (.int 10007))) (aa (ac 5) ah))) ah)))) ah)))))))))
noncomputable def yu:FS:=(ay (aV 3 (aq bg (bO 1 bj (aa (ac 0) ah)) (vC (.int 6))))
    (ay (aV 4 (aq bg (bO 1 bj (aa (ac 0) ah)) (vC (.int 4))))
    (ay (aV 5 (aq bg (bO 1 bj (aa (ac 0) ah)) (vC (.int 4))))
    (ay (aV 6 (cN ah))
    (ay (cL ([7]++([8]++([9]++([10]++((([9]++([10]++[]))++[])++([11]++([12]++[]))))))) oI (ag 7) iF)
    (bo (aJ (g1 cf) (aa (ac 6) ah))))))))
noncomputable def oO:FM:=f9 3 10 ([3]++([4]++([5]++([6]++(([7]++([8]++([9]++([10]++((([9]++([10]++[]))++[])++([11]++([12]++[])))))))++[]))))) yu
theorem wQ:aB ["_law_drawn","_law_things","_law_many","_law_shape","_law_odds","_law_worths","_law_found","_law_k","_law_number","_law_one","_law_other","_law_cell","_law_ends"] ["_law_drawn","_law_things","_law_many"] (aj pk):=⟨rfl,rfl,rfl,by decide+kernel,rfl,by decide+kernel,by decide+kernel⟩
theorem Bp(h:aZ K mg "_law_ties" pk f fd ["_law_drawn","_law_things","_law_many"])(T:iW mg){fLnext:Addr}{eLnext:FuncData}(hLnext:aZ K mg "_law_next" i8 fLnext eLnext ["_law_drawn"])(GLnext:aF P w K mg base bv 1 fLnext eLnext ["_law_drawn"] (bz K 1 bj)){fLchance:Addr}{eLchance:FuncData}(hLchance:aZ K mg "_law_chance" jO fLchance eLchance ["_law_number","_law_kind"])(GLchance:aF P w K mg base bv 3 fLchance eLchance ["_law_number","_law_kind"] (bz K 2 e6)){fLworth:Addr}{eLworth:FuncData}(hLworth:aZ K mg "_law_worth" l5 fLworth eLworth ["_law_number","_law_kind"])(GLworth:aF P w K mg base bv 1 fLworth eLworth ["_law_number","_law_kind"] (bz K 2 lS)):aF P w K mg base bv 4 f fd ["_law_drawn","_law_things","_law_many"] (bz K 3 oO):=by
  have nd:=wQ.nd
  exact h.fn wQ rfl rfl (fun cdv A outer s H E hr=>(@af _ _ _ _ _ _ _ _ (@az _ _ _ _ _ 3 _ _ nd rfl (Or.inl rfl) (@a_ _ _ _ _ _ _ _ (@aR _ _ _ _ _ _ _ _ _ _ _ _ _ _ _ hLnext GLnext (hr.mono (by decide)) ((¬0)∘ab) (by rfl) (by decide) (by rfl) (by rfl)) ae) (by rfl) (by trivial))
      (@af _ _ _ _ _ _ _ _ (@az _ _ _ _ _ 4 _ _ nd rfl (Or.inl rfl) (@a_ _ _ _ _ _ _ _ (@aR _ _ _ _ _ _ _ _ _ _ _ _ _ _ _ hLnext GLnext (hr.mono (by decide)) ((¬0)∘ab) (by rfl) (by decide) (by rfl) (by rfl)) ae) (by rfl) (by trivial))
      (@af _ _ _ _ _ _ _ _ (@az _ _ _ _ _ 5 _ _ nd rfl (Or.inl rfl) (@a_ _ _ _ _ _ _ _ (@aR _ _ _ _ _ _ _ _ _ _ _ _ _ _ _ hLnext GLnext (hr.mono (by decide)) ((¬0)∘ab) (by rfl) (by decide) (by rfl) (by rfl)) ae) (by rfl) (by trivial))
      (@af _ _ _ _ _ _ _ _ (@az _ _ _ _ _ 6 _ _ nd rfl (Or.inl rfl) (@bF _ _ _ _ _ ab) (by rfl) (by trivial))
      (@af _ _ _ _ _ _ _ _ (@cU _ _ _ _ _ _ _ _ _ _ _ PassesOwn.never rfl (@eB _ _ _ _ _ _ _ rfl T.b_range ((¬2)∘ab) (by rfl)) (@ap _ _ _ 7 _ nd rfl (Or.inl rfl) (by trivial))
      (@af _ _ _ _ _ _ _ _ (@az _ _ _ _ _ 8 _ _ nd rfl (Or.inl rfl) (@aR _ _ _ _ _ _ _ _ _ _ _ _ _ _ _ hLnext GLnext (hr.mono (by decide)) ((¬0)∘ab) (by rfl) (by decide) (by rfl) (by rfl)) (by rfl) (by trivial))
      (@af _ _ _ _ _ _ _ _ (@az _ _ _ _ _ 9 _ _ nd rfl (Or.inl rfl) (@aO _ _ _ _ _ _ _ rfl (@bF _ _ _ _ _ ((@a_ _ _ _ _ _ _ _ (¬8) (¬1))∘(ae∘((@a_ _ _ _ _ _ _ _ (¬7) (¬1))∘((@a_ _ _ _ _ _ _ _ (¬8) (¬1))∘((@a_ _ _ _ _ _ _ _ (¬8) ae)∘((@a_ _ _ _ _ _ _ _ (¬8) (¬1))∘ab))))))) (¬3) (fun _ _=>rfl)) (by rfl) (by trivial))
      (@af _ _ _ _ _ _ _ _ (@az _ _ _ _ _ 10 _ _ nd rfl (Or.inl rfl) (@a_ _ _ _ _ _ _ _ (@bK _ _ _ _ _ _ _ rfl (@bK _ _ _ _ _ _ _ rfl (¬9) ae) (@a_ _ _ _ _ _ _ _ (@iu _ _ _ _ _ _ _ (¬8) ae) (@wD _ _ _ _ _ _ _ (¬1) ae))) (¬1)) (by rfl) (by trivial))
      (@af _ _ _ _ _ _ _ _ (@gH _ _ _ _ _ _ _ _ _ _ _ (@bf _ _ _ _ _ _ _ _ _ (@uK _ _ _ rfl hr) (¬3) ae (be _))
      (@am _ _ _ _ _ (@jM _ _ _ _ _ _ _ _ (@aS _ _ _ _ _ _ (ae∘(ae∘ab))) (@cT _ _ _ _ _ _ _ _ rfl rfl (@ax _ _ _ _ _ _ _ _ (@ap _ _ _ 9 _ nd rfl (Or.inl rfl) (by trivial)) (@ax _ _ _ _ _ _ _ _ (@ap _ _ _ 10 _ nd rfl (Or.inl rfl) (by trivial)) (@bP _ _) (by rfl)) (by rfl)) (aH (aH cQ)) (by rfl) (by rfl)) (by rfl) (by rfl) (by rfl)))
      (@ck _ _))
      (@af _ _ _ _ _ _ _ _ (@az _ _ _ _ _ 11 _ _ nd rfl (Or.inl rfl) (@aR _ _ _ _ _ _ _ _ _ _ _ _ _ _ _ hLnext GLnext (hr.mono (by decide)) ((¬0)∘ab) (by rfl) (by decide) (by rfl) (by rfl)) (by rfl) (by trivial))
      (@af _ _ _ _ _ _ _ _ (@az _ _ _ _ _ 12 _ _ nd rfl (Or.inl rfl) (@aS _ _ _ _ _ _ ((@a9 _ _ _ _ _ _ _ _ _ (@b_min _ _ rfl) (by rfl) T.b_min ((¬9)∘((¬10)∘ab)) (by decide) (by decide) (by rfl) (by rfl))∘((@a9 _ _ _ _ _ _ _ _ _ (@b_max _ _ rfl) (by rfl) T.b_max ((¬9)∘((¬10)∘ab)) (by decide) (by decide) (by rfl) (by rfl))∘ab))) (by rfl) (by trivial))
      (@am _ _ _ _ _ (@dU _ _ _ _ _ (@dP _ _ _ _ _ _ _ _ _ rfl (¬6) ((@bK _ _ _ _ _ _ _ rfl (¬12) (@aS _ _ _ _ _ _ ((@aR _ _ _ _ _ _ _ _ _ _ _ _ _ _ _ hLchance GLchance (hr.mono (by decide)) ((¬11)∘((¬4)∘ab)) (by rfl) (by decide) (by rfl) (by rfl))∘((@aR _ _ _ _ _ _ _ _ _ _ _ _ _ _ _ hLworth GLworth (hr.mono (by decide)) ((@iu _ _ _ _ _ _ _ (¬11) ae)∘((¬5)∘ab)) (by rfl) (by decide) (by rfl) (by rfl))∘ab))))∘ab) (by rfl) (by rfl) (by rfl) (by rfl) (by rfl)) (by rfl))))))))) (by intro _;rfl))
      (@am _ _ _ _ _ (@aG _ _ _ _ _ (@a9 _ _ _ _ _ _ _ _ _ (@b_tuple _ _ rfl) (by rfl) T.b_tuple ((¬6)∘ab) (by decide) (by decide) (by rfl) (by rfl))))))))))
noncomputable def rC:FI:=(dG (aa (ac 3) ah))
noncomputable def nS:FS:=(cO (bZ br (ac 7) (aa (aq bH (cN (aa (vC (.int 20)) (aa (aq bY (vC (.int 1)) (aq bg (bO 1 bj (aa (ac 0) ah)) (vC (.int 3)))) (aa (aq bg (bO 1 bj (aa (ac 0) ah)) (vC (.int 21))) ah)))) (ac 6)) ah)))
noncomputable def CA:FS:=(ay (aV 3 (aq bg (bO 1 bj (aa (ac 0) ah)) (aq bY (ac 1) (vC (.int 1)))))
    (ay (aV 4 (aq ce (aq bg (bO 1 bj (aa (ac 0) ah)) (aq bY (ac 2) (vC (.int 1)))) (aJ (g1 pV) (aa (aq EL (ac 3) (vC (.int 1))) ah))))
    (ay (aV 5 (bO 3 oO (aa (ac 0) (aa (aJ (g2 xu) (aa (vC (.int 2)) (aa (ac 3) ah))) (aa (ac 4) ah)))))
    (ay (aV 6 (aq bg (bO 1 bj (aa (ac 0) ah)) (vC (.int 3))))
    (ay (aV 7 (cN ah))
    (ay (cL ([8]++[]) rC (ag 8) nS)
    (ay (aV 9 (aq bH (cN (aa (vC (.int 40)) (aa (aq bY (vC (.int 1)) (aq bg (bO 1 bj (aa (ac 0) ah)) (aJ (g2 xu) (aa (vC (.int 1)) (aa (ac 4) ah))))) (aa (aq bg (bO 1 bj (aa (ac 0) ah)) (vC (.int 41))) ah)))) (aq bg (bO 1 bj (aa (ac 0) ah)) (vC (.int 3)))))
    (bo (bE (aa (ac 3) (aa (ac 5) (aa (aJ (g1 cf) (aa (ac 7) ah)) (aa (ac 9) ah)))))))))))))
noncomputable def tu:FM:=f9 3 7 ([3]++([4]++([5]++([6]++([7]++(([8]++[])++([9]++[]))))))) CA
theorem Ai:aB ["_law_drawn","_law_most","_law_ties_here","_law_things","_law_many","_law_rows","_law_way","_law_patience","_law_k","_law_asks"] ["_law_drawn","_law_most","_law_ties_here"] (aj tT):=⟨rfl,rfl,rfl,by decide+kernel,rfl,by decide+kernel,by decide+kernel⟩
theorem DD(h:aZ K mg "_law_web" tT f fd ["_law_drawn","_law_most","_law_ties_here"])(T:iW mg){fLties:Addr}{eLties:FuncData}(hLties:aZ K mg "_law_ties" pk fLties eLties ["_law_drawn","_law_things","_law_many"])(GLties:aF P w K mg base bv 4 fLties eLties ["_law_drawn","_law_things","_law_many"] (bz K 3 oO)){fLnext:Addr}{eLnext:FuncData}(hLnext:aZ K mg "_law_next" i8 fLnext eLnext ["_law_drawn"])(GLnext:aF P w K mg base bv 1 fLnext eLnext ["_law_drawn"] (bz K 1 bj)):aF P w K mg base bv 5 f fd ["_law_drawn","_law_most","_law_ties_here"] (bz K 3 tu):=by
  have nd:=Ai.nd
  exact h.fn Ai rfl rfl (fun cdv A outer s H E hr=>(@af _ _ _ _ _ _ _ _ (@az _ _ _ _ _ 3 _ _ nd rfl (Or.inl rfl) (@a_ _ _ _ _ _ _ _ (@aR _ _ _ _ _ _ _ _ _ _ _ _ _ _ _ hLnext GLnext (hr.mono (by decide)) ((¬0)∘ab) (by rfl) (by decide) (by rfl) (by rfl)) (@bK _ _ _ _ _ _ _ rfl (¬1) ae)) (by rfl) (by trivial))
      (@af _ _ _ _ _ _ _ _ (@az _ _ _ _ _ 4 _ _ nd rfl (Or.inl rfl) (@dQ _ _ _ _ _ _ _ rfl (@a_ _ _ _ _ _ _ _ (@aR _ _ _ _ _ _ _ _ _ _ _ _ _ _ _ hLnext GLnext (hr.mono (by decide)) ((¬0)∘ab) (by rfl) (by decide) (by rfl) (by rfl)) (@bK _ _ _ _ _ _ _ rfl (¬2) ae)) (@a9 _ _ _ _ _ _ _ _ _ (@b_int _ _) (by rfl) T.b_int ((@zM _ _ _ _ _ _ _ _ _ (@Dd _ _) (¬3) ae (be _))∘ab) (by decide) (by decide) (by rfl) (by rfl))) (by rfl) (by trivial))
      (@af _ _ _ _ _ _ _ _ (@az _ _ _ _ _ 5 _ _ nd rfl (Or.inl rfl) (@aR _ _ _ _ _ _ _ _ _ _ _ _ _ _ _ hLties GLties (hr.mono (by decide)) ((¬0)∘((@a9 _ _ _ _ _ _ _ _ _ (@b_max _ _ rfl) (by rfl) T.b_max (ae∘((¬3)∘ab)) (by decide) (by decide) (by rfl) (by rfl))∘((¬4)∘ab))) (by rfl) (by decide) (by rfl) (by rfl)) (by rfl) (by trivial))
      (@af _ _ _ _ _ _ _ _ (@az _ _ _ _ _ 6 _ _ nd rfl (Or.inl rfl) (@a_ _ _ _ _ _ _ _ (@aR _ _ _ _ _ _ _ _ _ _ _ _ _ _ _ hLnext GLnext (hr.mono (by decide)) ((¬0)∘ab) (by rfl) (by decide) (by rfl) (by rfl)) ae) (by rfl) (by trivial))
      (@af _ _ _ _ _ _ _ _ (@az _ _ _ _ _ 7 _ _ nd rfl (Or.inl rfl) (@bF _ _ _ _ _ ab) (by rfl) (by trivial))
      (@af _ _ _ _ _ _ _ _ (@cU _ _ _ _ _ _ _ _ _ _ _ PassesOwn.never rfl (@eB _ _ _ _ _ _ _ rfl T.b_range ((¬3)∘ab) (by rfl)) (@ap _ _ _ 8 _ nd rfl (Or.inl rfl) (by trivial))
      (@am _ _ _ _ _ (@dU _ _ _ _ _ (@dP _ _ _ _ _ _ _ _ _ rfl (¬7) ((@aO _ _ _ _ _ _ _ rfl (@bF _ _ _ _ _ (ae∘((@bK _ _ _ _ _ _ _ rfl ae (@a_ _ _ _ _ _ _ _ (@aR _ _ _ _ _ _ _ _ _ _ _ _ _ _ _ hLnext GLnext (hr.mono (by decide)) ((¬0)∘ab) (by rfl) (by decide) (by rfl) (by rfl)) ae))∘((@a_ _ _ _ _ _ _ _ (@aR _ _ _ _ _ _ _ _ _ _ _ _ _ _ _ hLnext GLnext (hr.mono (by decide)) ((¬0)∘ab) (by rfl) (by decide) (by rfl) (by rfl)) ae)∘ab)))) (¬6) (fun _ _=>rfl))∘ab) (by rfl) (by rfl) (by rfl) (by rfl) (by rfl)) (by rfl))) (by intro _;rfl))
      (@af _ _ _ _ _ _ _ _ (@az _ _ _ _ _ 9 _ _ nd rfl (Or.inl rfl) (@aO _ _ _ _ _ _ _ rfl (@bF _ _ _ _ _ (ae∘((@bK _ _ _ _ _ _ _ rfl ae (@a_ _ _ _ _ _ _ _ (@aR _ _ _ _ _ _ _ _ _ _ _ _ _ _ _ hLnext GLnext (hr.mono (by decide)) ((¬0)∘ab) (by rfl) (by decide) (by rfl) (by rfl)) (@a9 _ _ _ _ _ _ _ _ _ (@b_max _ _ rfl) (by rfl) T.b_max (ae∘((¬4)∘ab)) (by decide) (by decide) (by rfl) (by rfl))))∘((@a_ _ _ _ _ _ _ _ (@aR _ _ _ _ _ _ _ _ _ _ _ _ _ _ _ hLnext GLnext (hr.mono (by decide)) ((¬0)∘ab) (by rfl) (by decide) (by rfl) (by rfl)) ae)∘ab)))) (@a_ _ _ _ _ _ _ _ (@aR _ _ _ _ _ _ _ _ _ _ _ _ _ _ _ hLnext GLnext (hr.mono (by decide)) ((¬0)∘ab) (by rfl) (by decide) (by rfl) (by rfl)) ae) (fun _ _=>rfl)) (by rfl) (by trivial))
      (@am _ _ _ _ _ (@aG _ _ _ _ _ (@aS _ _ _ _ _ _ ((¬3)∘((¬5)∘((@a9 _ _ _ _ _ _ _ _ _ (@b_tuple _ _ rfl) (by rfl) T.b_tuple ((¬7)∘ab) (by decide) (by decide) (by rfl) (by rfl))∘((¬9)∘ab)))))))))))))))
noncomputable def nu:FI:=(iL (ac 1))
noncomputable def eK:FT:=(aK (aq (Bd false) (ac 0) (ut (aq bH (aq bH (ac 1) (vC (.int 1))) (ac 2)) gG (fJ (vC (.int 2))))))
noncomputable def eO:FE:=(ac 2)
noncomputable def qb:FS:=(bo (aJ (g1 ik) (aa (cw [(2,"_law_thing"),(0,"_law_web_here")] 1 nu (ag 2) eK eO) ah)))
noncomputable def fZ:FM:=f9 3 0 [] qb
theorem pB:aB ["_law_web_here","_law_asked","_law_thing"] ["_law_web_here","_law_asked","_law_thing"] (aj gf):=⟨rfl,rfl,rfl,by decide+kernel,rfl,by decide+kernel,by decide+kernel⟩
theorem vf(h:aZ K mg "_law_asks_of" gf f fd ["_law_web_here","_law_asked","_law_thing"])(T:iW mg):aF P w K mg base bv 1 f fd ["_law_web_here","_law_asked","_law_thing"] (bz K 3 fZ):=by
  have nd:=pB.nd
  exact h.fn pB rfl rfl (fun cdv A outer s H E hr=>(@am _ _ _ _ _ (@aG _ _ _ _ _ (@a9 _ _ _ _ _ _ _ _ _ (@b_len _ _ rfl) (by rfl) T.b_len ((@i7 _ _ _ _ _ _ _ _ _ _ _ _ _ (aj gf) ["_law_web_here","_law_asked","_law_thing"] [(2,"_law_thing"),(0,"_law_web_here")] ["_law_tie"] rfl rfl rfl (@dS _ _ _ _ _ rfl (¬1))
        (fun C s0 H0 fp=>(@ap _ _ _ 2 _ (show List.Nodup (["_law_thing","_law_web_here","_law_tie"]:List Str) by decide+kernel) rfl (Or.inl rfl) (by trivial))) (fun C s0 H0 fp=>(@oa _ _ _ _ (@bf _ _ _ _ _ _ _ _ _ (@De _ _ _ rfl hr) (¬0) (@j7 _ _ _ _ _ _ _ _ _ _ rfl (@aO _ _ _ _ _ _ _ rfl (@aO _ _ _ _ _ _ _ rfl (¬1) ae (fun _ _=>rfl)) (¬2) (fun _ _=>rfl)) (@j8 _ _) (@j_ _ _ _ _ ae)) (by with_unfolding_all rfl))))
        (fun C s0 H0 fp=>(¬2)) rfl (by decide+kernel) (by decide+kernel) (by decide+kernel) (by decide+kernel) (by decide+kernel) (by decide+kernel) (by decide+kernel) (by intro _;rfl))∘ab) (by decide) (by decide) (by rfl) (by rfl)))))
noncomputable def wy:FI:=(iL (ut (aq bH (aq bH (ac 0) (vC (.int 1))) (ac 2)) gG (fJ (vC (.int 2)))))
noncomputable def iY:FS:=(kD (uB (aK (aq (Bd false) (ac 5) (ac 4))) (aK (aq AL (bO 3 fZ (aa (ac 0) (aa (ac 3) (aa (ac 5) ah)))) (aq bH (aq bH (ac 0) (vC (.int 2))) (ac 5)))))
    (bo (vC (.bool false)))
    eC)
noncomputable def qc:FS:=(ay (jk (ac 1) (aX (ao (ag 3) (ao (ag 4) aU))))
    (ay (kD (uB (aK (aq (Bd false) (ac 2) (ac 3))) (aK (aq AL (aJ (g1 ik) (aa (ac 3) ah)) (aq bH (ac 0) (vC (.int 3))))))
    (bo (vC (.bool false)))
    eC)
    (ay (cL ([5]++([]++[])) wy (ag 5) iY)
    (bo (vC (.bool true))))))
noncomputable def lR:FM:=f9 3 3 (([3]++([4]++[]))++(([]++[])++(([5]++([]++[]))++[]))) qc
theorem Ah:aB ["_law_web_here","_law_stand","_law_tie","_law_asked","_law_taken","_law_thing"] ["_law_web_here","_law_stand","_law_tie"] (aj tS):=⟨rfl,rfl,rfl,by decide+kernel,rfl,by decide+kernel,by decide+kernel⟩
theorem DC(h:aZ K mg "_law_may" tS f fd ["_law_web_here","_law_stand","_law_tie"])(T:iW mg){fLasks_of:Addr}{eLasks_of:FuncData}(hLasks_of:aZ K mg "_law_asks_of" gf fLasks_of eLasks_of ["_law_web_here","_law_asked","_law_thing"])(GLasks_of:aF P w K mg base bv 1 fLasks_of eLasks_of ["_law_web_here","_law_asked","_law_thing"] (bz K 3 fZ)):aF P w K mg base bv 2 f fd ["_law_web_here","_law_stand","_law_tie"] (bz K 3 lR):=by
  have nd:=Ah.nd
  exact h.fn Ah rfl rfl (fun cdv A outer s H E hr=>(@af _ _ _ _ _ _ _ _ (@jM _ _ _ _ _ _ _ _ (¬1) (@cT _ _ _ _ _ _ _ _ rfl rfl (@ax _ _ _ _ _ _ _ _ (@ap _ _ _ 3 _ nd rfl (Or.inl rfl) (by trivial)) (@ax _ _ _ _ _ _ _ _ (@ap _ _ _ 4 _ nd rfl (Or.inl rfl) (by trivial)) (@bP _ _) (by rfl)) (by rfl)) (aH (aH cQ)) (by rfl) (by rfl)) (by rfl) (by rfl) (by rfl))
      (@af _ _ _ _ _ _ _ _ (@gH _ _ _ _ _ _ _ _ _ _ _ (@xU _ _ _ _ (@wH _ _ _ _ _ _ _ _ (@bf _ _ _ _ _ _ _ _ _ (@De _ _ _ rfl hr) (¬2) (¬3) (by with_unfolding_all rfl)) (@rZ _ _ _ _ _ (@bf _ _ _ _ _ _ _ _ _ (@xk _ _) (@a9 _ _ _ _ _ _ _ _ _ (@b_len _ _ rfl) (by rfl) T.b_len ((¬3)∘ab) (by decide) (by decide) (by rfl) (by rfl)) (@aO _ _ _ _ _ _ _ rfl (¬0) ae (fun _ _=>rfl)) (be _)))))
      (@am _ _ _ _ _ (@aG _ _ _ _ _ (@jL _ _ _ _ _)))
      (@ck _ _))
      (@af _ _ _ _ _ _ _ _ (@cU _ _ _ _ _ _ _ _ _ _ _ PassesOwn.never rfl (@dS _ _ _ _ _ rfl (@j7 _ _ _ _ _ _ _ _ _ _ rfl (@aO _ _ _ _ _ _ _ rfl (@aO _ _ _ _ _ _ _ rfl (¬0) ae (fun _ _=>rfl)) (¬2) (fun _ _=>rfl)) (@j8 _ _) (@j_ _ _ _ _ ae))) (@ap _ _ _ 5 _ nd rfl (Or.inl rfl) (by trivial))
      (@am _ _ _ _ _ (@gH _ _ _ _ _ _ _ _ _ _ _ (@xU _ _ _ _ (@wH _ _ _ _ _ _ _ _ (@bf _ _ _ _ _ _ _ _ _ (@De _ _ _ rfl hr) (¬5) (¬4) (by with_unfolding_all rfl)) (@rZ _ _ _ _ _ (@bf _ _ _ _ _ _ _ _ _ (@xk _ _) (@aR _ _ _ _ _ _ _ _ _ _ _ _ _ _ _ hLasks_of GLasks_of (hr.mono (by decide)) ((¬0)∘((¬3)∘((¬5)∘ab))) (by rfl) (by decide) (by rfl) (by rfl)) (@aO _ _ _ _ _ _ _ rfl (@aO _ _ _ _ _ _ _ rfl (¬0) ae (fun _ _=>rfl)) (¬5) (fun _ _=>rfl)) (be _)))))
      (@am _ _ _ _ _ (@aG _ _ _ _ _ (@jL _ _ _ _ _)))
      (@ck _ _))) (by intro _;rfl))
      (@am _ _ _ _ _ (@aG _ _ _ _ _ (@jL _ _ _ _ _)))))))
noncomputable def oz:FS:=(ay (jk (ac 1) (aX (ao (ag 4) (ao (ag 5) aU))))
    (ay (aV 6 (ac 5))
    (ay (kD (aK (ac 3))
    (aV 6 (aJ (g1 cf) (aa (aJ (g1 i3) (aa (aq bY (ac 5) (ut (aq bH (aq bH (ac 0) (vC (.int 1))) (ac 2)) gG (fJ (vC (.int 2))))) ah)) ah)))
    eC)
    (bo (bE (aa (aJ (g1 cf) (aa (aJ (g1 i3) (aa (aq bY (ac 4) (bE (aa (ac 2) ah))) ah)) ah)) (aa (ac 6) ah)))))))
noncomputable def eZ:FM:=f9 4 3 (([4]++([5]++[]))++([6]++(([6]++[])++[]))) oz
theorem qI:aB ["_law_web_here","_law_stand","_law_tie","_law_truth","_law_asked","_law_taken","_law_more"] ["_law_web_here","_law_stand","_law_tie","_law_truth"] (aj jN):=⟨rfl,rfl,rfl,by decide+kernel,rfl,by decide+kernel,by decide+kernel⟩
theorem xM(h:aZ K mg "_law_behind" jN f fd ["_law_web_here","_law_stand","_law_tie","_law_truth"])(T:iW mg):aF P w K mg base bv 1 f fd ["_law_web_here","_law_stand","_law_tie","_law_truth"] (bz K 4 eZ):=by
  have nd:=qI.nd
  exact h.fn qI rfl rfl (fun cdv A outer s H E hr=>(@af _ _ _ _ _ _ _ _ (@jM _ _ _ _ _ _ _ _ (¬1) (@cT _ _ _ _ _ _ _ _ rfl rfl (@ax _ _ _ _ _ _ _ _ (@ap _ _ _ 4 _ nd rfl (Or.inl rfl) (by trivial)) (@ax _ _ _ _ _ _ _ _ (@ap _ _ _ 5 _ nd rfl (Or.inl rfl) (by trivial)) (@bP _ _) (by rfl)) (by rfl)) (aH (aH cQ)) (by rfl) (by rfl)) (by rfl) (by rfl) (by rfl))
      (@af _ _ _ _ _ _ _ _ (@az _ _ _ _ _ 6 _ _ nd rfl (Or.inl rfl) (¬5) (by rfl) (by trivial))
      (@af _ _ _ _ _ _ _ _ (@gH _ _ _ _ _ _ _ _ _ _ _ (@o8 _ _ _ _ (¬3) (by intro _;rfl))
      (@am _ _ _ _ _ (@az _ _ _ _ _ 6 _ _ nd rfl (Or.inl rfl) (@a9 _ _ _ _ _ _ _ _ _ (@b_tuple _ _ rfl) (by rfl) T.b_tuple ((@a9 _ _ _ _ _ _ _ _ _ (@b_sorted _ _ rfl) (by rfl) T.b_sorted ((@bK _ _ _ _ _ _ _ rfl (¬5) (@j7 _ _ _ _ _ _ _ _ _ _ rfl (@aO _ _ _ _ _ _ _ rfl (@aO _ _ _ _ _ _ _ rfl (¬0) ae (fun _ _=>rfl)) (¬2) (fun _ _=>rfl)) (@j8 _ _) (@j_ _ _ _ _ ae)))∘ab) (by decide) (by decide) (by rfl) (by rfl))∘ab) (by decide) (by decide) (by rfl) (by rfl)) (by rfl) (by trivial)))
      (@ck _ _))
      (@am _ _ _ _ _ (@aG _ _ _ _ _ (@aS _ _ _ _ _ _ ((@a9 _ _ _ _ _ _ _ _ _ (@b_tuple _ _ rfl) (by rfl) T.b_tuple ((@a9 _ _ _ _ _ _ _ _ _ (@b_sorted _ _ rfl) (by rfl) T.b_sorted ((@bK _ _ _ _ _ _ _ rfl (¬4) (@aS _ _ _ _ _ _ ((¬2)∘ab)))∘ab) (by decide) (by decide) (by rfl) (by rfl))∘ab) (by decide) (by decide) (by rfl) (by rfl))∘((¬6)∘ab)))))))))
noncomputable def jC:FI:=(dG (aa (aJ (g1 ik) (aa (aq bH (ac 0) (vC (.int 1))) ah)) ah))
noncomputable def eJ:FT:=(aK (bO 3 lR (aa (ac 0) (aa (ac 1) (aa (ac 2) ah)))))
noncomputable def eN:FE:=(ac 2)
noncomputable def qa:FS:=(bo (cw [(0,"_law_web_here"),(1,"_law_stand")] 1 jC (ag 2) eJ eN))
noncomputable def iM:FM:=f9 2 0 [] qa
theorem pA:aB ["_law_web_here","_law_stand"] ["_law_web_here","_law_stand"] (aj gc):=⟨rfl,rfl,rfl,by decide+kernel,rfl,by decide+kernel,by decide+kernel⟩
theorem ve(h:aZ K mg "_law_askable" gc f fd ["_law_web_here","_law_stand"])(T:iW mg){fLmay:Addr}{eLmay:FuncData}(hLmay:aZ K mg "_law_may" tS fLmay eLmay ["_law_web_here","_law_stand","_law_tie"])(GLmay:aF P w K mg base bv 2 fLmay eLmay ["_law_web_here","_law_stand","_law_tie"] (bz K 3 lR)):aF P w K mg base bv 3 f fd ["_law_web_here","_law_stand"] (bz K 2 iM):=by
  have nd:=pA.nd
  exact h.fn pA rfl rfl (fun cdv A outer s H E hr=>(@am _ _ _ _ _ (@aG _ _ _ _ _ (@i7 _ _ _ _ _ _ _ _ _ _ _ _ _ (aj gc) ["_law_web_here","_law_stand"] [(0,"_law_web_here"),(1,"_law_stand")] ["_law_tie"] rfl rfl rfl (@eB _ _ _ _ _ _ _ rfl T.b_range ((@a9 _ _ _ _ _ _ _ _ _ (@b_len _ _ rfl) (by rfl) T.b_len ((@aO _ _ _ _ _ _ _ rfl (¬0) ae (fun _ _=>rfl))∘ab) (by decide) (by decide) (by rfl) (by rfl))∘ab) (by rfl))
        (fun C s0 H0 fp=>(@ap _ _ _ 2 _ (show List.Nodup (["_law_web_here","_law_stand","_law_tie"]:List Str) by decide+kernel) rfl (Or.inl rfl) (by trivial))) (fun C s0 H0 fp=>(@oa _ _ _ _ (@o8 _ _ _ _ (@aR _ _ _ _ _ _ _ _ _ _ _ _ _ _ _ hLmay GLmay (hr.mono (by decide)) ((¬0)∘((¬1)∘((¬2)∘ab))) (by rfl) (by decide) (by rfl) (by rfl)) (by intro _;rfl))))
        (fun C s0 H0 fp=>(¬2)) rfl (by decide+kernel) (by decide+kernel) (by decide+kernel) (by decide+kernel) (by decide+kernel) (by decide+kernel) (by decide+kernel) (by intro _;rfl)))))
noncomputable def qt:FI:=(yS 3)
noncomputable def jW:FE:=(aJ (g1 cf) (aa (ac 0) ah))
noncomputable def iH:FT:=(aK (aq (cK true) (ac 4) (cN ah)))
noncomputable def iE:FS:=(ay (jk (bZ dJ (ac 4) (aa (vC (.int 0)) ah)) (aX (ao (ag 5) (ao (ag 6) (ao (ag 7) aU)))))
    (ay (aV 8 (bO 2 iM (aa (ac 1) (aa (ac 5) ah))))
    (ay (aV 9 (bO 1 bj (aa (ac 0) ah)))
    (kD (kj (aK (aq (cK true) (ac 8) (cN ah))) (kj (aK (aq yM (fK 3) (ac 2))) (uB (aK (aq (cK true) (aq bg (ac 9) (vC (.int 7))) (vC (.int 6)))) (aK (aq yM (ac 6) (vC (.int 0)))))))
    (ay (aV 10 (aq bH (ac 8) (aq bg (aq ef (ac 9) (vC (.int 7))) (aJ (g1 ik) (aa (ac 8) ah)))))
    (ay (kD (aK (aq AL (ac 6) (vC (.int 0))))
    (qH 3 (fK 3) (ac 6) (xH (nC 1) (xI 7)))
    eC)
    (ay (cO (bZ br (ac 4) (aa (bE (aa (bO 4 eZ (aa (ac 1) (aa (ac 5) (aa (ac 10) (aa (vC (.bool true)) ah))))) (aa (fK 3) (aa (vC (.int 0)) ah)))) ah)))
    (ay (cO (bZ br (ac 4) (aa (bE (aa (bO 4 eZ (aa (ac 1) (aa (ac 5) (aa (ac 10) (aa (vC (.bool false)) ah))))) (aa (fK 3) (aa (vC (.int 1)) ah)))) ah)))
    (cO (uq 3 (cN (aa (ac 10) (aa (pN my (vC (.int 1))) (aa (pN my (vC (.int 1))) ah))))))))))
    eC))))
noncomputable def wa:FS:=(ay (Ae 3)
    (ay (aV 4 (cN (aa (bE (aa (bE (aa (bE ah) (aa (bE ah) ah))) (aa (pN my (vC (.int 1))) (aa (vC (.int 0)) ah)))) ah)))
    (ay (eD (2 ^ 4200) iH iE)
    (bo (aJ (g1 cf) (aa (cw [] 1 qt (ag 0) cv jW) ah))))))
noncomputable def lQ:FM:=f9 3 8 ([3]++([4]++((([5]++([6]++([7]++[])))++([8]++([9]++(([10]++(([]++[])++([]++([]++[]))))++[]))))++[]))) wa
theorem tV:aB ["_law_drawn","_law_web_here","_law_most","_law_nodes","_law_waiting","_law_stand","_law_parent","_law_side","_law_some","_law_number","_law_tie"] ["_law_drawn","_law_web_here","_law_most"] (aj kd):=⟨rfl,rfl,rfl,by decide+kernel,rfl,by decide+kernel,by decide+kernel⟩
theorem za(h:aZ K mg "_law_grown" kd f fd ["_law_drawn","_law_web_here","_law_most"])(T:iW mg){fLaskable:Addr}{eLaskable:FuncData}(hLaskable:aZ K mg "_law_askable" gc fLaskable eLaskable ["_law_web_here","_law_stand"])(GLaskable:aF P w K mg base bv 3 fLaskable eLaskable ["_law_web_here","_law_stand"] (bz K 2 iM)){fLnext:Addr}{eLnext:FuncData}(hLnext:aZ K mg "_law_next" i8 fLnext eLnext ["_law_drawn"])(GLnext:aF P w K mg base bv 1 fLnext eLnext ["_law_drawn"] (bz K 1 bj)){fLbehind:Addr}{eLbehind:FuncData}(hLbehind:aZ K mg "_law_behind" jN fLbehind eLbehind ["_law_web_here","_law_stand","_law_tie","_law_truth"])(GLbehind:aF P w K mg base bv 1 fLbehind eLbehind ["_law_web_here","_law_stand","_law_tie","_law_truth"] (bz K 4 eZ)):aF P w K mg base bv 4 f fd ["_law_drawn","_law_web_here","_law_most"] (bz K 3 lQ):=by
  have nd:=tV.nd
  exact h.fn tV rfl rfl (fun cdv A outer s H E hr=>(@af _ _ _ _ _ _ _ _ (@B1 _ _ _ _ _ _ 3 nd rfl (Or.inl rfl) (by rfl) (by trivial))
      (@af _ _ _ _ _ _ _ _ (@az _ _ _ _ _ 4 _ _ nd rfl (Or.inl rfl) (@bF _ _ _ _ _ ((@aS _ _ _ _ _ _ ((@aS _ _ _ _ _ _ ((@aS _ _ _ _ _ _ ab)∘((@aS _ _ _ _ _ _ ab)∘ab)))∘((@nv _ _ _ _ _ ae)∘(ae∘ab))))∘ab)) (by rfl) (by trivial))
      (@af _ _ _ _ _ _ _ _ (@iQ _ _ _ _ _ _ _ _ _ PassesOwn.never (@bf _ _ _ _ _ _ _ _ _ (@rh _ _ _ rfl hr) (¬4) (@bF _ _ _ _ _ ab) (be _))
      (@af _ _ _ _ _ _ _ _ (@jM _ _ _ _ _ _ _ _ (@rY _ _ _ _ _ _ _ _ _ rfl (¬4) (ae∘ab) (by rfl) (by rfl) (by rfl) (by rfl) (by rfl)) (@cT _ _ _ _ _ _ _ _ rfl rfl (@ax _ _ _ _ _ _ _ _ (@ap _ _ _ 5 _ nd rfl (Or.inl rfl) (by trivial)) (@ax _ _ _ _ _ _ _ _ (@ap _ _ _ 6 _ nd rfl (Or.inl rfl) (by trivial)) (@ax _ _ _ _ _ _ _ _ (@ap _ _ _ 7 _ nd rfl (Or.inl rfl) (by trivial)) (@bP _ _) (by rfl)) (by rfl)) (by rfl)) (aH (aH (aH cQ))) (by rfl) (by rfl)) (by rfl) (by rfl) (by rfl))
      (@af _ _ _ _ _ _ _ _ (@az _ _ _ _ _ 8 _ _ nd rfl (Or.inl rfl) (@aR _ _ _ _ _ _ _ _ _ _ _ _ _ _ _ hLaskable GLaskable (hr.mono (by decide)) ((¬1)∘((¬5)∘ab)) (by rfl) (by decide) (by rfl) (by rfl)) (by rfl) (by trivial))
      (@af _ _ _ _ _ _ _ _ (@az _ _ _ _ _ 9 _ _ nd rfl (Or.inl rfl) (@aR _ _ _ _ _ _ _ _ _ _ _ _ _ _ _ hLnext GLnext (hr.mono (by decide)) ((¬0)∘ab) (by rfl) (by decide) (by rfl) (by rfl)) (by rfl) (by trivial))
      (@am _ _ _ _ _ (@gH _ _ _ _ _ _ _ _ _ _ _ (@xU _ _ _ _ (@vn _ _ _ _ _ _ _ _ (@bf _ _ _ _ _ _ _ _ _ (@rh _ _ _ rfl hr) (¬8) (@bF _ _ _ _ _ ab) (be _)) (@vn _ _ _ _ _ _ _ _ (@bf _ _ _ _ _ _ _ _ _ (@yA _ _) (@rX _ _ _ _ _ _ 3 rfl (by rfl) (by first | exact Or.inl rfl | exact Or.inr (Or.inl rfl) | exact Or.inr (Or.inr rfl)) (by decide) (by decide) (by rfl) T.b_len (by rfl) (by rfl) (by rfl)) (¬2) (be _)) (@wG _ _ _ _ _ (@xU _ _ _ _ (@wH _ _ _ _ _ _ _ _ (@bf _ _ _ _ _ _ _ _ _ (@rh _ _ _ rfl hr) (@a_ _ _ _ _ _ _ _ (¬9) ae) ae (be _)) (@rZ _ _ _ _ _ (@bf _ _ _ _ _ _ _ _ _ (@yA _ _) (¬6) ae (be _)))))))))
      (@af _ _ _ _ _ _ _ _ (@az _ _ _ _ _ 10 _ _ nd rfl (Or.inl rfl) (@aO _ _ _ _ _ _ _ rfl (¬8) (@a_ _ _ _ _ _ _ _ (@iu _ _ _ _ _ _ _ (¬9) ae) (@a9 _ _ _ _ _ _ _ _ _ (@b_len _ _ rfl) (by rfl) T.b_len ((¬8)∘ab) (by decide) (by decide) (by rfl) (by rfl))) (fun _ _=>rfl)) (by rfl) (by trivial))
      (@af _ _ _ _ _ _ _ _ (@gH _ _ _ _ _ _ _ _ _ _ _ (@bf _ _ _ _ _ _ _ _ _ (@xk _ _) (¬6) ae (be _))
      (@am _ _ _ _ _ (@B2 _ _ _ _ _ _ 3 _ _ _ _ _ _ _ rfl (@rX _ _ _ _ _ _ 3 rfl (by rfl) (by first | exact Or.inl rfl | exact Or.inr (Or.inl rfl) | exact Or.inr (Or.inr rfl)) (by decide) (by decide) (by rfl) T.b_len (by rfl) (by rfl) (by rfl)) (by rfl) (by first | exact Or.inl rfl | exact Or.inr (Or.inl rfl) | exact Or.inr (Or.inr rfl)) (by decide) (by decide) (¬6) (fun _ _=>rfl) (@Ea _ _ _ _ _ _ _ (@Eb _ _ _ _ _) (@Ec _ _ _ _ 7 (by rfl) (by first | exact Or.inl rfl | exact Or.inr (Or.inl rfl) | exact Or.inr (Or.inr rfl)) (by decide) (by decide))) (by intro _;rfl) (by rfl) (by rfl) (by rfl)))
      (@ck _ _))
      (@af _ _ _ _ _ _ _ _ (@dU _ _ _ _ _ (@dP _ _ _ _ _ _ _ _ _ rfl (¬4) ((@aS _ _ _ _ _ _ ((@aR _ _ _ _ _ _ _ _ _ _ _ _ _ _ _ hLbehind GLbehind (hr.mono (by decide)) ((¬1)∘((¬5)∘((¬10)∘((@jL _ _ _ _ _)∘ab)))) (by rfl) (by decide) (by rfl) (by rfl))∘((@rX _ _ _ _ _ _ 3 rfl (by rfl) (by first | exact Or.inl rfl | exact Or.inr (Or.inl rfl) | exact Or.inr (Or.inr rfl)) (by decide) (by decide) (by rfl) T.b_len (by rfl) (by rfl) (by rfl))∘(ae∘ab))))∘ab) (by rfl) (by rfl) (by rfl) (by rfl) (by rfl)) (by rfl))
      (@af _ _ _ _ _ _ _ _ (@dU _ _ _ _ _ (@dP _ _ _ _ _ _ _ _ _ rfl (¬4) ((@aS _ _ _ _ _ _ ((@aR _ _ _ _ _ _ _ _ _ _ _ _ _ _ _ hLbehind GLbehind (hr.mono (by decide)) ((¬1)∘((¬5)∘((¬10)∘((@jL _ _ _ _ _)∘ab)))) (by rfl) (by decide) (by rfl) (by rfl))∘((@rX _ _ _ _ _ _ 3 rfl (by rfl) (by first | exact Or.inl rfl | exact Or.inr (Or.inl rfl) | exact Or.inr (Or.inr rfl)) (by decide) (by decide) (by rfl) T.b_len (by rfl) (by rfl) (by rfl))∘(ae∘ab))))∘ab) (by rfl) (by rfl) (by rfl) (by rfl) (by rfl)) (by rfl))
      (@am _ _ _ _ _ (@dU _ _ _ _ _ (@D9 _ _ _ _ _ _ 3 _ _ rfl (by rfl) (by first | exact Or.inl rfl | exact Or.inr (Or.inl rfl) | exact Or.inr (Or.inr rfl)) (by decide) (by decide) (@bF _ _ _ _ _ ((¬10)∘((@nv _ _ _ _ _ ae)∘((@nv _ _ _ _ _ ae)∘ab)))) (by rfl) (by rfl) (by rfl) (by rfl) (by rfl) (by rfl)) (by rfl)))))))
      (@ck _ _)))))))
      (@am _ _ _ _ _ (@aG _ _ _ _ _ (@a9 _ _ _ _ _ _ _ _ _ (@b_tuple _ _ rfl) (by rfl) T.b_tuple ((@i7 _ _ _ _ _ _ _ _ _ _ _ _ _ (aj kd) ["_law_drawn","_law_web_here","_law_most","_law_nodes","_law_waiting","_law_stand","_law_parent","_law_side","_law_some","_law_number","_law_tie"] [] ["_law_node"] rfl rfl rfl (@B0 _ _ _ _ 3 _ rfl (by rfl) (by first | exact Or.inl rfl | exact Or.inr (Or.inl rfl) | exact Or.inr (Or.inr rfl)) (by decide) (by decide))
        (fun C s0 H0 fp=>(@ap _ _ _ 0 _ (show List.Nodup (["_law_node"]:List Str) by decide+kernel) rfl (Or.inl rfl) (by trivial))) (fun C s0 H0 fp=>(@ie _ _))
        (fun C s0 H0 fp=>(@a9 _ _ _ _ _ _ _ _ _ (@b_tuple _ _ rfl) (by rfl) T.b_tuple ((¬0)∘ab) (by decide) (by decide) (by rfl) (by rfl))) rfl (by decide+kernel) (by decide+kernel) (by decide+kernel) (by decide+kernel) (by decide+kernel) (by decide+kernel) (by decide+kernel) (by intro _;rfl))∘ab) (by decide) (by decide) (by rfl) (by rfl))))))))
noncomputable def je:FI:=(iL (ac 1))
noncomputable def c8:FE:=(aq bY (ac 0) (bE (aa (vC (.bool true)) ah)))
noncomputable def jf:FI:=(iL (ac 1))
noncomputable def c9:FE:=(aq bY (ac 0) (bE (aa (vC (.bool false)) ah)))
noncomputable def fD:FI:=(dG (aa (ac 0) ah))
noncomputable def cu:FS:=(aV 1 (aq bY (cw [] 1 je (ag 0) cv c8) (cw [] 1 jf (ag 0) cv c9)))
noncomputable def kx:FS:=(ay (aV 1 (cN (aa (bE ah) ah)))
    (ay (cL ([2]++[1]) fD (ag 2) cu)
    (bo (ac 1))))
noncomputable def cX:FM:=f9 1 2 ([1]++(([2]++[1])++[])) kx
theorem jP:aB ["_law_many","_law_rows","_law_k"] ["_law_many"] (aj bM):=⟨rfl,rfl,rfl,by decide+kernel,rfl,by decide+kernel,by decide+kernel⟩
theorem oV(h:aZ K mg "_law_all_answers" bM f fd ["_law_many"])(T:iW mg):aF P w K mg base bv 1 f fd ["_law_many"] (bz K 1 cX):=by
  have nd:=jP.nd
  exact h.fn jP rfl rfl (fun cdv A outer s H E hr=>(@af _ _ _ _ _ _ _ _ (@az _ _ _ _ _ 1 _ _ nd rfl (Or.inl rfl) (@bF _ _ _ _ _ ((@aS _ _ _ _ _ _ ab)∘ab)) (by rfl) (by trivial))
      (@af _ _ _ _ _ _ _ _ (@cU _ _ _ _ _ _ _ _ _ _ _ PassesOwn.never rfl (@eB _ _ _ _ _ _ _ rfl T.b_range ((¬0)∘ab) (by rfl)) (@ap _ _ _ 2 _ nd rfl (Or.inl rfl) (by trivial))
      (@am _ _ _ _ _ (@az _ _ _ _ _ 1 _ _ nd rfl (Or.inl rfl) (@bK _ _ _ _ _ _ _ rfl (@i7 _ _ _ _ _ _ _ _ _ _ _ _ _ (aj bM) ["_law_many","_law_rows","_law_k"] [] ["_law_row"] rfl rfl rfl (@dS _ _ _ _ _ rfl (¬1))
        (fun C s0 H0 fp=>(@ap _ _ _ 0 _ (show List.Nodup (["_law_row"]:List Str) by decide+kernel) rfl (Or.inl rfl) (by trivial))) (fun C s0 H0 fp=>(@ie _ _))
        (fun C s0 H0 fp=>(@bK _ _ _ _ _ _ _ rfl (¬0) (@aS _ _ _ _ _ _ ((@jL _ _ _ _ _)∘ab)))) rfl (by decide+kernel) (by decide+kernel) (by decide+kernel) (by decide+kernel) (by decide+kernel) (by decide+kernel) (by decide+kernel) (by intro _;rfl)) (@i7 _ _ _ _ _ _ _ _ _ _ _ _ _ (aj bM) ["_law_many","_law_rows","_law_k"] [] ["_law_row"] rfl rfl rfl (@dS _ _ _ _ _ rfl (¬1))
        (fun C s0 H0 fp=>(@ap _ _ _ 0 _ (show List.Nodup (["_law_row"]:List Str) by decide+kernel) rfl (Or.inl rfl) (by trivial))) (fun C s0 H0 fp=>(@ie _ _))
        (fun C s0 H0 fp=>(@bK _ _ _ _ _ _ _ rfl (¬0) (@aS _ _ _ _ _ _ ((@jL _ _ _ _ _)∘ab)))) rfl (by decide+kernel) (by decide+kernel) (by decide+kernel) (by decide+kernel) (by decide+kernel) (by decide+kernel) (by decide+kernel) (by intro _;rfl))) (by rfl) (by trivial))) (by intro _;rfl))
      (@am _ _ _ _ _ (@aG _ _ _ _ _ (¬1))))))
noncomputable def dw:FT:=(aK (aq AL (ac 3) (vC (.int 0))))
noncomputable def fN:FS:=(ay (jk (aq bH (ac 0) (ac 3)) (aX (ao (ag 4) (ao (ag 5) (ao (ag 6) aU)))))
    (ay (cO (bZ br (ac 2) (aa (bE (aa (ac 4) (aa (aq bH (ac 1) (ac 4)) ah))) ah)))
    (aV 3 (aq bH (cN (aa (ac 6) (aa (ac 5) ah))) (aJ (g1 pV) (aa (aq bH (ac 1) (ac 4)) ah))))))
noncomputable def oA:FS:=(ay (aV 2 (cN ah))
    (ay (aV 3 (aq bY (pN my (vC (.int 1))) (aJ (g1 pV) (aa (aq EL (aJ (g1 ik) (aa (ac 0) ah)) (vC (.int 0))) ah))))
    (ay (eD (2 ^ 4200) dw fN)
    (bo (aJ (g1 cf) (aa (ac 2) ah))))))
noncomputable def gF:FM:=f9 2 5 ([2]++([3]++((([4]++([5]++([6]++[])))++([]++[3]))++[]))) oA
theorem nA:aB ["_law_tree_here","_law_answers","_law_run","_law_at","_law_tie","_law_yes","_law_no"] ["_law_tree_here","_law_answers"] (aj gL):=⟨rfl,rfl,rfl,by decide+kernel,rfl,by decide+kernel,by decide+kernel⟩
theorem tK(h:aZ K mg "_law_run_tree" gL f fd ["_law_tree_here","_law_answers"])(T:iW mg):aF P w K mg base bv 1 f fd ["_law_tree_here","_law_answers"] (bz K 2 gF):=by
  have nd:=nA.nd
  exact h.fn nA rfl rfl (fun cdv A outer s H E hr=>(@af _ _ _ _ _ _ _ _ (@az _ _ _ _ _ 2 _ _ nd rfl (Or.inl rfl) (@bF _ _ _ _ _ ab) (by rfl) (by trivial))
      (@af _ _ _ _ _ _ _ _ (@az _ _ _ _ _ 3 _ _ nd rfl (Or.inl rfl) (@bK _ _ _ _ _ _ _ rfl (@nv _ _ _ _ _ ae) (@a9 _ _ _ _ _ _ _ _ _ (@b_int _ _) (by rfl) T.b_int ((@zM _ _ _ _ _ _ _ _ _ (@Dd _ _) (@a9 _ _ _ _ _ _ _ _ _ (@b_len _ _ rfl) (by rfl) T.b_len ((¬0)∘ab) (by decide) (by decide) (by rfl) (by rfl)) ae (be _))∘ab) (by decide) (by decide) (by rfl) (by rfl))) (by rfl) (by trivial))
      (@af _ _ _ _ _ _ _ _ (@iQ _ _ _ _ _ _ _ _ _ PassesOwn.never (@bf _ _ _ _ _ _ _ _ _ (@xk _ _) (¬3) ae (be _))
      (@af _ _ _ _ _ _ _ _ (@jM _ _ _ _ _ _ _ _ (@aO _ _ _ _ _ _ _ rfl (¬0) (¬3) (fun _ _=>rfl)) (@cT _ _ _ _ _ _ _ _ rfl rfl (@ax _ _ _ _ _ _ _ _ (@ap _ _ _ 4 _ nd rfl (Or.inl rfl) (by trivial)) (@ax _ _ _ _ _ _ _ _ (@ap _ _ _ 5 _ nd rfl (Or.inl rfl) (by trivial)) (@ax _ _ _ _ _ _ _ _ (@ap _ _ _ 6 _ nd rfl (Or.inl rfl) (by trivial)) (@bP _ _) (by rfl)) (by rfl)) (by rfl)) (aH (aH (aH cQ))) (by rfl) (by rfl)) (by rfl) (by rfl) (by rfl))
      (@af _ _ _ _ _ _ _ _ (@dU _ _ _ _ _ (@dP _ _ _ _ _ _ _ _ _ rfl (¬2) ((@aS _ _ _ _ _ _ ((¬4)∘((@aO _ _ _ _ _ _ _ rfl (¬1) (¬4) (fun _ _=>rfl))∘ab)))∘ab) (by rfl) (by rfl) (by rfl) (by rfl) (by rfl)) (by rfl))
      (@am _ _ _ _ _ (@az _ _ _ _ _ 3 _ _ nd rfl (Or.inl rfl) (@aO _ _ _ _ _ _ _ rfl (@bF _ _ _ _ _ ((¬6)∘((¬5)∘ab))) (@a9 _ _ _ _ _ _ _ _ _ (@b_int _ _) (by rfl) T.b_int ((@aO _ _ _ _ _ _ _ rfl (¬1) (¬4) (fun _ _=>rfl))∘ab) (by decide) (by decide) (by rfl) (by rfl)) (fun _ _=>rfl)) (by rfl) (by trivial))))))
      (@am _ _ _ _ _ (@aG _ _ _ _ _ (@a9 _ _ _ _ _ _ _ _ _ (@b_tuple _ _ rfl) (by rfl) T.b_tuple ((¬2)∘ab) (by decide) (by decide) (by rfl) (by rfl))))))))
noncomputable def gy:FI:=(oJ (aa (ac 1) (aa (aq bH (ac 0) (vC (.int 1))) ah)))
noncomputable def dr:FS:=(aV 2 (bO 2 jJ (aa (ac 2) (aa (bO 2 j5 (aa (bO 2 j5 (aa (ac 3) (aa (aq bH (ac 4) (vC (.int 2))) ah))) (aa (bE (aa (aq bH (ac 4) (vC (.int 3))) (aa (vC (.int 1)) ah))) ah))) ah))))
noncomputable def lu:FS:=(ay (aV 2 (bE (aa (vC (.int 0)) (aa (vC (.int 1)) ah))))
    (ay (cL (([3]++([4]++[]))++[2]) gy (aX (ao (ag 3) (ao (ag 4) aU))) dr)
    (bo (ac 2))))
noncomputable def dI:FM:=f9 2 3 ([2]++((([3]++([4]++[]))++[2])++[])) lu
theorem kJ:aB ["_law_web_here","_law_shares","_law_found","_law_share","_law_tie"] ["_law_web_here","_law_shares"] (aj dX):=⟨rfl,rfl,rfl,by decide+kernel,rfl,by decide+kernel,by decide+kernel⟩
theorem pY(h:aZ K mg "_law_shares_sum" dX f fd ["_law_web_here","_law_shares"])(T:iW mg){fLplus:Addr}{eLplus:FuncData}(hLplus:aZ K mg "_law_plus" mK fLplus eLplus ["_law_one","_law_other"])(GLplus:aF P w K mg base bv 3 fLplus eLplus ["_law_one","_law_other"] (bz K 2 jJ)){fLtimes:Addr}{eLtimes:FuncData}(hLtimes:aZ K mg "_law_times" l4 fLtimes eLtimes ["_law_one","_law_other"])(GLtimes:aF P w K mg base bv 3 fLtimes eLtimes ["_law_one","_law_other"] (bz K 2 j5)):aF P w K mg base bv 4 f fd ["_law_web_here","_law_shares"] (bz K 2 dI):=by
  have nd:=kJ.nd
  exact h.fn kJ rfl rfl (fun cdv A outer s H E hr=>(@af _ _ _ _ _ _ _ _ (@az _ _ _ _ _ 2 _ _ nd rfl (Or.inl rfl) (@aS _ _ _ _ _ _ (ae∘(ae∘ab))) (by rfl) (by trivial))
      (@af _ _ _ _ _ _ _ _ (@cU _ _ _ _ _ _ _ _ _ _ _ PassesOwn.never rfl (@vm _ _ _ _ _ _ _ _ _ _ rfl rfl T.b_zip ((¬1)∘((@aO _ _ _ _ _ _ _ rfl (¬0) ae (fun _ _=>rfl))∘ab)) (by rfl) (by rfl)) (@cT _ _ _ _ _ _ _ _ rfl rfl (@ax _ _ _ _ _ _ _ _ (@ap _ _ _ 3 _ nd rfl (Or.inl rfl) (by trivial)) (@ax _ _ _ _ _ _ _ _ (@ap _ _ _ 4 _ nd rfl (Or.inl rfl) (by trivial)) (@bP _ _) (by rfl)) (by rfl)) (aH (aH cQ)) (by rfl) (by rfl))
      (@am _ _ _ _ _ (@az _ _ _ _ _ 2 _ _ nd rfl (Or.inl rfl) (@aR _ _ _ _ _ _ _ _ _ _ _ _ _ _ _ hLplus GLplus (hr.mono (by decide)) ((¬2)∘((@aR _ _ _ _ _ _ _ _ _ _ _ _ _ _ _ hLtimes GLtimes (hr.mono (by decide)) ((@aR _ _ _ _ _ _ _ _ _ _ _ _ _ _ _ hLtimes GLtimes (hr.mono (by decide)) ((¬3)∘((@aO _ _ _ _ _ _ _ rfl (¬4) ae (fun _ _=>rfl))∘ab)) (by rfl) (by decide) (by rfl) (by rfl))∘((@aS _ _ _ _ _ _ ((@aO _ _ _ _ _ _ _ rfl (¬4) ae (fun _ _=>rfl))∘(ae∘ab)))∘ab)) (by rfl) (by decide) (by rfl) (by rfl))∘ab)) (by rfl) (by decide) (by rfl) (by rfl)) (by rfl) (by trivial))) (by intro _;rfl))
      (@am _ _ _ _ _ (@aG _ _ _ _ _ (¬2))))))
noncomputable def jD:FI:=(iL (ac 3))
noncomputable def dz:FE:=(bE (aa (aq bH (aq bH (ac 1) (ac 2)) (vC (.int 0))) (aa (aq bH (ac 0) (aq bH (aq bH (ac 1) (ac 2)) (vC (.int 1)))) (aa (aq bH (ac 0) (aq bH (aq bH (ac 1) (ac 2)) (vC (.int 2)))) ah))))
noncomputable def jE:FI:=(wx (aa (ac 3) ah))
noncomputable def dq:FS:=(nO (ac 5) (ac 4) (ac 6))
noncomputable def gv:FI:=(iL (ut (aq bH (ac 1) (aq bH (ac 3) (pN my (vC (.int 1))))) (fJ (vC (.int 1))) gG))
noncomputable def du:FT:=(aK (aq (cK true) (ac 0) (pN my (vC (.int 1)))))
noncomputable def dA:FE:=(ac 0)
noncomputable def cD:FT:=(aK (aq (cK true) (ac 2) (cN ah)))
noncomputable def cB:FS:=(ay (cO (bZ br (ac 3) (aa (bZ dJ (ac 2) (aa (aq bg (bO 1 bj (aa (ac 0) ah)) (aJ (g1 ik) (aa (ac 2) ah))) ah)) ah)))
    (cO (Cf (ac 2) (cw [] 1 gv (ag 0) du dA))))
noncomputable def ls:FS:=(ay (aV 2 (ut (cN (aa (vC (.int 0)) ah)) gG (fJ (aJ (g1 ik) (aa (ac 1) ah)))))
    (ay (aV 3 (cN ah))
    (ay (eD (2 ^ 4200) cD cB)
    (ay (aV 4 (aq ce (cN (aa (pN my (vC (.int 1))) ah)) (aq bY (aJ (g1 ik) (aa (ac 1) ah)) (vC (.int 1)))))
    (ay (cL (([5]++([6]++[]))++[]) jE (aX (ao (ag 5) (ao (ag 6) aU))) dq)
    (bo (aJ (g1 cf) (aa (cw [(4,"_law_numbers"),(1,"_law_tree_here")] 1 jD (ag 2) cv dz) ah))))))))
noncomputable def dH:FM:=f9 2 5 ([2]++([3]++(([]++[])++([4]++((([5]++([6]++[]))++[])++[]))))) ls
theorem kG:aB ["_law_drawn","_law_tree_here","_law_waiting","_law_order","_law_numbers","_law_at","_law_node"] ["_law_drawn","_law_tree_here"] (aj cn):=⟨rfl,rfl,rfl,by decide+kernel,rfl,by decide+kernel,by decide+kernel⟩
theorem pX(h:aZ K mg "_law_renumbered" cn f fd ["_law_drawn","_law_tree_here"])(T:iW mg){fLnext:Addr}{eLnext:FuncData}(hLnext:aZ K mg "_law_next" i8 fLnext eLnext ["_law_drawn"])(GLnext:aF P w K mg base bv 1 fLnext eLnext ["_law_drawn"] (bz K 1 bj)):aF P w K mg base bv 2 f fd ["_law_drawn","_law_tree_here"] (bz K 2 dH):=by
  have nd:=kG.nd
  exact h.fn kG rfl rfl (fun cdv A outer s H E hr=>(@af _ _ _ _ _ _ _ _ (@az _ _ _ _ _ 2 _ _ nd rfl (Or.inl rfl) (@j7 _ _ _ _ _ _ _ _ _ _ rfl (@bF _ _ _ _ _ (ae∘ab)) (@j8 _ _) (@j_ _ _ _ _ (@a9 _ _ _ _ _ _ _ _ _ (@b_len _ _ rfl) (by rfl) T.b_len ((¬1)∘ab) (by decide) (by decide) (by rfl) (by rfl)))) (by rfl) (by trivial))
      (@af _ _ _ _ _ _ _ _ (@az _ _ _ _ _ 3 _ _ nd rfl (Or.inl rfl) (@bF _ _ _ _ _ ab) (by rfl) (by trivial))
      (@af _ _ _ _ _ _ _ _ (@iQ _ _ _ _ _ _ _ _ _ PassesOwn.never (@bf _ _ _ _ _ _ _ _ _ (@rh _ _ _ rfl hr) (¬2) (@bF _ _ _ _ _ ab) (be _))
      (@af _ _ _ _ _ _ _ _ (@dU _ _ _ _ _ (@dP _ _ _ _ _ _ _ _ _ rfl (¬3) ((@rY _ _ _ _ _ _ _ _ _ rfl (¬2) ((@a_ _ _ _ _ _ _ _ (@aR _ _ _ _ _ _ _ _ _ _ _ _ _ _ _ hLnext GLnext (hr.mono (by decide)) ((¬0)∘ab) (by rfl) (by decide) (by rfl) (by rfl)) (@a9 _ _ _ _ _ _ _ _ _ (@b_len _ _ rfl) (by rfl) T.b_len ((¬2)∘ab) (by decide) (by decide) (by rfl) (by rfl)))∘ab) (by rfl) (by rfl) (by rfl) (by rfl) (by rfl))∘ab) (by rfl) (by rfl) (by rfl) (by rfl) (by rfl)) (by rfl))
      (@am _ _ _ _ _ (@dU _ _ _ _ _ (@zN _ _ _ _ _ _ _ _ rfl (¬2) (@i7 _ _ _ _ _ _ _ _ _ _ _ _ _ (aj cn) ["_law_drawn","_law_tree_here","_law_waiting","_law_order","_law_numbers","_law_at","_law_node"] [] ["_law_link"] rfl rfl rfl (@dS _ _ _ _ _ rfl (@j7 _ _ _ _ _ _ _ _ _ _ rfl (@aO _ _ _ _ _ _ _ rfl (¬1) (@aO _ _ _ _ _ _ _ rfl (¬3) (@nv _ _ _ _ _ ae) (fun _ _=>rfl)) (fun _ _=>rfl)) (@j_ _ _ _ _ ae) (@j8 _ _)))
        (fun C s0 H0 fp=>(@ap _ _ _ 0 _ (show List.Nodup (["_law_link"]:List Str) by decide+kernel) rfl (Or.inl rfl) (by trivial))) (fun C s0 H0 fp=>(@oa _ _ _ _ (@bf _ _ _ _ _ _ _ _ _ (@rh _ _ _ rfl hr) (¬0) (@nv _ _ _ _ _ ae) (be _))))
        (fun C s0 H0 fp=>(¬0)) rfl (by decide+kernel) (by decide+kernel) (by decide+kernel) (by decide+kernel) (by decide+kernel) (by decide+kernel) (by decide+kernel) (by intro _;rfl)) (by rfl) (by rfl) (by rfl) (by rfl) (by rfl) (by rfl)) (by rfl)))))
      (@af _ _ _ _ _ _ _ _ (@az _ _ _ _ _ 4 _ _ nd rfl (Or.inr rfl) (@dQ _ _ _ _ _ _ _ rfl (@bF _ _ _ _ _ ((@nv _ _ _ _ _ ae)∘ab)) (@bK _ _ _ _ _ _ _ rfl (@a9 _ _ _ _ _ _ _ _ _ (@b_len _ _ rfl) (by rfl) T.b_len ((¬1)∘ab) (by decide) (by decide) (by rfl) (by rfl)) ae)) (by rfl) (by trivial))
      (@af _ _ _ _ _ _ _ _ (@cU _ _ _ _ _ _ _ _ _ _ _ PassesOwn.never rfl (@wF _ _ _ _ _ _ _ _ _ rfl rfl T.b_enumerate ((¬3)∘ab) (by rfl)) (@cT _ _ _ _ _ _ _ _ rfl rfl (@ax _ _ _ _ _ _ _ _ (@ap _ _ _ 5 _ nd rfl (Or.inl rfl) (by trivial)) (@ax _ _ _ _ _ _ _ _ (@ap _ _ _ 6 _ nd rfl (Or.inl rfl) (by trivial)) (@bP _ _) (by rfl)) (by rfl)) (aH (aH cQ)) (by rfl) (by rfl))
      (@am _ _ _ _ _ (@o6 _ _ _ _ _ _ _ _ _ _ (¬5) (¬4) (¬6) (by intro _;rfl) (by rfl) (by rfl) (by rfl))) (by intro _;rfl))
      (@am _ _ _ _ _ (@aG _ _ _ _ _ (@a9 _ _ _ _ _ _ _ _ _ (@b_tuple _ _ rfl) (by rfl) T.b_tuple ((@i7 _ _ _ _ _ _ _ _ _ _ _ _ _ (aj cn) ["_law_drawn","_law_tree_here","_law_waiting","_law_order","_law_numbers","_law_at","_law_node"] [(4,"_law_numbers"),(1,"_law_tree_here")] ["_law_node"] rfl rfl rfl (@dS _ _ _ _ _ rfl (¬3))
        (fun C s0 H0 fp=>(@ap _ _ _ 2 _ (show List.Nodup (["_law_numbers","_law_tree_here","_law_node"]:List Str) by decide+kernel) rfl (Or.inl rfl) (by trivial))) (fun C s0 H0 fp=>(@ie _ _))
        (fun C s0 H0 fp=>(@aS _ _ _ _ _ _ ((@aO _ _ _ _ _ _ _ rfl (@aO _ _ _ _ _ _ _ rfl (¬1) (¬2) (fun _ _=>rfl)) ae (fun _ _=>rfl))∘((@aO _ _ _ _ _ _ _ rfl (¬0) (@aO _ _ _ _ _ _ _ rfl (@aO _ _ _ _ _ _ _ rfl (¬1) (¬2) (fun _ _=>rfl)) ae (fun _ _=>rfl)) (fun _ _=>rfl))∘((@aO _ _ _ _ _ _ _ rfl (¬0) (@aO _ _ _ _ _ _ _ rfl (@aO _ _ _ _ _ _ _ rfl (¬1) (¬2) (fun _ _=>rfl)) ae (fun _ _=>rfl)) (fun _ _=>rfl))∘ab))))) rfl (by decide+kernel) (by decide+kernel) (by decide+kernel) (by decide+kernel) (by decide+kernel) (by decide+kernel) (by decide+kernel) (by intro _;rfl))∘ab) (by decide) (by decide) (by rfl) (by rfl))))))))))
noncomputable def yv:FS:=(ay (aV 3 (aq bH (cN (aa (aq bY (vC (.int 1)) (aq bg (bO 1 bj (aa (ac 0) ah)) (vC (.int 8)))) (aa (aq bY (vC (.int 1)) (aq bg (bO 1 bj (aa (ac 0) ah)) (vC (.int 40)))) (aa (aq bY (vC (.int 40)) (aq ce (vC (.int 260)) (aJ (g1 pV) (aa (ac 2) ah)))) ah)))) (aq bg (bO 1 bj (aa (ac 0) ah)) (vC (.int 3)))))
    (bo (bO 2 dH (aa (ac 0) (aa (bO 3 lQ (aa (ac 0) (aa (ac 1) (aa (ac 3) ah)))) ah)))))
noncomputable def oP:FM:=f9 3 1 ([3]++[]) yv
theorem wU:aB ["_law_drawn","_law_web_here","_law_great","_law_most"] ["_law_drawn","_law_web_here","_law_great"] (aj pv):=⟨rfl,rfl,rfl,by decide+kernel,rfl,by decide+kernel,by decide+kernel⟩
theorem Bq(h:aZ K mg "_law_tree" pv f fd ["_law_drawn","_law_web_here","_law_great"])(T:iW mg){fLrenumbered:Addr}{eLrenumbered:FuncData}(hLrenumbered:aZ K mg "_law_renumbered" cn fLrenumbered eLrenumbered ["_law_drawn","_law_tree_here"])(GLrenumbered:aF P w K mg base bv 2 fLrenumbered eLrenumbered ["_law_drawn","_law_tree_here"] (bz K 2 dH)){fLgrown:Addr}{eLgrown:FuncData}(hLgrown:aZ K mg "_law_grown" kd fLgrown eLgrown ["_law_drawn","_law_web_here","_law_most"])(GLgrown:aF P w K mg base bv 4 fLgrown eLgrown ["_law_drawn","_law_web_here","_law_most"] (bz K 3 lQ)){fLnext:Addr}{eLnext:FuncData}(hLnext:aZ K mg "_law_next" i8 fLnext eLnext ["_law_drawn"])(GLnext:aF P w K mg base bv 1 fLnext eLnext ["_law_drawn"] (bz K 1 bj)):aF P w K mg base bv 5 f fd ["_law_drawn","_law_web_here","_law_great"] (bz K 3 oP):=by
  have nd:=wU.nd
  exact h.fn wU rfl rfl (fun cdv A outer s H E hr=>(@af _ _ _ _ _ _ _ _ (@az _ _ _ _ _ 3 _ _ nd rfl (Or.inl rfl) (@aO _ _ _ _ _ _ _ rfl (@bF _ _ _ _ _ ((@bK _ _ _ _ _ _ _ rfl ae (@a_ _ _ _ _ _ _ _ (@aR _ _ _ _ _ _ _ _ _ _ _ _ _ _ _ hLnext GLnext (hr.mono (by decide)) ((¬0)∘ab) (by rfl) (by decide) (by rfl) (by rfl)) ae))∘((@bK _ _ _ _ _ _ _ rfl ae (@a_ _ _ _ _ _ _ _ (@aR _ _ _ _ _ _ _ _ _ _ _ _ _ _ _ hLnext GLnext (hr.mono (by decide)) ((¬0)∘ab) (by rfl) (by decide) (by rfl) (by rfl)) ae))∘((@bK _ _ _ _ _ _ _ rfl ae (@dQ _ _ _ _ _ _ _ rfl ae (@a9 _ _ _ _ _ _ _ _ _ (@b_int _ _) (by rfl) T.b_int ((¬2)∘ab) (by decide) (by decide) (by rfl) (by rfl))))∘ab)))) (@a_ _ _ _ _ _ _ _ (@aR _ _ _ _ _ _ _ _ _ _ _ _ _ _ _ hLnext GLnext (hr.mono (by decide)) ((¬0)∘ab) (by rfl) (by decide) (by rfl) (by rfl)) ae) (fun _ _=>rfl)) (by rfl) (by trivial))
      (@am _ _ _ _ _ (@aG _ _ _ _ _ (@aR _ _ _ _ _ _ _ _ _ _ _ _ _ _ _ hLrenumbered GLrenumbered (hr.mono (by decide)) ((¬0)∘((@aR _ _ _ _ _ _ _ _ _ _ _ _ _ _ _ hLgrown GLgrown (hr.mono (by decide)) ((¬0)∘((¬1)∘((¬3)∘ab))) (by rfl) (by decide) (by rfl) (by rfl))∘ab)) (by rfl) (by decide) (by rfl) (by rfl))))))
noncomputable def GD:FI:=(iL (bO 2 gF (aa (ac 5) (aa (ac 8) ah))))
noncomputable def EU:FS:=(nO (bO 2 jJ (aa (aq bH (ac 6) (ac 10)) (aa (ac 9) ah))) (ac 6) (ac 10))
noncomputable def GE:FI:=(iL (bO 1 cX (aa (ac 4) ah)))
noncomputable def EV:FS:=(ay (aV 9 (bO 2 fg (aa (ac 3) (aa (ac 8) ah))))
    (ay (aV 7 (bO 2 jJ (aa (ac 7) (aa (ac 9) ah))))
    (cL (([10]++([11]++[]))++[]) GD (aX (ao (ag 10) (ao (ag 11) aU))) EU)))
noncomputable def G_:FI:=(dG (aa (vC (.int 3)) ah))
noncomputable def EW:FS:=(ay (aV 3 (bO 3 tu (aa (ac 1) (aa (vC (.int 8)) (aa (vC (.int 7)) ah)))))
    (ay (aV 4 (aJ (g1 ik) (aa (aq bH (ac 3) (vC (.int 1))) ah)))
    (ay (aV 5 (bO 3 oP (aa (ac 1) (aa (ac 3) (aa (vC (.bool true)) ah)))))
    (ay (aV 6 (aq ce (cN (aa (bE (aa (vC (.int 0)) (aa (vC (.int 1)) ah))) ah)) (ac 4)))
    (ay (aV 7 (bE (aa (vC (.int 0)) (aa (vC (.int 1)) ah))))
    (ay (cL ([8]++([9]++([7]++(([10]++([11]++[]))++[])))) GE (ag 8) EV)
    (ay (aV 12 (bO 2 cH (aa (ac 3) (aa (ac 5) ah))))
    (ay (kD (uB (aK (aq (cK true) (ac 7) (bE (aa (vC (.int 1)) (aa (vC (.int 1)) ah))))) (mP (aK (bO 2 mC (aa (ac 12) (aa (aJ (g1 cf) (aa (ac 6) ah)) ah))))))
    (bo (vC (.bool false)))
    eC)
    (kD (mP (aK (bO 2 mC (aa (bO 2 dI (aa (ac 3) (aa (ac 12) ah))) (aa (bO 2 eu (aa (ac 3) (aa (ac 5) ah))) ah)))))
    (bo (vC (.bool false)))
    eC)))))))))
noncomputable def CB:FS:=(ay (aV 1 (bO 1 lP (aa (ac 0) ah)))
    (ay (cL ([2]++([3]++([4]++([5]++([6]++([7]++(([8]++([9]++([7]++(([10]++([11]++[]))++[]))))++([12]++(([]++[])++([]++[])))))))))) G_ (ag 2) EW)
    (bo (vC (.bool true)))))
noncomputable def oQ:FM:=f9 1 12 ([1]++(([2]++([3]++([4]++([5]++([6]++([7]++(([8]++([9]++([7]++(([10]++([11]++[]))++[]))))++([12]++(([]++[])++([]++[]))))))))))++[])) CB
theorem Aj:aB ["_law_script","_law_drawn","_law_k","_law_web_here","_law_many","_law_tree_here","_law_shares","_law_whole","_law_answers","_law_chance_here","_law_tie","_law_truth","_law_told_ones"] ["_law_script"] (aj pz):=⟨rfl,rfl,rfl,by decide+kernel,rfl,by decide+kernel,by decide+kernel⟩
theorem DE(h:aZ K mg "law" pz f fd ["_law_script"])(T:iW mg){fLdraws:Addr}{eLdraws:FuncData}(hLdraws:aZ K mg "_law_draws" lZ fLdraws eLdraws ["_law_script"])(GLdraws:aF P w K mg base bv 2 fLdraws eLdraws ["_law_script"] (bz K 1 lP)){fLweb:Addr}{eLweb:FuncData}(hLweb:aZ K mg "_law_web" tT fLweb eLweb ["_law_drawn","_law_most","_law_ties_here"])(GLweb:aF P w K mg base bv 5 fLweb eLweb ["_law_drawn","_law_most","_law_ties_here"] (bz K 3 tu)){fLtree:Addr}{eLtree:FuncData}(hLtree:aZ K mg "_law_tree" pv fLtree eLtree ["_law_drawn","_law_web_here","_law_great"])(GLtree:aF P w K mg base bv 5 fLtree eLtree ["_law_drawn","_law_web_here","_law_great"] (bz K 3 oP)){fLall_answers:Addr}{eLall_answers:FuncData}(hLall_answers:aZ K mg "_law_all_answers" bM fLall_answers eLall_answers ["_law_many"])(GLall_answers:aF P w K mg base bv 1 fLall_answers eLall_answers ["_law_many"] (bz K 1 cX)){f_asked_shares:Addr}{e_asked_shares:FuncData}(h_asked_shares:aZ K mg "asked_shares" bU f_asked_shares e_asked_shares ["web","tree"])(G_asked_shares:aF P w K mg base bv 6 f_asked_shares e_asked_shares ["web","tree"] (bz K 2 cH)){f_chance_of:Addr}{e_chance_of:FuncData}(h_chance_of:aZ K mg "chance_of" dk f_chance_of e_chance_of ["web","answers"])(G_chance_of:aF P w K mg base bv 5 f_chance_of e_chance_of ["web","answers"] (bz K 2 fg)){fLplus:Addr}{eLplus:FuncData}(hLplus:aZ K mg "_law_plus" mK fLplus eLplus ["_law_one","_law_other"])(GLplus:aF P w K mg base bv 3 fLplus eLplus ["_law_one","_law_other"] (bz K 2 jJ)){fLrun_tree:Addr}{eLrun_tree:FuncData}(hLrun_tree:aZ K mg "_law_run_tree" gL fLrun_tree eLrun_tree ["_law_tree_here","_law_answers"])(GLrun_tree:aF P w K mg base bv 1 fLrun_tree eLrun_tree ["_law_tree_here","_law_answers"] (bz K 2 gF)){fLsame:Addr}{eLsame:FuncData}(hLsame:aZ K mg "_law_same" pj fLsame eLsame ["_law_found","_law_due"])(GLsame:aF P w K mg base bv 1 fLsame eLsame ["_law_found","_law_due"] (bz K 2 mC)){fLshares_sum:Addr}{eLshares_sum:FuncData}(hLshares_sum:aZ K mg "_law_shares_sum" dX fLshares_sum eLshares_sum ["_law_web_here","_law_shares"])(GLshares_sum:aF P w K mg base bv 4 fLshares_sum eLshares_sum ["_law_web_here","_law_shares"] (bz K 2 dI)){f_worth_of:Addr}{e_worth_of:FuncData}(h_worth_of:aZ K mg "worth_of" gN f_worth_of e_worth_of ["web","tree"])(G_worth_of:aF P w K mg base bv 7 f_worth_of e_worth_of ["web","tree"] (bz K 2 eu)):aF P w K mg base bv 8 f fd ["_law_script"] (bz K 1 oQ):=by
  have nd:=Aj.nd
  exact h.fn Aj rfl rfl (fun cdv A outer s H E hr=>(@af _ _ _ _ _ _ _ _ (@az _ _ _ _ _ 1 _ _ nd rfl (Or.inl rfl) (@aR _ _ _ _ _ _ _ _ _ _ _ _ _ _ _ hLdraws GLdraws (hr.mono (by decide)) ((¬0)∘ab) (by rfl) (by decide) (by rfl) (by rfl)) (by rfl) (by trivial))
      (@af _ _ _ _ _ _ _ _ (@cU _ _ _ _ _ _ _ _ _ _ _ PassesOwn.never rfl (@eB _ _ _ _ _ _ _ rfl T.b_range (ae∘ab) (by rfl)) (@ap _ _ _ 2 _ nd rfl (Or.inl rfl) (by trivial))
      (@af _ _ _ _ _ _ _ _ (@az _ _ _ _ _ 3 _ _ nd rfl (Or.inl rfl) (@aR _ _ _ _ _ _ _ _ _ _ _ _ _ _ _ hLweb GLweb (hr.mono (by decide)) ((¬1)∘(ae∘(ae∘ab))) (by rfl) (by decide) (by rfl) (by rfl)) (by rfl) (by trivial))
      (@af _ _ _ _ _ _ _ _ (@az _ _ _ _ _ 4 _ _ nd rfl (Or.inl rfl) (@a9 _ _ _ _ _ _ _ _ _ (@b_len _ _ rfl) (by rfl) T.b_len ((@aO _ _ _ _ _ _ _ rfl (¬3) ae (fun _ _=>rfl))∘ab) (by decide) (by decide) (by rfl) (by rfl)) (by rfl) (by trivial))
      (@af _ _ _ _ _ _ _ _ (@az _ _ _ _ _ 5 _ _ nd rfl (Or.inl rfl) (@aR _ _ _ _ _ _ _ _ _ _ _ _ _ _ _ hLtree GLtree (hr.mono (by decide)) ((¬1)∘((¬3)∘((@jL _ _ _ _ _)∘ab))) (by rfl) (by decide) (by rfl) (by rfl)) (by rfl) (by trivial))
      (@af _ _ _ _ _ _ _ _ (@az _ _ _ _ _ 6 _ _ nd rfl (Or.inl rfl) (@dQ _ _ _ _ _ _ _ rfl (@bF _ _ _ _ _ ((@aS _ _ _ _ _ _ (ae∘(ae∘ab)))∘ab)) (¬4)) (by rfl) (by trivial))
      (@af _ _ _ _ _ _ _ _ (@az _ _ _ _ _ 7 _ _ nd rfl (Or.inl rfl) (@aS _ _ _ _ _ _ (ae∘(ae∘ab))) (by rfl) (by trivial))
      (@af _ _ _ _ _ _ _ _ (@cU _ _ _ _ _ _ _ _ _ _ _ PassesOwn.never rfl (@dS _ _ _ _ _ rfl (@aR _ _ _ _ _ _ _ _ _ _ _ _ _ _ _ hLall_answers GLall_answers (hr.mono (by decide)) ((¬4)∘ab) (by rfl) (by decide) (by rfl) (by rfl))) (@ap _ _ _ 8 _ nd rfl (Or.inl rfl) (by trivial))
      (@af _ _ _ _ _ _ _ _ (@az _ _ _ _ _ 9 _ _ nd rfl (Or.inl rfl) (@aR _ _ _ _ _ _ _ _ _ _ _ _ _ _ _ h_chance_of G_chance_of (hr.mono (by decide)) ((¬3)∘((¬8)∘ab)) (by rfl) (by decide) (by rfl) (by rfl)) (by rfl) (by trivial))
      (@af _ _ _ _ _ _ _ _ (@az _ _ _ _ _ 7 _ _ nd rfl (Or.inl rfl) (@aR _ _ _ _ _ _ _ _ _ _ _ _ _ _ _ hLplus GLplus (hr.mono (by decide)) ((¬7)∘((¬9)∘ab)) (by rfl) (by decide) (by rfl) (by rfl)) (by rfl) (by trivial))
      (@am _ _ _ _ _ (@cU _ _ _ _ _ _ _ _ _ _ _ PassesOwn.never rfl (@dS _ _ _ _ _ rfl (@aR _ _ _ _ _ _ _ _ _ _ _ _ _ _ _ hLrun_tree GLrun_tree (hr.mono (by decide)) ((¬5)∘((¬8)∘ab)) (by rfl) (by decide) (by rfl) (by rfl))) (@cT _ _ _ _ _ _ _ _ rfl rfl (@ax _ _ _ _ _ _ _ _ (@ap _ _ _ 10 _ nd rfl (Or.inl rfl) (by trivial)) (@ax _ _ _ _ _ _ _ _ (@ap _ _ _ 11 _ nd rfl (Or.inl rfl) (by trivial)) (@bP _ _) (by rfl)) (by rfl)) (aH (aH cQ)) (by rfl) (by rfl))
      (@am _ _ _ _ _ (@o6 _ _ _ _ _ _ _ _ _ _ (@aR _ _ _ _ _ _ _ _ _ _ _ _ _ _ _ hLplus GLplus (hr.mono (by decide)) ((@aO _ _ _ _ _ _ _ rfl (¬6) (¬10) (fun _ _=>rfl))∘((¬9)∘ab)) (by rfl) (by decide) (by rfl) (by rfl)) (¬6) (¬10) (by intro _;rfl) (by rfl) (by rfl) (by rfl))) (by intro _;rfl))))) (by intro _;rfl))
      (@af _ _ _ _ _ _ _ _ (@az _ _ _ _ _ 12 _ _ nd rfl (Or.inl rfl) (@aR _ _ _ _ _ _ _ _ _ _ _ _ _ _ _ h_asked_shares G_asked_shares (hr.mono (by decide)) ((¬3)∘((¬5)∘ab)) (by rfl) (by decide) (by rfl) (by rfl)) (by rfl) (by trivial))
      (@af _ _ _ _ _ _ _ _ (@gH _ _ _ _ _ _ _ _ _ _ _ (@xU _ _ _ _ (@wH _ _ _ _ _ _ _ _ (@bf _ _ _ _ _ _ _ _ _ (@rh _ _ _ rfl hr) (¬7) (@aS _ _ _ _ _ _ (ae∘(ae∘ab))) (be _)) (@rZ _ _ _ _ _ (@zR _ _ _ _ _ (@o8 _ _ _ _ (@aR _ _ _ _ _ _ _ _ _ _ _ _ _ _ _ hLsame GLsame (hr.mono (by decide)) ((¬12)∘((@a9 _ _ _ _ _ _ _ _ _ (@b_tuple _ _ rfl) (by rfl) T.b_tuple ((¬6)∘ab) (by decide) (by decide) (by rfl) (by rfl))∘ab)) (by rfl) (by decide) (by rfl) (by rfl)) (by intro _;rfl))))))
      (@am _ _ _ _ _ (@aG _ _ _ _ _ (@jL _ _ _ _ _)))
      (@ck _ _))
      (@am _ _ _ _ _ (@gH _ _ _ _ _ _ _ _ _ _ _ (@zR _ _ _ _ _ (@o8 _ _ _ _ (@aR _ _ _ _ _ _ _ _ _ _ _ _ _ _ _ hLsame GLsame (hr.mono (by decide)) ((@aR _ _ _ _ _ _ _ _ _ _ _ _ _ _ _ hLshares_sum GLshares_sum (hr.mono (by decide)) ((¬3)∘((¬12)∘ab)) (by rfl) (by decide) (by rfl) (by rfl))∘((@aR _ _ _ _ _ _ _ _ _ _ _ _ _ _ _ h_worth_of G_worth_of (hr.mono (by decide)) ((¬3)∘((¬5)∘ab)) (by rfl) (by decide) (by rfl) (by rfl))∘ab)) (by rfl) (by decide) (by rfl) (by rfl)) (by intro _;rfl)))
      (@am _ _ _ _ _ (@aG _ _ _ _ _ (@jL _ _ _ _ _)))
      (@ck _ _))))))))))) (by intro _;rfl))
      (@am _ _ _ _ _ (@aG _ _ _ _ _ (@jL _ _ _ _ _))))))
local macro_rules | `(tactic| simp? [$ts,*]) => `(tactic| simp [$ts,*, f9, jK, ay, kD, bo, eC, aV, cO, jk, nM, p6, aK, aq, pN, ac, vC, cN, ah, aa, bE, aJ, bO, kj, uB, mP, uo, nG, ur, nH, ut, gG, fJ, bZ, br, tD, dJ, gp, mv, dt, bC, pU, su, aX, ao, ag, aU, bQ, aI, bc, rO, df, eQ, cG, hV, ia, h9, hZ, hX, eT, eS, eU, di, eP, nh, iK, jy, ni, jB, h_, jz, jA, eW, eV, dj, eX, nq, jp, eg, jq, jr, mY, dh, dg, dC, h8, List.replicate, -List.map_nil, -List.map_cons, -List.nil_append, -List.cons_append, -Option.bind_some, -Option.map_some, -getElem?_pos, -List.append_nil, m9, m8, m4, mZ, m6, m7, m5, m_])
theorem AJ{n k:Int}(h:0 < k):0≤n % k:=Int.emod_nonneg _ (Int.ne_of_gt h)
theorem AK{n k:Int}(h:0 < k):n % k < k:=Int.emod_lt_of_pos _ h
def nx:List Int→Int
  | []=>0
  | d::_=>d
def iU(ds:List Int):Prop:=∀d∈ds,0≤d∧d < 2147483648
theorem CQ{ds:List Int}(h:iU ds):0≤nx ds∧nx ds < 2147483648:=by
  cases ds with
  | nil=>exact⟨Int.le_refl 0,by show(0:Int) < 2147483648;decide⟩
  | cons d r=>exact h d (by simp)
theorem Gb{ds:List Int}(h:iU ds):iU ds.tail:=fun d hd=>h d (List.mem_of_mem_tail hd)
theorem Ex(ds:List Int):bj [.l (ds.map .int)]=some (.d (.int (nx ds)),[.l (ds.tail.map .int)]):=by
  have hq:∀e:En,e[0]?=some (some (.l (ds.map .int)))→cK false e (.s 0) (.l [])=some (.d (.bool (ds.map PyData.int).isEmpty)):=fun e he=>lK he (jQ ds).1
  cases ds with
  | nil=>simp? [bj,uI,hq,nx]
  | cons d r=>simp? [bj,uI,hq,nx]
theorem jl{ds:List Int}(hd:iU ds):∃(n:Int) (ds':List Int),bj [.l (ds.map .int)]=some (.d (.int n),[.l (ds'.map .int)])∧0≤n∧n < 2147483648∧iU ds':=⟨nx ds,ds.tail,Ex ds,(CQ hd).1,(CQ hd).2,Gb hd⟩
theorem w_(cell k:Int)(h0:0≤k)(h1:k≤1000):∃r,j4 [.d (.int cell),.d (.int k)]=some (.d (.int r),[.d (.int cell),.d (.int k)])∧0≤r∧r < 2147483648:=by
  have a1:k9 (cell % 2147483647) 48271=true:=rL (by decide) (by decide)
  have a2:k9 7919 k=true:=vd (by decide) (by decide)
  have a3:k9 (7919*k) k=true:=rL (by lia) (by lia)
  have a4:k9 ((cell % 2147483647*48271+7919*k*k+104729) % 2147483647) ((cell % 2147483647*48271+7919*k*k+104729) % 2147483647)=true:=rL (by lia) (by lia)
  refine⟨_,by simp? [j4,wb,aT,bJ,a1,a2,a3,a4];rfl,?_,?_⟩
  · lia
  · lia
theorem rk{ds:List Int}(h:iU ds){r:Int}(h0:0≤r)(h1:r < 2147483648):iU (ds++[r]):=fun d hd=>by
  rcases List.mem_append.mp hd with hd | hd
  · exact h d hd
  · simp at hd;subst hd;exact⟨h0,h1⟩
abbrev dE(ns ds:List Int)(v2 v3 v4:Option Sv):En:=[some (.d (.list (ns.map .int))),some (.l (ds.map .int)),v2,v3,v4]
inductive DI (ns:List Int) (i:Nat):En→Prop
  | mk {ds v2 v3 v4} (hd:iU ds) (hl:ds.length≤1000*i):DI ns i (dE ns ds v2 v3 v4)
inductive DJ (ns:List Int) (k cell:Int) (n i:Nat):En→Prop
  | mk {ds v4} (hd:iU ds) (hl:ds.length=n+i):DJ ns k cell n i (dE ns ds (some (.d (.int k))) (some (.d (.int cell))) v4)
inductive DW (ns:List Int) (k:Int) (v4:Option Sv) (n:Nat):En→Prop
  | mk {cell ds} (hc:0≤cell) (hd:iU ds) (hl:ds.length≤max n 900):DW ns k v4 n (dE ns ds (some (.d (.int k))) (some (.d (.int cell))) v4)
theorem B'(ns:List Int)(hn:ns.length≤63):∃ds,lP [.d (.list (ns.map .int))]=some (.l (ds.map .int),[.d (.list (ns.map .int))])∧iU ds:=by
  have inner:∀(cell k:Int) (ds:List Int) (v4:Option Sv),0≤k→k≤63→iU ds→ds.length≤63000→∃ds' v4',(∀W,cL W jZ (ag 4) iD (dE ns ds (some (.d (.int k))) (some (.d (.int cell))) v4)=some (.nx (dE ns ds' (some (.d (.int k))) (some (.d (.int cell))) v4')))∧iU ds'∧ds'.length=ds.length+12:=by
    intro cell k ds v4 k0 k1 hd hl
    obtain⟨e',h1,h2⟩:=bI (own:=[]) (g:=ag 4) (f:=iD) (DJ ns k cell ds.length) (bu 0 12) 0 (dE ns ds (some (.d (.int k))) (some (.d (.int cell))) v4) (fun i x e hx hI=>by
      obtain⟨rfl,hi⟩:=dc hx
      obtain⟨hd',hl'⟩:=hI
      rename_i ds' v4'
      obtain⟨r1,c1,_,_⟩:=w_ cell (3*(0+(i:Int))+1) (by lia) (by lia)
      obtain⟨r2,c2,c3,c4⟩:=w_ r1 (0+(i:Int)+k+2) (by lia) (by lia)
      have a1:k9 3 (0+(i:Int))=true:=vd (by decide) (by decide)
      refine⟨_,dE ns (ds'++[r2]) (some (.d (.int k))) (some (.d (.int cell))) (some (.d (.int (0+(i:Int))))),rfl,?_,aW,.mk (rk hd' c3 c4) (by simp;lia)⟩
      have hlen:ds'.length < 1000000:=by lia
      simp only [Int.zero_add] at a1 c1 c2
      simp? [dE,iD,c1,c2,bJ,a1,hlen]) (.mk hd rfl)
    obtain⟨hd',hl'⟩:=h2
    rename_i ds' v4'
    rw [gJ] at hl'
    refine⟨ds',v4',fun W=>?_,hd',by lia⟩
    rw [cm (show jZ _=some (bu 0 12,[],_) from el (n:=12) rfl (by decide) (by decide))]
    exact h1
  have wh:∀(cell k:Int) (ds:List Int) (v4:Option Sv),0≤cell→iU ds→ds.length≤63100→∃cell' ds',eD (2 ^ 4200) fX jU (dE ns ds (some (.d (.int k))) (some (.d (.int cell))) v4)=some (.nx (dE ns ds' (some (.d (.int k))) (some (.d (.int cell'))) v4))∧0≤cell'∧iU ds'∧ds'.length≤max ds.length 900:=by
    intro cell k ds v4 hc hd hl
    have tst:∀(cell:Int) (ds:List Int),fX (dE ns ds (some (.d (.int k))) (some (.d (.int cell))) v4)=some (decide (1000000000000000000≤cell)&&decide ((ds.length:Int) < 900),dE ns ds (some (.d (.int k))) (some (.d (.int cell))) v4):=by
      intro cell ds
      by_cases h:(1000000000000000000:Int)≤cell
      · simp? [dE,fX,lL,lW,h]
      · simp? [dE,fX,lL,lW,h]
    obtain⟨e0,e',h1,hI,h3⟩:=eE (ft:=fX) (f:=jU) (DW ns k v4 ds.length)
      (fun e=>1000000 - ib 1 e) (fun e hI=>by
        obtain⟨hc',hd',hl'⟩:=hI
        rename_i cell' ds'
        rw [tst]
        by_cases c1:(1000000000000000000:Int)≤cell'
        · by_cases c2:(ds'.length:Int) < 900
          · refine .inr ⟨_,dE ns (ds'++[cell' % 2147483629]) (some (.d (.int k))) (some (.d (.int (cell' / 2147483629)))) v4,by rw [decide_eq_true c1,decide_eq_true c2];rfl,?_,.mk (by lia) (rk hd' (by lia) (by lia)) (by simp;lia),?_⟩
            · have hlen:ds'.length < 1000000:=by lia
              have b8:Bt 8000 2147483629:=mr (by decide) (by decide)
              simp? [dE,jU,aT,fY,b8,hlen]
            · simp [ib,dE];lia
          · exact .inl ⟨_,by rw [decide_eq_true c1,decide_eq_false c2];rfl,trivial⟩
        · exact .inl ⟨_,by rw [decide_eq_false c1];rfl,trivial⟩) (2 ^ 4200) _ (.mk hc hd (by lia)) (j3 (m:=20) (Nat.lt_of_le_of_lt (Nat.sub_le _ _) (by decide)) (by decide))
    obtain⟨hc',hd',hl'⟩:=hI
    rename_i cell' ds'
    rw [tst] at h3
    have h4:=(Prod.mk.inj (Option.some.inj h3)).2
    subst h4
    exact⟨cell',ds',h1,hc',hd',hl'⟩
  have turn:∀(i:Nat) (ds:List Int) (v3 v4:Option Sv) (hi:i < ns.length),iU ds→ds.length≤1000*i→∃ds2 v3' v4',fW (dE ns ds (some (.d (.int (i:Int)))) v3 v4)=some (.nx (dE ns ds2 (some (.d (.int (i:Int)))) v3' v4'))∧iU ds2∧ds2.length≤1000*(i+1):=by
    intro i ds v3 v4 hi hd hl
    have hcell:atI (ns.map PyData.int) (i:Int)=some (.int ns[i]):=by
      rw [eh (by lia) (by rw [List.length_map];lia)]
      simp [hi]
    have c0:(0:Int)≤(ns[i].natAbs:Int):=by lia
    have st:aV 3 (aJ (g1 uS) (aa (aq bH (ac 0) (ac 2)) ah)) (dE ns ds (some (.d (.int (i:Int)))) v3 v4)=some (.nx (dE ns ds (some (.d (.int (i:Int)))) (some (.d (.int (ns[i].natAbs:Int)))) v4)):=by
      simp? [dE,hcell]
    generalize (ns[i].natAbs:Int)=cell at c0 st
    have mid:∃ds1 v4',kD (aK (aq yM (ac 3) (aq uT (vC (.int 10)) (vC (.int 18))))) (cL ([4]++[]) jZ (ag 4) iD) eC (dE ns ds (some (.d (.int (i:Int)))) (some (.d (.int cell))) v4)=some (.nx (dE ns ds1 (some (.d (.int (i:Int)))) (some (.d (.int cell))) v4'))∧iU ds1∧ds1.length≤ds.length+12:=by
      by_cases cb:cell < 1000000000000000000
      · obtain⟨ds1,v4',f1,f2,f3⟩:=inner cell (i:Int) ds v4 (by lia) (by lia) hd (by lia)
        refine⟨ds1,v4',?_,f2,by lia⟩
        rw [C0 (e1:=dE ns ds (some (.d (.int (i:Int)))) (some (.d (.int cell))) v4) (by simp? [dE,lL,lW,cb])]
        exact f1 _
      · refine⟨ds,v4,?_,hd,by lia⟩
        rw [CZ (e1:=dE ns ds (some (.d (.int (i:Int)))) (some (.d (.int cell))) v4) (by simp? [dE,lL,lW,cb])]
        rfl
    obtain⟨ds1,v4',m1,m2,m3⟩:=mid
    obtain⟨cell2,ds2,w1,w2,w3,w4⟩:=wh cell (i:Int) ds1 v4' c0 m2 (by lia)
    by_cases c2:(2147483629:Int)≤cell2
    · refine⟨ds2++[cell2 % 2147483629],some (.d (.int cell2)),v4',?_,rk w3 (by lia) (by lia),by simp;lia⟩
      have hlen:ds2.length < 1000000:=by lia
      unfold fW
      rw [bh st,bh m1,bh w1]
      simp? [dE,c2,aT,hlen]
    · refine⟨ds2,some (.d (.int cell2)),v4',?_,w3,by lia⟩
      unfold fW
      rw [bh st,bh m1,bh w1]
      simp? [dE,c2]
  obtain⟨e',h1,hI⟩:=bI (own:=[]) (g:=ag 2) (f:=fW) (DI ns) (bu 0 (min (ns.length:Int) 63).toNat) 0 (dE ns [] none none none) (fun i x e hx hI=>by
    obtain⟨rfl,hi⟩:=dc hx
    obtain⟨hd,hl⟩:=hI
    rename_i ds v2 v3 v4
    rw [Nat.zero_add] at hl ⊢
    obtain⟨ds2,v3',v4',t1,t2,t3⟩:=turn i ds v3 v4 (by lia) hd hl
    exact⟨dE ns ds (some (.d (.int (i:Int)))) v3 v4,_,by simp [ag,dE],t1,aW,.mk t2 t3⟩) (.mk (fun d hd=>by cases hd) (by simp))
  obtain⟨hd,hl⟩:=hI
  rename_i ds v2 v3 v4
  refine⟨ds,?_,hd⟩
  have hf:∀W,cL W mB (ag 2) fW (dE ns [] none none none)=some (.nx (dE ns ds v2 v3 v4)):=fun W=>by
    rw [cm (show mB _=some (bu 0 (min (ns.length:Int) 63).toNat,[],dE ns [] none none none) from el (n:=min (ns.length:Int) 63) (by simp? [dE]) (by lia) (by lia))]
    exact h1
  unfold dE at hf
  simp only [List.map_nil] at hf
  simp? [lP,v_,hf]
theorem F8(a b:Int)(hb:Bt 4000 b):tj [.d (.int a),.d (.int b)]=some (.d (.int (Int.gcd a b)),[.d (.int a),.d (.int b)]):=by
  have tst:∀x y:Int,lB [some (.d (.int x)),some (.d (.int y))]=some (!(y==0),[some (.d (.int x)),some (.d (.int y))]):=fun x y=>by simp? [lB]
  obtain⟨e0,e',h1,⟨x,y,he,hg,hy⟩,h3⟩:=eE (ft:=lB) (f:=nR) (fun e=>∃x y,e=[some (.d (.int x)),some (.d (.int y))]∧Int.gcd x y=Int.gcd a b∧Bt 4000 y) (qD 1) (fun e ⟨x,y,he,hg,hy⟩=>by
    subst he
    rw [tst]
    by_cases c:y=0
    · subst c;exact .inl ⟨_,rfl,trivial⟩
    · refine .inr ⟨_,[some (.d (.int y)),some (.d (.int (x.fmod y)))],by rw [beq_false_of_ne c];rfl,by simp? [nR,yO c],⟨y,x.fmod y,rfl,by rw [sV,hg],?_⟩,?_⟩
      · have:=g_ x c
        exact Bt.of_le hy (by lia)
      · have:=g_ x c
        simpa [qD] using this) (2 ^ 4200) _ ⟨a,b,rfl,rfl,hb⟩ (j3 (m:=4000) (by simpa [qD,Bt] using hb) (by decide))
  subst he
  rw [tst] at h3
  have h4:=Prod.mk.inj (Option.some.inj h3)
  have hy0:y=0:=by simpa using h4.1
  subst hy0
  have h5:=h4.2
  subst h5
  have hs:eD (2 ^ 4200) lB nR [some (.d (.int a)),some (.d (.int b))]=some (.nx [some (.d (.int x)),some (.d (.int 0))]):=h1
  have hg':(x.natAbs:Int)=(Int.gcd a b:Int):=by rw [←hg];simp
  simp only [tj,Cy,f9,jK,ay,kD,bo,eC,aV,cO,jk,nM,p6,aK,aq,pN,ac,vC,cN,ah,aa,bE,aJ,bO,kj,uB,mP,uo,nG,ur,nH,ut,gG,fJ,bZ,br,tD,dJ,gp,mv,dt,bC,pU,su,aX,ao,ag,aU,bQ,aI,bc,rO,df,eQ,cG,hV,ia,h9,hZ,hX,eT,eS,eU,di,eP,nh,iK,jy,ni,jB,h_,jz,jA,eW,eV,dj,eX,nq,jp,eg,jq,jr,mY,dh,dg,dC,h8,List.replicate, -List.map_nil, -List.map_cons, -List.nil_append, -List.cons_append, -Option.bind_some, -Option.map_some, -getElem?_pos, -List.append_nil,m9,m8,m4,mZ,m6,m7,m5,m_]
  simp? [hs,hg']
theorem w6(t b:Int)(hb:0 < b)(h:Bt 4000 b):kz [.d (.int t),.d (.int b)]=some (.d (.tuple [.int (lowM t b).1,.int (lowM t b).2]),[.d (.int t),.d (.int b)]):=by
  have g0:=rA (t:=t) (b:=b) (by lia)
  have g1:(Int.gcd t b:Int)≠0:=by lia
  have g8:Bt 8000 (Int.gcd t b:Int):=(yQ (t:=t) (by lia) h).mono (by decide)
  have e:lowM t b=(t.fdiv (Int.gcd t b:Int),b.fdiv (Int.gcd t b:Int)):=by unfold lowM;rw [if_neg (by lia)]
  rw [e]
  simp? [kz,Cz,F8 t b h,wu g1 g8]
theorem CC{i:Int}{n:Nat}(h1: -2147483648 < i)(h2:i < 2147483648)(hn:31≤n):Bt n i:=Bt.mono (m:=31) (by unfold Bt;lia) hn
def yC(t b:Int):Prop:=0≤t∧t≤b∧1≤b∧b≤100∧Int.gcd t b=1
theorem Aq(n k:Int)(hn:0≤n):∃t b,e6 [.d (.int n),.d (.int k)]=some (.d (.tuple [.int t,.int b]),[.d (.int n),.d (.int k)])∧yC t b:=by
  have b9:Bt 8000 9:=mr (by decide) (by decide)
  have b100:Bt 8000 100:=mr (by decide) (by decide)
  have low:∀t b:Int,0 < b→0≤t→t≤b→b≤100→yC (lowM t b).1 (lowM t b).2:=fun t b hb h0 h1 h2=>by
    obtain⟨r1,r2,r3,r4⟩:=uZ hb h0 h1 h2
    exact⟨r1,r2,r3,r4,oM (by lia)⟩
  by_cases c0:k=0
  · subst c0
    obtain⟨x,hx,ha⟩:=kR (xs:=[PyData.tuple [.int 1,.int 2],.tuple [.int 1,.int 3],.tuple [.int 2,.int 3],.tuple [.int 1,.int 1],.tuple [.int 0,.int 1],.tuple [.int 3,.int 4]]) (i:=n % 6) (by lia) (by simp;lia)
    obtain⟨t,b,rfl,hc⟩:∃t b,x=.tuple [.int t,.int b]∧yC t b:=by
      simp only [List.mem_cons,List.not_mem_nil,or_false] at hx
      rcases hx with rfl | rfl | rfl | rfl | rfl | rfl<;>exact⟨_,_,rfl,by unfold yC;decide⟩
    exact⟨t,b,by simp? [e6,jt,aT,ha],hc⟩
  · by_cases c1:k=1
    · subst c1
      have hm:(n / 9) % (2+n % 9 - 1) < 2+n % 9 - 1:=Int.emod_lt_of_pos _ (by lia)
      have hm0:0≤(n / 9) % (2+n % 9 - 1):=Int.emod_nonneg _ (by lia)
      refine⟨_,_,?_,low (1+(n / 9) % (2+n % 9 - 1)) (2+n % 9) (by lia) (by lia) (by lia) (by lia)⟩
      have hpos:∀e:En,bg e (.d (.int (n / 9))) (.d (.int (2+n % 9 - 1)))=_:=fun e=>aT (by lia)
      have hl:=w6 (1+(n / 9) % (2+n % 9 - 1)) (2+n % 9) (by lia) (CC (by lia) (by lia) (by decide))
      simp? [e6,jt,aT,fY,b9,hpos,hl]
    · by_cases c2:k=2
      · subst c2
        have hm:(n / 100) % (1+n % 100+1) < 1+n % 100+1:=Int.emod_lt_of_pos _ (by lia)
        have hm0:0≤(n / 100) % (1+n % 100+1):=Int.emod_nonneg _ (by lia)
        refine⟨_,_,?_,low ((n / 100) % (1+n % 100+1)) (1+n % 100) (by lia) (by lia) (by lia) (by lia)⟩
        have hpos:∀e:En,bg e (.d (.int (n / 100))) (.d (.int (1+n % 100+1)))=_:=fun e=>aT (by lia)
        have hl:=w6 ((n / 100) % (1+n % 100+1)) (1+n % 100) (by lia) (CC (by lia) (by lia) (by decide))
        simp? [e6,jt,aT,fY,b100,hpos,hl]
      · refine⟨1,1,?_,by unfold yC;decide⟩
        simp? [e6,jt,c0,c1,c2]
theorem Cc(n k:Int):∃r,lS [.d (.int n),.d (.int k)]=some (.d (.int r),[.d (.int n),.d (.int k)])∧0≤r∧r≤1000:=by
  obtain⟨x,hx,ha⟩:=kR (xs:=[PyData.int (n % 7),.int (5+n % 2),.int (n % 1001),.int (1000 - n % 3)]) (i:=k % 4) (by lia) (by simp;lia)
  obtain⟨r,rfl,hr⟩:∃r,x=.int r∧0≤r∧r≤1000:=by
    simp only [List.mem_cons,List.not_mem_nil,or_false] at hx
    rcases hx with rfl | rfl | rfl | rfl<;>exact⟨_,rfl,by lia,by lia⟩
  exact⟨r,by simp? [lS,wd,aT,ha],hr⟩
abbrev tE(ds:List Int)(things many shape odds ws:Int)(ts:List iC)(v7 v8 v9 v10 v11 v12:Option Sv):En:=[some (.l (ds.map .int)),some (.d (.int things)),some (.d (.int many)),some (.d (.int shape)),some (.d (.int odds)),some (.d (.int ws)),some (.l (ts.map bL)),v7,v8,v9,v10,v11,v12]
inductive TR (things many shape odds ws:Int) (ts:List iC) (k:Option Sv):En→Prop
  | mk {t ds w8 w9 w10 w11 w12} (hd:iU ds) (ht:t.Ok things):TR things many shape odds ws ts k (tE ds things many shape odds ws (ts++[t]) k w8 w9 w10 w11 w12)
inductive TI (things many a b c:Int) (i:Nat):En→Prop
  | mk {ts ds w7 w8 w9 w10 w11 w12} (hd:iU ds) (hl:ts.length=i) (ht:∀t∈ts,t.Ok things):TI things many a b c i (tE ds things many a b c ts w7 w8 w9 w10 w11 w12)
theorem F_(ds:List Int)(things many shape odds ws:Int)(ts:List iC)(k:Int)(v8 v9 v10 v11 v12:Option Sv)(hd:iU ds)(h2:2≤things)(h12:things≤100)(s0:0≤shape)(s1:shape < 6)(k0:0≤k)(hl:ts.length≤1000):
    ∃e',iF (tE ds things many shape odds ws ts (some (.d (.int k))) v8 v9 v10 v11 v12)=some (.nx e')∧TR things many shape odds ws ts (some (.d (.int k))) e':=by
  obtain⟨n,d1,tn, -, -,hd1⟩:=jl hd
  obtain⟨m,d2,tm,m0, -,hd2⟩:=jl hd1
  obtain⟨x,hx,ha⟩:=kR (xs:=[PyData.int (n % things),.int 0,.int (k % things),.int (n % things),.int (n % 2),.int (n % things)]) (i:=shape) s0 (by simp;lia)
  have tp:0 < things:=Int.lt_of_lt_of_le (by decide) h2
  have tq:0 < things - 1:=Int.sub_pos_of_lt (Int.lt_of_lt_of_le (by decide) h2)
  have nt:0≤n % things∧n % things < things:=⟨AJ tp,AK tp⟩
  have kt:0≤k % things∧k % things < things:=⟨AJ tp,AK tp⟩
  obtain⟨one,rfl,o0,o1⟩:∃r,x=.int r∧0≤r∧r < things:=by
    simp only [List.mem_cons,List.not_mem_nil,or_false] at hx
    rcases hx with rfl | rfl | rfl | rfl | rfl | rfl<;>exact⟨_,rfl,by lia,by lia⟩
  have r0:0≤(n / 12) % (things - 1):=AJ tq
  have r1:(n / 12) % (things - 1) < things - 1:=AK tq
  have q0:0≤(one+1+(n / 12) % (things - 1)) % things:=AJ tp
  have q1:(one+1+(n / 12) % (things - 1)) % things < things:=AK tp
  have qn:(one+1+(n / 12) % (things - 1)) % things≠one:=fun z=>by
    by_cases c:one+1+(n / 12) % (things - 1) < things
    · rw [Int.emod_eq_of_lt (by lia) c] at z;lia
    · have e:(one+1+(n / 12) % (things - 1)) % things=(one+1+(n / 12) % (things - 1) - things) % things:=by rw [Int.sub_emod_right]
      rw [e,Int.emod_eq_of_lt (by lia) (by lia)] at z;lia
  obtain⟨t,b,c1,c2,c3,c4,c5,c6⟩:=Aq m odds m0
  obtain⟨w,w1,w2,w3⟩:=Cc (m / 10007) ws
  have b12:Bt 8000 12:=mr (by decide) (by decide)
  have b107:Bt 8000 10007:=mr (by decide) (by decide)
  have g1:∀(e:En) (i:Int),bg e (.d (.int i)) (.d (.int things))=some (.d (.int (i % things))):=fun e i=>aT tp
  have g2:∀(e:En) (i:Int),bg e (.d (.int i)) (.d (.int (things - 1)))=some (.d (.int (i % (things - 1)))):=fun e i=>aT tq
  have hlen:ts.length < 1000000:=by lia
  by_cases c:shape=4
  · subst c
    refine⟨tE d2 things many 4 odds ws (ts++[⟨0,1,t,b,w⟩]) (some (.d (.int k))) (some (.d (.int n))) (some (.d (.int 0))) (some (.d (.int 1))) (some (.d (.int m))) (some (.d (.tuple [.int 0,.int 1]))),?_,.mk hd2 ⟨by show(0:Int)≤0;decide,by show(0:Int) < 1;decide,by show(1:Int) < things;lia,c2,c3,c4,c5,w2,w3,c6⟩⟩
    simp? [tE,iF,tn,tm,aT,g1,g2,fY,b12,b107,ha,c1,w1,oG,bL,hlen]
    decide
  · refine⟨tE d2 things many shape odds ws (ts++[⟨min one ((one+1+(n / 12) % (things - 1)) % things),max one ((one+1+(n / 12) % (things - 1)) % things),t,b,w⟩]) (some (.d (.int k))) (some (.d (.int n))) (some (.d (.int one))) (some (.d (.int ((one+1+(n / 12) % (things - 1)) % things)))) (some (.d (.int m))) (some (.d (.tuple [.int (min one ((one+1+(n / 12) % (things - 1)) % things)),.int (max one ((one+1+(n / 12) % (things - 1)) % things))]))),?_,.mk hd2 ⟨by show 0≤min _ _;lia,by show min _ _ < max _ _;lia,by show max _ _ < _;lia,c2,c3,c4,c5,w2,w3,c6⟩⟩
    simp? [tE,iF,tn,tm,aT,g1,g2,fY,b12,b107,ha,c1,w1,oG,bL,hlen,c]
theorem Ey(ds:List Int)(things many:Int)(hd:iU ds)(h2:2≤things)(h12:things≤100)(m0:0≤many)(m1:many≤1000):∃(ts:List iC) (ds':List Int),oO [.l (ds.map .int),.d (.int things),.d (.int many)]=some (.d (.tuple (ts.map bL)),[.l (ds'.map .int),.d (.int things),.d (.int many)])∧iU ds'∧(ts.length:Int)=many∧∀t∈ts,t.Ok things:=by
  obtain⟨n0,d1,t0, -, -,hd1⟩:=jl hd
  obtain⟨n1,d2,t1, -, -,hd2⟩:=jl hd1
  obtain⟨n2,d3,t2, -, -,hd3⟩:=jl hd2
  obtain⟨e',h1,hI⟩:=bI (own:=[]) (g:=ag 7) (f:=iF) (TI things many (n0 % 6) (n1 % 4) (n2 % 4)) (bu 0 many.toNat) 0 (tE d3 things many (n0 % 6) (n1 % 4) (n2 % 4) [] none none none none none none) (fun i x e hx hI=>by
    obtain⟨rfl,hi⟩:=dc hx
    obtain⟨hd',hl,ht⟩:=hI
    rename_i ts ds' w7 w8 w9 w10 w11 w12
    obtain⟨e9,s1,⟨s2,s3⟩⟩:=F_ ds' things many (n0 % 6) (n1 % 4) (n2 % 4) ts (0+(i:Int)) w8 w9 w10 w11 w12 hd' h2 h12 (AJ (by decide)) (AK (by decide)) (by lia) (by lia)
    exact⟨_,_,rfl,s1,aW,.mk s2 (by simp;lia) fun z hz=>by
      rcases List.mem_append.mp hz with hz | hz
      · exact ht z hz
      · simp at hz;subst hz;exact s3⟩) (.mk hd3 rfl fun t ht=>by cases ht)
  obtain⟨hd',hl,ht⟩:=hI
  rename_i ts ds' w7 w8 w9 w10 w11 w12
  refine⟨ts,ds',?_,hd',by rw [hl,gJ];lia,ht⟩
  have hf:∀W,cL W oI (ag 7) iF (tE d3 things many (n0 % 6) (n1 % 4) (n2 % 4) [] none none none none none none)=some (.nx (tE ds' things many (n0 % 6) (n1 % 4) (n2 % 4) ts w7 w8 w9 w10 w11 w12)):=fun W=>by
    rw [cm (show oI _=some (bu 0 many.toNat,[],tE d3 things many (n0 % 6) (n1 % 4) (n2 % 4) [] none none none none none none) from el (n:=many) (by simp? [tE]) (by lia) (by lia))]
    exact h1
  unfold tE at hf
  simp only [List.map_nil] at hf
  simp? [oO,yu,t0,t1,t2,aT,hf]
abbrev wE(ds:List Int)(most tn things many:Int)(ts:List iC)(way:Int)(ps:List Int)(v8 v9:Option Sv):En:=[some (.l (ds.map .int)),some (.d (.int most)),some (.d (.int tn)),some (.d (.int things)),some (.d (.int many)),some (.d (.tuple (ts.map bL))),some (.d (.int way)),some (.l (ps.map .int)),v8,v9]
inductive WI (most tn things many:Int) (ts:List iC) (way:Int) (i:Nat):En→Prop
  | mk {ps ds w8} (hd:iU ds) (hpl:ps.length=i) (hps:∀p∈ps,0≤p∧p≤20):WI most tn things many ts way i (wE ds most tn things many ts way ps w8 none)
theorem Ga(ds:List Int)(most tn:Int)(hd:iU ds)(m0:0≤most)(m1:most≤12)(k0:0≤tn)(k1:tn≤16):∃(W:aC) (ds':List Int),tu [.l (ds.map .int),.d (.int most),.d (.int tn)]=some (.d (aN W),[.l (ds'.map .int),.d (.int most),.d (.int tn)])∧iU ds'∧W.Ok∧W.things≤most∧(W.ties.length:Int)≤tn:=by
  obtain⟨n0,d1,t0, -, -,hd1⟩:=jl hd
  obtain⟨n1,d2,t1, -, -,hd2⟩:=jl hd1
  have mp:0 < most+1:=Int.lt_add_one_of_le m0
  have kp:0 < tn+1:=Int.lt_add_one_of_le k0
  have g0:∀(e:En),bg e (.d (.int n0)) (.d (.int (most+1)))=some (.d (.int (n0 % (most+1)))):=fun e=>aT mp
  have g1':∀(e:En),bg e (.d (.int n1)) (.d (.int (tn+1)))=some (.d (.int (n1 % (tn+1)))):=fun e=>aT kp
  have th0:0≤n0 % (most+1):=AJ mp
  have th1:n0 % (most+1) < most+1:=AK mp
  have ti0:0≤n1 % (tn+1):=AJ kp
  have ti1:n1 % (tn+1) < tn+1:=AK kp
  clear mp kp
  generalize n0 % (most+1)=things at th0 th1 g0
  generalize n1 % (tn+1)=tm at ti0 ti1 g1'
  obtain⟨many,hmany,mm,m00,m01⟩:∃many:Int,many=tm*(if decide (1 < things)=true then 1 else 0)∧(1 < things∨many=0)∧0≤many∧many≤tn:=by
    by_cases c:1 < things
    · exact⟨tm,by simp [c],.inl c,ti0,by lia⟩
    · exact⟨0,by simp [c],.inr rfl,by lia,by lia⟩
  have gm:∀e:En,ce e (.d (.int tm)) (.d (.int (if decide (1 < things)=true then 1 else 0)))=some (.d (.int many)):=fun e=>by
    rw [bJ (rL (by split<;>decide) (by split<;>decide)),hmany]
  have gi:∀e:En,g1 pV e [.d (.bool (decide (1 < things)))]=some (.d (.int (if decide (1 < things)=true then 1 else 0))):=fun e=>rfl
  generalize (if decide (1 < things)=true then 1 else 0:Int)=one at gm gi
  obtain⟨ts,d3,t3,hd3,hlen,hts⟩:=Ey d2 (max 2 things) many hd2 (by lia) (by lia) m00 (by lia)
  obtain⟨n4,d4,t4, -, -,hd4⟩:=jl hd3
  obtain⟨e',h1,hI⟩:=bI (own:=[]) (g:=ag 8) (f:=nS) (WI most tn things many ts (n4 % 3)) (bu 0 things.toNat) 0 (wE d4 most tn things many ts (n4 % 3) [] none none) (fun i x e hx hI=>by
    obtain⟨rfl,hi⟩:=dc hx
    obtain⟨hd5,hpl,hps⟩:=hI
    rename_i ps d5 w8
    obtain⟨p1,d6,t6, -, -,hd6⟩:=jl hd5
    obtain⟨p2,d7,t7, -, -,hd7⟩:=jl hd6
    obtain⟨z,hz,ha⟩:=kR (xs:=[PyData.int 20,.int (1+p1 % 3),.int (p2 % 21)]) (i:=n4 % 3) (AJ (by decide)) (AK (k:=3) (by decide))
    obtain⟨p,rfl,hp⟩:∃r,z=.int r∧0≤r∧r≤20:=by
      simp only [List.mem_cons,List.not_mem_nil,or_false] at hz
      rcases hz with rfl | rfl | rfl<;>exact⟨_,rfl,by lia,by lia⟩
    refine⟨wE d5 most tn things many ts (n4 % 3) ps (some (.d (.int (0+(i:Int))))) none,wE d7 most tn things many ts (n4 % 3) (ps++[p]) (some (.d (.int (0+(i:Int))))) none,rfl,?_,aW,.mk hd7 (by simp;lia) fun q hq=>by
      rcases List.mem_append.mp hq with hq | hq
      · exact hps q hq
      · simp at hq;subst hq;exact hp⟩
    have hlen:ps.length < 1000000:=by lia
    simp? [wE,nS,t6,t7,aT,ha,hlen]) (.mk hd4 rfl fun p hp=>by cases hp)
  obtain⟨hd5,hpl,hps⟩:=hI
  rename_i ps d5 w8
  have hf:∀W,cL W rC (ag 8) nS (wE d4 most tn things many ts (n4 % 3) [] none none)=some (.nx (wE d5 most tn things many ts (n4 % 3) ps w8 none)):=fun W=>by
    rw [cm (show rC _=some (bu 0 things.toNat,[],wE d4 most tn things many ts (n4 % 3) [] none none) from el (n:=things) (by simp? [wE]) (by lia) (by lia))]
    exact h1
  obtain⟨p1,d6,t6, -, -,hd6⟩:=jl hd5
  obtain⟨p2,d7,t7, -, -,hd7⟩:=jl hd6
  obtain⟨p3,d8,t8, -, -,hd8⟩:=jl hd7
  have xp:0 < max 1 many:=Int.lt_of_lt_of_le Int.zero_lt_one (Int.le_max_left _ _)
  have gx:∀(e:En),bg e (.d (.int p1)) (.d (.int (max 1 many)))=some (.d (.int (p1 % max 1 many))):=fun e=>aT xp
  have x0:0≤p1 % max 1 many:=AJ xp
  have x1:p1 % max 1 many < max 1 many:=AK xp
  obtain⟨z,hz,ha⟩:=kR (xs:=[PyData.int 40,.int (1+p1 % max 1 many),.int (p2 % 41)]) (i:=p3 % 3) (AJ (by decide)) (AK (k:=3) (by decide))
  obtain⟨asks,rfl,hasks⟩:∃r,z=.int r∧0≤r∧r≤40:=by
    simp only [List.mem_cons,List.not_mem_nil,or_false] at hz
    rcases hz with rfl | rfl | rfl<;>exact⟨_,rfl,by lia,by lia⟩
  rw [gJ] at hpl
  refine⟨⟨things,ts,ps,asks⟩,d8,?_,hd8,⟨th0,by show things≤12;lia,fun t ht=>?_,by show ts.length≤16;lia,by show(ps.length:Int)=things;lia,hps,hasks.1,hasks.2⟩,by show things≤most;lia,by show(ts.length:Int)≤tn;lia⟩
  · unfold wE at hf
    simp only [List.map_nil] at hf
    simp? [tu,CA,t0,t1,g0,g1',gm,gi,t3,t4,aT,hf,t6,t7,t8,gx,ha,aN]
  · rcases mm with c | c
    · have:=hts t ht
      rw [show max 2 things=things by lia] at this
      exact this
    · have:ts=[]:=List.length_eq_zero_iff.mp (by lia)
      subst this;cases ht
theorem qR{W:aC}{asked:List Int}{thing:Int}(h:∀k∈asked,km W k)(hl:asked.length≤1000):fZ [.d (aN W),.d (.tuple (asked.map .int)),.d (.int thing)]=some (.d (.int (W.many asked thing)),[.d (aN W),.d (.tuple (asked.map .int)),.d (.int thing)]):=by
  let cs:En:=[some (.d (.int thing)),some (.d (aN W))]
  have hc:∀x∈asked.map PyData.int,eK (cs++[some (.d x)])=some (vh (fun k=>W.has k thing) x,cs++[some (.d x)]):=fun x hx=>by
    obtain⟨k,hk,rfl⟩:=List.mem_map.mp hx
    simp? [vh,cs,eK,aN,js (h k hk),bL,aC.has]
  have he:∀x∈asked.map PyData.int,vh (fun k=>W.has k thing) x=true→eO (cs++[some (.d x)])=some (.d (id x),cs++[some (.d x)]):=fun x hx _=>by
    simp? [cs,eO]
  obtain⟨t',hf⟩:=bG (cs:=cs) (ft:=eK) (fe:=eO) (b:=vh (fun k=>W.has k thing)) (y:=id) (asked.map PyData.int) none [] hc he (by simp;lia)
  have hv:=d9 (cp:=[(2,"_law_thing"),(0,"_law_web_here")]) (nT:=1) (fi:=nu) (g:=ag 2) (ft:=eK) (fe:=eO) (e:=[some (.d (aN W)),some (.d (.tuple (asked.map PyData.int))),some (.d (.int thing))]) (cs:=cs) (t:=[none]) (t':=[t']) (k7 (fa:=ac 1) rfl) rfl rfl hf
  have hlen:(([]++List.map id (List.filter (vh (fun k=>W.has k thing)) (asked.map PyData.int))).length:Int)=W.many asked thing:=by
    unfold aC.many
    simp [List.filter_map]
    rfl
  simp only [fZ,qb,f9,jK,ay,kD,bo,eC,aV,cO,jk,nM,p6,aK,aq,pN,ac,vC,cN,ah,aa,bE,aJ,bO,kj,uB,mP,uo,nG,ur,nH,ut,gG,fJ,bZ,br,tD,dJ,gp,mv,dt,bC,pU,su,aX,ao,ag,aU,bQ,aI,bc,rO,df,eQ,cG,hV,ia,h9,hZ,hX,eT,eS,eU,di,eP,nh,iK,jy,ni,jB,h_,jz,jA,eW,eV,dj,eX,nq,jp,eg,jq,jr,mY,dh,dg,dC,h8,List.replicate, -List.map_nil, -List.map_cons, -List.nil_append, -List.cons_append, -Option.bind_some, -Option.map_some, -getElem?_pos, -List.append_nil,m9,m8,m4,mZ,m6,m7,m5,m_]
  simp? [hv]
  simpa using hlen
theorem zq{W:aC}(ok:W.Ok){thing:Int}(h0:0≤thing)(h1:thing < W.things):atI (W.pat.map PyData.int) thing=some (.int (W.pat.getD thing.toNat 0)):=yp h0 (by have:=ok.pl;lia)
theorem F9{W:aC}(ok:W.Ok){asked taken:List Int}{k:Int}(h:∀k∈asked,km W k)(hl:asked.length≤1000)(hk:km W k):lR [.d (aN W),.d (ms asked taken),.d (.int k)]=some (.d (.bool (W.may asked taken k)),[.d (aN W),.d (ms asked taken),.d (.int k)]):=by
  have tk:=hk.ok ok
  have t0:=tk.o0
  have t1:=tk.o1
  have t2:=tk.o2
  have p1:=zq ok (thing:=(W.tie k).one) (by lia) (by lia)
  have p2:=zq ok (thing:=(W.tie k).other) (by lia) (by lia)
  have a1:=qR (W:=W) (asked:=asked) (thing:=(W.tie k).one) h hl
  have a2:=qR (W:=W) (asked:=asked) (thing:=(W.tie k).other) h hl
  rw [eM] at a1 a2 ⊢
  unfold aC.may aC.bears
  by_cases c1:asked.contains k=true
  · simp? [lR,qc,ms,c1]
    simp at c1
    simp [c1]
  · by_cases c2:W.asks≤(asked.length:Int)
    · have c1':k∉asked:=by simpa using c1
      simp? [lR,qc,ms,c1',c2]
    · have c1':k∉asked:=by simpa using c1
      have turn:∀(thing:Int) (v5:Option Sv),fZ [.d (.tuple [.int W.things,.tuple (W.ties.map bL),.tuple (W.pat.map .int),.int W.asks]),.d (.tuple (asked.map .int)),.d (.int thing)]=some (.d (.int (W.many asked thing)),[.d (.tuple [.int W.things,.tuple (W.ties.map bL),.tuple (W.pat.map .int),.int W.asks]),.d (.tuple (asked.map .int)),.d (.int thing)])→atI (W.pat.map PyData.int) thing=some (.int (W.pat.getD thing.toNat 0))→
          iY [some (.d (.tuple [.int W.things,.tuple (W.ties.map bL),.tuple (W.pat.map .int),.int W.asks])),some (.d (ms asked taken)),some (.d (.int k)),some (.d (.tuple (asked.map .int))),some (.d (.tuple (taken.map .int))),some (.d (.int thing))]=(if (!taken.contains thing&&decide (W.many asked thing < W.pat.getD thing.toNat 0))=true then some (.nx [some (.d (.tuple [.int W.things,.tuple (W.ties.map bL),.tuple (W.pat.map .int),.int W.asks])),some (.d (ms asked taken)),some (.d (.int k)),some (.d (.tuple (asked.map .int))),some (.d (.tuple (taken.map .int))),some (.d (.int thing))]) else some (.rt (.d (.bool false)) [some (.d (.tuple [.int W.things,.tuple (W.ties.map bL),.tuple (W.pat.map .int),.int W.asks])),some (.d (ms asked taken)),some (.d (.int k)),some (.d (.tuple (asked.map .int))),some (.d (.tuple (taken.map .int))),some (.d (.int thing))])):=by
        intro thing v5 ha hp
        by_cases d1:taken.contains thing=true
        · have d1':thing∈taken:=by simpa using d1
          simp? [iY,d1']
        · have d1':thing∉taken:=by simpa using d1
          by_cases d2:W.many asked thing < W.pat.getD thing.toNat 0
          · have d2':¬W.pat.getD thing.toNat 0≤W.many asked thing:=by lia
            simp only [List.getD_eq_getElem?_getD] at d2 d2' hp
            simp? [iY,d1',ha,hp,d2,d2']
          · have d2':W.pat.getD thing.toNat 0≤W.many asked thing:=by lia
            simp only [List.getD_eq_getElem?_getD] at d2 d2' hp
            simp? [iY,d1',ha,hp,d2,d2']
      have u1:=turn (W.tie k).one none a1 p1
      have u2:=turn (W.tie k).other none a2 p2
      have hf:∀Wl,cL Wl wy (ag 5) iY [some (.d (.tuple [.int W.things,.tuple (W.ties.map bL),.tuple (W.pat.map .int),.int W.asks])),some (.d (ms asked taken)),some (.d (.int k)),some (.d (.tuple (asked.map .int))),some (.d (.tuple (taken.map .int))),none]=ij [] (ag 5) iY [.int (W.tie k).one,.int (W.tie k).other] [some (.d (.tuple [.int W.things,.tuple (W.ties.map bL),.tuple (W.pat.map .int),.int W.asks])),some (.d (ms asked taken)),some (.d (.int k)),some (.d (.tuple (asked.map .int))),some (.d (.tuple (taken.map .int))),none]:=fun Wl=>by
        rw [cm]
        exact k7 (by simp? [js hk,bL])
      unfold ms at u1 u2 hf ⊢
      by_cases e1:(!taken.contains (W.tie k).one&&decide (W.many asked (W.tie k).one < W.pat.getD (W.tie k).one.toNat 0))=true
      · by_cases e2:(!taken.contains (W.tie k).other&&decide (W.many asked (W.tie k).other < W.pat.getD (W.tie k).other.toNat 0))=true
        · rw [if_pos e1] at u1
          rw [if_pos e2] at u2
          rw [e1,e2]
          simp only [lR,qc,f9,jK,ay,kD,bo,eC,aV,cO,jk,nM,p6,aK,aq,pN,ac,vC,cN,ah,aa,bE,aJ,bO,kj,uB,mP,uo,nG,ur,nH,ut,gG,fJ,bZ,br,tD,dJ,gp,mv,dt,bC,pU,su,aX,ao,ag,aU,bQ,aI,bc,rO,df,eQ,cG,hV,ia,h9,hZ,hX,eT,eS,eU,di,eP,nh,iK,jy,ni,jB,h_,jz,jA,eW,eV,dj,eX,nq,jp,eg,jq,jr,mY,dh,dg,dC,h8,List.replicate, -List.map_nil, -List.map_cons, -List.nil_append, -List.cons_append, -Option.bind_some, -Option.map_some, -getElem?_pos, -List.append_nil,m9,m8,m4,mZ,m6,m7,m5,m_]
          simp? [c1',c2,hf,ij,u1,u2,aW]
        · rw [if_pos e1] at u1
          rw [if_neg e2] at u2
          rw [e1,Bool.not_eq_true _ |>.mp e2]
          simp only [lR,qc,f9,jK,ay,kD,bo,eC,aV,cO,jk,nM,p6,aK,aq,pN,ac,vC,cN,ah,aa,bE,aJ,bO,kj,uB,mP,uo,nG,ur,nH,ut,gG,fJ,bZ,br,tD,dJ,gp,mv,dt,bC,pU,su,aX,ao,ag,aU,bQ,aI,bc,rO,df,eQ,cG,hV,ia,h9,hZ,hX,eT,eS,eU,di,eP,nh,iK,jy,ni,jB,h_,jz,jA,eW,eV,dj,eX,nq,jp,eg,jq,jr,mY,dh,dg,dC,h8,List.replicate, -List.map_nil, -List.map_cons, -List.nil_append, -List.cons_append, -Option.bind_some, -Option.map_some, -getElem?_pos, -List.append_nil,m9,m8,m4,mZ,m6,m7,m5,m_]
          simp? [c1',c2,hf,ij,u1,u2,aW]
      · rw [if_neg e1] at u1
        rw [Bool.not_eq_true _ |>.mp e1]
        simp only [lR,qc,f9,jK,ay,kD,bo,eC,aV,cO,jk,nM,p6,aK,aq,pN,ac,vC,cN,ah,aa,bE,aJ,bO,kj,uB,mP,uo,nG,ur,nH,ut,gG,fJ,bZ,br,tD,dJ,gp,mv,dt,bC,pU,su,aX,ao,ag,aU,bQ,aI,bc,rO,df,eQ,cG,hV,ia,h9,hZ,hX,eT,eS,eU,di,eP,nh,iK,jy,ni,jB,h_,jz,jA,eW,eV,dj,eX,nq,jp,eg,jq,jr,mY,dh,dg,dC,h8,List.replicate, -List.map_nil, -List.map_cons, -List.nil_append, -List.cons_append, -Option.bind_some, -Option.map_some, -getElem?_pos, -List.append_nil,m9,m8,m4,mZ,m6,m7,m5,m_]
        simp? [c1',c2,hf,ij,u1,aW]
theorem uf{W:aC}{asked taken:List Int}{k:Int}(truth:Bool)(hk:km W k)(h1:asked.length < 60)(h2:taken.length < 60):eZ [.d (aN W),.d (ms asked taken),.d (.int k),.d (.bool truth)]=some (.d (ms (aC.askd asked k) (W.took taken k truth)),[.d (aN W),.d (ms asked taken),.d (.int k),.d (.bool truth)]):=by
  have s1:∀e,g1 i3 e [.d (.tuple (asked.map PyData.int++[.int k]))]=some (.l ((jR (asked++[k])).map .int)):=fun e=>by
    have:=oH (e:=e) (ns:=asked++[k]) (by simp;lia)
    simpa using this
  have s2:∀e,g1 i3 e [.d (.tuple (taken.map PyData.int++[.int (W.tie k).one,.int (W.tie k).other]))]=some (.l ((jR (taken++[(W.tie k).one,(W.tie k).other])).map .int)):=fun e=>by
    have:=oH (e:=e) (ns:=taken++[(W.tie k).one,(W.tie k).other]) (by simp;lia)
    simpa using this
  have g1':∀e,bY e (.d (.tuple (asked.map .int))) (.d (.tuple [.int k]))=some (.d (.tuple (asked.map .int++[.int k]))):=fun e=>oG (by simp;lia)
  have g2':∀e,bY e (.d (.tuple (taken.map .int))) (.d (.tuple [.int (W.tie k).one,.int (W.tie k).other]))=some (.d (.tuple (taken.map .int++[.int (W.tie k).one,.int (W.tie k).other]))):=fun e=>oG (by simp;lia)
  rw [eM]
  cases truth with
  | true=>simp? [eZ,oz,ms,js hk,bL,g1',g2',s1,s2,aC.askd,aC.took]
  | false=>simp? [eZ,oz,ms,g1',s1,aC.askd,aC.took]
theorem x_{W:aC}(ok:W.Ok){asked taken:List Int}(h:∀k∈asked,km W k)(hl:asked.length≤1000):iM [.d (aN W),.d (ms asked taken)]=some (.l ((W.can asked taken).map .int),[.d (aN W),.d (ms asked taken)]):=by
  let cs:En:=[some (.d (aN W)),some (.d (ms asked taken))]
  have wl:=ok.len
  have hc:∀x∈bu 0 W.ties.length,eJ (cs++[some (.d x)])=some (vh (fun k=>W.may asked taken k) x,cs++[some (.d x)]):=fun x hx=>by
    obtain⟨i,hi⟩:=List.getElem?_of_mem hx
    obtain⟨rfl,hi⟩:=dc hi
    have:=F9 ok (taken:=taken) h hl (k:=0+(i:Int)) ⟨by lia,by lia⟩
    simp only [Int.zero_add] at this
    simp? [vh,cs,eJ,this]
  have he:∀x∈bu 0 W.ties.length,vh (fun k=>W.may asked taken k) x=true→eN (cs++[some (.d x)])=some (.d (id x),cs++[some (.d x)]):=fun x hx _=>by
    simp? [cs,eN]
  obtain⟨t',hf⟩:=bG (cs:=cs) (ft:=eJ) (fe:=eN) (b:=vh (fun k=>W.may asked taken k)) (y:=id) (bu 0 W.ties.length) none [] hc he (by rw [gJ];simp;lia)
  have hv:=d9 (cp:=[(0,"_law_web_here"),(1,"_law_stand")]) (nT:=1) (fi:=jC) (g:=ag 2) (ft:=eJ) (fe:=eN) (e:=[some (.d (aN W)),some (.d (ms asked taken))]) (cs:=cs) (t:=[none]) (t':=[t']) (show jC [some (.d (aN W)),some (.d (ms asked taken))]=some (bu 0 W.ties.length,[],[some (.d (aN W)),some (.d (ms asked taken))]) from el (n:=(W.ties.length:Int)) (by rw [eM];simp? [List.replicate]) (by lia) (by lia)) rfl rfl hf
  rw [List.nil_append,List.map_id,xW] at hv
  simp only [iM,qa,f9,jK,ay,kD,bo,eC,aV,cO,jk,nM,p6,aK,aq,pN,ac,vC,cN,ah,aa,bE,aJ,bO,kj,uB,mP,uo,nG,ur,nH,ut,gG,fJ,bZ,br,tD,dJ,gp,mv,dt,bC,pU,su,aX,ao,ag,aU,bQ,aI,bc,rO,df,eQ,cG,hV,ia,h9,hZ,hX,eT,eS,eU,di,eP,nh,iK,jy,ni,jB,h_,jz,jA,eW,eV,dj,eX,nq,jp,eg,jq,jr,mY,dh,dg,dC,h8,List.replicate, -List.map_nil, -List.map_cons, -List.nil_append, -List.cons_append, -Option.bind_some, -Option.map_some, -getElem?_pos, -List.append_nil,m9,m8,m4,mZ,m6,m7,m5,m_]
  simp? [hv]
def gE(ds:List Int)(W:aC)(most:Int)(T:List Nd)(ws:List Wt)(v5 v6 v7 v8 v9 v10:Option Sv):En:=[some (.l (ds.map .int)),some (.d (aN W)),some (.d (.int most)),some (.n (T.map xC)),some (.l (ws.map A8)),v5,v6,v7,v8,v9,v10]
inductive GT (W:aC) (most:Int) (T:List Nd) (ws:List Wt):En→Prop
  | mk {ds T' S' ws' u5 u6 u7 u8 u9 u10} (hd:iU ds) (hG:qV W T' S' ws') (hU:vV T' ws') (hc:(T'.length=T.length∧ws'.length=ws.length)∨((T.length:Int) < most∧T'.length=T.length+1∧ws'.length=ws.length+2)):GT W most T ws (gE ds W most T' ws' u5 u6 u7 u8 u9 u10)
noncomputable abbrev gC:FT:=kj (aK (aq (cK true) (ac 8) (cN ah))) (kj (aK (aq yM (fK 3) (ac 2))) (uB (aK (aq (cK true) (aq bg (ac 9) (vC (.int 7))) (vC (.int 6)))) (aK (aq yM (ac 6) (vC (.int 0))))))
noncomputable abbrev gP:FS:=kD (aK (aq AL (ac 6) (vC (.int 0)))) (qH 3 (fK 3) (ac 6) (xH (nC 1) (xI 7))) eC
noncomputable abbrev gA(b:Bool)(i:Int):FS:=cO (bZ br (ac 4) (aa (bE (aa (bO 4 eZ (aa (ac 1) (aa (ac 5) (aa (ac 10) (aa (vC (.bool b)) ah))))) (aa (fK 3) (aa (vC (.int i)) ah)))) ah))
theorem EA{W:aC}(ok:W.Ok){ds:List Int}{most:Int}{T:List Nd}{S:Nat→Std}{w:Wt}{ws:List Wt}{v5 v6 v7 v8 v9 v10:Option Sv}(hd:iU ds)(h:qV W T S (w::ws))(hu:vV T (w::ws))(hT:T.length≤1000)(hw:ws.length≤5000):
    ∃e',iE (gE ds W most T (w::ws) v5 v6 v7 v8 v9 v10)=some (.nx e')∧GT W most T ws e':=by
  obtain⟨n,d1,t1, -, -,hd1⟩:=jl hd
  obtain⟨hs,hp⟩:=h.wt w (by simp)
  have hl:=hs.len
  have hl2:=hs.tk
  have wl:=ok.len
  have ta:=x_ ok (asked:=w.st.1) (taken:=w.st.2) hs.inw (by lia)
  let E:List Nd→List Wt→Option Sv→En:=fun T ws v10=>gE d1 W most T ws (some (.d (ms w.st.1 w.st.2))) (some (.d (.int w.par))) (some (.d (.int w.side))) (some (.l ((W.can w.st.1 w.st.2).map .int))) (some (.d (.int n))) v10
  have pre:∀R,(kD gC (ay (aV 10 (aq bH (ac 8) (aq bg (aq ef (ac 9) (vC (.int 7))) (aJ (g1 ik) (aa (ac 8) ah))))) (ay gP (ay (gA true 0) (ay (gA false 1) (cO (uq 3 (cN (aa (ac 10) (aa (pN my (vC (.int 1))) (aa (pN my (vC (.int 1))) ah)))))))))) eC (E T ws v10)=R)→iE (gE ds W most T (w::ws) v5 v6 v7 v8 v9 v10)=R:=fun R hR=>by
    refine(bh (e1:=gE ds W most T ws (some (.d (ms w.st.1 w.st.2))) (some (.d (.int w.par))) (some (.d (.int w.side))) v8 v9 v10) ?_).trans ((bh (e1:=gE ds W most T ws (some (.d (ms w.st.1 w.st.2))) (some (.d (.int w.par))) (some (.d (.int w.side))) (some (.l ((W.can w.st.1 w.st.2).map .int))) v9 v10) ?_).trans ((bh (e1:=E T ws v10) ?_).trans hR))
    · simp? [gE,A8]
    · simp? [gE,ta]
    · simp? [gE,E,t1]
  have q8:∀e:En,e[8]?=some (some (.l ((W.can w.st.1 w.st.2).map .int)))→cK true e (.s 8) (.l [])=some (.d (.bool (!((W.can w.st.1 w.st.2).map PyData.int).isEmpty))):=fun e he=>by
    have:=lK (neg:=true) he (jQ _).1
    simpa using this
  have gm:∀e:En,bg e (.d (.int n)) (.d (.int 7))=some (.d (.int (n % 7))):=fun e=>aT (by decide)
  have tst:gC (E T ws v10)=some (!(W.can w.st.1 w.st.2).isEmpty&&(decide ((T.length:Int) < most)&&(!(n % 7==6) || decide (w.par < 0))),E T ws v10):=by
    by_cases c1:W.can w.st.1 w.st.2=[]
    · rw [c1] at q8
      simp? [E,gC,gE,q8,c1]
    · by_cases c2:(T.length:Int) < most
      · by_cases c3:n % 7=6
        · simp? [E,gC,gE,q8,gm,c1,c2,c3,fK,ci]
        · simp? [E,gC,gE,q8,gm,c1,c2,c3,fK,ci]
      · simp? [E,gC,gE,q8,c1,c2,fK,ci]
  cases hb:(!(W.can w.st.1 w.st.2).isEmpty&&(decide ((T.length:Int) < most)&&(!(n % 7==6) || decide (w.par < 0)))) with
  | false=>
    rw [hb] at tst
    exact⟨E T ws v10,pre _ (CZ tst),.mk hd1 h.less hu.less (.inl ⟨rfl,rfl⟩)⟩
  | true=>
    rw [hb] at tst
    simp only [Bool.and_eq_true,Bool.or_eq_true,Bool.not_eq_true',decide_eq_true_eq] at hb
    obtain⟨c1,c2,c3⟩:=hb
    have cl:0 < (W.can w.st.1 w.st.2).length:=by
      cases z:W.can w.st.1 w.st.2 with
      | nil=>rw [z] at c1;cases c1
      | cons a r=>simp
    have gd:∀e:En,ef e (.d (.int n)) (.d (.int 7))=some (.d (.int (n / 7))):=fun e=>fY (by decide) (mr (by decide) (by decide))
    have gx:∀e:En,bg e (.d (.int (n / 7))) (.d (.int (W.can w.st.1 w.st.2).length))=some (.d (.int (n / 7 % (W.can w.st.1 w.st.2).length))):=fun e=>aT (by lia)
    have x0:0≤n / 7 % ((W.can w.st.1 w.st.2).length:Int):=Int.emod_nonneg _ (by lia)
    have x1:n / 7 % ((W.can w.st.1 w.st.2).length:Int) < (W.can w.st.1 w.st.2).length:=Int.emod_lt_of_pos _ (by lia)
    obtain⟨z,hz,hat⟩:=kR (xs:=(W.can w.st.1 w.st.2).map PyData.int) x0 (by rw [List.length_map];exact x1)
    obtain⟨k,hk,rfl⟩:=List.mem_map.mp hz
    obtain⟨k1,k2⟩:=A6 hk
    have b1:=uf (W:=W) (asked:=w.st.1) (taken:=w.st.2) true k1 (by lia) (by lia)
    have b2:=uf (W:=W) (asked:=w.st.1) (taken:=w.st.2) false k1 (by lia) (by lia)
    have more:=h.more ok k1 k2
    refine⟨E ((if 0≤w.par then T.modify w.par.toNat (fun x=>gU x w.side T.length) else T)++[⟨k, -1, -1⟩]) (ws++[⟨L2.nxt W w.st k true,T.length,0⟩,⟨L2.nxt W w.st k false,T.length,1⟩]) (some (.d (.int k))),pre _ ((C0 tst).trans ?_),.mk hd1 more hu.more (.inr ⟨c2,by simp;split<;>simp,by simp⟩)⟩
    refine(bh (e1:=E T ws (some (.d (.int k)))) ?_).trans ?_
    · simp? [E,gE,gd,gx,hat]
    generalize hT':(if 0≤w.par then T.modify w.par.toNat (fun x=>gU x w.side T.length) else T)=T'
    have lT':T'.length=T.length:=by rw [←hT'];split<;>simp
    have hP:gP (E T ws (some (.d (.int k))))=some (.nx (E T' ws (some (.d (.int k))))):=by
      rcases hp with z | ⟨p,x,z1,z2,z3⟩
      · have g0:¬0≤w.par:=by lia
        rw [if_neg g0] at hT'
        subst hT'
        simp? [E,gP,gE,g0]
      · have g0:0≤w.par:=by lia
        have pt:w.par.toNat=p:=by lia
        have pl:p < T.length:=(List.getElem?_eq_some_iff.mp z2).1
        rw [if_pos g0,pt] at hT'
        have hix:k8 T.length w.par=some p:=by unfold k8;rw [if_pos g0,if_pos (by lia),pt]
        have i1:k8 3 1=some 1:=rfl
        have i2:k8 3 2=some 2:=rfl
        rcases z3 with ⟨s0,s1⟩ | ⟨s0,s1⟩
        · have sl:=x4 (n:=T.length) z2
          rw [s0] at hT'
          rw [hT'] at sl
          simp? [E,gP,gE,g0,fK,ci,qH,xH,nC,xI,hix,i1,i2,z2,s0,xC,←sl]
        · have sl:=x5 (n:=T.length) z2
          rw [s0] at hT'
          rw [hT'] at sl
          simp? [E,gP,gE,g0,fK,ci,qH,xH,nC,xI,hix,i1,i2,z2,s0,xC,←sl]
    have wl1:ws.length < 1000000:=by lia
    have wl2:ws.length+1 < 1000000:=by lia
    have tl:T.length < 1000000:=by lia
    refine(bh hP).trans ((bh (e1:=E T' (ws++[⟨L2.nxt W w.st k true,T.length,0⟩]) (some (.d (.int k)))) ?_).trans ((bh (e1:=E T' (ws++[⟨L2.nxt W w.st k true,T.length,0⟩,⟨L2.nxt W w.st k false,T.length,1⟩]) (some (.d (.int k)))) ?_).trans ?_))
    · simp? [E,gA,gE,b1,wl1,lT',fK,ci,nxt,A8]
    · simp? [E,gA,gE,b2,wl2,lT',fK,ci,nxt,A8]
    · simp? [E,gE,lT',tl,uq,ci,xC]
def Bj(i:Nat)(e:En):Nat:=match ci e i with
  | some x=>x.length
  | none=>0
def EB:PyData→PyData
  | .list xs=>.tuple xs
  | d=>d
inductive GI (W:aC) (most:Int):En→Prop
  | mk {ds T S ws v5 v6 v7 v8 v9 v10} (hd:iU ds) (hG:qV W T S ws) (hT:(T.length:Int)≤most) (hws:ws.length≤T.length+1) (hU:vV T ws):GI W most (gE ds W most T ws v5 v6 v7 v8 v9 v10)
theorem Ca{W:aC}(ok:W.Ok){ds:List Int}{most:Int}(hd:iU ds)(m0:0≤most)(m1:most≤400):∃ds' T S,lQ [.l (ds.map .int),.d (aN W),.d (.int most)]=some (.d (.tuple (T.map cy)),[.l (ds'.map .int),.d (aN W),.d (.int most)])∧iU ds'∧bN W T S∧(T.length:Int)≤most∧vV T []:=by
  have q4:∀(ws:List Wt) (e:En),e[4]?=some (some (.l (ws.map A8)))→cK true e (.s 4) (.l [])=some (.d (.bool (!(ws.map A8).isEmpty))):=fun ws e he=>by
    have:=lK (neg:=true) he ((Sh.list (n:=8) fun d hd=>by
      obtain⟨k,_,rfl⟩:=List.mem_map.mp hd
      exact Sh.wt).ok (by decide))
    simpa using this
  have tst:∀ds T ws v5 v6 v7 v8 v9 v10,iH (gE ds W most T ws v5 v6 v7 v8 v9 v10)=some (!(ws.map A8).isEmpty,gE ds W most T ws v5 v6 v7 v8 v9 v10):=fun ds T ws v5 v6 v7 v8 v9 v10=>by
    have:=q4 ws (gE ds W most T ws v5 v6 v7 v8 v9 v10) rfl
    unfold gE at this ⊢
    simp? [iH,this]
  obtain⟨e0,e',hw,hI,hf⟩:=eE (ft:=iH) (f:=iE)
    (GI W most)
    (fun e=>ib 4 e+2*(most.toNat - Bj 3 e)) (fun e hI=>by
      obtain⟨hd1,hG,hT,hws,hU⟩:=hI
      rename_i d1 T S ws v5 v6 v7 v8 v9 v10
      cases ws with
      | nil=>exact .inl ⟨_,tst _ _ _ _ _ _ _ _ _,trivial⟩
      | cons w ws=>
        obtain⟨e9,hb,⟨hd2,hG2,hU2,hc⟩⟩:=EA ok (most:=most) (v5:=v5) (v6:=v6) (v7:=v7) (v8:=v8) (v9:=v9) (v10:=v10) hd1 hG hU (by lia) (by simp at hws;lia)
        simp only [List.length_cons] at hws
        refine .inr ⟨_,_,tst _ _ _ _ _ _ _ _ _,hb,⟨hd2,hG2,?_,?_,hU2⟩,?_⟩
        · rcases hc with hc | hc<;>lia
        · rcases hc with hc | hc<;>lia
        · have l1:∀ds T ws v5 v6 v7 v8 v9 v10,ib 4 (gE ds W most T ws v5 v6 v7 v8 v9 v10)=ws.length:=fun ds T ws v5 v6 v7 v8 v9 v10=>by simp [gE,ib]
          have l2:∀ds T ws v5 v6 v7 v8 v9 v10,Bj 3 (gE ds W most T ws v5 v6 v7 v8 v9 v10)=T.length:=fun ds T ws v5 v6 v7 v8 v9 v10=>by simp [gE,Bj,ci]
          simp only [l1,l2,List.length_cons]
          rcases hc with hc | hc<;>lia) (2 ^ 4200) (gE ds W most [] [⟨([],[]), -1,0⟩] none none none none none none)
    (.mk (S:=fun _=>([],[])) hd ⟨fun i x h=>(by simp at h),fun w hw=>(by simp at hw;subst hw;exact⟨mq.first W,.inl rfl⟩),fun w hw=>(by simp at hw;subst hw;exact .inl rfl)⟩ m0 (by simp) vV.first)
    (j3 (m:=20) (by simp [gE,ib,Bj,ci];lia) (by decide))
  obtain⟨hd1,hG,hT,hws,hU⟩:=hI
  rename_i d1 T S ws v5 v6 v7 v8 v9 v10
  rw [tst] at hf
  have hw0:ws=[]:=by
    cases ws with
    | nil=>rfl
    | cons a r=>simp at hf
  subst hw0
  simp at hf
  subst hf
  refine⟨d1,T,S,?_,hd1,hG.tr,hT,hU⟩
  obtain⟨t',hc⟩:=bG (cs:=[]) (ft:=cv) (fe:=jW) (b:=fun _=>true) (y:=EB) ((T.map xC).map PyData.list) none [] (fun x hx=>rfl) (fun x hx _=>by
    obtain⟨xs,_,rfl⟩:=List.mem_map.mp hx
    simp? [jW,EB]) (by simp;lia)
  have hv:=d9 (cp:=[]) (nT:=1) (fi:=qt) (g:=ag 0) (ft:=cv) (fe:=jW) (e:=gE d1 W most T [] v5 v6 v7 v8 v9 v10) (e1:=(gE d1 W most T [] v5 v6 v7 v8 v9 v10).set 3 (some (.d (.list ((T.map xC).map .list))))) (cs:=[]) (t:=[none]) (t':=[t']) rfl rfl rfl hc
  have hl:([]++(((T.map xC).map PyData.list).filter fun _=>true).map EB)=T.map cy:=by
    rw [List.nil_append,List.filter_eq_self.mpr (fun _ _=>rfl),List.map_map,List.map_map]
    exact List.map_congr_left fun x _=>rfl
  rw [hl] at hv
  have hw':eD (2 ^ 4200) iH iE (gE ds W most [] [⟨([],[]), -1,0⟩] none none none none none none)=some (.nx (gE d1 W most T [] v5 v6 v7 v8 v9 v10)):=hw
  unfold gE at hv hw'
  simp only [List.map_cons,List.map_nil,A8,ms] at hw' hv
  simp only [List.set_cons_succ,List.set_cons_zero] at hv
  simp? [lQ,wa,Ae,hw',hv]
def rE(ds:List Int)(T:List Nd)(ws order:List Int)(v4 v5 v6:Option Sv):En:=[some (.l (ds.map .int)),some (.d (.tuple (T.map cy))),some (.l (ws.map .int)),some (.l (order.map .int)),v4,v5,v6]
theorem Cb{W:aC}(ok:W.Ok){ds:List Int}{T:List Nd}{S:Nat→Std}{ws order:List Int}(hd:iU ds)(h:bN W T S)(hw:∀w∈ws,0≤w∧w < (T.length:Int))(ho:∀w∈order,0≤w∧w < (T.length:Int))(h0:ws≠[])(hb:order.length+dD S ws≤65535):
    ∃ds' ws' w,cB (rE ds T ws order none none none)=some (.nx (rE ds' T ws' (order++[w]) none none none))∧iU ds'∧(∀w∈ws',0≤w∧w < (T.length:Int))∧(0≤w∧w < (T.length:Int))∧dD S ws'+1≤dD S ws∧∃k,ws[k]?=some w∧ws'=ws.eraseIdx k++rF (aQ T w):=by
  obtain⟨n,d1,t1, -, -,hd1⟩:=jl hd
  have hlen:0 < ws.length:=List.length_pos_iff.mpr h0
  have hl2:=qr ok h hw
  have gx:∀e:En,bg e (.d (.int n)) (.d (.int ws.length))=some (.d (.int (n % ws.length))):=fun e=>aT (by lia)
  have x0:0≤n % (ws.length:Int):=Int.emod_nonneg _ (by lia)
  have x1:n % (ws.length:Int) < ws.length:=Int.emod_lt_of_pos _ (by lia)
  generalize n % (ws.length:Int)=j at gx x0 x1
  have hj:j.toNat < ws.length:=by lia
  have hw0:ws[j.toNat]?=some ws[j.toNat]:=List.getElem?_eq_getElem hj
  have hwm:ws[j.toNat]∈ws:=List.getElem_mem _
  have hpop:=qs (S:=S) hj
  generalize ws[j.toNat]=w at hw0 hwm hpop
  obtain⟨w0,w1⟩:=hw w hwm
  have o:=h _ _ (cY w0 w1)
  have hh:=o.hang ok
  have j9:j < 1000000000:=by lia
  have ol:order.length < 1000000:=by lia
  let E:En:=rE d1 T (ws.eraseIdx j.toNat) (order++[w]) none none none
  obtain⟨t',hf⟩:=bG (cs:=[]) (ft:=du) (fe:=dA) (b:=vh fun l=>l != -1) (y:=id) [PyData.int (aQ T w).yes,.int (aQ T w).no] none [] (fun x hx=>by
    simp only [List.mem_cons,List.not_mem_nil,or_false] at hx
    rcases hx with rfl | rfl<;>simp? [du,vh,bne]) (fun x hx _=>by
    simp? [dA]) (by simp)
  have hl:([]++([PyData.int (aQ T w).yes,.int (aQ T w).no].filter (vh fun l=>l != -1)).map id)=(rF (aQ T w)).map .int:=by
    rw [List.nil_append,List.map_id,show [PyData.int (aQ T w).yes,.int (aQ T w).no]=[(aQ T w).yes,(aQ T w).no].map PyData.int from rfl,List.filter_map]
    rfl
  rw [hl] at hf
  have hi:gv E=some ([PyData.int (aQ T w).yes,.int (aQ T w).no],[],E):=by
    refine k7 ?_
    have a1:atI (order.map PyData.int++[PyData.int w]) (-1)=some (.int w):=xi
    simp? [E,rE,a1,uH w0 w1,cy]
  have hv:=d9 (cp:=[]) (nT:=1) (fi:=gv) (g:=ag 0) (ft:=du) (fe:=dA) (e:=E) (cs:=[]) (t:=[none]) (t':=[t']) hi rfl rfl hf
  have ln:(ws.eraseIdx j.toNat).length+(rF (aQ T w)).length≤1000000:=by
    have:(rF (aQ T w)).length≤2:=List.length_filter_le _ _
    rw [List.length_eraseIdx_of_lt hj]
    lia
  refine⟨d1,ws.eraseIdx j.toNat++rF (aQ T w),w,?_,hd1,fun v hv=>?_,⟨w0,w1⟩,?_,j.toNat,hw0,rfl⟩
  · simp only [E,rE,List.map_append,List.map_cons,List.map_nil] at hv
    simp only [rE,cB,List.map_append,List.map_cons,List.map_nil]
    simp? [t1,gx,x0,j9,hw0,qo,ol,hv,Cf,iz,ln]
  · rcases List.mem_append.mp hv with hv | hv
    · exact hw v (List.mem_of_mem_eraseIdx hv)
    · exact Dw o v hv
  · rw [xw];lia
inductive RI (T:List Nd) (S:Nat→Std) (w0:List Int):En→Prop
  | mk {ds ws order} (hd:iU ds) (hws:∀w∈ws,0≤w∧w < (T.length:Int)) (ho:∀w∈order,0≤w∧w < (T.length:Int)) (hb:order.length+dD S ws≤65535) (how:qW T ws order) (hru:AV T w0 ws order):RI T S w0 (rE ds T ws order none none none)
inductive RJ (ds:List Int) (T:List Nd) (order:List Int) (i:Nat):En→Prop
  | mk {nums v5 v6} (hn:jm order T.length nums) (hg:ko order nums i):RJ ds T order i (rE ds T [] order (some (.l (nums.map .int))) v5 v6)
theorem si{W:aC}(ok:W.Ok){ds:List Int}{T:List Nd}{S:Nat→Std}(hd:iU ds)(h:bN W T S)(hT:T.length≤400)(hU:vV T []):∃ds' T' S',dH [.l (ds.map .int),.d (.tuple (T.map cy))]=some (.d (.tuple (T'.map cy)),[.l (ds'.map .int),.d (.tuple (T.map cy))])∧iU ds'∧bN W T' S'∧T'.length≤65535∧lm T'∧ku T':=by
  have q2:∀(ws:List Int) (e:En),e[2]?=some (some (.l (ws.map .int)))→cK true e (.s 2) (.l [])=some (.d (.bool (!(ws.map PyData.int).isEmpty))):=fun ws e he=>by
    have:=lK (neg:=true) he (jQ _).1
    simpa using this
  have tst:∀ds ws order,cD (rE ds T ws order none none none)=some (!(ws.map PyData.int).isEmpty,rE ds T ws order none none none):=fun ds ws order=>by
    have:=q2 ws (rE ds T ws order none none none) rfl
    unfold rE at this ⊢
    simp? [cD,this]
  let w0:List Int:=if T.length=0 then [] else [0]
  have hw00:w0=[]∨w0=[0]:=by
    simp only [w0]
    split
    · exact .inl rfl
    · exact .inr rfl
  have hw0:∀w∈w0,0≤w∧w < (T.length:Int):=fun w hw=>by
    simp only [w0] at hw
    split at hw
    · cases hw
    · simp at hw;lia
  have hb0:dD S w0≤65535:=by
    simp only [w0]
    split
    · simp [dD]
    · have:2 ^ (16 - (S (0:Int).toNat).1.length)≤2 ^ 16:=Nat.pow_le_pow_right (by decide) (by lia)
      simp [dD,hang] at this ⊢
      lia
  obtain⟨e0,e',hw,hI,hf⟩:=eE (ft:=cD) (f:=cB)
    (RI T S w0)
    (fun e=>65535 - ib 3 e) (fun e hI=>by
      obtain⟨hd1,hws,ho,hbd,how,hru⟩:=hI
      rename_i d1 ws order
      by_cases c:ws=[]
      · subst c
        exact .inl ⟨_,tst _ _ _,trivial⟩
      · obtain⟨d2,ws',w,hb,hd2,hws',hw',hh,kk,hk1,hk2⟩:=Cb ok hd1 h hws ho c hbd
        have hx1:∀v∈ws,v=w∨v∈ws':=fun v hv=>(xF hk1 hv).imp id fun q=>by rw [hk2];exact List.mem_append_left _ q
        have hx2:∀l∈rF (aQ T w),l∈ws':=fun l hl=>by rw [hk2];exact List.mem_append_right _ hl
        have hru2:AV T w0 ws' (order++[w]):=by
          rw [hk2]
          exact hru.turn hw00 hU.unq hU.rng (fun v hv=>(List.mem_append.mp hv).elim (ho v) (hws v)) hk1
        have hl2:=qr ok h hws
        refine .inr ⟨_,_,(by rw [tst];simp [c]),hb,.mk hd2 hws' (fun v hv=>?_) (by simp;lia) (how.turn hx1 hx2) hru2,?_⟩
        · rcases List.mem_append.mp hv with hv | hv
          · exact ho v hv
          · simp at hv;rw [hv];exact hw'
        · have l1:∀ds ws order,ib 3 (rE ds T ws order none none none)=order.length:=fun ds ws order=>by simp [rE,ib]
          simp only [l1,List.length_append,List.length_cons,List.length_nil]
          lia) (2 ^ 4200) (rE ds T w0 [] none none none)
    (.mk hd hw0 (fun w hw=>(by cases hw)) (by simpa using hb0) qW.first (AV.first hw00))
    (j3 (m:=20) (by simp [rE,ib]) (by decide))
  obtain⟨hd1,hws,ho,hbd,how,hru⟩:=hI
  rename_i d1 ws order
  rw [tst] at hf
  have hw1:ws=[]:=by
    cases ws with
    | nil=>rfl
    | cons a r=>simp at hf
  subst hw1
  simp at hf
  subst hf
  obtain⟨e2,h1,hJ⟩:=bI (own:=[(3,order.map PyData.int)]) (g:=aX (ao (ag 5) (ao (ag 6) aU))) (f:=dq) (RJ d1 T order) (gu 0 (order.map .int)) 0 (rE d1 T [] order (some (.l ((List.replicate (T.length+1) (-1:Int)).map .int))) none none) (fun i x e hx hJ=>by
    obtain⟨hn,hng⟩:=hJ
    rename_i nums v5 v6
    rw [iI,List.getElem?_map,Option.map_map] at hx
    obtain⟨w,hw2,rfl⟩:=Option.map_eq_some_iff.mp hx
    obtain⟨a0,a1⟩:=ho w (List.mem_of_getElem? hw2)
    have hix:k8 nums.length w=some w.toNat:=by unfold k8;rw [if_pos a0,if_pos (by rw [hn.len];lia)]
    refine⟨rE d1 T [] order (some (.l (nums.map .int))) (some (.d (.int (i:Int)))) (some (.d (.int w))),rE d1 T [] order (some (.l ((nums.set w.toNat (i:Int)).map .int))) (some (.d (.int (i:Int)))) (some (.d (.int w))),?_,?_,?_,.mk (hn.set hw2 a0 a1) (by
      rw [Nat.zero_add] at hng ⊢
      exact hng.set hw2 (by rw [hn.len];lia))⟩
    · simp? [rE]
    · simp? [rE,dq,nO,iz,hix,List.map_set]
    · intro p hp
      simp at hp
      subst hp
      rfl) (.mk jm.first ko.first)
  obtain⟨hn,hng⟩:=hJ
  rename_i nums v5 v6
  obtain⟨t',hc⟩:=bG (cs:=[some (.l (nums.map PyData.int)),some (.d (.tuple (T.map cy)))]) (ft:=cv) (fe:=dz) (b:=fun _=>true) (y:=GN fun w=>cy (renum T nums w)) (order.map PyData.int) none [] (fun x hx=>rfl) (fun x hx _=>by
    obtain⟨w,hw2,rfl⟩:=List.mem_map.mp hx
    obtain⟨a0,a1⟩:=ho w hw2
    have o:=h _ _ (cY a0 a1)
    have y:=o.yes.rng
    have n:=o.no.rng
    have ny:atI (nums.map PyData.int) (aQ T w).yes=some (.int (nm nums (aQ T w).yes)):=CP (by rw [hn.len];lia) (by rw [hn.len];lia)
    have nn:atI (nums.map PyData.int) (aQ T w).no=some (.int (nm nums (aQ T w).no)):=CP (by rw [hn.len];lia) (by rw [hn.len];lia)
    have nd:=uH a0 a1
    simp? [dz,nd,ny,nn,GN,cy,renum]) (by simp;lia)
  have hv:=yd (cp:=[(4,"_law_numbers"),(1,"_law_tree_here")]) (nT:=1) (fi:=jD) (g:=ag 2) (ft:=cv) (fe:=dz) (e:=rE d1 T [] order (some (.l (nums.map .int))) v5 v6) (cs:=[some (.l (nums.map PyData.int)),some (.d (.tuple (T.map cy)))]) (t:=[none]) (t':=[t']) (own:=[(3,order.map PyData.int)]) rfl rfl rfl rfl hc
  have hl:([]++((order.map PyData.int).filter fun _=>true).map (GN fun w=>cy (renum T nums w)))=(order.map (renum T nums)).map cy:=by
    rw [List.nil_append,List.filter_eq_self.mpr (fun _ _=>rfl),List.map_map,List.map_map]
    exact List.map_congr_left fun x _=>rfl
  rw [hl] at hv
  have hng':ko order nums order.length:=by rw [Nat.zero_add,iJ,List.length_map] at hng;exact hng
  refine⟨d1,order.map (renum T nums),_,?_,hd1,h.renum ho hn,by rw [List.length_map];lia,xP h ho hn hng' how,vD h hU.unq ho hn hng' how hru⟩
  have hw':eD (2 ^ 4200) cD cB (rE ds T w0 [] none none none)=some (.nx (rE d1 T [] order none none none)):=hw
  have hfor:∀Wl:List Nat,3∉Wl→cL Wl jE (aX (ao (ag 5) (ao (ag 6) aU))) dq (rE d1 T [] order (some (.l ((List.replicate (T.length+1) (-1:Int)).map .int))) none none)=some (.nx (rE d1 T [] order (some (.l (nums.map .int))) v5 v6)):=fun Wl hWl=>by
    rw [Ad (own:=[(3,order.map PyData.int)]) (items:=gu 0 (order.map .int)) (e1:=rE d1 T [] order (some (.l ((List.replicate (T.length+1) (-1:Int)).map .int))) none none) rfl (by simp [hWl])]
    exact h1
  have hw0':lF [.int 0] none (some (T.length:Int))=w0.map .int:=by
    rw [EY]
    simp only [w0]
    split<;>rfl
  have gr:∀e:En,ce e (.l [.int (-1)]) (.d (.int ((T.length:Int)+1)))=some (.l (List.replicate (T.length+1) (.int (-1)))):=fun e=>by
    rw [CG (by lia) (by lia)]
    congr 3
  have hfor':=hfor [5,6] (by decide)
  unfold rE at hv hw' hfor'
  simp only [List.map_replicate,List.map_nil,List.map_cons,List.replicate_succ] at hfor' hw' hv
  simp? [dH,ls,E2,hw0',hw',gr,hfor',hv]
theorem As{d:PyData}{n dep:Nat}(hz:Sz n dep d)(h1:n≤16777216)(h2:dep≤60):mC [.d d,.d d]=some (.d (.bool true),[.d d,.d d]):=by
  have r:∀e,g1 nj e [.d d]=some (.d (.str d.shown)):=fun e=>Be (hz.ok h1 h2)
  have q:∀e,cK false e (.d (.str d.shown)) (.d (.str d.shown))=some (.d (.bool true)):=fun e=>Bc hz.so
  simp? [mC,yt,r,q]
theorem Ez{W:aC}(ok:W.Ok){ds:List Int}(great:Bool)(hd:iU ds):∃ds' T S,oP [.l (ds.map .int),.d (aN W),.d (.bool great)]=some (.d (.tuple (T.map cy)),[.l (ds'.map .int),.d (aN W),.d (.bool great)])∧iU ds'∧bN W T S∧T.length≤65535∧lm T∧ku T:=by
  obtain⟨n1,d1,t1, -, -,hd1⟩:=jl hd
  obtain⟨n2,d2,t2, -, -,hd2⟩:=jl hd1
  obtain⟨n3,d3,t3, -, -,hd3⟩:=jl hd2
  have gi:∀e:En,g1 pV e [.d (.bool great)]=some (.d (.int (if great=true then 1 else 0))):=fun e=>rfl
  have gm:∀e:En,ce e (.d (.int 260)) (.d (.int (if great=true then 1 else 0)))=some (.d (.int (260*(if great=true then 1 else 0)))):=fun e=>bJ (vd (by decide) (by decide))
  have hg:(0:Int)≤260*(if great=true then 1 else 0)∧(260:Int)*(if great=true then 1 else 0)≤260:=by split<;>lia
  generalize (260:Int)*(if great=true then 1 else 0)=g at gm hg
  generalize (if great=true then 1 else 0:Int)=one at gm gi
  obtain⟨z,hz,ha⟩:=kR (xs:=[PyData.int (1+n1 % 8),.int (1+n2 % 40),.int (40+g)]) (i:=n3 % 3) (by lia) (by simp;lia)
  obtain⟨most,rfl,hm0,hm1⟩:∃r,z=.int r∧0≤r∧r≤400:=by
    simp only [List.mem_cons,List.not_mem_nil,or_false] at hz
    rcases hz with rfl | rfl | rfl<;>exact⟨_,rfl,by lia,by lia⟩
  obtain⟨d4,T,S,t4,hd4,hT,hl,hU⟩:=Ca ok hd3 hm0 hm1
  obtain⟨d5,T',S',t5,hd5,hT',hl',hor,htr⟩:=si ok hd4 hT (by lia) hU
  refine⟨d5,T',S',?_,hd5,hT',hl',hor,htr⟩
  simp? [oP,yv,t1,t2,t3,aT,gi,gm,ha,t4,t5]
theorem mN(a b:Int)(hb:Bt 4000 b):bT [.d (.int a),.d (.int b)]=some (.d (.int (Int.gcd a b)),[.d (.int a),.d (.int b)]):=by
  have tst:∀x y:Int,bB [some (.d (.int x)),some (.d (.int y))]=some (!(y==0),[some (.d (.int x)),some (.d (.int y))]):=fun x y=>by simp? [bB]
  obtain⟨e0,e',h1,⟨x,y,he,hg,hy⟩,h3⟩:=eE (ft:=bB) (f:=b_) (fun e=>∃x y,e=[some (.d (.int x)),some (.d (.int y))]∧Int.gcd x y=Int.gcd a b∧Bt 4000 y) (qD 1) (fun e ⟨x,y,he,hg,hy⟩=>by
    subst he
    rw [tst]
    by_cases c:y=0
    · subst c;exact .inl ⟨_,rfl,trivial⟩
    · refine .inr ⟨_,[some (.d (.int y)),some (.d (.int (x.fmod y)))],by rw [beq_false_of_ne c];rfl,by simp? [b_,yO c],⟨y,x.fmod y,rfl,by rw [sV,hg],?_⟩,?_⟩
      · have:=g_ x c
        exact Bt.of_le hy (by lia)
      · have:=g_ x c
        simpa [qD] using this) (2 ^ 4200) _ ⟨a,b,rfl,rfl,hb⟩ (j3 (m:=4000) (by simpa [qD,Bt] using hb) (by decide))
  subst he
  rw [tst] at h3
  have h4:=Prod.mk.inj (Option.some.inj h3)
  have hy0:y=0:=by simpa using h4.1
  subst hy0
  have h5:=h4.2
  subst h5
  have hs:eD (2 ^ 4200) bB b_ [some (.d (.int a)),some (.d (.int b))]=some (.nx [some (.d (.int x)),some (.d (.int 0))]):=h1
  have hg':(x.natAbs:Int)=(Int.gcd a b:Int):=by rw [←hg];simp
  simp only [bT,iG,f9,jK,ay,kD,bo,eC,aV,cO,jk,nM,p6,aK,aq,pN,ac,vC,cN,ah,aa,bE,aJ,bO,kj,uB,mP,uo,nG,ur,nH,ut,gG,fJ,bZ,br,tD,dJ,gp,mv,dt,bC,pU,su,aX,ao,ag,aU,bQ,aI,bc,rO,df,eQ,cG,hV,ia,h9,hZ,hX,eT,eS,eU,di,eP,nh,iK,jy,ni,jB,h_,jz,jA,eW,eV,dj,eX,nq,jp,eg,jq,jr,mY,dh,dg,dC,h8,List.replicate, -List.map_nil, -List.map_cons, -List.nil_append, -List.cons_append, -Option.bind_some, -Option.map_some, -getElem?_pos, -List.append_nil,m9,m8,m4,mZ,m6,m7,m5,m_]
  simp? [hs,hg']
theorem mh(t b:Int)(hb:0 < b)(h:Bt 4000 b):dM [.d (.int t),.d (.int b)]=some (.d (dF (lowM t b)),[.d (.int t),.d (.int b)]):=by
  have g0:=rA (t:=t) (b:=b) (by lia)
  have g1:(Int.gcd t b:Int)≠0:=by lia
  have g8:Bt 8000 (Int.gcd t b:Int):=(yQ (t:=t) (by lia) h).mono (by decide)
  have e:lowM t b=(t.fdiv (Int.gcd t b:Int),b.fdiv (Int.gcd t b:Int)):=by unfold lowM;rw [if_neg (by lia)]
  have nb:¬b < 0:=by lia
  rw [e]
  simp? [dM,sM,mN t b h,wu g1 g8,nb,dF]
theorem oj{a b:Fr}{n:Nat}(a2:0 < a.2)(b2:0 < b.2)(ha1:Bt n a.1)(ha:Bt n a.2)(hb1:Bt n b.1)(hb:Bt n b.2)(hn:n≤1900):c_ [.d (dF a),.d (dF b)]=some (.d (dF (tm a b)),[.d (dF a),.d (dF b)]):=by
  have g1:∀e:En,ce e (.d (.int a.1)) (.d (.int b.1))=some (.d (.int (a.1*b.1))):=fun e=>bJ (ir (ha1.mono (by lia)) (hb1.mono (by lia)))
  have g2:∀e:En,ce e (.d (.int a.2)) (.d (.int b.2))=some (.d (.int (a.2*b.2))):=fun e=>bJ (ir (ha.mono (by lia)) (hb.mono (by lia)))
  have tl:=mh (a.1*b.1) (a.2*b.2) (Int.mul_pos a2 b2) ((ha.mul hb).mono (by lia))
  unfold tm
  unfold dF at*
  simp? [c_,we,g1,g2,tl]
theorem wY{a b:Fr}{n:Nat}(a2:0 < a.2)(b2:0 < b.2)(ha1:Bt n a.1)(ha:Bt n a.2)(hb1:Bt n b.1)(hb:Bt n b.2)(hn:n≤1900):j5 [.d (dF a),.d (dF b)]=some (.d (dF (tm a b)),[.d (dF a),.d (dF b)]):=by
  have g1:∀e:En,ce e (.d (.int a.1)) (.d (.int b.1))=some (.d (.int (a.1*b.1))):=fun e=>bJ (ir (ha1.mono (by lia)) (hb1.mono (by lia)))
  have g2:∀e:En,ce e (.d (.int a.2)) (.d (.int b.2))=some (.d (.int (a.2*b.2))):=fun e=>bJ (ir (ha.mono (by lia)) (hb.mono (by lia)))
  have tl:=w6 (a.1*b.1) (a.2*b.2) (Int.mul_pos a2 b2) ((ha.mul hb).mono (by lia))
  unfold tm
  unfold dF at*
  simp? [j5,wc,g1,g2,tl]
theorem vA{a b:Fr}{n:Nat}(a2:0 < a.2)(b2:0 < b.2)(ha1:Bt n a.1)(ha:Bt n a.2)(hb1:Bt n b.1)(hb:Bt n b.2)(hn:n≤1900):i6 [.d (dF a),.d (dF b)]=some (.d (dF (pl a b)),[.d (dF a),.d (dF b)]):=by
  have g1:∀e:En,ce e (.d (.int a.1)) (.d (.int b.2))=some (.d (.int (a.1*b.2))):=fun e=>bJ (ir (ha1.mono (by lia)) (hb.mono (by lia)))
  have g3:∀e:En,ce e (.d (.int b.1)) (.d (.int a.2))=some (.d (.int (b.1*a.2))):=fun e=>bJ (ir (hb1.mono (by lia)) (ha.mono (by lia)))
  have g2:∀e:En,ce e (.d (.int a.2)) (.d (.int b.2))=some (.d (.int (a.2*b.2))):=fun e=>bJ (ir (ha.mono (by lia)) (hb.mono (by lia)))
  have tl:=mh (a.1*b.2+b.1*a.2) (a.2*b.2) (Int.mul_pos a2 b2) ((ha.mul hb).mono (by lia))
  unfold pl
  unfold dF at*
  simp? [i6,yw,g1,g2,g3,tl]
theorem vy{a b:Fr}{n:Nat}(a2:0 < a.2)(b2:0 < b.2)(ha1:Bt n a.1)(ha:Bt n a.2)(hb1:Bt n b.1)(hb:Bt n b.2)(hn:n≤1900):jJ [.d (dF a),.d (dF b)]=some (.d (dF (pl a b)),[.d (dF a),.d (dF b)]):=by
  have g1:∀e:En,ce e (.d (.int a.1)) (.d (.int b.2))=some (.d (.int (a.1*b.2))):=fun e=>bJ (ir (ha1.mono (by lia)) (hb.mono (by lia)))
  have g3:∀e:En,ce e (.d (.int b.1)) (.d (.int a.2))=some (.d (.int (b.1*a.2))):=fun e=>bJ (ir (hb1.mono (by lia)) (ha.mono (by lia)))
  have g2:∀e:En,ce e (.d (.int a.2)) (.d (.int b.2))=some (.d (.int (a.2*b.2))):=fun e=>bJ (ir (ha.mono (by lia)) (hb.mono (by lia)))
  have tl:=w6 (a.1*b.2+b.1*a.2) (a.2*b.2) (Int.mul_pos a2 b2) ((ha.mul hb).mono (by lia))
  unfold pl
  unfold dF at*
  simp? [jJ,yr,g1,g2,g3,tl]
theorem pH{W:aC}(ok:W.Ok){k:Int}(hk:km W k):bD [.d (.tuple [.int (W.tie k).top,.int (W.tie k).bot])]=some (.d (dF (ch W k false)),[.d (.tuple [.int (W.tie k).top,.int (W.tie k).bot])]):=by
  have o:=hk.ok ok
  have b0:=o.b0;have b1:=o.b1
  have tl:=mh ((W.tie k).bot - (W.tie k).top) (W.tie k).bot (by lia) (Bt.mono (m:=7) (by unfold Bt;lia) (by decide))
  rw [s_ (by lia) o.cop] at tl
  simp? [bD,kS,tl,ch]
theorem ya{W:aC}(ok:W.Ok){x:Nd}(hk:km W x.tie):iN [.d (aN W),.d (cy x)]=some (.l (uw W x),[.d (aN W),.d (cy x)]):=by
  let E:En:=[some (.d (aN W)),some (.d (cy x)),some (.d (.int x.tie)),some (.d (.int x.yes)),some (.d (.int x.no)),some (.d (.tuple [.int (W.tie x.tie).top,.int (W.tie x.tie).bot]))]
  have tl:=pH ok hk
  have hi:jI E=some ([mi x.yes (ch W x.tie true),mi x.no (ch W x.tie false)],[],E):=k7 (by simp? [E,tl,mi,wm])
  have hc:∃t',eL (aX (ao (ag 0) (ao (ag 1) aU))) cE cF [mi x.yes (ch W x.tie true),mi x.no (ch W x.tie false)] [none,none] []=some (uw W x,[]++t'):=by
    by_cases c1:x.yes= -1
    · by_cases c2:x.no= -1
      · exact⟨_,by simp? [eL,mi,uw,c1,c2,cE,cF];rfl⟩
      · exact⟨_,by simp? [eL,mi,uw,c1,c2,cE,cF];rfl⟩
    · by_cases c2:x.no= -1
      · exact⟨_,by simp? [eL,mi,uw,c1,c2,cE,cF];rfl⟩
      · exact⟨_,by simp? [eL,mi,uw,c1,c2,cE,cF];rfl⟩
  obtain⟨t',hc⟩:=hc
  have hv:=d9 (cp:=[]) (nT:=2) (fi:=jI) (g:=aX (ao (ag 0) (ao (ag 1) aU))) (ft:=cE) (fe:=cF) (e:=E) (cs:=[]) (t:=[none,none]) (t':=t') hi rfl rfl hc
  have gw:∀e,bH e (.d (aN W)) (.d (.int 1))=some (.d (.tuple (W.ties.map bL))):=fun e=>by rw [eM,iK,eg];rfl
  have ha:=js hk
  simp only [E] at hv
  unfold cy bL at*
  simp? [iN,qd,gw,ha,hv]
def nE(W:aC)(T:List Nd)(rs:List Fr)(v3 v4 v5 v6:Option Sv):En:=[some (.d (aN W)),some (.d (.tuple (T.map cy))),some (.l (rs.map dF)),v3,v4,v5,v6]
theorem Ar{W:aC}{T:List Nd}{rs:List Fr}{i:Nat}{k:Int}{b:Bool}{l:Int}{v4:Option Sv}(hi:i < rs.length)(tt:c_ [.d (dF (rs.getD i (1,1))),.d (dF (ch W k b))]=some (.d (dF (tm (rs.getD i (1,1)) (ch W k b))),[.d (dF (rs.getD i (1,1))),.d (dF (ch W k b))]))(h0:l≠ -1)(hl: -1≤l∧l < (rs.length:Int)):
    gn (nE W T rs (some (.d (.int i))) v4 (some (.d (.int l))) (some (.d (dF (ch W k b)))))=some (.nx (nE W T (rstp W rs i k b l) (some (.d (.int i))) v4 (some (.d (.int l))) (some (.d (dF (ch W k b)))))):=by
  have ha:=uG (z:=(1,1)) hi
  have hix:k8 rs.length l=some l.toNat:=by unfold k8;rw [if_pos (by lia),if_pos hl.2]
  unfold rstp
  rw [if_neg h0]
  generalize rs.getD i (1,1)=r at tt ha
  generalize ch W k b=c at tt
  simp? [nE,gn,ha,tt,nO,iz,hix,List.map_set]
theorem se{W:aC}(ok:W.Ok){T:List Nd}{S:Nat→Std}(h:bN W T S)(hT:T.length≤65535):dO [.d (aN W),.d (.tuple (T.map cy))]=some (.d (.tuple ((a' W T T.length).map dF)),[.d (aN W),.d (.tuple (T.map cy))]):=by
  obtain⟨e2,h1,⟨v3,v4,v5,v6,he⟩⟩:=bI (own:=[]) (g:=aX (ao (ag 3) (ao (ag 4) aU))) (f:=cC) (fun i e=>∃v3 v4 v5 v6,e=nE W T (a' W T i) v3 v4 v5 v6) (gu 0 (T.map cy)) 0 (nE W T (a' W T 0) none none none none) (fun i x e hx ⟨v3,v4,v5,v6,he⟩=>by
    subst he
    obtain⟨y,hy,rfl⟩:=yG hx
    have hi:i < T.length:=(List.getElem?_eq_some_iff.mp hy).1
    have o:=h i y hy
    have s0:=fL.all ok h i
    have s1:=s0.stp ok hi o.tie o.yes
    rw [Nat.zero_add,r6 hy]
    generalize a' W T i=rs at s0 s1
    have ba:=jx ok
    have bb:Bt 113 (W.tie y.tie).bot:=by
      have ot:=o.tie.ok ok
      have:=ot.b0;have:=ot.b1
      exact Bt.mono (m:=7) (by unfold Bt;lia) (by decide)
    have b0:0 < (W.tie y.tie).bot:=by
      have:=(o.tie.ok ok).b0;lia
    have tt:∀(rs:List Fr),fL W S T.length rs→∀b,c_ [.d (dF (rs.getD i (1,1))),.d (dF (ch W y.tie b))]=some (.d (dF (tm (rs.getD i (1,1)) (ch W y.tie b))),[.d (dF (rs.getD i (1,1))),.d (dF (ch W y.tie b))]):=fun rs s b=>by
      have r:=s.one ok h hi
      have c:=qj ok o.tie b
      exact oj r.pos c.pos (r.bt ba.2 ba.1).1 (r.bt ba.2 ba.1).2 (c.bt bb b0).1 (c.bt bb b0).2 (by decide)
    have u1:y.yes≠ -1→_:=fun z=>Ar (W:=W) (T:=T) (k:=y.tie) (b:=true) (l:=y.yes) (v4:=some (.d (cy y))) (by rw [s0.len];exact hi) (tt rs s0 true) z (by rw [s0.len];exact o.yes.rng)
    have u2:y.no≠ -1→_:=fun z=>Ar (W:=W) (T:=T) (k:=y.tie) (b:=false) (l:=y.no) (v4:=some (.d (cy y))) (by rw [s1.len];exact hi) (tt _ s1 false) z (by rw [s1.len];exact o.no.rng)
    have tw:=ya ok o.tie
    have go:∃u5 u6,cC (nE W T rs (some (.d (.int i))) (some (.d (cy y))) v5 v6)=some (.nx (nE W T (p7 W rs i y) (some (.d (.int i))) (some (.d (cy y))) u5 u6)):=by
      unfold cC
      rw [cm (items:=uw W y) (e1:=nE W T rs (some (.d (.int i))) (some (.d (cy y))) v5 v6) (show jF (nE W T rs (some (.d (.int i))) (some (.d (cy y))) v5 v6)=_ from yT (by simp? [nE,tw]))]
      unfold p7 uw
      by_cases c1:y.yes= -1
      · by_cases c2:y.no= -1
        · rw [c1,c2,lY,lY]
          exact⟨_,_,rfl⟩
        · have u:=u2 c2
          rw [c1,lY] at u
          rw [c1,lY]
          simp only [if_neg c2,if_true,List.nil_append,mi]
          unfold nE at u ⊢
          refine⟨some (.d (.int y.no)),some (.d (dF (ch W y.tie false))),?_⟩
          simp only [ij,aX,ao,ag,aU,List.set_cons_succ,List.set_cons_zero,Option.bind_some,u,if_pos aW]
      · have v:=u1 c1
        by_cases c2:y.no= -1
        · rw [c2,lY]
          simp only [if_neg c1,if_true,List.append_nil,mi]
          unfold nE at v ⊢
          refine⟨some (.d (.int y.yes)),some (.d (dF (ch W y.tie true))),?_⟩
          simp only [ij,aX,ao,ag,aU,List.set_cons_succ,List.set_cons_zero,Option.bind_some,v,if_pos aW]
        · have u:=u2 c2
          simp only [if_neg c1,if_neg c2,List.cons_append,List.nil_append,mi]
          unfold nE at u v ⊢
          refine⟨some (.d (.int y.no)),some (.d (dF (ch W y.tie false))),?_⟩
          simp only [ij,aX,ao,ag,aU,List.set_cons_succ,List.set_cons_zero,Option.bind_some,u,v,if_pos aW]
    obtain⟨u5,u6,go⟩:=go
    exact⟨nE W T rs (some (.d (.int i))) (some (.d (cy y))) v5 v6,_,by simp? [nE],go,aW,_,_,_,_,rfl⟩) ⟨none,none,none,none,rfl⟩
  subst he
  rw [Nat.zero_add,iJ,List.length_map] at h1
  have hfor:∀Wl,cL Wl jG (aX (ao (ag 3) (ao (ag 4) aU))) cC (nE W T (a' W T 0) none none none none)=some (.nx (nE W T (a' W T T.length) v3 v4 v5 v6)):=fun Wl=>by
    rw [cm (items:=gu 0 (T.map cy)) (e1:=nE W T (a' W T 0) none none none none) rfl]
    exact h1
  obtain⟨t',hc⟩:=bG (cs:=[]) (ft:=cv) (fe:=gq) (b:=fun _=>true) (y:=fun _=>dF (1,1)) (T.map cy) none [] (fun x hx=>rfl) (fun x hx _=>rfl) (by simp;lia)
  have hv:=d9 (cp:=[]) (nT:=1) (fi:=jH) (g:=ag 0) (ft:=cv) (fe:=gq) (e:=[some (.d (aN W)),some (.d (.tuple (T.map cy))),none,none,none,none,none]) (cs:=[]) (t:=[none]) (t':=[t']) rfl rfl rfl hc
  have hl:([]++((T.map cy).filter fun _=>true).map fun _=>dF (1,1))=(a' W T 0).map dF:=by
    rw [List.nil_append,List.filter_eq_self.mpr (fun _ _=>rfl),List.map_map]
    exact List.ext_getElem (by simp [a']) fun j h1 h2=>by simp [a']
  rw [hl] at hv
  unfold nE at hfor
  simp? [dO,ly,hv,hfor]
def hE(W:aC)(T:List Nd)(ss:List Fr)(v3 v4:Option Sv):En:=[some (.d (aN W)),some (.d (.tuple (T.map cy))),some (.l (ss.map dF)),v3,v4]
theorem yy{W:aC}(ok:W.Ok){i:Nat}(hi:i≤65535){f:Fr}(h:kr (mW W) i f):Bt 129 f.1∧Bt 129 f.2:=by
  have b:=jx ok
  obtain⟨b1,b2⟩:=h.bt b.2 b.1 (m:=16) (by unfold Bt;lia)
  exact⟨b1,b2.mono (by decide)⟩
theorem pG{W:aC}(ok:W.Ok){T:List Nd}{S:Nat→Std}(h:bN W T S)(hT:T.length≤65535):cH [.d (aN W),.d (.tuple (T.map cy))]=some (.d (.tuple ((fV W T (a' W T T.length) T.length).map dF)),[.d (aN W),.d (.tuple (T.map cy))]):=by
  have tr:=se ok h hT
  have hr:=fL.all ok h T.length
  have ba:=jx ok
  generalize a' W T T.length=rs at tr hr
  obtain⟨e2,h1,⟨v3,v4,he⟩⟩:=bI (own:=[]) (g:=aX (ao (ag 3) (ao (ag 4) aU))) (f:=cI) (fun i e=>∃v3 v4,e=hE W T (fV W T rs i) v3 v4) (jc (T.map cy) (rs.map dF)) 0 (hE W T (fV W T rs 0) none none) (fun i x e hx ⟨v3,v4,he⟩=>by
    subst he
    obtain⟨d1,d2,g1,g2,rfl⟩:=pK hx
    rw [List.getElem?_map] at g1 g2
    obtain⟨y,hy,rfl⟩:=Option.map_eq_some_iff.mp g1
    obtain⟨r,hr2,rfl⟩:=Option.map_eq_some_iff.mp g2
    have hi:i < T.length:=(List.getElem?_eq_some_iff.mp hy).1
    have o:=h i y hy
    have e0:rs.getD i (1,1)=r:=by simp [hr2]
    have ro:=hr.one ok h hi
    rw [e0] at ro
    have s0:=pP.all ok h hr i
    rw [Nat.zero_add,r9 hy,e0]
    generalize fV W T rs i=ss at s0
    have k0:=o.tie.1
    have k1:y.tie < (ss.length:Int):=by rw [s0.len];exact o.tie.2
    have ha:=rf (z:=(0,1)) k0 k1
    have hil:y.tie.toNat < ss.length:=by lia
    have e1:ss[y.tie.toNat]?=some (ss.getD y.tie.toNat (0,1)):=by simp [hil]
    have so:=s0.at' _ _ e1
    have b1:=yy ok (by lia) so
    have b2:=ro.bt ba.2 ba.1
    have tp:=vA so.pos ro.pos b1.1 b1.2 (b2.1.mono (by decide)) (b2.2.mono (by decide)) (by decide)
    have hix:k8 ss.length y.tie=some y.tie.toNat:=by unfold k8;rw [if_pos k0,if_pos k1]
    refine⟨hE W T ss (some (.d (cy y))) (some (.d (dF r))),hE W T (B6 ss y.tie r) (some (.d (cy y))) (some (.d (dF r))),by simp? [hE],?_,aW,_,_,rfl⟩
    unfold B6
    generalize ss.getD y.tie.toNat (0,1)=s at tp ha
    simp? [hE,cI,cy,ha,tp,nO,iz,hix,List.map_set]) ⟨none,none,rfl⟩
  subst he
  rw [Nat.zero_add,pL,List.length_map,List.length_map,hr.len,Nat.min_self] at h1
  have hfor:∀Wl,cL Wl en (aX (ao (ag 3) (ao (ag 4) aU))) cI (hE W T (fV W T rs 0) none none)=some (.nx (hE W T (fV W T rs T.length) v3 v4)):=fun Wl=>by
    rw [cm (items:=jc (T.map cy) (rs.map dF)) (e1:=hE W T (fV W T rs 0) none none) (by simp? [hE,en,oJ,ua,tr])]
    exact h1
  obtain⟨t',hc⟩:=bG (cs:=[]) (ft:=cv) (fe:=ek) (b:=fun _=>true) (y:=fun _=>dF (0,1)) (W.ties.map bL) none [] (fun x hx=>rfl) (fun x hx _=>rfl) (by have:=ok.len;simp;lia)
  have gw:∀e,bH e (.d (aN W)) (.d (.int 1))=some (.d (.tuple (W.ties.map bL))):=fun e=>by rw [eM,iK,eg];rfl
  have hv:=d9 (cp:=[]) (nT:=1) (fi:=er) (g:=ag 0) (ft:=cv) (fe:=ek) (e:=[some (.d (aN W)),some (.d (.tuple (T.map cy))),none,none,none]) (cs:=[]) (t:=[none]) (t':=[t']) (show er _=_ from k7 (by simp? [gw];rfl)) rfl rfl hc
  have hl:([]++((W.ties.map bL).filter fun _=>true).map fun _=>dF (0,1))=(fV W T rs 0).map dF:=by
    rw [List.nil_append,List.filter_eq_self.mpr (fun _ _=>rfl),List.map_map]
    exact List.ext_getElem (by simp [fV]) fun j h1 h2=>by simp [fV]
  rw [hl] at hv
  unfold hE at hfor
  simp? [cH,jv,hv,hfor]
theorem ue{W:aC}(ok:W.Ok){k:Int}{as:List Int}{y n:Fr}(h:nI W k as y n):e_ [.d (bL (W.tie k)),.d (dF y),.d (dF n)]=some (.d (dF (aw W k y n)),[.d (bL (W.tie k)),.d (dF y),.d (dF n)]):=by
  have i1:=AC (l:=as.length+1)
  have ot:=h.inw.ok ok
  have bt0:Bt 140 (W.tie k).bot:=by
    have:=ot.b0;have:=ot.b1
    exact Bt.mono (m:=7) (by unfold Bt;lia) (by decide)
  have bp0:0 < (W.tie k).bot:=by have:=ot.b0;lia
  have w:=h.w ok
  have t1:=h.t1 ok
  have t2:=h.t2 ok
  have t3:=h.t3 ok
  have c1:=qj ok h.inw true
  have c2:=qj ok h.inw false
  have bw:=w.b ok (by lia) (by lia)
  have by':=h.y.b ok (by lia) (by lia)
  have bn:=h.n.b ok (by lia) (by lia)
  have b1:=t1.b ok (by lia) (by lia)
  have b2:=t2.b ok (by lia) (by lia)
  have b3:=t3.b ok (by lia) (by lia)
  have p1:=vA (a:=((W.tie k).worth,1)) (b:=y) w.pos h.y.pos bw.1 bw.2 by'.1 by'.2 (by decide)
  rw [show dF ((W.tie k).worth,1)=.tuple [.int (W.tie k).worth,.int 1] from rfl] at p1
  have p2:=oj (a:=ch W k true) (b:=pl ((W.tie k).worth,1) y) c1.pos t1.pos (c1.bt bt0 bp0).1 (c1.bt bt0 bp0).2 b1.1 b1.2 (by decide)
  rw [wm] at p2
  have ol:=pH ok h.inw
  have p3:=oj (a:=ch W k false) (b:=n) c2.pos h.n.pos (c2.bt bt0 bp0).1 (c2.bt bt0 bp0).2 bn.1 bn.2 (by decide)
  have p4:i6 [.d (dF (tm (ch W k true) (pl ((W.tie k).worth,1) y))),.d (dF (tm (ch W k false) n))]=some (.d (dF (aw W k y n)),[.d (dF (tm (ch W k true) (pl ((W.tie k).worth,1) y))),.d (dF (tm (ch W k false) n))]):=vA t2.pos t3.pos b2.1 b2.2 b3.1 b3.2 (by decide)
  generalize dF (aw W k y n)=A at p4 ⊢
  generalize dF (tm (ch W k true) (pl ((W.tie k).worth,1) y))=B at p2 p4
  generalize dF (tm (ch W k false) n)=C at p3 p4
  generalize dF (pl ((W.tie k).worth,1) y)=D at p1 p2
  simp? [e_,mS,bL,p1,p2,ol,p3,p4]
theorem mf{ws:List Fr}{l:Int}(h0: -1≤l)(h1:l < (ws.length:Int)):cg [.l (ws.map dF),.d (.int l)]=some (.d (dF (lk ws l)),[.l (ws.map dF),.d (.int l)]):=by
  by_cases c:l= -1
  · subst c
    have:dF (lk ws (-1))=.tuple [.int 0,.int 1]:=rfl
    rw [this]
    simp? [cg,iZ,uo]
  · have:=AX c h0 h1
    simp? [cg,iZ,uo,c,this]
theorem sd{W:aC}(ok:W.Ok){S:Nat→Std}{T:List Nd}{ws:List Fr}{i:Nat}{x:Nd}(h:bN W T S)(hs:lq W S T.length ws)(hx:T[i]?=some x):dN [.d (aN W),.d (cy x),.l (ws.map dF)]=some (.d (dF (aw W x.tie (lk ws x.yes) (lk ws x.no))),[.d (aN W),.d (cy x),.l (ws.map dF)]):=by
  have o:=h i x hx
  have gw:∀e,bH e (.d (aN W)) (.d (.int 1))=some (.d (.tuple (W.ties.map bL))):=fun e=>by rw [eM,iK,eg];rfl
  have ha:=js o.tie
  have l1:=mf (ws:=ws) (l:=x.yes) o.yes.rng.1 (by rw [hs.len];exact o.yes.rng.2)
  have l2:=mf (ws:=ws) (l:=x.no) o.no.rng.1 (by rw [hs.len];exact o.no.rng.2)
  have ta:=ue ok (Cw ok h hs hx)
  generalize dF (aw W x.tie (lk ws x.yes) (lk ws x.no))=A at ta ⊢
  simp? [dN,lx,cy,gw,ha,l1,l2,ta]
def oW(W:aC)(T:List Nd)(ws:List Fr)(v3:Option Sv):En:=[some (.d (aN W)),some (.d (.tuple (T.map cy))),some (.l (ws.map dF)),v3]
theorem ui{W:aC}(ok:W.Ok){T:List Nd}{S:Nat→Std}(h:bN W T S)(hT:T.length≤65535):fj [.d (aN W),.d (.tuple (T.map cy))]=some (.d (.tuple ((iT W T T.length).map dF)),[.d (aN W),.d (.tuple (T.map cy))]):=by
  obtain⟨e2,h1,⟨v3,he⟩⟩:=bI (own:=[]) (g:=ag 3) (f:=eF) (fun m e=>∃v3,e=oW W T (iT W T m) v3) (lH ((T.length:Int) - 1) T.length) 0 (oW W T (iT W T 0) none) (fun m x e hx ⟨v3,he⟩=>by
    subst he
    obtain⟨rfl,hm⟩:=xq hx
    have hy:T[T.length - 1 - m]?=some (T[T.length - 1 - m]'(by lia)):=List.getElem?_eq_getElem (by lia)
    generalize T[T.length - 1 - m]'(by lia)=y at hy
    rw [Nat.zero_add,AD hy]
    rw [show((T.length:Int) - 1 - (m:Int))=((T.length - 1 - m:Nat):Int) by lia]
    have hi:T.length - 1 - m < T.length:=by lia
    generalize T.length - 1 - m=i at hy hi
    have s0:=lq.all ok h m
    generalize iT W T m=ws at s0
    have tn:=sd ok h s0 hy
    have ha:=AZ hy
    have hix:k8 ws.length (i:Int)=some i:=by unfold k8;rw [if_pos (by lia),if_pos (by rw [s0.len];lia)];simp
    refine⟨oW W T ws (some (.d (.int (i:Int)))),oW W T (wd1 W ws i y) (some (.d (.int (i:Int)))),rfl,?_,aW,_,rfl⟩
    unfold wd1
    generalize aw W y.tie (lk ws y.yes) (lk ws y.no)=A at tn
    simp? [oW,eF,ha,tn,nO,iz,hix,List.map_set]) ⟨none,rfl⟩
  subst he
  rw [Nat.zero_add,xr] at h1
  have hfor:∀Wl,cL Wl iq (ag 3) eF (oW W T (iT W T 0) none)=some (.nx (oW W T (iT W T T.length) v3)):=fun Wl=>by
    rw [cm (items:=lH ((T.length:Int) - 1) T.length) (e1:=oW W T (iT W T 0) none) (by
      have z:(T.length:Int)≤100000:=by lia
      simp? [oW,iq,wz,z])]
    exact h1
  obtain⟨t',hc⟩:=bG (cs:=[]) (ft:=cv) (fe:=ii) (b:=fun _=>true) (y:=fun _=>dF (0,1)) (T.map cy) none [] (fun x hx=>rfl) (fun x hx _=>rfl) (by simp;lia)
  have hv:=d9 (cp:=[]) (nT:=1) (fi:=ky) (g:=ag 0) (ft:=cv) (fe:=ii) (e:=[some (.d (aN W)),some (.d (.tuple (T.map cy))),none,none]) (cs:=[]) (t:=[none]) (t':=[t']) rfl rfl rfl hc
  have hl:([]++((T.map cy).filter fun _=>true).map fun _=>dF (0,1))=(iT W T 0).map dF:=by
    rw [List.nil_append,List.filter_eq_self.mpr (fun _ _=>rfl),List.map_map]
    exact List.ext_getElem (by simp [iT]) fun j h1 h2=>by simp [iT]
  rw [hl] at hv
  unfold oW at hfor
  simp? [fj,mV,hv,hfor]
theorem vB{W:aC}(ok:W.Ok){T:List Nd}{S:Nat→Std}(h:bN W T S)(hT:T.length≤65535):eu [.d (aN W),.d (.tuple (T.map cy))]=some (.d (dF ((iT W T T.length++[(0,1)]).getD 0 (0,1))),[.d (aN W),.d (.tuple (T.map cy))]):=by
  have tw:=ui ok h hT
  have ln:=(lq.all ok h T.length).len
  generalize iT W T T.length=ws at tw ln
  by_cases c:T.length=0
  · have:ws=[]:=List.length_eq_zero_iff.mp (by lia)
    subst this
    have e:dF (([]++[((0:Int),(1:Int))]).getD 0 (0,1))=.tuple [.int 0,.int 1]:=rfl
    rw [e]
    simp? [eu,kU,uo,c]
  · have c2:0 < T.length:=by lia
    have ha:=uG (rs:=ws) (i:=0) (z:=(0,1)) (by lia)
    have e:(ws++[((0:Int),(1:Int))]).getD 0 (0,1)=ws.getD 0 (0,1):=by
      have:0 < ws.length:=by lia
      simp [this]
    rw [e]
    generalize ws.getD 0 (0,1)=A at ha
    simp only [Int.ofNat_zero,Int.natCast_zero] at ha
    simp? [eu,kU,uo,c2,tw,ha]
def uE(T:List Nd)(ans:List Bool)(r:List (Int × Bool))(a:Int)(v4 v5 v6:Option Sv):En:=[some (.d (.tuple (T.map cy))),some (.d (.tuple (ans.map .bool))),some (.l (r.map dR)),some (.d (.int a)),v4,v5,v6]
theorem vz{W:aC}(ok:W.Ok){T:List Nd}{S:Nat→Std}{ans:List Bool}(hT:bN W T S)(ha:ans.length=W.ties.length):gF [.d (.tuple (T.map cy)),.d (.tuple (ans.map .bool))]=some (.d (.tuple ((rn T ans 17 (rt T)).map dR)),[.d (.tuple (T.map cy)),.d (.tuple (ans.map .bool))]):=by
  have tst:∀r a v4 v5 v6,dw (uE T ans r a v4 v5 v6)=some (decide (0≤a),uE T ans r a v4 v5 v6):=fun r a v4 v5 v6=>by
    simp? [uE,dw]
  obtain⟨e0,e',hw,⟨r,a,v4,v5,v6,rfl,hr⟩,hf⟩:=eE (ft:=dw) (f:=fN) (fun e=>∃r a v4 v5 v6,e=uE T ans r a v4 v5 v6∧lp W T S ans r a) (fun e=>17 - ib 2 e) (fun e ⟨r,a,v4,v5,v6,he,hr⟩=>by
    subst he
    by_cases c:0≤a
    · obtain⟨h1,h2,h3,h4⟩:=hr.step ok hT c
      have l1:∀r a v4 v5 v6,ib 2 (uE T ans r a v4 v5 v6)=r.length:=fun r a v4 v5 v6=>by simp [uE,ib]
      refine .inr ⟨uE T ans r a v4 v5 v6,uE T ans _ _ (some (.d (.int (aQ T a).tie))) (some (.d (.int (aQ T a).yes))) (some (.d (.int (aQ T a).no))),(by rw [tst,decide_eq_true c]),?_,⟨_,_,_,_,_,rfl,h4⟩,by rw [l1,l1];simp;lia⟩
      have n1:=uH c h1
      have b1:=xh (bs:=ans) h3.1 (by rw [ha];exact h3.2)
      have rl:r.length < 1000000:=by lia
      generalize ans.getD (aQ T a).tie.toNat false=b at b1 h4
      cases b<;>simp? [uE,fN,n1,cy,b1,dR,rl]
    · exact .inl ⟨_,(by rw [tst,decide_eq_false c]),trivial⟩) (2 ^ 4200) (uE T ans [] (rt T) none none none) ⟨[],rt T,none,none,none,rfl,lp.first⟩ (j3 (m:=20) (by simp [uE,ib]) (by decide))
  rw [tst] at hf
  have c:¬0≤a:=by
    intro c
    rw [decide_eq_true c] at hf
    simp at hf
  rw [decide_eq_false c] at hf
  simp at hf
  subst hf
  have hd:=hr.done (by lia)
  rw [←hd]
  have hw':eD (2 ^ 4200) dw fN (uE T ans [] (rt T) none none none)=some (.nx (uE T ans r a v4 v5 v6)):=hw
  have hrt:((-1:Int)+if 0 < T.length then 1 else 0)=rt T:=by
    unfold rt
    by_cases z:T.length=0
    · simp [z]
    · have:0 < T.length:=by lia
      simp [z,this]
  unfold uE at hw'
  simp only [List.map_nil] at hw'
  simp? [gF,oA,hrt,hw']
theorem uh{n:Int}{t:iC}(o:t.Ok n):bD [.d (.tuple [.int t.top,.int t.bot])]=some (.d (dF (qi t false)),[.d (.tuple [.int t.top,.int t.bot])]):=by
  have b0:=o.b0;have b1:=o.b1
  have tl:=mh (t.bot - t.top) t.bot (by lia) (Bt.mono (m:=7) (by unfold Bt;lia) (by decide))
  rw [s_ (by lia) o.cop] at tl
  simp? [bD,kS,tl,qi]
theorem qk{n:Int}{c0 a0:Option Sv}:∀(ts:List iC) (bs:List Bool) (M:Int) (k:Nat) (a:Fr) (v3 v4:Option Sv),(∀t∈ts,t.Ok n)→bs.length=ts.length→0 < M→Bt k M→k+7*ts.length≤120→pM M a→
    ∃w3 w4,ij [] (aX (ao (ag 3) (ao (ag 4) aU))) cx (jc (ts.map fun t=>.tuple [.int t.top,.int t.bot]) (bs.map .bool)) [c0,a0,some (.d (dF a)),v3,v4]=some (.nx [c0,a0,some (.d (dF (lj a ts bs))),w3,w4])
  | [],[],M,k,a,v3,v4,_,_,_,_,_,_=>⟨v3,v4,rfl⟩
  | [],_::_,_,_,_,_,_,_,hl,_,_,_,_=>by simp at hl
  | _::_,[],_,_,_,_,_,_,hl,_,_,_,_=>by simp at hl
  | t::ts,b::bs,M,k,a,v3,v4,ho,hl,hM,hb,hk,h=>by
    have o:=ho t (by simp)
    have b0:=o.b0;have b1:=o.b1
    have rc:=yD o b
    simp only [List.length_cons] at hk
    obtain⟨c1,c2⟩:=h.bt hb hM
    obtain⟨c3,c4⟩:=rc.bt (n:=7) (by unfold Bt;lia) (by lia)
    have tt:=oj (a:=a) (b:=qi t b) (n:=300) h.pos rc.pos (c1.mono (by lia)) (c2.mono (by lia)) (c3.mono (by lia)) (c4.mono (by lia)) (by lia)
    have to:=uh o
    obtain⟨w3,w4,ih⟩:=qk (c0:=c0) (a0:=a0) ts bs (M*t.bot) (k+7) (tm a (qi t b)) (some (.d (.tuple [.int t.top,.int t.bot]))) (some (.d (.bool b))) (fun x hx=>ho x (by simp [hx])) (by simpa using hl) (Int.mul_pos hM (by lia)) (hb.mul (show Bt 7 t.bot by unfold Bt;lia)) (by lia) (h.tm rc)
    refine⟨w3,w4,?_⟩
    have hg:aX (ao (ag 3) (ao (ag 4) aU)) (.tuple [.tuple [.int t.top,.int t.bot],.bool b]) [c0,a0,some (.d (dF a)),v3,v4]=some [c0,a0,some (.d (dF a)),some (.d (.tuple [.int t.top,.int t.bot])),some (.d (.bool b))]:=rfl
    have hbd:cx [c0,a0,some (.d (dF a)),some (.d (.tuple [.int t.top,.int t.bot])),some (.d (.bool b))]=some (.nx [c0,a0,some (.d (dF (tm a (qi t b)))),some (.d (.tuple [.int t.top,.int t.bot])),some (.d (.bool b))]):=by
      cases b with
      | true=>
        have e:dF (qi t true)=.tuple [.int t.top,.int t.bot]:=rfl
        rw [e] at tt
        simp? [cx,tt]
      | false=>simp? [cx,to,tt]
    simp only [List.map_cons,jc,ij,hg,Option.bind_some,hbd]
    rw [if_pos aW]
    exact ih
theorem zi:pM 1 ((1,1):Fr):=⟨by decide,by decide,by decide,Int.dvd_refl _⟩
theorem ug{W:aC}(ok:W.Ok){bs:List Bool}(hl:bs.length=W.ties.length):fg [.d (aN W),.d (.tuple (bs.map .bool))]=some (.d (dF (lj (1,1) W.ties bs)),[.d (aN W),.d (.tuple (bs.map .bool))]):=by
  have wl:=ok.len
  have g1':∀e,bH e (.d (aN W)) (.d (.int 1))=some (.d (.tuple (W.ties.map bL))):=fun e=>by rw [eM,iK,eg];rfl
  have hc:∀e:En,e[0]?=some (some (.d (aN W)))→cw [] 1 ip (ag 0) cv eG e=some (.l (W.ties.map fun t=>.tuple [.int t.top,.int t.bot]),e):=fun e he=>by
    have hi:ip e=some (W.ties.map bL,[],e):=k7 (by simp [aq,ac,he,vC,g1'])
    obtain⟨t',h3⟩:=bG (cs:=[]) (ft:=cv) (fe:=eG) (b:=fun _=>true) (y:=fun d=>match d with | .tuple [_,_,c,_]=>c | _=>.none) (W.ties.map bL) none [] (fun _ _=>rfl) (fun x hx _=>by
      obtain⟨t,ht,rfl⟩:=List.mem_map.mp hx
      simp? [eG,bL]) (by simp;lia)
    rw [List.filter_eq_self.mpr (fun _ _=>rfl),List.map_map] at h3
    exact mO hi h3
  obtain⟨w3,w4,hf⟩:=qk (c0:=some (.d (.list (W.ties.map fun t=>.tuple [.int t.top,.int t.bot])))) (a0:=some (.d (.tuple (bs.map .bool)))) W.ties bs 1 1 (1,1) none none (fun t ht=>ok.ties t ht) hl (by decide) (by unfold Bt;decide) (by lia) zi
  have hs:∀Wl,cL Wl io (aX (ao (ag 3) (ao (ag 4) aU))) cx [some (.d (.list (W.ties.map fun t=>.tuple [.int t.top,.int t.bot]))),some (.d (.tuple (bs.map .bool))),some (.d (.tuple [.int 1,.int 1])),none,none]=some (.nx [some (.d (.list (W.ties.map fun t=>.tuple [.int t.top,.int t.bot]))),some (.d (.tuple (bs.map .bool))),some (.d (dF (lj (1,1) W.ties bs))),w3,w4]):=fun Wl=>by
    rw [cm (show io _=some (jc (W.ties.map fun t=>.tuple [.int t.top,.int t.bot]) (bs.map .bool),[],[some (.d (.list (W.ties.map fun t=>.tuple [.int t.top,.int t.bot]))),some (.d (.tuple (bs.map .bool))),some (.d (.tuple [.int 1,.int 1])),none,none]) from rfl)]
    exact hf
  have hb:ff [.d (.list (W.ties.map fun t=>.tuple [.int t.top,.int t.bot])),.d (.tuple (bs.map .bool))]=some (.d (dF (lj (1,1) W.ties bs)),[.d (.list (W.ties.map fun t=>.tuple [.int t.top,.int t.bot])),.d (.tuple (bs.map .bool))]):=by
    generalize dF (lj (1,1) W.ties bs)=q at hs ⊢
    generalize W.ties.map (fun t=>PyData.tuple [.int t.top,.int t.bot])=L at hs ⊢
    simp? [ff,mT,hs]
  have hc':=hc [some (.d (aN W)),some (.d (.tuple (bs.map .bool)))] rfl
  generalize dF (lj (1,1) W.ties bs)=q at hb ⊢
  generalize W.ties.map (fun t=>PyData.tuple [.int t.top,.int t.bot])=L at hb hc'
  simp? [fg,mU,hc',hb]
def dB(bs:List Bool):PyData:=.tuple (bs.map .bool)
theorem GP{n:Nat}(h:n≤10):2 ^ n≤1024:=Nat.le_trans (Nat.pow_le_pow_right (by decide) h) (by decide)
theorem yL{e:En}{bs:List Bool}{b:Bool}(h:bs.length≤1000):bY e (.d (dB bs)) (.d (.tuple [.bool b]))=some (.d (dB (bs++[b]))):=by
  unfold dB
  rw [oG (by simp;lia)]
  simp
theorem p9{n:Nat}(hn:n≤10):cX [.d (.int (n:Int))]=some (.l ((aY n).map dB),[.d (.int (n:Int))]):=by
  have step:∀(k:Nat) (v0 v2:Option Sv),k≤9→cu [v0,some (.l ((aY k).map dB)),v2]=some (.nx [v0,some (.l ((aY (k+1)).map dB)),v2]):=by
    intro k v0 v2 hk
    obtain⟨pl,pr⟩:=kb k
    have pw:=GP (n:=k) (by lia)
    have one:∀(fe:FE) (b:Bool),(∀r:List Bool,r.length≤1000→fe [some (.d (dB r))]=some (.d (dB (r++[b])),[some (.d (dB r))]))→∃t',eL (ag 0) cv fe ((aY k).map dB) [none] []=some (((aY k).map (· ++[b])).map dB,t'):=fun fe b hfe=>by
      obtain⟨t',h3⟩:=bG (cs:=[]) (ft:=cv) (fe:=fe) (b:=fun _=>true) (y:=fun d=>match d with | .tuple ds=>.tuple (ds++[.bool b]) | _=>.none) ((aY k).map dB) none [] (fun _ _=>rfl) (fun x hx _=>by
        obtain⟨r,hr,rfl⟩:=List.mem_map.mp hx
        have:=hfe r (by have:=pr r hr;lia)
        rw [List.nil_append,this]
        simp [dB]) (by simp;lia)
      refine⟨[]++[t'],?_⟩
      rw [List.filter_eq_self.mpr (fun _ _=>rfl),List.map_map,List.nil_append] at h3
      rw [List.map_map]
      have e:Function.comp (fun d:PyData=>match d with | .tuple ds=>PyData.tuple (ds++[.bool b]) | _=>.none) dB=Function.comp dB (· ++[b]):=by funext r;simp [dB]
      rw [e] at h3
      exact h3
    obtain⟨t1,h1⟩:=one c8 true (fun r hr=>by simp? [c8,yL hr])
    obtain⟨t2,h2⟩:=one c9 false (fun r hr=>by simp? [c9,yL hr])
    have hv1:cw [] 1 je (ag 0) cv c8 [v0,some (.l ((aY k).map dB)),v2]=some (.l (((aY k).map (· ++[true])).map dB),[v0,some (.l ((aY k).map dB)),v2]):=mO (own:=[(1,(aY k).map dB)]) rfl h1
    have hv2:cw [] 1 jf (ag 0) cv c9 [v0,some (.l ((aY k).map dB)),v2]=some (.l (((aY k).map (· ++[false])).map dB),[v0,some (.l ((aY k).map dB)),v2]):=mO (own:=[(1,(aY k).map dB)]) rfl h2
    have ga:∀e,bY e (.l (((aY k).map (· ++[true])).map dB)) (.l (((aY k).map (· ++[false])).map dB))=some (.l ((aY (k+1)).map dB)):=fun e=>by
      rw [Bb (by simp;lia)]
      simp [aY]
    generalize ((aY k).map (· ++[true])).map dB=A at hv1 ga
    generalize ((aY k).map (· ++[false])).map dB=B at hv2 ga
    generalize (aY (k+1)).map dB=C at ga ⊢
    generalize (aY k).map dB=D at hv1 hv2
    simp? [cu,hv1,hv2,ga]
  obtain⟨e',h1,⟨v2,rfl⟩⟩:=bI (own:=[]) (g:=ag 2) (f:=cu) (fun i e=>∃v2,e=[some (.d (.int (n:Int))),some (.l ((aY i).map dB)),v2]) (bu 0 n) 0 [some (.d (.int (n:Int))),some (.l ((aY 0).map dB)),none] (fun i x e hx ⟨v2,he⟩=>by
    subst he
    obtain⟨rfl,hi⟩:=dc hx
    rw [Nat.zero_add]
    exact⟨_,_,rfl,step i _ _ (by lia),aW,_,rfl⟩) ⟨none,rfl⟩
  rw [gJ,Nat.zero_add] at h1
  have hs:∀Wl,cL Wl fD (ag 2) cu [some (.d (.int (n:Int))),some (.l [.tuple []]),none]=some (.nx [some (.d (.int (n:Int))),some (.l ((aY n).map dB)),v2]):=fun Wl=>by
    have:=el (fs:=aa (ac 0) ah) (e:=[some (.d (.int (n:Int))),some (.l [.tuple []]),none]) (e1:=[some (.d (.int (n:Int))),some (.l [.tuple []]),none]) (n:=(n:Int)) rfl (by lia) (by lia)
    rw [Int.toNat_natCast] at this
    rw [cm (show fD _=_ from this)]
    exact h1
  generalize (aY n).map dB=A at hs ⊢
  simp? [cX,kx,hs]
def zp(p:Fr × iC):PyData:=.tuple [dF p.1,bL p.2]
theorem uA:∀(ws:List Fr) (ts:List iC),jc (ws.map dF) (ts.map bL)=(ws.zip ts).map zp
  | [],_=>by cases ‹List iC›<;>rfl
  | _::_,[]=>rfl
  | w::ws,t::ts=>by
    show PyData.tuple [dF w,bL t]::jc (ws.map dF) (ts.map bL)=_
    rw [uA ws ts]
    rfl
theorem G9{W:aC}(e:En):bH e (.d (aN W)) (.d (.int 1))=some (.d (.tuple (W.ties.map bL))):=by rw [eM,iK,eg];rfl
theorem rH{t b:Int}{n:Nat}(hb:0 < b)(h1:Bt n t)(h2:Bt n b):Bt n (lowM t b).1∧Bt n (lowM t b).2∧0 < (lowM t b).2:=by
  obtain⟨d,e1,e2,e3,e4,e5⟩:=et (t:=t) (b:=b) (by lia)
  have dp:1≤d.natAbs:=by lia
  have k1:(lowM t b).1.natAbs≤t.natAbs:=by
    have:=congrArg Int.natAbs e3
    rw [Int.natAbs_mul] at this
    rw [←this]
    exact Nat.le_mul_of_pos_right _ dp
  have k2:(lowM t b).2.natAbs≤b.natAbs:=by
    have:=congrArg Int.natAbs e4
    rw [Int.natAbs_mul] at this
    rw [←this]
    exact Nat.le_mul_of_pos_right _ dp
  exact⟨h1.of_le k1,h2.of_le k2,e5⟩
structure FB (n:Nat) (f:Fr):Prop where
  pos:0 < f.2
  top:Bt n f.1
  bot:Bt n f.2
theorem FB.mono{n m:Nat}{f:Fr}(h:FB n f)(hm:n≤m):FB m f:=⟨h.pos,h.top.mono hm,h.bot.mono hm⟩
theorem FB.pl{n m:Nat}{a b:Fr}(ha:FB n a)(hb:FB m b):FB (n+m+1) (L2.pl a b):=by
  obtain⟨r1,r2,r3⟩:=rH (t:=a.1*b.2+b.1*a.2) (b:=a.2*b.2) (n:=n+m+1) (Int.mul_pos ha.pos hb.pos) ((ha.top.mul hb.bot).add ((hb.top.mul ha.bot).mono (by lia))) ((ha.bot.mul hb.bot).mono (by lia))
  exact⟨r3,r1,r2⟩
theorem FB.tm{n m:Nat}{a b:Fr}(ha:FB n a)(hb:FB m b):FB (n+m) (L2.tm a b):=by
  obtain⟨r1,r2,r3⟩:=rH (t:=a.1*b.1) (b:=a.2*b.2) (n:=n+m) (Int.mul_pos ha.pos hb.pos) (ha.top.mul hb.top) (ha.bot.mul hb.bot)
  exact⟨r3,r1,r2⟩
theorem uR{W:aC}(ok:W.Ok){t:iC}(ht:t∈W.ties):FB 7 (qi t true)∧FB 10 ((t.worth,1):Fr):=by
  have o:=ok.ties t ht
  have:=o.c0;have:=o.c1;have:=o.b0;have:=o.b1;have:=o.w0;have:=o.w1
  refine⟨⟨by show 0 < t.bot;lia,by show Bt 7 t.top;unfold Bt;lia,by show Bt 7 t.bot;unfold Bt;lia⟩,⟨by show(0:Int) < 1;decide,by show Bt 10 t.worth;unfold Bt;lia,by show Bt 10 1;unfold Bt;decide⟩⟩
def iA(p:Fr × iC):Fr:=tm (tm p.1 (qi p.2 true)) (p.2.worth,1)
theorem sj{W:aC}(ok:W.Ok){ss:List Fr}(hs:∀f∈ss,FB 130 f)(hl:ss.length≤7):dI [.d (aN W),.d (.tuple (ss.map dF))]=some (.d (dF (jS (0,1) ((ss.zip W.ties).map iA))),[.d (aN W),.d (.tuple (ss.map dF))]):=by
  have g1':=G9 (W:=W)
  have hz:=uA ss W.ties
  have zl:(ss.zip W.ties).length≤7:=by rw [List.length_zip];lia
  have fb:∀p∈ss.zip W.ties,FB 147 (iA p):=fun p hp=>by
    have hm:=List.of_mem_zip (show(p.1,p.2)∈ss.zip W.ties from hp)
    obtain⟨f1,f2⟩:=uR ok hm.2
    exact((hs _ hm.1).tm f1).tm f2
  have part:∀i,FB (148*i+1) (jS (0,1) (((ss.zip W.ties).map iA).take i)):=fun i=>by
    induction i with
    | zero=>exact⟨by show(0:Int) < 1;decide,by show Bt 1 0;unfold Bt;decide,by show Bt 1 1;unfold Bt;decide⟩
    | succ i ih=>
      rw [List.take_succ]
      cases hx:((ss.zip W.ties).map iA)[i]? with
      | none=>simpa using ih.mono (by lia)
      | some f=>
        obtain⟨p,hp,rfl⟩:=List.mem_map.mp (List.mem_of_getElem? hx)
        have:=ih.pl (fb p hp)
        unfold jS at this ⊢
        rw [List.foldl_append]
        exact this.mono (by lia)
  obtain⟨e',h1,⟨v3,v4,he⟩⟩:=bI (own:=[]) (g:=aX (ao (ag 3) (ao (ag 4) aU))) (f:=dr) (fun i e=>∃v3 v4,e=[some (.d (aN W)),some (.d (.tuple (ss.map dF))),some (.d (dF (jS (0,1) (((ss.zip W.ties).map iA).take i)))),v3,v4]) ((ss.zip W.ties).map zp) 0 [some (.d (aN W)),some (.d (.tuple (ss.map dF))),some (.d (.tuple [.int 0,.int 1])),none,none] (fun i x e hx ⟨v3,v4,he⟩=>by
    subst he
    rw [Nat.zero_add] at*
    rw [List.getElem?_map] at hx
    obtain⟨p,hp,rfl⟩:=Option.map_eq_some_iff.mp hx
    have pm:=List.mem_of_getElem? hp
    have il:=(List.getElem?_eq_some_iff.mp hp).1
    have hm:=List.of_mem_zip (show(p.1,p.2)∈ss.zip W.ties from pm)
    obtain⟨f1,f2⟩:=uR ok hm.2
    have f0:=hs _ hm.1
    have f3:=f0.tm f1
    have q1:=wY (n:=200) f0.pos f1.pos (f0.top.mono (by decide)) (f0.bot.mono (by decide)) (f1.top.mono (by decide)) (f1.bot.mono (by decide)) (by decide)
    have q2:=wY (n:=200) f3.pos f2.pos (f3.top.mono (by decide)) (f3.bot.mono (by decide)) (f2.top.mono (by decide)) (f2.bot.mono (by decide)) (by decide)
    have fs:=(part i).mono (m:=1900) (by lia)
    have ft:=(fb p pm).mono (m:=1900) (by lia)
    have q3:=vy (n:=1900) fs.pos ft.pos fs.top fs.bot ft.top ft.bot (by decide)
    have st:jS (0,1) (((ss.zip W.ties).map iA).take (i+1))=L2.pl (jS (0,1) (((ss.zip W.ties).map iA).take i)) (iA p):=by
      rw [List.take_succ,List.getElem?_map,hp]
      unfold jS
      rw [List.foldl_append]
      rfl
    refine⟨[some (.d (aN W)),some (.d (.tuple (ss.map dF))),some (.d (dF (jS (0,1) (((ss.zip W.ties).map iA).take i)))),some (.d (dF p.1)),some (.d (bL p.2))],[some (.d (aN W)),some (.d (.tuple (ss.map dF))),some (.d (dF (jS (0,1) (((ss.zip W.ties).map iA).take (i+1))))),some (.d (dF p.1)),some (.d (bL p.2))],rfl,?_,aW,_,_,rfl⟩
    rw [st]
    rw [show tm (tm p.1 (qi p.2 true)) (p.2.worth,1)=iA p from rfl] at q2
    rw [show dF (qi p.2 true)=.tuple [.int p.2.top,.int p.2.bot] from rfl] at q1
    rw [show dF ((p.2.worth,1):Fr)=.tuple [.int p.2.worth,.int 1] from rfl] at q2
    generalize dF (L2.pl (jS (0,1) (((ss.zip W.ties).map iA).take i)) (iA p))=D1 at*
    generalize dF (jS (0,1) (((ss.zip W.ties).map iA).take i))=D2 at*
    generalize dF (iA p)=D3 at*
    generalize dF (tm p.1 (qi p.2 true))=D4 at*
    generalize dF p.1=D5 at*
    generalize ss.map dF=SS at*
    generalize aN W=WW at*
    unfold bL
    simp? [dr,q1,q2,q3]) ⟨none,none,rfl⟩
  rw [Nat.zero_add,List.length_map,List.take_of_length_le (by rw [List.length_map];exact Nat.le_refl _)] at he
  subst he
  have hi:gy [some (.d (aN W)),some (.d (.tuple (ss.map dF))),some (.d (.tuple [.int 0,.int 1])),none,none]=some ((ss.zip W.ties).map zp,[],[some (.d (aN W)),some (.d (.tuple (ss.map dF))),some (.d (.tuple [.int 0,.int 1])),none,none]):=by
    rw [←hz]
    generalize W.ties.map bL=TT at*
    generalize ss.map dF=FF at*
    generalize aN W=WW at*
    simp? [gy,oJ,ua,g1']
  have hg:=fun Wl=>cm (W:=Wl) (g:=aX (ao (ag 3) (ao (ag 4) aU))) (f:=dr) hi
  rw [h1] at hg
  generalize dF (jS (0,1) ((ss.zip W.ties).map iA))=D at*
  generalize ss.map dF=FF at*
  generalize aN W=WW at*
  simp? [dI,lu,hg]
theorem xa:∀(L:List Fr) {a:Fr},0 < a.2→(∀f∈L,0 < f.2)→vR (jS a L)=vR a+(L.map vR).sum
  | [],a,h,_=>by
    show vR a=vR a+0
    grind
  | x::r,a,h,hL=>by
    have hx:=hL x (by simp)
    show vR (jS (L2.pl a x) r)=_
    rw [xa r (kP.pl h hx).pos fun f hf=>hL f (by simp [hf]),pJ h hx,List.map_cons,List.sum_cons]
    grind
theorem tf:∀(L:List Fr) {a:Fr},kP a→(∀f∈L,0 < f.2)→kP (jS a L)
  | [],a,h,_=>h
  | x::r,a,h,hL=>tf r (kP.pl h.pos (hL x (by simp))) fun f hf=>hL f (by simp [hf])
theorem vp{W:aC}(ok:W.Ok){T:List Nd}{S:Nat→Std}(h:bN W T S):∀m,m≤T.length→∀f∈fV W T (a' W T T.length) m,kP f
  | 0,_,f,hf=>by
    rw [fV] at hf
    rw [(List.mem_replicate.mp hf).2]
    exact mj
  | m+1,hm,f,hf=>by
    have hx:=List.getElem?_eq_getElem (show m < T.length by lia)
    have nd:=h m _ hx
    have ih:=vp ok h m (by lia)
    have hs:=pP.all ok h (fL.all ok h T.length) m
    have one:=(fL.all ok h T.length).one ok h (show m < T.length by lia)
    rw [r9 hx] at hf
    unfold B6 at hf
    rcases List.mem_or_eq_of_mem_set hf with z | z
    · exact ih f z
    · rw [z]
      have t0:=nd.tie.1;have t1:=nd.tie.2
      have kl:(T[m]).tie.toNat < (fV W T (a' W T T.length) m).length:=by rw [hs.len];lia
      refine kP.pl ?_ one.pos
      rw [List.getD_eq_getElem?_getD,List.getElem?_eq_getElem kl]
      exact(hs.at' _ _ (List.getElem?_eq_getElem kl)).pos
theorem qQ{W:aC}(ok:W.Ok){T:List Nd}{S:Nat→Std}(h:bN W T S)(o:lm T)(t:ku T):jS (0,1) (((fV W T (a' W T T.length) T.length).zip W.ties).map iA)=(iT W T T.length++[(0,1)]).getD 0 (0,1):=by
  have hb:=A0 ok
  have sl:=vp ok h T.length (Nat.le_refl _)
  have pos:∀f∈((fV W T (a' W T T.length) T.length).zip W.ties).map iA,0 < f.2:=fun f hf=>by
    obtain⟨p,hp,rfl⟩:=List.mem_map.mp hf
    have hm:=List.of_mem_zip (show(p.1,p.2)∈_ from hp)
    exact li (li (sl _ hm.1).pos (gY (hb _ hm.2) true)) (by show(0:Int) < 1;decide)
  refine vM (tf _ mj pos) ?_ ?_
  · by_cases c:T.length=0
    · have e:iT W T T.length=[]:=by apply List.eq_nil_of_length_eq_zero;rw [ja,c]
      rw [e]
      exact mj
    · have wl:=ja (W:=W) (T:=T) T.length
      have hx:=List.getElem?_eq_getElem (show 0 < T.length by lia)
      have nd:=h 0 _ hx
      have f:=sy (W:=W) o T.length (Nat.le_refl _) 0 _ (by lia) hx
      have ws:=lq.all ok h T.length
      have b0:=sk ok nd.tie
      rw [List.getD_eq_getElem?_getD,List.getElem?_append_left (by lia),f]
      exact kP.pl (li (gY b0 true) (kP.pl (by show(0:Int) < 1;decide) (qC ws nd.yes).pos).pos) (li (gY b0 false) (qC ws nd.no).pos)
  · rw [ye ok h o t,←yk ok h _ (Nat.le_refl _),xa _ (by decide) pos,vL,List.map_map]
    unfold HS
    have:(((fV W T (a' W T T.length) T.length).zip W.ties).map (Function.comp vR iA)).sum=(((fV W T (a' W T T.length) T.length).zip W.ties).map fun p=>vR p.1*hR p.2).sum:=lh fun p hp=>by
      have hm:=List.of_mem_zip (show(p.1,p.2)∈_ from hp)
      have c1:=gY (hb _ hm.2) true
      have s1:=(sl _ hm.1).pos
      show vR (iA p)=_
      unfold iA hR cR
      rw [qT (li s1 c1) (by show(0:Int) < 1;decide),qT s1 c1,Az]
      grind
    rw [this]
    grind
theorem z9{W:aC}{T:List Nd}{S:Nat→Std}(h:bN W T S){a:List Bool}:∀(m:Nat) (l:Int),(l= -1∨(0≤l∧l < (T.length:Int)))→(rn T a m l).length≤m∧∀p∈rn T a m l,km W p.1
  | 0,_,_=>⟨Nat.le_refl _,fun p hp=>by cases hp⟩
  | m+1,l,hl=>by
    rcases hl with rfl | ⟨h0,h1⟩
    · rw [lc (by decide)];exact⟨Nat.zero_le _,fun p hp=>by cases hp⟩
    · obtain⟨x,hx⟩:=y8 h0 h1
      have nd:=h _ x hx
      rw [ka h0 hx]
      obtain⟨i1,i2⟩:=z9 h (a:=a) m (iV x (a.getD x.tie.toNat false)) (by
        rcases oK nd (a.getD x.tie.toNat false) with z | ⟨z1,z2,_⟩
        · exact .inl z
        · exact .inr ⟨z1,z2⟩)
      refine⟨by rw [List.length_cons];lia,fun p hp=>?_⟩
      rcases List.mem_cons.mp hp with rfl | hp
      · exact nd.tie
      · exact i2 p hp
structure AS (n:Nat) (M c:Int) (ss:List Fr) (f:Nat→Rat):Prop where
  len:ss.length=n
  ok:∀k,k < n→kr M c (ss.getD k (0,1))∧kP (ss.getD k (0,1))∧vR (ss.getD k (0,1))=f k
theorem AS.step{n:Nat}{M c:Int}{ss:List Fr}{f:Nat→Rat}(h:AS n M c ss f){k:Nat}(hk:k < n){r:Fr}(hr:pM M r):AS n M (c+1) (ss.set k (pl (ss.getD k (0,1)) r)) (fun j=>f j+(if j=k then 1 else 0)*vR r):=by
  refine⟨by rw [List.length_set];exact h.len,fun j hj=>?_⟩
  obtain⟨a1,a2,a3⟩:=h.ok j hj
  by_cases e:j=k
  · subst e
    rw [List.getD_eq_getElem?_getD,List.getElem?_set_self (by rw [h.len];exact hj)]
    simp only [Option.getD_some]
    refine⟨a1.pl hr,kP.pl a1.pos hr.pos,?_⟩
    rw [pJ a1.pos hr.pos,a3]
    simp only [if_true]
    grind
  · rw [List.getD_eq_getElem?_getD,List.getElem?_set_ne (fun z=>e z.symm),←List.getD_eq_getElem?_getD]
    refine⟨a1.mono (by lia),a2,?_⟩
    rw [a3,if_neg e]
    grind
abbrev cS(ns ds:List Int)(q:Int)(W:aC)(T:List Nd)(ss:List Fr)(v7 v8 v9 v10 v11 v12:Option Sv):En:=[some (.d (.list (ns.map .int))),some (.l (ds.map .int)),some (.d (.int q)),some (.d (aN W)),some (.d (.int (W.ties.length:Int))),some (.d (.tuple (T.map cy))),some (.l (ss.map dF)),v7,v8,v9,v10,v11,v12]
theorem Al{M c:Int}{f:Fr}(h:kr M c f)(m0:0 < M)(mb:Bt 63 M)(c0:0≤c)(c1:c≤4000):Bt 100 f.1∧Bt 100 f.2:=by
  obtain⟨b1,b2⟩:=h.bt (m:=12) mb m0 (by unfold Bt;lia)
  exact⟨b1.mono (by decide),b2.mono (by decide)⟩
theorem Ac{ns ds:List Int}{q:Int}{W:aC}{T:List Nd}{ss:List Fr}{f:Nat→Rat}{M c:Int}{r:Fr}{R:List (Int × Bool)}(m0:0 < M)(mb:Bt 63 M)(c0:0≤c)(c1:c+20≤4000)(h:AS W.ties.length M c ss f)(hr:pM M r)(hR:∀p∈R,km W p.1)(rl:R.length≤17){v7 v8 v10 v11 v12:Option Sv}:
    ∃ss' w10 w11,ij [] (aX (ao (ag 10) (ao (ag 11) aU))) EU (R.map dR) (cS ns ds q W T ss v7 v8 (some (.d (dF r))) v10 v11 v12)=some (.nx (cS ns ds q W T ss' v7 v8 (some (.d (dF r))) w10 w11 v12))∧AS W.ties.length M (c+17) ss' (fun j=>f j+ki (j:Int) R*vR r):=by
  obtain⟨e',h1,⟨ss',w10,w11,he,hA⟩⟩:=bI (own:=[]) (g:=aX (ao (ag 10) (ao (ag 11) aU))) (f:=EU) (fun i e=>∃ss v10 v11,e=cS ns ds q W T ss v7 v8 (some (.d (dF r))) v10 v11 v12∧AS W.ties.length M (c+(i:Int)) ss (fun j=>f j+ki (j:Int) (R.take i)*vR r)) (R.map dR) 0 (cS ns ds q W T ss v7 v8 (some (.d (dF r))) v10 v11 v12) (fun i x e hx ⟨ss,v10,v11,he,hA⟩=>by
    subst he
    rw [Nat.zero_add] at*
    rw [List.getElem?_map] at hx
    obtain⟨p,hp,rfl⟩:=Option.map_eq_some_iff.mp hx
    have il:=(List.getElem?_eq_some_iff.mp hp).1
    have iw:=hR p (List.mem_of_getElem? hp)
    have k0:=iw.1;have k1:=iw.2
    have kl:p.1.toNat < W.ties.length:=by lia
    obtain⟨a1,a2,a3⟩:=hA.ok p.1.toNat kl
    obtain⟨b1,b2⟩:=Al a1 m0 mb (by lia) (by lia)
    obtain⟨d1,d2⟩:=hr.bt mb m0
    have tp:=vy (n:=100) a1.pos hr.pos b1 b2 (d1.mono (by decide)) (d2.mono (by decide)) (by decide)
    have ai:=rf (rs:=ss) (z:=(0,1)) k0 (by rw [hA.len];lia)
    have hix:k8 (ss.map dF).length p.1=some p.1.toNat:=by unfold k8;rw [if_pos k0,if_pos (by rw [List.length_map,hA.len];lia)]
    have st:=hA.step kl hr
    refine⟨cS ns ds q W T ss v7 v8 (some (.d (dF r))) (some (.d (.int p.1))) (some (.d (.bool p.2))) v12,cS ns ds q W T (ss.set p.1.toNat (L2.pl (ss.getD p.1.toNat (0,1)) r)) v7 v8 (some (.d (dF r))) (some (.d (.int p.1))) (some (.d (.bool p.2))) v12,rfl,?_,aW,_,_,_,rfl,?_⟩
    · simp only [cS]
      rw [List.map_set]
      generalize dF (L2.pl (ss.getD p.1.toNat (0,1)) r)=D1 at*
      generalize dF (ss.getD p.1.toNat (0,1))=D2 at*
      generalize dF r=D3 at*
      generalize ss.map dF=SS at*
      generalize T.map cy=TT at*
      generalize aN W=WW at*
      simp? [EU,ai,tp,nO,iz,hix]
    · rw [Int.natCast_add,←Int.add_assoc]
      refine⟨st.len,fun j hj=>?_⟩
      obtain⟨s1,s2,s3⟩:=st.ok j hj
      refine⟨s1,s2,?_⟩
      rw [s3]
      have ec:ki (j:Int) (R.take (i+1))=ki (j:Int) (R.take i)+(if j=p.1.toNat then 1 else 0):=by
        unfold ki
        rw [List.take_succ,hp,List.map_append,cZ]
        simp only [Option.toList_some,List.map_cons,List.map_nil,List.sum_cons,List.sum_nil]
        have:(p.1=(j:Int))=(j=p.1.toNat):=propext ⟨fun z=>by lia,fun z=>by lia⟩
        simp only [this]
        grind
      rw [ec]
      grind) ⟨ss,v10,v11,rfl,by
    refine⟨h.len,fun j hj=>?_⟩
    obtain⟨s1,s2,s3⟩:=h.ok j hj
    refine⟨s1.mono (by lia),s2,?_⟩
    rw [s3,List.take_zero]
    unfold ki
    simp only [List.map_nil,List.sum_nil]
    grind⟩
  subst he
  rw [Nat.zero_add,List.length_map,List.take_length] at hA
  refine⟨ss',w10,w11,h1,hA.len,fun j hj=>?_⟩
  obtain⟨s1,s2,s3⟩:=hA.ok j hj
  exact⟨s1.mono (by lia),s2,s3⟩
def vO(W:aC)(g:List Bool→Rat)(L:List (List Bool)):Rat:=(L.map fun a=>wR W.ties a*g a).sum
theorem xY{ns ds:List Int}{q:Int}{W:aC}(ok:W.Ok)(wl:W.ties.length≤7){T:List Nd}{S:Nat→Std}(hT:bN W T S){v8 v9 v10 v11 v12:Option Sv}:
    ∃ss wf w8 w9 w10 w11,ij [] (ag 8) EV ((aY W.ties.length).map dB) (cS ns ds q W T (List.replicate W.ties.length (0,1)) (some (.d (dF (0,1)))) v8 v9 v10 v11 v12)=some (.nx (cS ns ds q W T ss (some (.d (dF wf))) w8 w9 w10 w11 v12))∧kP wf∧vR wf=1∧ss.length=W.ties.length∧∀k,k < W.ties.length→kP (ss.getD k (0,1))∧vR (ss.getD k (0,1))=eR W T (k:Int) 17 (rt T):=by
  have hb:=A0 ok
  obtain⟨m0,mb'⟩:=tF (M:=1) (k:=1) (ts:=W.ties) ok.ties (by decide) (by unfold Bt;decide)
  have mb:Bt 63 (rM 1 W.ties):=mb'.mono (by lia)
  have rl:=kb W.ties.length
  have p2:(aY W.ties.length).length≤128:=by rw [rl.1];exact Nat.le_trans (Nat.pow_le_pow_right (by decide) wl) (by decide)
  have hrt:rt T= -1∨(0≤rt T∧rt T < (T.length:Int)):=by unfold rt;split<;>lia
  obtain⟨e',h1,⟨ss,wf,w8,w9,w10,w11,he,hA,hw,hwl,hwv⟩⟩:=bI (own:=[]) (g:=ag 8) (f:=EV) (fun i e=>∃ss wf v8 v9 v10 v11,e=cS ns ds q W T ss (some (.d (dF wf))) v8 v9 v10 v11 v12∧AS W.ties.length (rM 1 W.ties) (17*(i:Int)) ss (fun k=>vO W (fun a=>ki (k:Int) (rn T a 17 (rt T))) ((aY W.ties.length).take i))∧kr (rM 1 W.ties) (i:Int) wf∧kP wf∧vR wf=vO W (fun _=>1) ((aY W.ties.length).take i)) ((aY W.ties.length).map dB) 0 (cS ns ds q W T (List.replicate W.ties.length (0,1)) (some (.d (dF (0,1)))) v8 v9 v10 v11 v12) (fun i x e hx ⟨ss,wf,v8,v9,v10,v11,he,hA,hw,hwl,hwv⟩=>by
    subst he
    rw [Nat.zero_add] at*
    rw [List.getElem?_map] at hx
    obtain⟨a,ha,rfl⟩:=Option.map_eq_some_iff.mp hx
    have il:=(List.getElem?_eq_some_iff.mp ha).1
    have al:=rl.2 a (List.mem_of_getElem? ha)
    have tc:=ug ok al
    have tr:=vz ok hT al
    have ro:pM (rM 1 W.ties) (lj (1,1) W.ties a):=zH ok.ties al zi
    have rv:vR (lj (1,1) W.ties a)=wR W.ties a:=by rw [AB hb (by decide),EG];grind
    obtain⟨in1,in2⟩:=z9 hT (a:=a) 17 (rt T) hrt
    obtain⟨ss',w10,w11,hl,hA'⟩:=Ac (ns:=ns) (ds:=ds) (q:=q) (T:=T) (r:=lj (1,1) W.ties a) m0 mb (by lia) (by lia) hA ro in2 in1 (v7:=some (.d (dF (L2.pl wf (lj (1,1) W.ties a))))) (v8:=some (.d (dB a))) (v10:=v10) (v11:=v11) (v12:=v12)
    obtain⟨b1,b2⟩:=Al hw m0 mb (by lia) (by lia)
    obtain⟨d1,d2⟩:=ro.bt mb m0
    have tp:=vy (n:=100) hw.pos ro.pos b1 b2 (d1.mono (by decide)) (d2.mono (by decide)) (by decide)
    have tk:(aY W.ties.length).take (i+1)=(aY W.ties.length).take i++[a]:=by rw [List.take_succ,ha];rfl
    have hi:GD (cS ns ds q W T ss (some (.d (dF (L2.pl wf (lj (1,1) W.ties a))))) (some (.d (dB a))) (some (.d (dF (lj (1,1) W.ties a)))) v10 v11 v12)=some ((rn T a 17 (rt T)).map dR,[],cS ns ds q W T ss (some (.d (dF (L2.pl wf (lj (1,1) W.ties a))))) (some (.d (dB a))) (some (.d (dF (lj (1,1) W.ties a)))) v10 v11 v12):=by
      unfold GD
      refine k7 ?_
      simp only [cS]
      unfold dB
      generalize (rn T a 17 (rt T)).map dR=RR at*
      generalize ss.map dF=SS at*
      generalize T.map cy=TT at*
      generalize aN W=WW at*
      simp? [tr]
    have hg:=fun Wl=>cm (W:=Wl) (g:=aX (ao (ag 10) (ao (ag 11) aU))) (f:=EU) hi
    rw [hl] at hg
    refine⟨cS ns ds q W T ss (some (.d (dF wf))) (some (.d (dB a))) v9 v10 v11 v12,cS ns ds q W T ss' (some (.d (dF (L2.pl wf (lj (1,1) W.ties a))))) (some (.d (dB a))) (some (.d (dF (lj (1,1) W.ties a)))) w10 w11 v12,rfl,?_,aW,ss',L2.pl wf (lj (1,1) W.ties a),_,_,_,_,rfl,?_,?_,kP.pl hw.pos ro.pos,?_⟩
    · unfold EV
      refine(bh (e1:=cS ns ds q W T ss (some (.d (dF wf))) (some (.d (dB a))) (some (.d (dF (lj (1,1) W.ties a)))) v10 v11 v12) ?_).trans ?_
      · simp only [cS]
        unfold dB
        generalize dF (lj (1,1) W.ties a)=D at*
        generalize ss.map dF=SS at*
        generalize T.map cy=TT at*
        generalize aN W=WW at*
        simp? [tc]
      refine(bh (e1:=cS ns ds q W T ss (some (.d (dF (L2.pl wf (lj (1,1) W.ties a))))) (some (.d (dB a))) (some (.d (dF (lj (1,1) W.ties a)))) v10 v11 v12) ?_).trans ?_
      · simp only [cS]
        generalize dF (L2.pl wf (lj (1,1) W.ties a))=D1 at*
        generalize dF (lj (1,1) W.ties a)=D at*
        generalize dF wf=D2 at*
        generalize ss.map dF=SS at*
        generalize T.map cy=TT at*
        generalize aN W=WW at*
        simp? [tp]
      exact hg _
    · refine⟨hA'.len,fun k hk=>?_⟩
      obtain⟨s1,s2,s3⟩:=hA'.ok k hk
      refine⟨s1.mono (by lia),s2,?_⟩
      rw [s3,rv,tk]
      unfold vO
      rw [List.map_append,cZ]
      simp only [List.map_cons,List.map_nil,List.sum_cons,List.sum_nil]
      grind
    · have:=hw.pl ro
      exact this.mono (by lia)
    · rw [pJ hw.pos ro.pos,hwv,rv,tk]
      unfold vO
      rw [List.map_append,cZ]
      simp only [List.map_cons,List.map_nil,List.sum_cons,List.sum_nil]
      grind) ⟨List.replicate W.ties.length (0,1),(0,1),v8,v9,v10,v11,rfl,by
    refine⟨by simp,fun k hk=>?_⟩
    have e:(List.replicate W.ties.length ((0,1):Fr)).getD k (0,1)=(0,1):=by
      rw [List.getD_eq_getElem?_getD,List.getElem?_replicate,if_pos hk];rfl
    rw [e]
    refine⟨sA (by lia),mj,?_⟩
    rw [vL,List.take_zero]
    unfold vO
    simp only [List.map_nil,List.sum_nil],sA (by lia),mj,by
    rw [vL,List.take_zero]
    unfold vO
    simp only [List.map_nil,List.sum_nil]⟩
  subst he
  rw [Nat.zero_add,List.length_map,List.take_length] at hA hwv
  refine⟨ss,wf,w8,w9,w10,w11,h1,hwl,?_,hA.len,fun k hk=>?_⟩
  · rw [hwv]
    have one:=vN W.ties.length W.ties rfl hb
    unfold SR at one
    unfold vO
    exact Eq.trans (lh (g:=wR W.ties) fun a _=>Rat.mul_one _) one
  · obtain⟨s1,s2,s3⟩:=hA.ok k hk
    exact⟨s2,s3⟩
inductive LI (ns:List Int):En→Prop
  | mk {ds v2 v3 v4 v5 v6 v7 v8 v9 v10 v11 v12} (hd:iU ds):LI ns [some (.d (.list (ns.map .int))),some (.l (ds.map .int)),v2,v3,v4,v5,v6,v7,v8,v9,v10,v11,v12]
theorem yZ{ns ds:List Int}{q:Int}{v3 v4 v5 v6 v7 v8 v9 v10 v11 v12:Option Sv}(hd:iU ds):∃e2,EW [some (.d (.list (ns.map .int))),some (.l (ds.map .int)),some (.d (.int q)),v3,v4,v5,v6,v7,v8,v9,v10,v11,v12]=some (.nx e2)∧LI ns e2:=by
  obtain⟨W,d1,tw,hd1,ok, -,tl⟩:=Ga ds 8 7 hd (by decide) (by decide) (by decide) (by decide)
  have wl:W.ties.length≤7:=by lia
  obtain⟨d2,T,S,tt,hd2,hT,hl,o,t⟩:=Ez ok true hd1
  obtain⟨ss,wf,w8,w9,w10,w11,hloop,lw,vw,sl,hss⟩:=xY (ns:=ns) (ds:=d2) (q:=q) ok wl hT (v8:=v8) (v9:=v9) (v10:=v10) (v11:=v11) (v12:=v12)
  have g1':=G9 (W:=W)
  have ta:=pG ok hT hl
  have two:=vB ok hT hl
  have hr:=fL.all ok hT T.length
  have hh:=pP.all ok hT hr T.length
  have low:=vp ok hT T.length (Nat.le_refl _)
  have ew:wf=(1,1):=vM lw ⟨by decide,by decide⟩ (by rw [vw,EG])
  have es:ss=fV W T (a' W T T.length) T.length:=by
    refine List.ext_getElem (by rw [sl,hh.len]) fun k h1 h2=>?_
    have kw:k < W.ties.length:=by rw [←sl];exact h1
    obtain⟨s2,s3⟩:=hss k kw
    have sr:=Ep ok hT o t (k:=(k:Int)) ⟨by lia,by lia⟩
    rw [Int.toNat_natCast] at sr
    rw [List.getD_eq_getElem?_getD,List.getElem?_eq_getElem h1] at s2 s3
    rw [List.getD_eq_getElem?_getD,List.getElem?_eq_getElem h2] at sr
    exact vM s2 (low _ (List.getElem_mem h2)) (by rw [show vR ss[k]=_ from s3];exact sr.symm)
  have fb:∀f∈fV W T (a' W T T.length) T.length,FB 130 f:=fun f hf=>by
    obtain⟨j,hj⟩:=List.getElem?_of_mem hf
    have s:=hh.at' j f hj
    obtain⟨b1,b2⟩:=yy ok hl s
    exact⟨s.pos,b1.mono (by decide),b2.mono (by decide)⟩
  have tsum:=sj ok fb (by rw [hh.len];exact wl)
  rw [qQ ok hT o t] at tsum
  have th:=As (hh.shown ok hl) (by decide) (by decide)
  have fw:Sz 5000 6 (dF ((iT W T T.length++[(0,1)]).getD 0 (0,1))):=by
    have b:FB 1100 ((iT W T T.length++[(0,1)]).getD 0 (0,1)):=by
      rw [←qQ ok hT o t]
      have:∀(L:List Fr) (a:Fr) (n:Nat),FB n a→(∀f∈L,FB 147 f)→FB (n+148*L.length) (jS a L):=fun L=>by
        induction L with
        | nil=>intro a n ha _;exact ha
        | cons x r ih=>
          intro a n ha hL
          have:=ih (L2.pl a x) (n+147+1) (ha.pl (hL x (by simp))) fun f hf=>hL f (by simp [hf])
          exact this.mono (by rw [List.length_cons];lia)
      refine(this _ (0,1) 1 ⟨by decide,by show Bt 1 0;unfold Bt;decide,by show Bt 1 1;unfold Bt;decide⟩ fun f hf=>?_).mono (by rw [List.length_map,List.length_zip];lia)
      obtain⟨p,hp,rfl⟩:=List.mem_map.mp hf
      have hm:=List.of_mem_zip (show(p.1,p.2)∈_ from hp)
      obtain⟨f1,f2⟩:=uR ok hm.2
      exact((fb _ hm.1).tm f1).tm f2
    exact(Sz.fr b.top b.bot (by decide) (by decide)).mono (by decide) (by decide)
  have tws:=As fw (by decide) (by decide)
  subst es
  subst ew
  have hi3:GE (cS ns d2 q W T (List.replicate W.ties.length (0,1)) (some (.d (dF (0,1)))) v8 v9 v10 v11 v12)=some ((aY W.ties.length).map dB,[],cS ns d2 q W T (List.replicate W.ties.length (0,1)) (some (.d (dF (0,1)))) v8 v9 v10 v11 v12):=by
    unfold GE
    refine yT ?_
    have taa:=p9 (n:=W.ties.length) (by lia)
    simp only [cS]
    generalize (aY W.ties.length).map dB=RR at*
    generalize (List.replicate W.ties.length ((0,1):Fr)).map dF=SS at*
    generalize T.map cy=TT at*
    generalize aN W=WW at*
    simp? [taa]
  have hg:=fun Wl=>cm (W:=Wl) (g:=ag 8) (f:=EV) hi3
  rw [hloop] at hg
  have ql:((W.ties.map bL).length:Int)=(W.ties.length:Int):=by simp
  have rep:∀e:En,ce e (.l [.tuple [.int 0,.int 1]]) (.d (.int (W.ties.length:Int)))=some (.l ((List.replicate W.ties.length ((0,1):Fr)).map dF)):=fun e=>by
    rw [CG (by lia) (by lia),Int.toNat_natCast,List.map_replicate]
    rfl
  have g11:∀e:En,cK true e (.d (.tuple [.int 1,.int 1])) (.d (.tuple [.int 1,.int 1]))=some (.d (.bool false)):=fun e=>rfl
  refine⟨cS ns d2 q W T (fV W T (a' W T T.length) T.length) (some (.d (dF (1,1)))) w8 w9 w10 w11 (some (.d (.tuple ((fV W T (a' W T T.length) T.length).map dF)))),?_,.mk hd2⟩
  unfold EW
  refine(bh (e1:=[some (.d (.list (ns.map .int))),some (.l (d1.map .int)),some (.d (.int q)),some (.d (aN W)),v4,v5,v6,v7,v8,v9,v10,v11,v12]) ?_).trans ?_
  · simp? [tw]
  refine(bh (e1:=[some (.d (.list (ns.map .int))),some (.l (d1.map .int)),some (.d (.int q)),some (.d (aN W)),some (.d (.int (W.ties.length:Int))),v5,v6,v7,v8,v9,v10,v11,v12]) ?_).trans ?_
  · generalize W.ties.map bL=TI at*
    generalize aN W=WW at*
    simp? [g1',ql]
  refine(bh (e1:=[some (.d (.list (ns.map .int))),some (.l (d2.map .int)),some (.d (.int q)),some (.d (aN W)),some (.d (.int (W.ties.length:Int))),some (.d (.tuple (T.map cy))),v6,v7,v8,v9,v10,v11,v12]) ?_).trans ?_
  · generalize T.map cy=TT at*
    generalize aN W=WW at*
    simp? [tt]
  refine(bh (e1:=cS ns d2 q W T (List.replicate W.ties.length (0,1)) v7 v8 v9 v10 v11 v12) ?_).trans ?_
  · simp only [cS]
    generalize (List.replicate W.ties.length ((0,1):Fr)).map dF=SS at*
    generalize T.map cy=TT at*
    generalize aN W=WW at*
    simp? [rep]
  refine(bh (e1:=cS ns d2 q W T (List.replicate W.ties.length (0,1)) (some (.d (dF (0,1)))) v8 v9 v10 v11 v12) ?_).trans ?_
  · simp only [cS]
    generalize (List.replicate W.ties.length ((0,1):Fr)).map dF=SS at*
    generalize T.map cy=TT at*
    generalize aN W=WW at*
    unfold dF
    simp? [List.replicate]
  refine(bh (hg _)).trans ?_
  generalize fV W T (a' W T T.length) T.length=sn at*
  refine(bh (e1:=cS ns d2 q W T sn (some (.d (dF (1,1)))) w8 w9 w10 w11 (some (.d (.tuple (sn.map dF))))) ?_).trans ?_
  · simp only [cS]
    generalize sn.map dF=SN at*
    generalize T.map cy=TT at*
    generalize aN W=WW at*
    simp? [ta]
  refine(bh (e1:=cS ns d2 q W T sn (some (.d (dF (1,1)))) w8 w9 w10 w11 (some (.d (.tuple (sn.map dF))))) ?_).trans ?_
  · simp only [cS]
    rw [show dF ((1,1):Fr)=.tuple [.int 1,.int 1] from rfl]
    generalize sn.map dF=SN at*
    generalize T.map cy=TT at*
    generalize aN W=WW at*
    simp? [g11,th]
  · simp only [cS]
    generalize dF ((iT W T T.length++[(0,1)]).getD 0 (0,1))=WD at*
    generalize sn.map dF=SN at*
    generalize T.map cy=TT at*
    generalize aN W=WW at*
    simp? [tsum,two,tws]
theorem yY(ns:List Int)(hl:ns.length≤63):∃as',oQ [.d (.list (ns.map .int))]=some (.d (.bool true),as'):=by
  obtain⟨ds,td,hd⟩:=B' ns hl
  obtain⟨e2,h1,hI⟩:=bI (own:=[]) (g:=ag 2) (f:=EW) (fun _=>LI ns) (bu 0 3) 0 [some (.d (.list (ns.map .int))),some (.l (ds.map .int)),none,none,none,none,none,none,none,none,none,none,none] (fun i x e hx hI=>by
    obtain⟨hd⟩:=hI
    rename_i ds v2 v3 v4 v5 v6 v7 v8 v9 v10 v11 v12
    obtain⟨rfl,hi⟩:=dc hx
    obtain⟨e2,k1,k2⟩:=yZ (ns:=ns) (q:=0+(i:Int)) (v3:=v3) (v4:=v4) (v5:=v5) (v6:=v6) (v7:=v7) (v8:=v8) (v9:=v9) (v10:=v10) (v11:=v11) (v12:=v12) hd
    exact⟨_,e2,rfl,k1,aW,k2⟩) (.mk hd)
  obtain⟨hd2⟩:=hI
  rename_i ds2 v2 v3 v4 v5 v6 v7 v8 v9 v10 v11 v12
  have hfor:=fun Wl=>cm (W:=Wl) (g:=ag 2) (f:=EW) (show G_ [some (.d (.list (ns.map .int))),some (.l (ds.map .int)),none,none,none,none,none,none,none,none,none,none,none]=some (bu 0 3,[],[some (.d (.list (ns.map .int))),some (.l (ds.map .int)),none,none,none,none,none,none,none,none,none,none,none]) from rfl)
  rw [h1] at hfor
  simp? [oQ,CB,td,hfor]
def kE(P:Params)(k:Str)(t:Tok)(v:Value):DictEntry:=⟨PyData.keyHash P k,.str k t,v⟩
def kF(n:Str)(s:Stmt)(doc pm:Value)(c:Addr):Obj:=⟨.type "function",none,.func (W.fnOf n n (dy s) (cJ s) (aj s) .none .none doc pm none (.ref c) .none),#[]⟩
def kI(n:Int):Value:=.int n 0
def kC(n:Str)(a:Nat)(l:List Value)(z:Nat):Obj:=⟨.type "code",none,.fields (Value.str n a::Value.str n (a+1)::Value.str "/claim/cut.py" (a+2)::l++[Value.str "/claim/cut.py" z]).toArray,#[]⟩
def kT(l:List Value)(n:Nat):Obj:=⟨.type "tuple",none,.seq l.toArray n,#[]⟩
def AO:Value:=.str "askedpairs.fractions" 187
def CK:Value:=.str "askedpairs.worthpaper" 238
def CL:Value:=.str "askedpairs.worths" 277
def Gj:Value:=.str "askedpairs.answering" 305
def gB:Value:=.str "law_askedpairs_k22_whole_shares_by_answers" 324
def kK(P:Params):W.Frag:=[(3,⟨.type "dict",none,.dict (List.toArray [kE P "__name__" 165 (.str "law_askedpairs_k22_whole_shares_by_answers" 324),kE P "__doc__" 166 (.none),kE P "__package__" 167 (.none),kE P "__loader__" 168 (.builtin "__main__.__loader__#opaque"),kE P "__spec__" 169 (.none),kE P "__annotations__" 170 (.ref 6),kE P "__builtins__" 171 (.ref 4),kE P "__file__" 173 (.str "/claim/cut.py" 172),kE P "__cached__" 174 (.none),kE P "ZERO" 191 (.ref 15),kE P "ONE" 194 (.ref 16),kE P "common_divisor" 202 (.ref 23),kE P "lowest" 211 (.ref 30),kE P "plus" 219 (.ref 37),kE P "times" 227 (.ref 44),kE P "one_less" 234 (.ref 51),kE P "END" 237 (.int (-1) 236),kE P "ask_worth" 250 (.ref 58),kE P "link_worth" 258 (.ref 65),kE P "node_worth" 270 (.ref 72),kE P "ways_on" 276 (.ref 77),kE P "worths_of" 284 (.ref 82),kE P "worth_of" 292 (.ref 89),kE P "reaches_of" 298 (.ref 94),kE P "asked_shares" 304 (.ref 99),kE P "chance_by" 317 (.ref 106),kE P "chance_of" 323 (.ref 111),kE P "_law_mixed" 334 (.ref 118),kE P "_law_draws" 345 (.ref 125),kE P "_law_next" 352 (.ref 132),kE P "_law_gcd" 360 (.ref 139),kE P "_law_low" 369 (.ref 146),kE P "_law_plus" 377 (.ref 153),kE P "_law_times" 385 (.ref 160),kE P "_law_same" 393 (.ref 167),kE P "_law_chance" 402 (.ref 174),kE P "_law_worth" 410 (.ref 181),kE P "_law_ties" 429 (.ref 188),kE P "_law_web" 445 (.ref 195),kE P "_law_asks_of" 451 (.ref 200),kE P "_law_may" 463 (.ref 207),kE P "_law_behind" 476 (.ref 214),kE P "_law_askable" 482 (.ref 219),kE P "_law_grown" 488 (.ref 224),kE P "_law_all_answers" 494 (.ref 229),kE P "_law_run_tree" 507 (.ref 236),kE P "_law_shares_sum" 518 (.ref 243),kE P "_law_renumbered" 524 (.ref 248),kE P "_law_tree" 534 (.ref 255),kE P "law" 553 (.ref 262)]) 50,#[]⟩),
  (23,kF "common_divisor" bV (.none) AO 22),
  (22,kC "common_divisor" 195 [kI 4,kI 2,kI 0,kI 0,kI 3,.ref 17,.bool true,kI 181,.ref 18,.none,.ref 19,.ref 20,.ref 21,kI 200,kI 4] 201),
  (30,kF "lowest" gM (.none) AO 29),
  (29,kC "lowest" 203 [kI 8,kI 2,kI 0,kI 0,kI 3,.ref 24,.bool true,kI 181,.ref 25,.none,.ref 26,.ref 27,.ref 28,kI 209,kI 8] 210),
  (37,kF "plus" mL (.none) AO 36),
  (36,kC "plus" 212 [kI 13,kI 2,kI 0,kI 0,kI 3,.ref 31,.bool true,kI 181,.ref 32,.none,.ref 33,.ref 34,.ref 35,kI 217,kI 13] 218),
  (44,kF "times" i9 (.none) AO 43),
  (43,kC "times" 220 [kI 15,kI 2,kI 0,kI 0,kI 3,.ref 38,.bool true,kI 181,.ref 39,.none,.ref 40,.ref 41,.ref 42,kI 225,kI 15] 226),
  (51,kF "one_less" de (.none) AO 50),
  (50,kC "one_less" 228 [kI 17,kI 1,kI 0,kI 0,kI 3,.ref 45,.bool true,kI 181,.ref 46,.none,.ref 47,.ref 48,.ref 49,kI 232,kI 17] 233),
  (58,kF "ask_worth" fm (.none) CK 57),
  (57,kC "ask_worth" 240 [kI 21,kI 3,kI 0,kI 0,kI 3,.ref 52,.bool true,kI 181,.ref 53,.none,.ref 54,.ref 55,.ref 56,kI 248,kI 21] 249),
  (65,kF "link_worth" dY (.none) CK 64),
  (64,kC "link_worth" 251 [kI 24,kI 2,kI 0,kI 0,kI 3,.ref 59,.bool true,kI 181,.ref 60,.none,.ref 61,.ref 62,.ref 63,kI 256,kI 24] 257),
  (72,kF "node_worth" dZ (.none) CK 71),
  (71,kC "node_worth" 259 [kI 26,kI 3,kI 0,kI 0,kI 3,.ref 66,.bool true,kI 181,.ref 67,.none,.ref 68,.ref 69,.ref 70,kI 268,kI 26] 269),
  (77,kF "ways_on" gg (.none) CK 76),
  (76,kC "ways_on" 271 [kI 29,kI 2,kI 0,kI 0,kI 3,.ref 73,.bool true,kI 181,.ref 74,.none,.none,.none,.ref 75,kI 274,kI 29] 275),
  (82,kF "worths_of" dm (.none) CL 81),
  (81,kC "worths_of" 279 [kI 34,kI 2,kI 0,kI 0,kI 3,.ref 78,.bool true,kI 181,.ref 79,.none,.none,.none,.ref 80,kI 282,kI 34] 283),
  (89,kF "worth_of" gN (.none) CL 88),
  (88,kC "worth_of" 285 [kI 39,kI 2,kI 0,kI 0,kI 3,.ref 83,.bool true,kI 181,.ref 84,.none,.ref 85,.ref 86,.ref 87,kI 290,kI 39] 291),
  (94,kF "reaches_of" cM (.none) CL 93),
  (93,kC "reaches_of" 293 [kI 41,kI 2,kI 0,kI 0,kI 3,.ref 90,.bool true,kI 181,.ref 91,.none,.none,.none,.ref 92,kI 296,kI 41] 297),
  (99,kF "asked_shares" bU (.none) CL 98),
  (98,kC "asked_shares" 299 [kI 47,kI 2,kI 0,kI 0,kI 3,.ref 95,.bool true,kI 181,.ref 96,.none,.none,.none,.ref 97,kI 302,kI 47] 303),
  (106,kF "chance_by" fx (.none) Gj 105),
  (105,kC "chance_by" 307 [kI 53,kI 2,kI 0,kI 0,kI 3,.ref 100,.bool true,kI 181,.ref 101,.none,.ref 102,.ref 103,.ref 104,kI 315,kI 53] 316),
  (111,kF "chance_of" dk (.none) Gj 110),
  (110,kC "chance_of" 318 [kI 58,kI 2,kI 0,kI 0,kI 3,.ref 107,.bool true,kI 181,.ref 108,.none,.none,.none,.ref 109,kI 321,kI 58] 322),
  (118,kF "_law_mixed" l3 (.none) gB 117),
  (117,kC "_law_mixed" 326 [kI 61,kI 2,kI 0,kI 0,kI 3,.ref 112,.bool true,kI 181,.ref 113,.none,.ref 114,.ref 115,.ref 116,kI 332,kI 61] 333),
  (125,kF "_law_draws" lZ (.none) gB 124),
  (124,kC "_law_draws" 335 [kI 64,kI 1,kI 0,kI 0,kI 3,.ref 119,.bool true,kI 181,.ref 120,.none,.ref 121,.ref 122,.ref 123,kI 343,kI 64] 344),
  (132,kF "_law_next" i8 (.none) gB 131),
  (131,kC "_law_next" 346 [kI 77,kI 1,kI 0,kI 0,kI 3,.ref 126,.bool true,kI 181,.ref 127,.none,.ref 128,.ref 129,.ref 130,kI 350,kI 77] 351),
  (139,kF "_law_gcd" tR (.none) gB 138),
  (138,kC "_law_gcd" 353 [kI 81,kI 2,kI 0,kI 0,kI 3,.ref 133,.bool true,kI 181,.ref 134,.none,.ref 135,.ref 136,.ref 137,kI 358,kI 81] 359),
  (146,kF "_law_low" ph (.none) gB 145),
  (145,kC "_law_low" 361 [kI 85,kI 2,kI 0,kI 0,kI 3,.ref 140,.bool true,kI 181,.ref 141,.none,.ref 142,.ref 143,.ref 144,kI 367,kI 85] 368),
  (153,kF "_law_plus" mK (.none) gB 152),
  (152,kC "_law_plus" 370 [kI 88,kI 2,kI 0,kI 0,kI 3,.ref 147,.bool true,kI 181,.ref 148,.none,.ref 149,.ref 150,.ref 151,kI 375,kI 88] 376),
  (160,kF "_law_times" l4 (.none) gB 159),
  (159,kC "_law_times" 378 [kI 90,kI 2,kI 0,kI 0,kI 3,.ref 154,.bool true,kI 181,.ref 155,.none,.ref 156,.ref 157,.ref 158,kI 383,kI 90] 384),
  (167,kF "_law_same" pj (.none) gB 166),
  (166,kC "_law_same" 386 [kI 92,kI 2,kI 0,kI 0,kI 3,.ref 161,.bool true,kI 181,.ref 162,.none,.ref 163,.ref 164,.ref 165,kI 391,kI 92] 392),
  (174,kF "_law_chance" jO (.none) gB 173),
  (173,kC "_law_chance" 394 [kI 94,kI 2,kI 0,kI 0,kI 3,.ref 168,.bool true,kI 181,.ref 169,.none,.ref 170,.ref 171,.ref 172,kI 400,kI 94] 401),
  (181,kF "_law_worth" l5 (.none) gB 180),
  (180,kC "_law_worth" 403 [kI 104,kI 2,kI 0,kI 0,kI 3,.ref 175,.bool true,kI 181,.ref 176,.none,.ref 177,.ref 178,.ref 179,kI 408,kI 104] 409),
  (188,kF "_law_ties" pk (.none) gB 187),
  (187,kC "_law_ties" 411 [kI 106,kI 3,kI 0,kI 0,kI 3,.ref 182,.bool true,kI 181,.ref 183,.none,.ref 184,.ref 185,.ref 186,kI 427,kI 106] 428),
  (195,kF "_law_web" tT (.none) gB 194),
  (194,kC "_law_web" 430 [kI 121,kI 3,kI 0,kI 0,kI 3,.ref 189,.bool true,kI 181,.ref 190,.none,.ref 191,.ref 192,.ref 193,kI 443,kI 121] 444),
  (200,kF "_law_asks_of" gf (.none) gB 199),
  (199,kC "_law_asks_of" 446 [kI 131,kI 3,kI 0,kI 0,kI 3,.ref 196,.bool true,kI 181,.ref 197,.none,.none,.none,.ref 198,kI 449,kI 131] 450),
  (207,kF "_law_may" tS (.none) gB 206),
  (206,kC "_law_may" 452 [kI 133,kI 3,kI 0,kI 0,kI 3,.ref 201,.bool true,kI 181,.ref 202,.none,.ref 203,.ref 204,.ref 205,kI 461,kI 133] 462),
  (214,kF "_law_behind" jN (.none) gB 213),
  (213,kC "_law_behind" 464 [kI 141,kI 4,kI 0,kI 0,kI 3,.ref 208,.bool true,kI 181,.ref 209,.none,.ref 210,.ref 211,.ref 212,kI 474,kI 141] 475),
  (219,kF "_law_askable" gc (.none) gB 218),
  (218,kC "_law_askable" 477 [kI 147,kI 2,kI 0,kI 0,kI 3,.ref 215,.bool true,kI 181,.ref 216,.none,.none,.none,.ref 217,kI 480,kI 147] 481),
  (224,kF "_law_grown" kd (.none) gB 223),
  (223,kC "_law_grown" 483 [kI 149,kI 3,kI 0,kI 0,kI 3,.ref 220,.bool true,kI 181,.ref 221,.none,.none,.none,.ref 222,kI 486,kI 149] 487),
  (229,kF "_law_all_answers" bM (.none) gB 228),
  (228,kC "_law_all_answers" 489 [kI 164,kI 1,kI 0,kI 0,kI 3,.ref 225,.bool true,kI 181,.ref 226,.none,.none,.none,.ref 227,kI 492,kI 164] 493),
  (236,kF "_law_run_tree" gL (.none) gB 235),
  (235,kC "_law_run_tree" 495 [kI 169,kI 2,kI 0,kI 0,kI 3,.ref 230,.bool true,kI 181,.ref 231,.none,.ref 232,.ref 233,.ref 234,kI 505,kI 169] 506),
  (243,kF "_law_shares_sum" dX (.none) gB 242),
  (242,kC "_law_shares_sum" 508 [kI 177,kI 2,kI 0,kI 0,kI 3,.ref 237,.bool true,kI 181,.ref 238,.none,.ref 239,.ref 240,.ref 241,kI 516,kI 177] 517),
  (248,kF "_law_renumbered" cn (.none) gB 247),
  (247,kC "_law_renumbered" 519 [kI 182,kI 2,kI 0,kI 0,kI 3,.ref 244,.bool true,kI 181,.ref 245,.none,.none,.none,.ref 246,kI 522,kI 182] 523),
  (255,kF "_law_tree" pv (.none) gB 254),
  (254,kC "_law_tree" 525 [kI 192,kI 3,kI 0,kI 0,kI 3,.ref 249,.bool true,kI 181,.ref 250,.none,.ref 251,.ref 252,.ref 253,kI 532,kI 192] 533),
  (262,kF "law" pz (.none) gB 261),
  (261,kC "law" 535 [kI 195,kI 1,kI 0,kI 0,kI 3,.ref 256,.bool true,kI 181,.ref 257,.none,.ref 258,.ref 259,.ref 260,kI 551,kI 195] 552),
  (15,kT [.int (0) 189,.int (1) 190] 0),
  (16,kT [.int (1) 192,.int (1) 193] 0)]
def kA:List Addr:=[3,23,22,30,29,37,36,44,43,51,50,58,57,65,64,72,71,77,76,82,81,89,88,94,93,99,98,106,105,111,110,118,117,125,124,132,131,139,138,146,145,153,152,160,159,167,166,174,173,181,180,188,187,195,194,200,199,207,206,214,213,219,218,224,223,229,228,236,235,243,242,248,247,255,254,262,261,15,16]
def kq:Program:={PySem.Challenge.pw_askedpairs_k22_whole_shares_by_answers with main:={PySem.Challenge.pw_askedpairs_k22_whole_shares_by_answers.main with body:=[top 1,top 2,top 3,top 4,top 5,top 6,top 7,top 8,top 10,top 11,top 12,top 13,top 15,top 16,top 17,top 18,top 20,top 21,top 23,top 24,top 25,top 26,top 27,top 28,top 29,top 30,top 31,top 32,top 33,top 34,top 35,top 36,top 37,top 38,top 39,top 40,top 41,top 42,top 43,top 44,top 45]}}
def kH:W.Hook:=W.kHook kK kA (fun _=>by kernel_rfl)
theorem left:W.LeftO PySem.Challenge.pw_askedpairs_k22_whole_shares_by_answers kq [] (fun s=>W.xlAt kq [] s&&W.recOk (W.RowW.records (W.OpenRow.toRowW (W.OpenLaw.row PySem.Challenge.rw_askedpairs_k22_whole_shares_by_answers))) s) (W.Hook.obs kH) (W.Hook.val kH) 2620:=fun w=>by kernel_rfl
theorem Fc{P:List Value→Prop}(h:∀a0,P [a0]):∀us:List Value,us.length=1→P us:=fun us e=>match us,e with | [a0],_=>h a0
theorem nY{P:List Value→Prop}(h:∀a0 a1,P [a0,a1]):∀us:List Value,us.length=2→P us:=fun us e=>match us,e with | [a0,a1],_=>h a0 a1
theorem CN{P:List Value→Prop}(h:∀a0 a1 a2,P [a0,a1,a2]):∀us:List Value,us.length=3→P us:=fun us e=>match us,e with | [a0,a1,a2],_=>h a0 a1 a2
theorem Hj{P:List Value→Prop}(h:∀a0 a1 a2 a3,P [a0,a1,a2,a3]):∀us:List Value,us.length=4→P us:=fun us e=>match us,e with | [a0,a1,a2,a3],_=>h a0 a1 a2 a3
theorem hm{w:World}{h:Heap}{mg:Str→Option Value}{n:Str}{s:Stmt}{a:Addr}{ps:List Str}(c:Addr)(d p:Value)(X:(kK w.params).In h)(G:h.Ns mainGlobals mg)
    (e:(W.nsIn (kK w.params) mainGlobals n,List.lookup a (kK w.params),W.codeIn (kK w.params) (.ref c) n,W.keepIn (kK w.params) (.ref a))=(some (some (.ref a)),some (kF n s d p c),true,true))
    (b:∀(kV doc pm:Value) (an:Option Addr) (cdv ct:Value) (us:List Value),us.length=ps.length→bindArgs (W.fnOf n n (dy s) (cJ s) (aj s) .none kV doc pm an cdv ct) ⟨us,[]⟩=pure (ps.zip us)):
    aZ (kK w.params) mg n s a (W.fnOf n n (dy s) (cJ s) (aj s) .none .none d p none (.ref c) .none) ps:=Dm X G (congrArg (·.1) e) (congrArg (·.2.1) e) (congrArg (·.2.2.1) e) (congrArg (·.2.2.2) e) b
theorem all_mk{l:W.OpenLaw}{w:World}{h:Heap}{mg:Str→Option Value}{fa:Addr}(X:(kK w.params).In h)(G:h.Ns mainGlobals mg)(hfa:mg "law"=some (.ref fa)):
    ∃fd:FuncData,(∀(s:Shared) (v:Value),BindsTo s fd ⟨[v],[]⟩ [("_law_script",v)])∧∀base:Heap,(kK w.params).In base→base.Ns mainGlobals mg→aF l.prog w (kK w.params) mg base bv 8 fa fd ["_law_script"] (bz (kK w.params) 1 oQ):=by
  have e:=hfa.symm.trans (W.mg_of X G (show W.nsIn (kK w.params) mainGlobals "law"=some (some (.ref 262)) by kernel_rfl))
  cases e
  have T:iW mg:=⟨W.mg_none_of X G (show W.nsIn (kK w.params) mainGlobals "abs"=some none by kernel_rfl),W.mg_none_of X G (show W.nsIn (kK w.params) mainGlobals "len"=some none by kernel_rfl),W.mg_none_of X G (show W.nsIn (kK w.params) mainGlobals "min"=some none by kernel_rfl),W.mg_none_of X G (show W.nsIn (kK w.params) mainGlobals "max"=some none by kernel_rfl),W.mg_none_of X G (show W.nsIn (kK w.params) mainGlobals "range"=some none by kernel_rfl),W.mg_none_of X G (show W.nsIn (kK w.params) mainGlobals "repr"=some none by kernel_rfl),W.mg_none_of X G (show W.nsIn (kK w.params) mainGlobals "tuple"=some none by kernel_rfl),W.mg_none_of X G (show W.nsIn (kK w.params) mainGlobals "int"=some none by kernel_rfl),W.mg_none_of X G (show W.nsIn (kK w.params) mainGlobals "sorted"=some none by kernel_rfl),W.mg_none_of X G (show W.nsIn (kK w.params) mainGlobals "zip"=some none by kernel_rfl),W.mg_none_of X G (show W.nsIn (kK w.params) mainGlobals "enumerate"=some none by kernel_rfl),W.mg_none_of X G (show W.nsIn (kK w.params) mainGlobals "reversed"=some none by kernel_rfl)⟩
  have h_common_divisor:aZ (kK w.params) mg "common_divisor" bV 23 _ ["one","other"]:=hm 22 (.none) AO X G (by kernel_rfl) fun _ _ _ _ _ _=>nY fun _ _=>rfl
  have h_lowest:aZ (kK w.params) mg "lowest" gM 30 _ ["top","bottom"]:=hm 29 (.none) AO X G (by kernel_rfl) fun _ _ _ _ _ _=>nY fun _ _=>rfl
  have h_plus:aZ (kK w.params) mg "plus" mL 37 _ ["one","other"]:=hm 36 (.none) AO X G (by kernel_rfl) fun _ _ _ _ _ _=>nY fun _ _=>rfl
  have h_times:aZ (kK w.params) mg "times" i9 44 _ ["one","other"]:=hm 43 (.none) AO X G (by kernel_rfl) fun _ _ _ _ _ _=>nY fun _ _=>rfl
  have h_one_less:aZ (kK w.params) mg "one_less" de 51 _ ["chance"]:=hm 50 (.none) AO X G (by kernel_rfl) fun _ _ _ _ _ _=>Fc fun _=>rfl
  have h_ask_worth:aZ (kK w.params) mg "ask_worth" fm 58 _ ["tie","yes","no"]:=hm 57 (.none) CK X G (by kernel_rfl) fun _ _ _ _ _ _=>CN fun _ _ _=>rfl
  have h_link_worth:aZ (kK w.params) mg "link_worth" dY 65 _ ["worths","link"]:=hm 64 (.none) CK X G (by kernel_rfl) fun _ _ _ _ _ _=>nY fun _ _=>rfl
  have h_node_worth:aZ (kK w.params) mg "node_worth" dZ 72 _ ["web","node","worths"]:=hm 71 (.none) CK X G (by kernel_rfl) fun _ _ _ _ _ _=>CN fun _ _ _=>rfl
  have h_ways_on:aZ (kK w.params) mg "ways_on" gg 77 _ ["web","node"]:=hm 76 (.none) CK X G (by kernel_rfl) fun _ _ _ _ _ _=>nY fun _ _=>rfl
  have h_worths_of:aZ (kK w.params) mg "worths_of" dm 82 _ ["web","tree"]:=hm 81 (.none) CL X G (by kernel_rfl) fun _ _ _ _ _ _=>nY fun _ _=>rfl
  have h_worth_of:aZ (kK w.params) mg "worth_of" gN 89 _ ["web","tree"]:=hm 88 (.none) CL X G (by kernel_rfl) fun _ _ _ _ _ _=>nY fun _ _=>rfl
  have h_reaches_of:aZ (kK w.params) mg "reaches_of" cM 94 _ ["web","tree"]:=hm 93 (.none) CL X G (by kernel_rfl) fun _ _ _ _ _ _=>nY fun _ _=>rfl
  have h_asked_shares:aZ (kK w.params) mg "asked_shares" bU 99 _ ["web","tree"]:=hm 98 (.none) CL X G (by kernel_rfl) fun _ _ _ _ _ _=>nY fun _ _=>rfl
  have h_chance_by:aZ (kK w.params) mg "chance_by" fx 106 _ ["chances","answers"]:=hm 105 (.none) Gj X G (by kernel_rfl) fun _ _ _ _ _ _=>nY fun _ _=>rfl
  have h_chance_of:aZ (kK w.params) mg "chance_of" dk 111 _ ["web","answers"]:=hm 110 (.none) Gj X G (by kernel_rfl) fun _ _ _ _ _ _=>nY fun _ _=>rfl
  have hLmixed:aZ (kK w.params) mg "_law_mixed" l3 118 _ ["_law_cell","_law_k"]:=hm 117 (.none) gB X G (by kernel_rfl) fun _ _ _ _ _ _=>nY fun _ _=>rfl
  have hLdraws:aZ (kK w.params) mg "_law_draws" lZ 125 _ ["_law_script"]:=hm 124 (.none) gB X G (by kernel_rfl) fun _ _ _ _ _ _=>Fc fun _=>rfl
  have hLnext:aZ (kK w.params) mg "_law_next" i8 132 _ ["_law_drawn"]:=hm 131 (.none) gB X G (by kernel_rfl) fun _ _ _ _ _ _=>Fc fun _=>rfl
  have hLgcd:aZ (kK w.params) mg "_law_gcd" tR 139 _ ["_law_one","_law_other"]:=hm 138 (.none) gB X G (by kernel_rfl) fun _ _ _ _ _ _=>nY fun _ _=>rfl
  have hLlow:aZ (kK w.params) mg "_law_low" ph 146 _ ["_law_top","_law_bottom"]:=hm 145 (.none) gB X G (by kernel_rfl) fun _ _ _ _ _ _=>nY fun _ _=>rfl
  have hLplus:aZ (kK w.params) mg "_law_plus" mK 153 _ ["_law_one","_law_other"]:=hm 152 (.none) gB X G (by kernel_rfl) fun _ _ _ _ _ _=>nY fun _ _=>rfl
  have hLtimes:aZ (kK w.params) mg "_law_times" l4 160 _ ["_law_one","_law_other"]:=hm 159 (.none) gB X G (by kernel_rfl) fun _ _ _ _ _ _=>nY fun _ _=>rfl
  have hLsame:aZ (kK w.params) mg "_law_same" pj 167 _ ["_law_found","_law_due"]:=hm 166 (.none) gB X G (by kernel_rfl) fun _ _ _ _ _ _=>nY fun _ _=>rfl
  have hLchance:aZ (kK w.params) mg "_law_chance" jO 174 _ ["_law_number","_law_kind"]:=hm 173 (.none) gB X G (by kernel_rfl) fun _ _ _ _ _ _=>nY fun _ _=>rfl
  have hLworth:aZ (kK w.params) mg "_law_worth" l5 181 _ ["_law_number","_law_kind"]:=hm 180 (.none) gB X G (by kernel_rfl) fun _ _ _ _ _ _=>nY fun _ _=>rfl
  have hLties:aZ (kK w.params) mg "_law_ties" pk 188 _ ["_law_drawn","_law_things","_law_many"]:=hm 187 (.none) gB X G (by kernel_rfl) fun _ _ _ _ _ _=>CN fun _ _ _=>rfl
  have hLweb:aZ (kK w.params) mg "_law_web" tT 195 _ ["_law_drawn","_law_most","_law_ties_here"]:=hm 194 (.none) gB X G (by kernel_rfl) fun _ _ _ _ _ _=>CN fun _ _ _=>rfl
  have hLasks_of:aZ (kK w.params) mg "_law_asks_of" gf 200 _ ["_law_web_here","_law_asked","_law_thing"]:=hm 199 (.none) gB X G (by kernel_rfl) fun _ _ _ _ _ _=>CN fun _ _ _=>rfl
  have hLmay:aZ (kK w.params) mg "_law_may" tS 207 _ ["_law_web_here","_law_stand","_law_tie"]:=hm 206 (.none) gB X G (by kernel_rfl) fun _ _ _ _ _ _=>CN fun _ _ _=>rfl
  have hLbehind:aZ (kK w.params) mg "_law_behind" jN 214 _ ["_law_web_here","_law_stand","_law_tie","_law_truth"]:=hm 213 (.none) gB X G (by kernel_rfl) fun _ _ _ _ _ _=>Hj fun _ _ _ _=>rfl
  have hLaskable:aZ (kK w.params) mg "_law_askable" gc 219 _ ["_law_web_here","_law_stand"]:=hm 218 (.none) gB X G (by kernel_rfl) fun _ _ _ _ _ _=>nY fun _ _=>rfl
  have hLgrown:aZ (kK w.params) mg "_law_grown" kd 224 _ ["_law_drawn","_law_web_here","_law_most"]:=hm 223 (.none) gB X G (by kernel_rfl) fun _ _ _ _ _ _=>CN fun _ _ _=>rfl
  have hLall_answers:aZ (kK w.params) mg "_law_all_answers" bM 229 _ ["_law_many"]:=hm 228 (.none) gB X G (by kernel_rfl) fun _ _ _ _ _ _=>Fc fun _=>rfl
  have hLrun_tree:aZ (kK w.params) mg "_law_run_tree" gL 236 _ ["_law_tree_here","_law_answers"]:=hm 235 (.none) gB X G (by kernel_rfl) fun _ _ _ _ _ _=>nY fun _ _=>rfl
  have hLshares_sum:aZ (kK w.params) mg "_law_shares_sum" dX 243 _ ["_law_web_here","_law_shares"]:=hm 242 (.none) gB X G (by kernel_rfl) fun _ _ _ _ _ _=>nY fun _ _=>rfl
  have hLrenumbered:aZ (kK w.params) mg "_law_renumbered" cn 248 _ ["_law_drawn","_law_tree_here"]:=hm 247 (.none) gB X G (by kernel_rfl) fun _ _ _ _ _ _=>nY fun _ _=>rfl
  have hLtree:aZ (kK w.params) mg "_law_tree" pv 255 _ ["_law_drawn","_law_web_here","_law_great"]:=hm 254 (.none) gB X G (by kernel_rfl) fun _ _ _ _ _ _=>CN fun _ _ _=>rfl
  have h_law:aZ (kK w.params) mg "law" pz 262 _ ["_law_script"]:=hm 261 (.none) gB X G (by kernel_rfl) fun _ _ _ _ _ _=>Fc fun _=>rfl
  have lG_15:List.lookup 15 (kK w.params)=some (kT [.int (0) 189,.int (1) 190] 0):=by kernel_rfl
  have m_ZERO:=W.mg_of X G (show W.nsIn (kK w.params) mainGlobals "ZERO"=some (some (.ref 15)) by kernel_rfl)
  have c_ZERO:∀F,DA (kK w.params) F (.tuple [.int (0),.int (1)]) (.ref 15):=fun F=>by simp only [DA,aL];exact⟨15,[V.int (0),V.int (1)],rfl,.inr ⟨_,_,_,lG_15,rfl,rfl,rfl,(by show 2≤sizeLine;decide),(.cons ⟨_,rfl⟩ (.cons ⟨_,rfl⟩ .nil))⟩,⟨_,_,rfl,rfl,⟨_,_,rfl,rfl,rfl⟩⟩⟩
  have lG_16:List.lookup 16 (kK w.params)=some (kT [.int (1) 192,.int (1) 193] 0):=by kernel_rfl
  have m_ONE:=W.mg_of X G (show W.nsIn (kK w.params) mainGlobals "ONE"=some (some (.ref 16)) by kernel_rfl)
  have c_ONE:∀F,DA (kK w.params) F (.tuple [.int (1),.int (1)]) (.ref 16):=fun F=>by simp only [DA,aL];exact⟨16,[V.int (1),V.int (1)],rfl,.inr ⟨_,_,_,lG_16,rfl,rfl,rfl,(by show 2≤sizeLine;decide),(.cons ⟨_,rfl⟩ (.cons ⟨_,rfl⟩ .nil))⟩,⟨_,_,rfl,rfl,⟨_,_,rfl,rfl,rfl⟩⟩⟩
  have m_END:=W.mg_of X G (show W.nsIn (kK w.params) mainGlobals "END"=some (some (.int (-1) 236)) by kernel_rfl)
  refine⟨W.fnOf "law" "law" (dy pz) (cJ pz) (aj pz) .none .none (.none) gB none (.ref 261) .none,fun s v=>.of_eq rfl,fun base _ _=>?_⟩
  have G_common_divisor:=lV (P:=l.prog) (w:=w) (base:=base) h_common_divisor T
  have G_lowest:=xO (P:=l.prog) (w:=w) (base:=base) h_lowest T h_common_divisor G_common_divisor
  have G_plus:=Br (P:=l.prog) (w:=w) (base:=base) h_plus T h_lowest G_lowest
  have G_times:=zh (P:=l.prog) (w:=w) (base:=base) h_times T h_lowest G_lowest
  have G_one_less:=tL (P:=l.prog) (w:=w) (base:=base) h_one_less T h_lowest G_lowest
  have G_ask_worth:=rP (P:=l.prog) (w:=w) (base:=base) h_ask_worth T h_plus G_plus h_times G_times h_one_less G_one_less
  have G_link_worth:=pZ (P:=l.prog) (w:=w) (base:=base) h_link_worth T m_ZERO c_ZERO m_END
  have G_node_worth:=p0 (P:=l.prog) (w:=w) (base:=base) h_node_worth T h_ask_worth G_ask_worth h_link_worth G_link_worth
  have G_ways_on:=vg (P:=l.prog) (w:=w) (base:=base) h_ways_on T h_one_less G_one_less m_END
  have G_worths_of:=rT (P:=l.prog) (w:=w) (base:=base) h_worths_of T h_node_worth G_node_worth m_ZERO c_ZERO
  have G_worth_of:=tM (P:=l.prog) (w:=w) (base:=base) h_worth_of T h_worths_of G_worths_of m_ZERO c_ZERO
  have G_reaches_of:=p5 (P:=l.prog) (w:=w) (base:=base) h_reaches_of T h_ways_on G_ways_on h_times G_times m_ONE c_ONE
  have G_asked_shares:=nL (P:=l.prog) (w:=w) (base:=base) h_asked_shares T h_reaches_of G_reaches_of h_plus G_plus m_ZERO c_ZERO
  have G_chance_by:=rQ (P:=l.prog) (w:=w) (base:=base) h_chance_by T h_times G_times h_one_less G_one_less m_ONE c_ONE
  have G_chance_of:=rS (P:=l.prog) (w:=w) (base:=base) h_chance_of T h_chance_by G_chance_by
  have GLmixed:=zc (P:=l.prog) (w:=w) (base:=base) hLmixed T
  have GLdraws:=y_ (P:=l.prog) (w:=w) (base:=base) hLdraws T hLmixed GLmixed
  have GLnext:=Bm (P:=l.prog) (w:=w) (base:=base) hLnext T
  have GLgcd:=Dz (P:=l.prog) (w:=w) (base:=base) hLgcd T
  have GLlow:=DB (P:=l.prog) (w:=w) (base:=base) hLlow T hLgcd GLgcd
  have GLplus:=Bn (P:=l.prog) (w:=w) (base:=base) hLplus T hLlow GLlow
  have GLtimes:=ze (P:=l.prog) (w:=w) (base:=base) hLtimes T hLlow GLlow
  have GLsame:=Bo (P:=l.prog) (w:=w) (base:=base) hLsame T
  have GLchance:=xN (P:=l.prog) (w:=w) (base:=base) hLchance T hLlow GLlow
  have GLworth:=zg (P:=l.prog) (w:=w) (base:=base) hLworth T
  have GLties:=Bp (P:=l.prog) (w:=w) (base:=base) hLties T hLnext GLnext hLchance GLchance hLworth GLworth
  have GLweb:=DD (P:=l.prog) (w:=w) (base:=base) hLweb T hLties GLties hLnext GLnext
  have GLasks_of:=vf (P:=l.prog) (w:=w) (base:=base) hLasks_of T
  have GLmay:=DC (P:=l.prog) (w:=w) (base:=base) hLmay T hLasks_of GLasks_of
  have GLbehind:=xM (P:=l.prog) (w:=w) (base:=base) hLbehind T
  have GLaskable:=ve (P:=l.prog) (w:=w) (base:=base) hLaskable T hLmay GLmay
  have GLgrown:=za (P:=l.prog) (w:=w) (base:=base) hLgrown T hLaskable GLaskable hLnext GLnext hLbehind GLbehind
  have GLall_answers:=oV (P:=l.prog) (w:=w) (base:=base) hLall_answers T
  have GLrun_tree:=tK (P:=l.prog) (w:=w) (base:=base) hLrun_tree T
  have GLshares_sum:=pY (P:=l.prog) (w:=w) (base:=base) hLshares_sum T hLplus GLplus hLtimes GLtimes
  have GLrenumbered:=pX (P:=l.prog) (w:=w) (base:=base) hLrenumbered T hLnext GLnext
  have GLtree:=Bq (P:=l.prog) (w:=w) (base:=base) hLtree T hLrenumbered GLrenumbered hLgrown GLgrown hLnext GLnext
  have G_law:=DE (P:=l.prog) (w:=w) (base:=base) h_law T hLdraws GLdraws hLweb GLweb hLtree GLtree hLall_answers GLall_answers h_asked_shares G_asked_shares h_chance_of G_chance_of hLplus GLplus hLrun_tree GLrun_tree hLsame GLsame hLshares_sum GLshares_sum h_worth_of G_worth_of
  exact G_law
def FN(K:W.Frag):Sp:=fun vs H Q _=>∃(a:Addr) (ns:List Int),vs=[.ref a]∧d_ K H a (ns.map V.int)∧ns.length≤63∧∀H',Q (.bl true) H'
theorem Dv{K:W.Frag}{vs:List V}{H:Hp}{Q:VK}{E:XK}(h:FN K vs H Q E):bz K 1 oQ vs H Q E:=by
  obtain⟨a,ns,rfl,hS,hl,q⟩:=h
  obtain⟨as',hm⟩:=yY ns hl
  exact vt hS hm q
theorem walk{l:W.OpenLaw}{q:Program}{loose:List Str}{XP:(Str→Option Value)→Heap→Prop}{YP:World→Heap→Prop}{d:DefRec}{K:Params→W.Frag}(hn:l.most=some 63)(hdf:d.params.defaults=[])
    (hY:∀(w:World) (h:Heap),YP w h→(K w.params).In h)
    (F:∀(w:World) (mg:Str→Option Value) (fa:Addr) (h:Heap),(K w.params).In h→h.Ns mainGlobals mg→mg d.name=some (.ref fa)→
      ∃fd:FuncData,(∀(s:Shared) (u:Value),BindsTo s fd ⟨[u],[]⟩ [("_law_script",u)])∧∀base:Heap,(K w.params).In base→base.Ns mainGlobals mg→aF l.prog w (K w.params) mg base bv 8 fa fd ["_law_script"] (bz (K w.params) 1 oQ)):
    W.WalkO q loose XP YP l.row.toRowW d [] (fun f vs=>PySem.call f vs):=
  L2.walk_of (n:=63) (k:=8) (x:="_law_script") (CX:=fun _=>bv) (sp:=fun w=>bz (K w.params) 1 oQ) hn (by decide) hdf ⟨rfl,by decide,by decide,rfl⟩ hY F (fun _ _ a ns hl _ hS=>Dv ⟨a,ns,rfl,hS,hl,fun _=>rfl⟩) fun _ _ _ _ _ z=>z
end V22
open PySem PySem.W PyProof.Rows
set_option maxRecDepth 100000 in
set_option maxHeartbeats 0 in
theorem PySem.Challenge.cw_askedpairs_k22_whole_shares_by_answers_holds : PySem.Challenge.rw_askedpairs_k22_whole_shares_by_answers.Holds := by
  w_on;o_law
  refine holds_open (q:=V22.kq) (loose:=[]) (Xt:=fun s=>xlAt V22.kq [] s&&recOk (RowW.records (OpenRow.toRowW (OpenLaw.row PySem.Challenge.rw_askedpairs_k22_whole_shares_by_answers))) s) (XP:=XL V22.kq []) (Yf:=Hook.obs V22.kH) (Ya:=Hook.val V22.kH) (YP:=Hook.says V22.kH) (N:=2620) V22.left (Hook.of V22.kH) (Hook.keeps V22.kH) (fun s e=>xl_of s (Bool.and_eq_true_iff.mp e).1) XL.keeps (by rfl) (by rfl) (by rfl) (fun s e=>recFacts_of (Bool.and_eq_true_iff.mp e).2) (by rfl) (by assumption) (by decide+kernel) ⟨rfl,rfl,rfl,rfl,rfl,by decide+kernel⟩ ?hw ?hc
  case hw=>w_witness2
  case hc=>exact V22.walk (l:=PySem.Challenge.rw_askedpairs_k22_whole_shares_by_answers) rfl rfl (fun w h Y=>kIn_of Y) (fun w mg fa h KX G hmg=>V22.all_mk KX G hmg)
