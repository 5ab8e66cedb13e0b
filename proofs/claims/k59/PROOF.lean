import PyProof.Rows.All
import Wide.All
import OpenK.AllK
import Wide.FinOn
import Lean
import PyProof.EqAt
import PyProof.EqKinds
import PyProof.TupleCall
import PyProof.ReprRoads
import PyProof.IsInstance
import PyProof.IsInstanceH
import PyProof.FitsBits
import PyProof.CompFree
import PyProof.Rows.SumAny
import PyProof.Rows.SortShell
import PyProof.Rows.TupAdd
import PyProof.NeKinds
import PyProof.ConsumeWalk
import PyProof.ZipIter
import PyProof.TupleIter
import PyProof.LayNew
import PyProof.CollectWalk
import PyProof.ListNew
import PyProof.Draws
import PyProof.EnumFor
import PyProof.EnumMake
import PyProof.ListRange
import PyProof.CollectIter
import KE.KRevIter
import PyProof.ListMulRoad
import PyProof.TupleOps
import PyProof.TupleOfStr
import PyProof.WalksMore
import PyProof.FactsAll.range_iterator
import PyProof.IsRules
import PyProof.CompUse
import PyProof.P3In
import PyProof.EqLayable
import KE.KIsAll
import PyProof.Rows.FactsN_isinstance
import PyProof.CallStr
import PyProof.Rows.StrWeight2
import PyProof.Rows.FStr
import PyProof.StrLawsRepr
import PyProof.Rows.SetFrom
import KE.KIntText
import KE.KRevSl
import PyProof.Rows.SeqMore2
import PySem.Challenge.RW_askedpairs_k59_charges_found
set_option Elab.async false
set_option linter.all false
set_option maxRecDepth 100000
namespace L2
open PySem PySem.Spec PyProof.Rows
abbrev kZ:=Sum Int Str
def uV:kZ→Value→Bool
  | .inl k,v=>Value.isInt k v
  | .inr x,v=>Value.isStrOf x v
def DV(w:World):kZ→Int
  | .inl k=>hashInt k
  | .inr x=>hashStr w x
theorem bw:∀{k:kZ} {v:Value},uV k v=true→(∃i t,k=Sum.inl i∧v=Value.int i t)∨(∃x t,k=Sum.inr x∧v=Value.str x t)
  | .inl i,v,h=>by
    obtain⟨t,e⟩:=Value.isInt_shape (k:=i) (v:=v) h
    exact .inl ⟨i,t,rfl,e⟩
  | .inr x,v,h=>by
    obtain⟨t,e⟩:=Value.isStrOf_shape (x:=x) (v:=v) h
    exact .inr ⟨x,t,rfl,e⟩
theorem zR(a b:Int):decide ((Sum.inl a:kZ)=Sum.inl b)=(a==b):=by
  by_cases e:a=b
  · subst e;simp
  · have h:¬(Sum.inl a:kZ)=Sum.inl b:=fun q=>e (Sum.inl.inj q)
    rw [decide_eq_false h]
    exact(beq_eq_false_iff_ne.mpr e).symm
theorem zU(a b:Str):decide ((Sum.inr a:kZ)=Sum.inr b)=decide (a=b):=by
  by_cases e:a=b
  · subst e;simp
  · have h:¬(Sum.inr a:kZ)=Sum.inr b:=fun q=>e (Sum.inr.inj q)
    rw [decide_eq_false h,decide_eq_false e]
theorem zS(a:Int)(b:Str):decide ((Sum.inl a:kZ)=Sum.inr b)=false:=decide_eq_false (fun q=>nomatch q)
theorem zT(a:Str)(b:Int):decide ((Sum.inr a:kZ)=Sum.inl b)=false:=decide_eq_false (fun q=>nomatch q)
def nG(prog:Program)(w:World):PySem.KeyKind prog w kZ where
  is:=uV
  hash:=DV w
  inj:=fun v a b ha hb=>by
    rcases bw ha with ⟨i,t,rfl,rfl⟩ | ⟨x,t,rfl,rfl⟩
    · rcases bw hb with ⟨j,u,rfl,e⟩ | ⟨y,u,rfl,e⟩
      · injection e with e1 _;rw [e1]
      · exact nomatch e
    · rcases bw hb with ⟨j,u,rfl,e⟩ | ⟨y,u,rfl,e⟩
      · exact nomatch e
      · injection e with e1 _;rw [e1]
  byValue:=fun k v h=>by
    rcases bw h with ⟨i,t,rfl,rfl⟩ | ⟨x,t,rfl,rfl⟩<;>rfl
  pyHash:=fun hv h=>by
    rcases bw hv with ⟨i,t,rfl,rfl⟩ | ⟨x,t,rfl,rfl⟩
    · exact wpAny_pyHash_int h
    · exact wpAny_pyHash_str h
  eqBool:=fun hu hv h=>by
    rcases bw hu with ⟨i,t,rfl,rfl⟩ | ⟨x,t,rfl,rfl⟩
    · rcases bw hv with ⟨j,u,rfl,rfl⟩ | ⟨y,u,rfl,rfl⟩
      · rw [zR] at h;exact wpAny_eqBool_int h
      · rw [zS] at h;exact SeqAt.EqAt.int_str i t y u _ _ _ _ h
    · rcases bw hv with ⟨j,u,rfl,rfl⟩ | ⟨y,u,rfl,rfl⟩
      · rw [zT] at h;exact SeqAt.EqAt.str_int x t j u _ _ _ _ h
      · rw [zU] at h;exact wpAny_eqBool_str h
  «strs»:=fun k x t v h=>by
    rcases bw h with ⟨i,u,rfl,e⟩ | ⟨y,u,rfl,e⟩
    · exact nomatch e
    · injection e with e1 _
      subst e1
      cases v<;>rfl
end L2
namespace L2
open PySem PySem.Spec PyProof.Rows
inductive V where
  | non | bl (b:Bool) | int (i:Int) | str (x:Str) | byt (b:Array UInt8) | flt (b:UInt64) | ref (a:Addr) | ty (n:String)
  deriving DecidableEq
def bF:V→Value→Prop
  | .non,u=>u=Value.none
  | .bl b,u=>u=Value.bool b
  | .int i,u=>∃t,u=Value.int i t
  | .str x,u=>∃t,u=Value.str x t
  | .byt b,u=>∃t,u=Value.bytes b t
  | .flt b,u=>∃t,u=Value.float b t
  | .ref a,u=>u=Value.ref a
  | .ty n,u=>u=Value.type n
abbrev aE:List V→List Value→Prop:=Paired bF
theorem aE.length{xs:List V}{us:List Value}(r:aE xs us):xs.length=us.length:=Paired.length r
theorem aE.get:∀{xs:List V} {us:List Value} {i:Nat} {x:V},aE xs us→xs[i]?=some x→∃u,us[i]?=some u∧bF x u
  | _,_,_,_,.nil,e=>by simp at e
  | _,_,0,_,.cons r _,e=>by simp at e;subst e;exact⟨_,rfl,r⟩
  | _,_,i+1,x,.cons _ t,e=>by
    obtain⟨u,h1,h2⟩:=aE.get (i:=i) (x:=x) t (by simpa using e)
    exact⟨u,by simpa using h1,h2⟩
theorem aE.append:∀{xs ys:List V} {us ws:List Value},aE xs us→aE ys ws→aE (xs++ys) (us++ws)
  | _,_,_,_,.nil,s=>s
  | _,_,_,_,.cons r t,s=>.cons r (aE.append t s)
theorem aE.take:∀{xs:List V} {us:List Value} (n:Nat),aE xs us→aE (xs.take n) (us.take n)
  | _,_,0,_=>.nil
  | _,_,_+1,.nil=>.nil
  | _,_,n+1,.cons r t=>.cons r (aE.take n t)
theorem aE.drop:∀{xs:List V} {us:List Value} (n:Nat),aE xs us→aE (xs.drop n) (us.drop n)
  | _,_,0,r=>r
  | _,_,_+1,.nil=>.nil
  | _,_,n+1,.cons _ t=>aE.drop n t
def BJ:Option V→Option Value→Prop
  | some v,some u=>bF v u
  | none,none=>True
  | _,_=>False
def KV{κ:Type}:List (κ × V)→List (κ × Value)→Prop:=Paired fun(p:κ × V) (q:κ × Value)=>p.1=q.1∧bF p.2 q.2
def kV:kZ→V
  | .inl i=>.int i
  | .inr x=>.str x
inductive HO where
  /-- a list -/
  | lst (xs:List V)
  /-- a tuple (never changes) -/
  | tup (xs:List V)
  /-- a dict whose keys are ints and texts; one whose keys are tuples of ints and texts (the empty one is both) -/
  | dK (kvs:List (kZ × V)) | dT (kvs:List (List kZ × V))
  /-- a set of ints: its members, its size -/
  | set (S:Int→Bool) (n:Nat)
  /-- an instance of the class at C, its dict at dx, its attributes -/
  | ins (C dx:Addr) (fs:List (Str × V))
  /-- the dict of the instance at x -/
  | own (x:Addr)
  /-- the dict of an exception -/
  | xd (fs:List (Str × V))
  /-- a bound method, f of x -/
  | met (f x:Addr)
  /-- a range object lo, lo + 1, .. below hi -/
  | rng (lo hi:Int)
  /-- a thing that is known to the object (the script; a dict while a loop walks it): read, never written while it is so -/
  | frz (o:Obj) (u:HO)
  /-- a code object's table -/
  | tbl (ps:Array Value)
  /-- any other thing, by what is true of its one object (a def of one's own: SetO a S n := HO.ext fun h => ..) -/
  | ext (φ:Heap→Prop)
abbrev Hp:=Addr→Option HO
def aM(H:Hp)(a:Addr)(o:HO):Hp:=fun b=>if b=a then some o else H b
theorem ay{H:Hp}{a:Addr}{o:HO}:aM H a o a=some o:=by unfold aM;rw [if_pos rfl]
theorem aC{H:Hp}{a b:Addr}{o:HO}(h:b≠a):aM H a o b=H b:=by unfold aM;rw [if_neg h]
theorem dJ{H:Hp}{a b:Addr}{o:HO}(h:H a=some o)(h':H b=none):a≠b:=by
  intro e;subst e;rw [h] at h';cases h'
def kn(h:Heap)(a:Addr)(items:Array Value):Prop:=∃o,h.get? a=some o∧o.cls=.type "tuple"∧∃n,o.data=.seq items n∧o.dict=none
theorem kn.tup{h:Heap}{a:Addr}{items:Array Value}(x:kn h a items):IsTup h a items:=let ⟨o,ho,hc,n,hd,_⟩:=x;⟨o,ho,hc,n,hd⟩
theorem kn.new(h:Heap)(items:Array Value):kn (h.push {cls:=.type "tuple",data:=.seq items}) h.objs.size items:=⟨_,Heap.get?_push_size _ rfl,rfl,_,rfl,rfl⟩
section
variable(P:Program)(w:World)
def eu(H:Hp)(h:Heap)(a:Addr):HO→Prop
  | .lst xs=>xs.length≤sizeLine∧∃(its:List Value) (n:Nat),aE xs its∧h.get? a=some {cls:=.type "list",data:=.seq its.toArray n}
  | .tup xs=>xs.length≤sizeLine∧∃its:List Value,aE xs its∧kn h a its.toArray
  | .dK kvs=>kvs.length≤sizeLine∧(a==sysModules)=false∧∃vs,KV kvs vs∧h.DictOf (nG P w) a vs
  | .dT kvs=>kvs.length≤sizeLine∧(a==sysModules)=false∧∃xs:List (List kZ × Addr × Value),
      Paired (fun(p:List kZ × V) (q:List kZ × Addr × Value)=>p.1=q.1∧H q.2.1=some (.tup (p.1.map kV))∧bF p.2 q.2.2) kvs xs∧
      ∃o es ep,h.get? a=some o∧o.ExactDict∧o.data=.dict es ep∧es.toList=xs.map (entryOfKey (tupleKind (nG P w)))∧(xs.map (·.1)).Nodup
  | .set S n=>h.SetOf (intKind P w) a S n
  | .ins C dx fs=>H dx=some (.own a)∧fs.length≤1000∧dx≠a∧h.get? a=some (PySem.W.instObj C dx)∧
      ∃mA,h.Ns1 dx mA∧(∀f,BJ (fs.lookup f) (mA f))∧PySem.Within mA (fs.map (·.1))
  | .own _=>∃o,h.get? a=some o
  | .xd fs=>∃mA,h.Ns1 a mA∧∀f,BJ (fs.lookup f) (mA f)
  | .rng lo hi=>∃t u v,h.get? a=some {cls:=.type "range",data:=.fields #[.int lo t,.int hi u,.int 1 v]}
  | .frz o u=>h.get? a=some o∧eu H h a u
  | .tbl ps=>h.get? a=some {cls:=.none,data:=.fields ps}
  | .met f x=>h.get? a=some (PySem.W.methodObj (.ref f) (.ref x))
  | .ext φ=>φ h∧(∃o,h.get? a=some o)∧∀h1 h2:Heap,φ h1→(∀o,h1.get? a=some o→h2.get? a=some o)→φ h2
def kY(H:Hp)(h:Heap):Prop:=∀a o,H a=some o→eu P w H h a o
end
section
variable{P:Program}{w:World}{H H':Hp}{h h':Heap}{a:Addr}{o:HO}
theorem eu.lt(x:eu P w H h a o):a < h.objs.size:=by
  cases o with
  | lst xs=>obtain⟨_,_,_,_,e⟩:=x;exact Heap.lt_size e
  | tup xs=>obtain⟨_,_,_,p⟩:=x;exact p.tup.lt
  | dK kvs=>obtain⟨_,_,_,_,o,_,_,e,_⟩:=x;exact Heap.lt_size e
  | dT kvs=>obtain⟨_,_,_,_,o,_,_,e,_⟩:=x;exact Heap.lt_size e
  | set S n=>obtain⟨o,_,_,_,e,_⟩:=x;exact Heap.lt_size e
  | ins C dx fs=>obtain⟨_,_,_,e,_⟩:=x;exact Heap.lt_size e
  | own y=>obtain⟨_,e⟩:=x;exact Heap.lt_size e
  | xd fs=>obtain⟨_,⟨_,_,_,e,_⟩,_⟩:=x;exact Heap.lt_size e
  | rng lo hi=>obtain⟨_,_,_,e⟩:=x;exact Heap.lt_size e
  | frz ob u=>obtain⟨e,_⟩:=x;exact Heap.lt_size e
  | tbl ps=>exact Heap.lt_size (show h.get? a=some _ from x)
  | met f y=>exact Heap.lt_size (show h.get? a=some _ from x)
  | ext φ=>obtain⟨_,⟨_,e⟩,_⟩:=x;exact Heap.lt_size e
theorem Paired.mapP{α β:Type}{F G:α→β→Prop}:∀{l₁:List α} {l₂:List β},Paired F l₁ l₂→(∀a b,F a b→G a b)→Paired G l₁ l₂
  | _,_,.nil,_=>.nil
  | _,_,.cons r t,f=>.cons (f _ _ r) (Paired.mapP t f)
theorem eu.stay(x:eu P w H h a o)(k:∀b u,(b=a∨H b=some (.own a))→h.get? b=some u→h'.get? b=some u)
    (ho:∀b,H b=some (.own a)→H' b=some (.own a))(ht:∀b xs,H b=some (.tup xs)→H' b=some (.tup xs)):eu P w H' h' a o:=by
  induction o with
  | lst xs=>obtain⟨z,its,n,r,e⟩:=x;exact⟨z,its,n,r,k _ _ (.inl rfl) e⟩
  | tup xs=>obtain⟨z,its,r,ob,e,c⟩:=x;exact⟨z,its,r,ob,k _ _ (.inl rfl) e,c⟩
  | dK kvs=>obtain⟨z,y,vs,r,ob,es,ep,e,c⟩:=x;exact⟨z,y,vs,r,ob,es,ep,k _ _ (.inl rfl) e,c⟩
  | dT kvs=>
    obtain⟨z,y,xs,r,ob,es,ep,e,c⟩:=x
    exact⟨z,y,xs,Paired.mapP r fun p q z=>⟨z.1,ht _ _ z.2.1,z.2.2⟩,ob,es,ep,k _ _ (.inl rfl) e,c⟩
  | set S n=>obtain⟨ob,es,ep,t,e,c⟩:=x;exact⟨ob,es,ep,t,k _ _ (.inl rfl) e,c⟩
  | ins C dx fs=>
    obtain⟨d,z,ne,e,mA,⟨od,es,ep,e2,c⟩,r⟩:=x
    exact⟨ho _ d,z,ne,k _ _ (.inl rfl) e,mA,⟨od,es,ep,k _ _ (.inr d) e2,c⟩,r⟩
  | own y=>obtain⟨ob,e⟩:=x;exact⟨ob,k _ _ (.inl rfl) e⟩
  | xd fs=>obtain⟨mA,⟨od,es,ep,e,c⟩,r⟩:=x;exact⟨mA,⟨od,es,ep,k _ _ (.inl rfl) e,c⟩,r⟩
  | rng lo hi=>obtain⟨t,u,v,e⟩:=x;exact⟨t,u,v,k _ _ (.inl rfl) e⟩
  | frz ob u ih=>obtain⟨e,q⟩:=x;exact⟨k _ _ (.inl rfl) e,ih q⟩
  | tbl ps=>
    have e:h.get? a=some {cls:=.none,data:=.fields ps}:=x
    show h'.get? a=some {cls:=.none,data:=.fields ps}
    exact k a _ (.inl rfl) e
  | met f y=>
    have e:h.get? a=some (PySem.W.methodObj (.ref f) (.ref y)):=x
    show h'.get? a=some (PySem.W.methodObj (.ref f) (.ref y))
    exact k a _ (.inl rfl) e
  | ext φ=>obtain⟨p,⟨o,e⟩,st⟩:=x;exact⟨st _ _ p fun o q=>k _ _ (.inl rfl) q,⟨o,k _ _ (.inl rfl) e⟩,st⟩
theorem kY.lt(x:kY P w H h)(e:H a=some o):a < h.objs.size:=(x a o e).lt
theorem kY.fresh(x:kY P w H h)(e:h.objs.size≤a):H a=none:=by
  cases q:H a with
  | none=>rfl
  | some u=>exact absurd (Nat.lt_of_lt_of_le (x.lt q) e) (Nat.lt_irrefl _)
theorem kY.kept(x:kY P w H h)(k:∀b u,h.get? b=some u→h'.get? b=some u):kY P w H h':=fun a o e=>
  (x a o e).stay (fun b u _ q=>k b u q) (fun _ q=>q) fun _ _ q=>q
theorem kY.laid(x:kY P w H h)(k:∀b u,h.get? b=some u→h'.get? b=some u)(hp:h.objs.size≤a)(new:eu P w (aM H a o) h' a o):kY P w (aM H a o) h':=fun b u e=>by
  have hn:=x.fresh hp
  by_cases hb:b=a
  · subst hb;rw [ay] at e;cases e;exact new
  · rw [aC hb] at e
    exact(x b u e).stay (fun c v _ q=>k c v q) (fun c q=>by rw [aC (dJ q hn)];exact q) fun c xs q=>by rw [aC (dJ q hn)];exact q
end
def Rd(H:Hp)(a:Addr)(u:HO):Prop:=H a=some u∨∃o,H a=some (.frz o u)
theorem Rd.ok{P:Program}{w:World}{H:Hp}{h:Heap}{a:Addr}{u:HO}(r:Rd H a u)(x:kY P w H h):eu P w H h a u:=by
  rcases r with r | ⟨o,r⟩
  · exact x a u r
  · obtain⟨_,q⟩:=x a _ r
    exact q
def Dm:Option HO→Prop
  | some (.lst _)=>True
  | some (.dK _)=>True
  | some (.dT _)=>True
  | some (.set _ _)=>True
  | some (.ins _ _ _)=>True
  | some (.ext _)=>True
  | _=>False
section
variable{P:Program}{w:World}{H:Hp}{h h':Heap}{x e:Addr}{o':HO}
theorem kY.write(ok:kY P w H h)(mu:Dm (H x))(he:e=x∨H e=some (.own x))(k:∀b u,b≠e→h.get? b=some u→h'.get? b=some u)(heo:∃u,h'.get? e=some u)
    (new:eu P w (aM H x o') h' x o'):kY P w (aM H x o') h':=fun b u q=>by
  have nown:∀c y,H c=some (.own y)→c≠x:=fun c y r z=>by subst z;rw [r] at mu;exact mu
  have ntup:∀c xs,H c=some (.tup xs)→c≠x:=fun c xs r z=>by subst z;rw [r] at mu;exact mu
  by_cases hb:b=x
  · subst hb;rw [ay] at q;cases q;exact new
  · rw [aC hb] at q
    by_cases hbe:b=e
    · have q':H b=some (.own x):=by
        rcases he with z | z
        · exact absurd (hbe.trans z) hb
        · rw [hbe];exact z
      rw [q] at q';cases q'
      obtain⟨v,hv⟩:=heo
      exact⟨v,by rw [hbe];exact hv⟩
    · refine(ok b u q).stay (fun c v hc r=>k c v ?_ r) (fun c r=>by rw [aC (nown c b r)];exact r) fun c xs r=>by rw [aC (ntup c xs r)];exact r
      rcases hc with rfl | hc
      · exact hbe
      · rintro rfl
        rcases he with z | z
        · exact nown c b hc z
        · rw [hc] at z;cases z;exact hb rfl
end
structure Un (fs ex:List Addr) (H H':Hp) (h h':Heap):Prop where
  keep:∀b o,h.get? b=some o→H b=none→b∉fs→b∉ex→h'.get? b=some o
  slot:∀b o,h.get? b=some o→H b=none→b∈fs→b∉ex→∃sl,h'.get? b=some {o with slots:=sl}
  free:∀b o,h.get? b=some o→H b=none→b∉ex→H' b=none
  there:∀b o,h.get? b=some o→b∉ex→∃o',h'.get? b=some o'
  tups:∀b xs,H b=some (.tup xs)→H' b=some (.tup xs)
  frzs:∀b o u,H b=some (.frz o u)→H' b=some (.frz o u)
  tbls:∀b ps,H b=some (.tbl ps)→∃more,H' b=some (.tbl (ps++more))
section
variable{fs fs' ex ex':List Addr}{H H1 H2:Hp}{h h1 h2 h':Heap}{a x e:Addr}{o:HO}
theorem Un.any(u:Un fs ex H H1 h h1){b:Addr}{ob:Obj}(q:h.get? b=some ob)(n:H b=none)(hx:b∉ex):∃sl,h1.get? b=some {ob with slots:=sl}:=by
  by_cases hb:b∈fs
  · exact u.slot b ob q n hb hx
  · exact⟨ob.slots,u.keep b ob q n hb hx⟩
theorem Un.kept(k:∀b u,h.get? b=some u→h'.get? b=some u):Un fs ex H H h h':=
  ⟨fun b ob q _ _ _=>k b ob q,fun b ob q _ _ _=>⟨ob.slots,k b ob q⟩,fun _ _ _ n _=>n,fun b ob q _=>⟨ob,k b ob q⟩,fun _ _ q=>q,fun _ _ _ q=>q,fun _ ps q=>⟨#[],by rw [q];simp⟩⟩
theorem Un.refl:Un fs ex H H h h:=Un.kept fun _ _ q=>q
theorem Un.laid(k:∀b u,h.get? b=some u→h'.get? b=some u)(hp:h.objs.size≤a)(hn:H a=none):Un fs ex H (aM H a o) h h' where
  keep:=fun b u q _ _ _=>k b u q
  slot:=fun b u q _ _ _=>⟨u.slots,k b u q⟩
  free:=fun b u q n _=>by rw [aC (Nat.ne_of_lt (Nat.lt_of_lt_of_le (Heap.lt_size q) hp))];exact n
  there:=fun b u q _=>⟨u,k b u q⟩
  tups:=fun b xs q=>by rw [aC (dJ q hn)];exact q
  frzs:=fun b u xs q=>by rw [aC (dJ q hn)];exact q
  tbls:=fun b ps q=>⟨#[],by rw [aC (dJ q hn),q];simp⟩
theorem Un.write(mu:Dm (H x))(he:e=x∨H e=some (.own x))(k:∀b u,b≠e→h.get? b=some u→h'.get? b=some u)(heo:∃u,h'.get? e=some u):Un fs ex H (aM H x o) h h':=by
  have hx:∀b,H b=none→b≠x:=fun b n z=>by subst z;rw [n] at mu;exact mu
  have hb:∀b,H b=none→b≠e:=fun b n z=>by
    subst z
    rcases he with r | r
    · exact hx b n r
    · rw [n] at r;cases r
  have hm:∀b u,H b=some u→¬Dm (some u)→b≠x:=fun b u q nm z=>by subst z;rw [q] at mu;exact nm mu
  refine⟨fun b u q n _ _=>k b u (hb b n) q,fun b u q n _ _=>⟨u.slots,k b u (hb b n) q⟩,fun b u q n _=>by rw [aC (hx b n)];exact n,fun b u q _=>?_,
    fun b xs q=>by rw [aC (hm b _ q fun z=>z)];exact q,fun b u xs q=>by rw [aC (hm b _ q fun z=>z)];exact q,fun b ps q=>⟨#[],by rw [aC (hm b _ q fun z=>z),q];simp⟩⟩
  by_cases hbe:b=e
  · subst hbe;exact heo
  · exact⟨u,k b u hbe q⟩
end
def Du(h:Heap)(H:Hp):List Addr:=(List.range h.objs.size).filter fun a=>(H a).isSome
def nB(h:Heap)(H:Hp):Heap:=PySem.W.hideAll h (Du h H)
theorem sx(h:Heap)(H:Hp):(nB h H).objs.size=h.objs.size:=PySem.W.hideAll_size _ _
theorem uQ{h:Heap}{H:Hp}{b:Addr}{o:Obj}(e:h.get? b=some o)(n:H b=none):(nB h H).get? b=some o:=
  PySem.W.hideAll_get _ e fun hm=>by
    have q:(H b).isSome=true:=(List.mem_filter.mp hm).2
    rw [n] at q;simp at q
theorem xu{h:Heap}{H:Hp}{b:Addr}{o:Obj}(e:(nB h H).get? b=some o):h.get? b=some o∧H b=none:=by
  have e':h.get? b=some o:=PySem.W.of_hideAll (Du h H) e
  refine⟨e',?_⟩
  cases q:H b with
  | none=>rfl
  | some x=>
    have hm:b∈Du h H:=List.mem_filter.mpr ⟨List.mem_range.mpr (Heap.lt_size e'),by simp [q]⟩
    have z:(nB h H).get? b=none:=PySem.W.hideAll_none (Du h H) hm
    rw [z] at e;cases e
def m4(g h:Heap)(L:Addr):List (Addr × Obj):=(List.range h.objs.size).filterMap fun a=>if a=L∨(g.get? a).isSome=true then none else(h.get? a).map fun o=>(a,o)
theorem lH{g h:Heap}{L:Addr}{p:Addr × Obj}(hp:p∈m4 g h L):p.1≠L∧g.get? p.1=none∧h.get? p.1=some p.2:=by
  obtain⟨b,_,e⟩:=List.mem_filterMap.mp hp
  split at e
  · cases e
  · rename_i hn
    cases q:h.get? b with
    | none=>rw [q] at e;simp at e
    | some u=>
      rw [q] at e
      simp only [Option.map_some,Option.some.injEq] at e
      subst e
      refine⟨fun z=>hn (.inl z),?_,q⟩
      show g.get? b=none
      cases r:g.get? b with
      | none=>rfl
      | some v=>exact(hn (.inr (by simp [r]))).elim
def d9(g h:Heap)(L d:Addr):List (Addr × Obj):=(m4 g h L).filter fun p=>decide (p.1≠d)
theorem vg{g h:Heap}{L:Addr}:News g L h (m4 g h L):=fun p hp=>let ⟨a,b,c⟩:=lH hp;⟨c,a,b⟩
end L2
namespace L2
open PySem PySem.Spec PyProof.Rows
structure Mod (K:PySem.W.Frag) (mg:Str→Option Value) (base:Heap):Prop where
  kin:K.In base
  glob:base.Ns mainGlobals mg
  blt:∃mb,base.Ns builtinsNs mb∧∀x:Str,x≠"__name__"→mb x=bootBuiltins x
  nolimit:base.NoLimit
structure Cx where
  prog:Program
  w:World
  K:PySem.W.Frag
  mg:Str→Option Value
  base:Heap
  A:Around
  N:List Str
  s₀:Shared
  H₀:Hp
  env:Env
  outer:List Env
  stack:List Env
  ex:List Addr
  fn:Str→Bool
  calm:Bool
  pn:List (Addr × Obj)
  xe:Value→Shared→Prop
def uk(l:List Env):List Addr:=l.filterMap (·.frame)
abbrev Cx.fs(X:Cx):List Addr:=uk X.outer
def BO(sc:Scope)(x:Str):Prop:=sc.names.lookup x=some .local∨sc.names.lookup x=some .cell∨sc.names.lookup x=some .free
def By(sc:Scope)(x:Str):Prop:=sc.names.lookup x=some .local∨sc.names.lookup x=some .cell
def DB(env:Env)(h:Heap)(m:Str→Option Value)(x:Str)(u:Value):Prop:=
  (env.kindOf x=some .local∧m x=some u)∨((env.kindOf x=some .cell∨env.kindOf x=some .free)∧∃c,env.cells.lookup x=some c∧h.IsCell c (some u))
structure Cx.Ok (X:Cx):Prop where
  mod:Mod X.K X.mg X.base
  kind:X.env.scope.kind=.function
  glob:X.env.globals=mainGlobals
  blt:X.env.builtins=builtinsNs
  above:X.s₀.heap.objs.size≤X.env.locals
  inj:∀x y c,X.env.cells.lookup x=some c→X.env.cells.lookup y=some c→x=y
  has:∀x,(X.env.kindOf x=some .cell∨X.env.kindOf x=some .free)→∃c,X.env.cells.lookup x=some c
  cab:∀x c,X.fn x=true→X.env.cells.lookup x=some c→X.s₀.heap.objs.size≤c
  hd:X.calm=true→X.A.handled=none
  frames:X.A.frames=some X.stack
  stk:X.stack=X.outer∨(X.stack=X.env::X.outer∧X.env.frame=some X.env.locals)
  exf:∀b∈X.ex,b≠X.env.locals∧∀x c,X.env.cells.lookup x=some c→c≠b
  bs:∀b o,X.base.get? b=some o→X.s₀.heap.get? b=some o∧X.H₀ b=none
  bsz:X.base.objs.size≤X.s₀.heap.objs.size
  noex:∀b o,X.base.get? b=some o→b∉X.ex
  exfs:∀b∈X.ex,b∉X.fs
  funs:X.s₀.heap.FunFrames X.base X.outer
  frf:∀b∈X.fs,X.H₀ b=none
structure au (X:Cx) (pins:List (Addr × Obj)) (σ:List (Option V)) (H:Hp) (s:Shared):Prop where
  ok:X.Ok
  os:s.os=X.s₀.os
  bare:AllBare s.gens
  base:Un X.fs X.ex X.H₀ H X.s₀.heap s.heap
  loc:∃m,s.heap.Ns X.env.locals m∧∀(i:Nat) (x:Str) (v:V),X.N[i]?=some x→σ[i]?=some (some v)→BO X.env.scope x→∃u,bF v u∧DB X.env s.heap m x u
  cell:∀x c,X.env.cells.lookup x=some c→∃v,s.heap.IsCell c v
  free:H X.env.locals=none
  freeC:∀x c,X.env.cells.lookup x=some c→H c=none
  pin:∀p∈X.pn++pins,s.heap.get? p.1=some p.2∧H p.1=none∧p.1≠X.env.locals∧p.1∉X.fs∧∀v,p.2.data≠.cell v
  hok:kY X.prog X.w H s.heap
  len:σ.length=X.N.length
section
variable{X:Cx}{pins:List (Addr × Obj)}{σ:List (Option V)}{H H':Hp}{s:Shared}{h':Heap}
theorem Cx.Ok.nofr(ok:X.Ok){b:Addr}{o:Obj}(e:X.base.get? b=some o):b∉X.fs:=fun hb=>by
  have:=(ok.funs.mem hb).1
  rw [e] at this;cases this
theorem au.bs(I:au X pins σ H s):∀b o,X.base.get? b=some o→s.heap.get? b=some o∧H b=none:=fun b o e=>
  ⟨I.base.keep b o (I.ok.bs b o e).1 (I.ok.bs b o e).2 (I.ok.nofr e) (I.ok.noex b o e),I.base.free b o (I.ok.bs b o e).1 (I.ok.bs b o e).2 (I.ok.noex b o e)⟩
theorem au.bk(I:au X pins σ H s):∀b o,X.base.get? b=some o→s.heap.get? b=some o:=fun b o e=>(I.bs b o e).1
theorem au.mod(I:au X pins σ H s):Mod X.K X.mg X.base:=I.ok.mod
theorem au.kIn(I:au X pins σ H s):X.K.In s.heap:=I.ok.mod.kin.keeps I.bk
theorem au.fr(I:au X pins σ H s):∃m,Fr X.base X.env.locals s.heap m:=
  let ⟨m,hn,_⟩:=I.loc
  ⟨m,hn,I.bk,Nat.le_trans I.ok.bsz I.ok.above⟩
theorem au.lt(I:au X pins σ H s):X.env.locals < s.heap.objs.size:=let ⟨_,hn,_⟩:=I.loc;hn.lt
theorem au.sz(I:au X pins σ H s):X.s₀.heap.objs.size≤s.heap.objs.size:=Nat.le_trans I.ok.above (Nat.le_of_lt I.lt)
theorem au.nofs(I:au X pins σ H s){a:Addr}(h:s.heap.objs.size≤a):a∉X.fs:=fun hb=>by
  obtain⟨_,o,ho,_⟩:=I.ok.funs.mem hb
  exact absurd (Nat.lt_of_lt_of_le (Heap.lt_size ho) (Nat.le_trans I.sz h)) (Nat.lt_irrefl _)
theorem au.cne(I:au X pins σ H s):∀x c,X.env.cells.lookup x=some c→c≠X.env.locals:=fun x c e z=>by
  obtain⟨v,o,ho,hd⟩:=I.cell x c e
  obtain⟨m,⟨o',es,ep,ho',hd',_⟩,_⟩:=I.loc
  rw [z,ho'] at ho;cases ho;rw [hd'] at hd;cases hd
theorem au.funs(I:au X pins σ H s):s.heap.FunFrames X.base X.outer:=by
  have all:∀(l:List Env),(∀b∈uk l,b∈X.fs)→X.s₀.heap.FunFrames X.base l→s.heap.FunFrames X.base l:=by
    intro l
    induction l with
    | nil=>intro _ _;trivial
    | cons env r ih=>
      intro hs hl
      obtain⟨hk,⟨L,o,hf,hn,ho,hd⟩,hr⟩:=hl
      have hL:L∈X.fs:=hs L (by unfold uk;rw [List.filterMap_cons,hf];exact List.mem_cons_self)
      obtain⟨sl,e⟩:=I.base.slot L o ho (I.ok.frf L hL) hL fun z=>I.ok.exfs L z hL
      exact⟨hk,⟨L,_,hf,hn,e,hd⟩,ih (fun b hb=>hs b (by unfold uk;rw [List.filterMap_cons,hf];exact List.mem_cons_of_mem _ hb)) hr⟩
  exact all X.outer (fun _ hb=>hb) I.ok.funs
theorem au.stack(I:au X pins σ H s):s.heap.FunFrames X.base X.stack:=by
  rcases I.ok.stk with e | ⟨e,hf⟩
  · rw [e];exact I.funs
  · rw [e]
    obtain⟨m,hn,_⟩:=I.loc
    refine .cons (by rw [I.ok.kind];decide) hf hn ?_ I.funs
    exact Heap.get?_none_of_le (Nat.le_trans I.ok.bsz I.ok.above)
theorem au.stkSub(I:au X pins σ H s):∀b∈uk X.stack,b∈X.env.locals::X.fs:=fun b hb=>by
  rcases I.ok.stk with e | ⟨e,hf⟩
  · rw [e] at hb;exact List.mem_cons_of_mem _ hb
  · rw [e] at hb
    unfold uk at hb
    rw [List.filterMap_cons,hf] at hb
    exact hb
theorem au.stkFree(I:au X pins σ H s):∀b∈uk X.stack,H b=none:=fun b hb=>by
  rcases List.mem_cons.mp (I.stkSub b hb) with e | hb
  · rw [e];exact I.free
  · obtain⟨_,o,ho,_⟩:=I.ok.funs.mem hb
    exact I.base.free b o ho (I.ok.frf b hb) fun z=>I.ok.exfs b z hb
theorem au.step{g':Array GenState}{t':Nat}{d':Drawn}{ch:List Addr}(I:au X pins σ H s)
    (hch:∀b∈ch,(b∈X.ex∨X.s₀.heap.objs.size≤b)∧b≠X.env.locals∧(∀x c,X.env.cells.lookup x=some c→c≠b)∧∀p∈X.pn++pins,p.1≠b)
    (keep:∀b o,b≠X.env.locals→b∉X.fs→b∉ch→s.heap.get? b=some o→H b=none→h'.get? b=some o)
    (slot:∀b o,b≠X.env.locals→b∈X.fs→b∉ch→s.heap.get? b=some o→H b=none→∃sl,h'.get? b=some {o with slots:=sl})(free:∀b o,b∉ch→s.heap.get? b=some o→H b=none→H' b=none)
    (there:∀b o,b∉ch→s.heap.get? b=some o→∃o',h'.get? b=some o')
    (tups:∀b xs,H b=some (.tup xs)→H' b=some (.tup xs))(frzs:∀b o u,H b=some (.frz o u)→H' b=some (.frz o u))(tbls:∀b ps,H b=some (.tbl ps)→∃more,H' b=some (.tbl (ps++more)))
    (ns:∀m,s.heap.Ns X.env.locals m→h'.Ns X.env.locals m)(hok:kY X.prog X.w H' h')(hg:AllBare g'):
    au X pins σ H' {s with heap:=h',gens:=g',drawn:=d',toks:=t'}:=by
  have neL:∀b o,X.s₀.heap.get? b=some o→b≠X.env.locals:=fun b o e=>Nat.ne_of_lt (Nat.lt_of_lt_of_le (Heap.lt_size e) I.ok.above)
  have neC:∀b o,X.s₀.heap.get? b=some o→b∉X.ex→b∉ch:=fun b o e hx hb=>by
    rcases(hch b hb).1 with z | z
    · exact hx z
    · exact absurd (Nat.lt_of_lt_of_le (Heap.lt_size e) z) (Nat.lt_irrefl _)
  have cellK:∀x c,X.env.cells.lookup x=some c→∀v,s.heap.IsCell c v→h'.IsCell c v:=fun x c e v ⟨o,ho,hd⟩=>by
    have nch:c∉ch:=fun z=>(hch c z).2.2.1 x c e rfl
    by_cases hc:c∈X.fs
    · obtain⟨sl,q⟩:=slot c o (I.cne x c e) hc nch ho (I.freeC x c e)
      exact⟨_,q,hd⟩
    · exact⟨o,keep c o (I.cne x c e) hc nch ho (I.freeC x c e),hd⟩
  refine⟨I.ok,I.os,hg,⟨fun b o e n hb hx=>?_,fun b o e n hb hx=>?_,fun b o e n hx=>?_,fun b o e hx=>?_,fun b xs e=>tups b xs (I.base.tups b xs e),fun b o xs e=>frzs b o xs (I.base.frzs b o xs e),fun b ps e=>?_⟩,?_,fun x c e=>?_,?_,fun x c e=>?_,fun p hp=>?_,hok,I.len⟩
  · exact keep b o (neL b o e) hb (neC b o e hx) (I.base.keep b o e n hb hx) (I.base.free b o e n hx)
  · obtain⟨sl,e1⟩:=I.base.slot b o e n hb hx
    obtain⟨sl',e2⟩:=slot b _ (neL b o e) hb (neC b o e hx) e1 (I.base.free b o e n hx)
    exact⟨sl',e2⟩
  · obtain⟨o',e1⟩:=I.base.there b o e hx
    exact free b o' (neC b o e hx) e1 (I.base.free b o e n hx)
  · obtain⟨o',e1⟩:=I.base.there b o e hx
    exact there b o' (neC b o e hx) e1
  · obtain⟨m1,e1⟩:=I.base.tbls b ps e
    obtain⟨m2,e2⟩:=tbls b _ e1
    exact⟨m1++m2,by rw [e2,Array.append_assoc]⟩
  · obtain⟨m,hn,hl⟩:=I.loc
    refine⟨m,ns m hn,fun i x v e1 e2 e3=>?_⟩
    obtain⟨u,r,l⟩:=hl i x v e1 e2 e3
    refine⟨u,r,?_⟩
    rcases l with l | ⟨k,c,e,z⟩
    · exact .inl l
    · exact .inr ⟨k,c,e,cellK x c e _ z⟩
  · obtain⟨v,z⟩:=I.cell x c e
    exact⟨v,cellK x c e v z⟩
  · obtain⟨m,⟨o,_,_,ho,_⟩,_⟩:=I.loc
    exact free _ o (fun z=>(hch _ z).2.1 rfl) ho I.free
  · obtain⟨v,o,ho,hd⟩:=I.cell x c e
    exact free c o (fun z=>(hch c z).2.2.1 x c e rfl) ho (I.freeC x c e)
  · obtain⟨e,n,ne,nf,d⟩:=I.pin p hp
    have nch:p.1∉ch:=fun z=>(hch p.1 z).2.2.2 p hp rfl
    exact⟨keep p.1 p.2 ne nf nch e n,free p.1 p.2 nch e n,ne,nf,d⟩
theorem au.un{t':Nat}(I:au X pins σ H s)(u:Un X.fs [] H H' s.heap h')(hok:kY X.prog X.w H' h'):au X pins σ H' {s with heap:=h',toks:=t'}:=by
  obtain⟨m,⟨o,es,ep,ho,r⟩,_⟩:=id I.loc
  obtain⟨sl,hL⟩:=u.any ho I.free (by simp)
  exact I.step (g':=s.gens) (d':=s.drawn) (ch:=[]) (fun _ z=>nomatch z) (fun b o _ hb _ e n=>u.keep b o e n hb (by simp)) (fun b o _ hb _ e n=>u.slot b o e n hb (by simp)) (fun b o _ e n=>u.free b o e n (by simp)) (fun b o _ e=>u.there b o e (by simp)) u.tups u.frzs u.tbls (fun m' hm=>by
    obtain⟨o',es',ep',ho',r'⟩:=hm
    rw [ho] at ho';cases ho'
    exact⟨_,es',ep',hL,r'⟩) hok I.bare
theorem au.call{g':Array GenState}{t':Nat}{d':Drawn}{ch:List Addr}(I:au X pins σ H s)(u:Un (uk X.stack) ch H H' s.heap h')(hok:kY X.prog X.w H' h')(hg:AllBare g')
    (hch:∀b∈ch,(b∈X.ex∨X.s₀.heap.objs.size≤b)∧b≠X.env.locals∧(∀x c,X.env.cells.lookup x=some c→c≠b)∧∀p∈X.pn++pins,p.1≠b):
    au X pins σ H' {s with heap:=h',gens:=g',drawn:=d',toks:=t'}:=by
  obtain⟨m,⟨o,es,ep,ho,r⟩,_⟩:=id I.loc
  obtain⟨sl,hL⟩:=u.any ho I.free fun z=>(hch _ z).2.1 rfl
  exact I.step (ch:=ch) hch (fun b o hL hb hc e n=>u.keep b o e n (fun z=>(List.mem_cons.mp (I.stkSub b z)).elim hL hb) hc) (fun b o _ _ hc e n=>u.any e n hc) (fun b o hc e n=>u.free b o e n hc) (fun b o hc e=>u.there b o e hc) u.tups u.frzs u.tbls (fun m' hm=>by
    obtain⟨o',es',ep',ho',r'⟩:=hm
    rw [ho] at ho';cases ho'
    exact⟨_,es',ep',hL,r'⟩) hok hg
theorem au.turned{t':Nat}{it:Addr}(I:au X pins σ H s)(k:∀b o,b≠it→s.heap.get? b=some o→h'.get? b=some o)(hn:H it=none)(hL:it≠X.env.locals)
    (h1:it∈X.ex∨X.s₀.heap.objs.size≤it)(h2:∀x c,X.env.cells.lookup x=some c→c≠it)(h3:∀p∈X.pn++pins,p.1≠it):au X pins σ H {s with heap:=h',toks:=t'}:=by
  have nit:∀b u,H b=some u→b≠it:=fun b u e z=>by rw [z,hn] at e;cases e
  refine I.step (g':=s.gens) (d':=s.drawn) (ch:=[it]) (fun b hb=>?_) (fun b o _ _ hc e _=>k b o (fun z=>hc (by simp [z])) e) (fun b o _ _ hc e _=>⟨o.slots,k b o (fun z=>hc (by simp [z])) e⟩) (fun _ _ _ _ n=>n)
    (fun b o hc e=>⟨o,k b o (fun z=>hc (by simp [z])) e⟩) (fun _ _ e=>e) (fun _ _ _ e=>e) (fun b ps e=>⟨#[],by rw [e];simp⟩) (fun m hm=>?_) (fun b u e=>?_) I.bare
  · have e:b=it:=by simpa using hb
    subst e
    exact⟨h1,hL,h2,h3⟩
  · obtain⟨o,es,ep,ho,r⟩:=hm
    exact⟨o,es,ep,k _ o (Ne.symm hL) ho,r⟩
  · refine(I.hok b u e).stay (fun c v hc q=>k c v ?_ q) (fun _ q=>q) fun _ _ q=>q
    rcases hc with z | z
    · rw [z];exact nit b u e
    · exact nit c _ z
theorem au.tok(I:au X pins σ H s)(t:Nat):au X pins σ H {s with toks:=t}:=I.un (h':=s.heap) (t':=t) Un.refl I.hok
theorem au.kept{t':Nat}(I:au X pins σ H s)(k:∀b u,s.heap.get? b=some u→h'.get? b=some u):au X pins σ H {s with heap:=h',toks:=t'}:=I.un (Un.kept k) (I.hok.kept k)
theorem au.laid{a:Addr}{o:HO}{t':Nat}(I:au X pins σ H s)(k:∀b u,s.heap.get? b=some u→h'.get? b=some u)(hp:s.heap.objs.size≤a)(new:eu X.prog X.w (aM H a o) h' a o):
    au X pins σ (aM H a o) {s with heap:=h',toks:=t'}:=I.un (Un.laid k hp (I.hok.fresh hp)) (I.hok.laid k hp new)
theorem au.write{x e:Addr}{o:HO}{t':Nat}(I:au X pins σ H s)(mu:Dm (H x))(he:e=x∨H e=some (.own x))(k:∀b u,b≠e→s.heap.get? b=some u→h'.get? b=some u)(heo:∃u,h'.get? e=some u)
    (new:eu X.prog X.w (aM H x o) h' x o):au X pins σ (aM H x o) {s with heap:=h',toks:=t'}:=I.un (Un.write mu he k heo) (I.hok.write mu he k heo new)
theorem au.pins_of{pins':List (Addr × Obj)}(I:au X pins σ H s)(h:∀p∈pins',s.heap.get? p.1=some p.2∧H p.1=none∧p.1≠X.env.locals∧p.1∉X.fs∧∀v,p.2.data≠.cell v):au X pins' σ H s:=
  ⟨I.ok,I.os,I.bare,I.base,I.loc,I.cell,I.free,I.freeC,fun p hp=>(List.mem_append.mp hp).elim (fun z=>I.pin p (List.mem_append_left _ z)) (h p),I.hok,I.len⟩
theorem pd{N:List Str}(hN:N.Nodup){i j:Nat}{x:Str}(a:N[i]?=some x)(b:N[j]?=some x):i=j:=by
  obtain⟨h1,e1⟩:=List.getElem?_eq_some_iff.mp a
  obtain⟨h2,e2⟩:=List.getElem?_eq_some_iff.mp b
  exact(List.getElem_inj hN).mp (e1.trans e2.symm)
theorem jX{M:Model}{A:Around}{E:Value→Shared→Prop}{i:Nat}{x:Str}{v:V}{u:Value}{Q:Unit→Shared→Prop}(I:au X pins σ H s)(hN:X.N.Nodup)(hi:X.N[i]?=some x)(hx:By X.env.scope x)(r:bF v u)
    (h:∀s',au X pins (σ.set i (some v)) H s'→(∃a,Heap.SameBut a s.heap s'.heap∧(a=X.env.locals∨X.env.cells.lookup x=some a))→Q () s')(hf:X.fn x=true∨X.env.scope.names.lookup x=some .local:=by first | exact .inl rfl | exact .inr rfl | assumption):wpAny M A (storeName X.env x u) Q E s:=by
  obtain⟨m,hn,hl⟩:=id I.loc
  have hcls:(X.env.scope.kind==.class || (X.env.scope.kind==.module&&X.env.locals != X.env.globals))=false:=by rw [I.ok.kind];rfl
  have hiσ:i < σ.length:=by rw [I.len];exact(List.getElem?_eq_some_iff.mp hi).1
  have cne:=I.cne
  have tracked:∀{a:Addr} {h':Heap},(∃o,s.heap.get? a=some o∧H a=none)→Heap.SameBut a s.heap h'→kY X.prog X.w H h':=fun{a h'} ha hs b ob e=>by
    obtain⟨_,_,hfree⟩:=ha
    refine(I.hok b ob e).stay (fun c w' hc q=>(hs.2 c ?_).trans q) (fun _ q=>q) fun _ _ q=>q
    rintro rfl
    rcases hc with rfl | hc
    · rw [hfree] at e;cases e
    · rw [hfree] at hc;cases hc
  rcases hx with hk | hk
  · refine wpAny_storeName_local hk hn (fun h' hn' hs=>?_) hcls
    obtain⟨oL,_,_,hoL,_⟩:=id hn
    refine h _ ⟨I.ok,I.os,I.bare,⟨fun b o e n hb hx=>?_,fun b o e n hb hx=>?_,I.base.free,fun b o e hx=>?_,I.base.tups,I.base.frzs,I.base.tbls⟩,⟨_,hn',fun j y v' e1 e2 e3=>?_⟩,fun y c e=>?_,I.free,I.freeC,fun p hp=>?_,tracked ⟨oL,hoL,I.free⟩ hs,by simpa using I.len⟩ ⟨_,hs,.inl rfl⟩
    · exact(hs.2 b (Nat.ne_of_lt (Nat.lt_of_lt_of_le (Heap.lt_size e) I.ok.above))).trans (I.base.keep b o e n hb hx)
    · obtain⟨sl,e1⟩:=I.base.slot b o e n hb hx
      exact⟨sl,(hs.2 b (Nat.ne_of_lt (Nat.lt_of_lt_of_le (Heap.lt_size e) I.ok.above))).trans e1⟩
    · obtain⟨o',e1⟩:=I.base.there b o e hx
      exact⟨o',(hs.2 b (Nat.ne_of_lt (Nat.lt_of_lt_of_le (Heap.lt_size e) I.ok.above))).trans e1⟩
    · by_cases hj:j=i
      · subst hj
        rw [hi] at e1;cases e1
        rw [List.getElem?_set_self hiσ] at e2
        cases e2
        exact⟨u,r,.inl ⟨hk,by simp⟩⟩
      · rw [List.getElem?_set_ne (Ne.symm hj)] at e2
        obtain⟨u',r',q⟩:=hl j y v' e1 e2 e3
        refine⟨u',r',?_⟩
        rcases q with ⟨k,e⟩ | ⟨k,c,e,z⟩
        · refine .inl ⟨k,?_⟩
          have:y≠x:=fun e=>hj (pd hN e1 (e ▸ hi))
          simp [this,e]
        · exact .inr ⟨k,c,e,z.sameBut hs (cne y c e)⟩
    · obtain⟨w',z⟩:=I.cell y c e
      exact⟨w',z.sameBut hs (cne y c e)⟩
    · obtain⟨e,n,ne,nf,d⟩:=I.pin p hp
      exact⟨(hs.2 p.1 ne).trans e,n,ne,nf,d⟩
  · have hfn:X.fn x=true:=by
      rcases hf with z | z
      · exact z
      · rw [z] at hk;cases hk
    obtain⟨c,hc⟩:=I.ok.has x (.inl hk)
    obtain⟨w',z⟩:=I.cell x c hc
    refine wpAny_storeName_cell I.ok.kind hk hc z (fun h' hc' hs=>?_)
    obtain⟨oc,hoc,hocd⟩:=id z
    refine h {s with heap:=h'} ⟨I.ok,I.os,I.bare,⟨fun b o e n hb hx=>?_,fun b o e n hb hx=>?_,I.base.free,fun b o e hx=>?_,I.base.tups,I.base.frzs,I.base.tbls⟩,⟨m,hn.sameBut hs (Ne.symm (cne x c hc)),fun j y v' e1 e2 e3=>?_⟩,fun y c' e=>?_,I.free,I.freeC,fun p hp=>?_,tracked ⟨oc,hoc,I.freeC x c hc⟩ hs,by simpa using I.len⟩ ⟨c,hs,.inr hc⟩
    · exact(hs.2 b (Nat.ne_of_lt (Nat.lt_of_lt_of_le (Heap.lt_size e) (I.ok.cab x c hfn hc)))).trans (I.base.keep b o e n hb hx)
    · obtain⟨sl,e1⟩:=I.base.slot b o e n hb hx
      exact⟨sl,(hs.2 b (Nat.ne_of_lt (Nat.lt_of_lt_of_le (Heap.lt_size e) (I.ok.cab x c hfn hc)))).trans e1⟩
    · obtain⟨o',e1⟩:=I.base.there b o e hx
      exact⟨o',(hs.2 b (Nat.ne_of_lt (Nat.lt_of_lt_of_le (Heap.lt_size e) (I.ok.cab x c hfn hc)))).trans e1⟩
    · by_cases hj:j=i
      · subst hj
        rw [hi] at e1;cases e1
        rw [List.getElem?_set_self hiσ] at e2
        cases e2
        exact⟨u,r,.inr ⟨.inl hk,c,hc,hc'⟩⟩
      · rw [List.getElem?_set_ne (Ne.symm hj)] at e2
        obtain⟨u',r',q⟩:=hl j y v' e1 e2 e3
        refine⟨u',r',?_⟩
        rcases q with q | ⟨k,c',e,z'⟩
        · exact .inl q
        · refine .inr ⟨k,c',e,z'.sameBut hs ?_⟩
          rintro rfl
          exact hj (pd hN e1 (I.ok.inj _ _ _ e hc ▸ hi))
    · by_cases hcc:c'=c
      · subst hcc;exact⟨_,hc'⟩
      · obtain⟨w2,z2⟩:=I.cell y c' e
        exact⟨w2,z2.sameBut hs hcc⟩
    · obtain⟨e,n,ne,nf,d⟩:=I.pin p hp
      refine⟨(hs.2 p.1 ?_).trans e,n,ne,nf,d⟩
      intro q
      rw [q,hoc] at e
      have q':oc=p.2:=Option.some.inj e
      exact d w' (by rw [←q'];exact hocd)
theorem jC{M:Model}{A:Around}{E:Value→Shared→Prop}{i:Nat}{x:Str}{v:V}{u:Value}{Q:Unit→Shared→Prop}(I:au X pins σ H s)(hN:X.N.Nodup)(hi:X.N[i]?=some x)(hx:By X.env.scope x)(r:bF v u)
    (h:∀s',au X pins (σ.set i (some v)) H s'→Q () s')(hf:X.fn x=true∨X.env.scope.names.lookup x=some .local:=by first | exact .inl rfl | exact .inr rfl | assumption):wpAny M A (storeName X.env x u) Q E s:=
  jX I hN hi hx r (fun s' I' _=>h s' I') hf
theorem au.call'{s':Shared}{ch:List Addr}(I:au X pins σ H s)(ho:s'.os=s.os)(u:Un (uk X.stack) ch H H' s.heap s'.heap)(hok:kY X.prog X.w H' s'.heap)(hg:AllBare s'.gens)
    (hch:∀b∈ch,(b∈X.ex∨X.s₀.heap.objs.size≤b)∧b≠X.env.locals∧(∀x c,X.env.cells.lookup x=some c→c≠b)∧∀p∈X.pn++pins,p.1≠b):au X pins σ H' s':=by
  obtain⟨h',g',d',t',o'⟩:=s'
  have e:o'=s.os:=ho
  subst e
  exact I.call (g':=g') (t':=t') (d':=d') u hok hg hch
end
abbrev XK:=Value→Option Addr→Hp→Prop
abbrev St:=List (Option V)
abbrev VK:=V→Hp→Prop
abbrev TE:=St→Hp→VK→Prop
abbrev TT:=St→Hp→(Bool→Hp→Prop)→Prop
abbrev TA:=St→Hp→(List V→Hp→Prop)→Prop
structure pT where
  nx:St→Hp→Prop
  rt:VK
  bk:St→Hp→Prop:=fun _ _=>False
  ct:St→Hp→Prop:=fun _ _=>False
abbrev TS:=pT→St→Hp→Prop
def EP(X:Cx)(pins:List (Addr × Obj))(σ:St)(Q:VK)(u:Value)(s':Shared):Prop:=∃v H',au X pins σ H' s'∧bF v u∧Q v H'
def TP(X:Cx)(pins:List (Addr × Obj))(σ:St)(Q:Bool→Hp→Prop)(b:Bool)(s':Shared):Prop:=∃H',au X pins σ H' s'∧Q b H'
def AP(X:Cx)(pins:List (Addr × Obj))(σ:St)(Q:List V→Hp→Prop)(us:List Value)(s':Shared):Prop:=∃vs H',au X pins σ H' s'∧aE vs us∧Q vs H'
def SP(X:Cx)(pins:List (Addr × Obj))(D:pT)(f:Flow)(s':Shared):Prop:=
  match f with
  | .next=>∃σ' H',au X pins σ' H' s'∧D.nx σ' H'
  | .brk=>∃σ' H',au X pins σ' H' s'∧D.bk σ' H'
  | .cont=>∃σ' H',au X pins σ' H' s'∧D.ct σ' H'
  | .ret u=>∃v σ' H',au X pins σ' H' s'∧bF v u∧D.rt v H'
def PE(X:Cx)(e:Expr)(t:TE):Prop:=
  ∀(pins:List (Addr × Obj)) (s:Shared) (σ:St) (H:Hp) (Q:VK),au X pins σ H s→t σ H Q→wpAny (model X.prog X.w) X.A (eval e X.env) (EP X pins σ Q) X.xe s
def PT(X:Cx)(e:Expr)(t:TT):Prop:=
  ∀(pins:List (Addr × Obj)) (s:Shared) (σ:St) (H:Hp) (Q:Bool→Hp→Prop),au X pins σ H s→t σ H Q→wpAny (model X.prog X.w) X.A (isTrue e X.env (eval e X.env)) (TP X pins σ Q) X.xe s
def PW(X:Cx)(e:Expr)(t:TT):Prop:=
  ∀(whole:Sem Value) (pins:List (Addr × Obj)) (s:Shared) (σ:St) (H:Hp) (Q:Bool→Hp→Prop),au X pins σ H s→t σ H Q→wpAny (model X.prog X.w) X.A (isTrue e X.env whole) (TP X pins σ Q) X.xe s
theorem PW.pt{X:Cx}{e:Expr}{t:TT}(h:PW X e t):PT X e t:=h _
def PA(X:Cx)(es:List Expr)(t:TA):Prop:=
  ∀(pos:Pos) (pins:List (Addr × Obj)) (s:Shared) (σ:St) (H:Hp) (Q:List V→Hp→Prop),au X pins σ H s→t σ H Q→wpAny (model X.prog X.w) X.A (spliced (backTo pos (starEach es X.env))) (AP X pins σ Q) X.xe s
def PS(X:Cx)(st:Stmt)(t:TS):Prop:=
  ∀(pins:List (Addr × Obj)) (s:Shared) (σ:St) (H:Hp) (D:pT),au X pins σ H s→t D σ H→wpAny (model X.prog X.w) X.A (exec st X.env) (SP X pins D) X.xe s
def ko(X:Cx)(st:List Stmt)(t:TS):Prop:=
  ∀(pins:List (Addr × Obj)) (s:Shared) (σ:St) (H:Hp) (D:pT),au X pins σ H s→t D σ H→wpAny (model X.prog X.w) X.A (execs st X.env) (SP X pins D) X.xe s
theorem bL{α:Type}{t:Sem α}{Q Q':α→Shared→Prop}{M:Model}{A:Around}{E:Value→Shared→Prop}{s:Shared}(h:wpAny M A t Q E s)(hQ:∀a s,Q a s→Q' a s):wpAny M A t Q' E s:=wpAny_mono h hQ fun _ _ x=>x
end L2
namespace L2
open PySem PySem.Spec PyProof.Rows
section
variable{X:Cx}
def Dc(i:Nat):TE:=fun σ H Q=>∃v,σ[i]?=some (some v)∧Q v H
def tC(v:V):TE:=fun _ H Q=>Q v H
theorem AC{i:Nat}{x:Str}{pos:Pos}(hN:X.N[i]?=some x)(hv:BO X.env.scope x)(hd:(x==("__debug__":Str))=false:=by decide)(hcd:(x==("__classdict__":Str))=false:=by decide):PE X (.Name x pos) (Dc i):=by
  intro pins s σ H Q I h
  obtain⟨v,e,h⟩:=h
  obtain⟨m,hn,hl⟩:=I.loc
  obtain⟨u,r,l⟩:=hl i x v hN e hv
  have fin:EP X pins σ Q u s:=⟨v,H,I,r,h⟩
  rcases l with ⟨hk,hm⟩ | ⟨hk,c,hc,hcell⟩
  · exact wpAny_Name (wpAny_loadName_local I.ok.kind hk hn hm fin) hd
  · rcases hk with hk | hk
    · exact wpAny_Name (wpAny_loadName_cell I.ok.kind hk hc hcell fin) hd
    · exact wpAny_Name (wpAny_loadName_free I.ok.kind hk hc hcell fin hcd) hd
theorem Av{i j pos}:PE X (.Constant (.int i) j pos) (tC (.int i)):=fun _ _ _ H _ I h=>wpAny_Constant_int ⟨.int i,H,I.tok _,⟨_,rfl⟩,h⟩
theorem Cy{b j pos}:PE X (.Constant (.bool b) j pos) (tC (.bl b)):=fun _ _ _ H _ I h=>Constant_bool ⟨.bl b,H,I,rfl,h⟩
theorem Ax{j pos}:PE X (.Constant .none j pos) (tC .non):=fun _ _ _ H _ I h=>Constant_none ⟨.non,H,I,rfl,h⟩
def Gl(X:Cx)(x:Str):Prop:=X.env.kindOf x=some .globalImplicit
theorem xn{E:Value→Shared→Prop}{pins:List (Addr × Obj)}{s:Shared}{σ:St}{H:Hp}{x:Str}{u:Value}{pos:Pos}{Q:Value→Shared→Prop}(I:au X pins σ H s)(hg:Gl X x)(hm:X.mg x=some u)(h:Q u s)
    (hd:(x==("__debug__":Str))=false:=by decide):wpAny (model X.prog X.w) X.A (eval (.Name x pos) X.env) Q E s:=
  Calls.Name_function_global I.ok.kind hg (Calls.loadGlobal_global (by rw [I.ok.glob];exact I.mod.glob.keeps I.bk) hm h) hd
theorem gw{E:Value→Shared→Prop}{pins:List (Addr × Obj)}{s:Shared}{σ:St}{H:Hp}{x:Str}{u:Value}{pos:Pos}{Q:Value→Shared→Prop}(I:au X pins σ H s)(hg:Gl X x)(hm:X.mg x=none)(hv:bootBuiltins x=some u)(h:Q u s)
    (hn:x≠"__name__":=by decide)(hd:(x==("__debug__":Str))=false:=by decide):wpAny (model X.prog X.w) X.A (eval (.Name x pos) X.env) Q E s:=by
  obtain⟨mb,h1,h2⟩:=I.mod.blt
  exact Calls.Name_function_global I.ok.kind hg (Calls.loadGlobal_builtin (by rw [I.ok.glob];exact I.mod.glob.keeps I.bk) hm (by rw [I.ok.blt];exact h1.keeps I.bk) ((h2 x hn).trans hv) h) hd
variable{a b:Expr}{ta tb:TE}{pos:Pos}
def tB(t:TE):TT:=fun σ H Q=>t σ H fun x H1=>∃c,x=.bl c∧Q c H1
theorem AM{e:Expr}{t:TE}(h:PE X e t)(he:∀whole,isTrue e X.env whole=(do let v ←whole;standAt e.pos;holding [v] (truthy v)):=by intro _;rfl):PT X e (tB t):=by
  intro pins s σ H Q I hw
  refine isTrue_plain (bL (h pins s σ H _ I hw) fun v s1 ⟨x,H1,I1,r1,q1⟩=>?_) (he _)
  obtain⟨d,rfl,q⟩:=q1
  cases r1
  exact wpAny_truthy_bool ⟨H1,I1,q⟩
variable{tA tB':TT}{d9:List Expr}
def C3(t u:TT):TT:=fun σ H Q=>t σ H fun c H1=>if c=true then u σ H1 Q else Q false H1
def Ez(t u:TT):TT:=fun σ H Q=>t σ H fun c H1=>if c=true then Q true H1 else u σ H1 Q
def C7(t:TT):TT:=fun σ H Q=>t σ H fun c H1=>Q (!c) H1
theorem yc(ha:PT X a tA):PW X (.BoolOp .And [a] pos) tA:=by
  intro wh pins s σ H Q I h
  refine isTrue_and (bL (ha pins s σ H Q I h) fun c s1 e=>?_)
  cases c with
  | true=>exact isTrue_and_nil e
  | false=>exact e
theorem AO(ha:PT X a tA):PW X (.BoolOp .Or [a] pos) tA:=by
  intro wh pins s σ H Q I h
  refine isTrue_or (bL (ha pins s σ H Q I h) fun c s1 e=>?_)
  cases c with
  | false=>exact isTrue_or_nil e
  | true=>exact e
theorem AN(ha:PT X a tA)(hb:PW X (.BoolOp .And (b::d9) pos) tB'):PW X (.BoolOp .And (a::b::d9) pos) (C3 tA tB'):=by
  intro wh pins s σ H Q I h
  refine isTrue_and (bL (ha pins s σ H _ I h) fun c s1 ⟨H1,I1,q1⟩=>?_)
  cases c with
  | true=>exact hb wh pins s1 σ H1 Q I1 q1
  | false=>exact⟨H1,I1,q1⟩
theorem CH(ha:PT X a tA)(hb:PW X (.BoolOp .Or (b::d9) pos) tB'):PW X (.BoolOp .Or (a::b::d9) pos) (Ez tA tB'):=by
  intro wh pins s σ H Q I h
  refine isTrue_or (bL (ha pins s σ H _ I h) fun c s1 ⟨H1,I1,q1⟩=>?_)
  cases c with
  | true=>exact⟨H1,I1,q1⟩
  | false=>exact hb wh pins s1 σ H1 Q I1 q1
theorem AL(ha:PT X a tA):PT X (.UnaryOp .Not a pos) (C7 tA):=by
  intro pins s σ H Q I h
  exact isTrue_not (ha pins s σ H (fun c H1=>Q (!c) H1) I h)
def C4(ta tb:TE):TE:=fun σ H Q=>ta σ H fun x H1=>∃c,x=.bl c∧if c=true then tb σ H1 Q else Q (.bl false) H1
def D'(ta tb:TE):TE:=fun σ H Q=>ta σ H fun x H1=>∃c,x=.bl c∧if c=true then Q (.bl true) H1 else tb σ H1 Q
def C8(ta:TE):TE:=fun σ H Q=>ta σ H fun x H1=>∃c,x=.bl c∧Q (.bl (!c)) H1
theorem Az{op}{t:TE}(h:PE X a t):PE X (.BoolOp op [a] pos) t:=fun pins s σ H Q I hw=>BoolOp_one (h pins s σ H Q I hw)
theorem Au(ha:PE X a ta)(hb:PE X (.BoolOp .And (b::d9) pos) tb):PE X (.BoolOp .And (a::b::d9) pos) (C4 ta tb):=by
  intro pins s σ H Q I h
  refine BoolOp_and (bL (ha pins s σ H _ I h) fun v s1 ⟨x,H1,I1,r1,q1⟩=>?_)
  obtain⟨c,rfl,q1⟩:=q1
  cases r1
  refine wpAny_truthy_bool ?_
  cases c with
  | true=>exact hb pins s1 σ H1 Q I1 q1
  | false=>exact⟨.bl false,H1,I1,rfl,q1⟩
theorem CC(ha:PE X a ta)(hb:PE X (.BoolOp .Or (b::d9) pos) tb):PE X (.BoolOp .Or (a::b::d9) pos) (D' ta tb):=by
  intro pins s σ H Q I h
  refine BoolOp_or (bL (ha pins s σ H _ I h) fun v s1 ⟨x,H1,I1,r1,q1⟩=>?_)
  obtain⟨c,rfl,q1⟩:=q1
  cases r1
  refine wpAny_truthy_bool ?_
  cases c with
  | false=>exact hb pins s1 σ H1 Q I1 q1
  | true=>exact⟨.bl true,H1,I1,rfl,q1⟩
theorem Ay(ha:PE X a ta):PE X (.UnaryOp .Not a pos) (C8 ta):=by
  intro pins s σ H Q I h
  refine UnaryOp_ (bL (ha pins s σ H _ I h) fun v s1 ⟨x,H1,I1,r1,q1⟩=>?_)
  obtain⟨c,rfl,q1⟩:=q1
  cases r1
  exact not_of (wpAny_truthy_bool ⟨.bl (!c),H1,I1,rfl,q1⟩)
end
end L2
namespace L2
open PySem PySem.Spec PyProof.Rows
def dP(K:PySem.W.Frag)(H:Hp)(a:Addr)(xs:List V):Prop:=
  Rd H a (.lst xs)∨
    ∃(o:Obj) (its:Array Value) (n:Nat),K.lookup a=some o∧o.cls=.type "list"∧o.dict=none∧o.data=.seq its n∧its.size≤sizeLine∧aE xs its.toList
def cc(K:PySem.W.Frag)(H:Hp)(a:Addr)(xs:List V):Prop:=
  Rd H a (.tup xs)∨
    ∃(o:Obj) (its:Array Value) (n:Nat),K.lookup a=some o∧o.cls=.type "tuple"∧o.dict=none∧o.data=.seq its n∧its.size≤sizeLine∧aE xs its.toList
def DG:Value→Option V
  | .none=>some .non
  | .bool b=>some (.bl b)
  | .int i _=>some (.int i)
  | .str x _=>some (.str x)
  | .bytes b _=>some (.byt b)
  | .float b _=>some (.flt b)
  | .ref a=>some (.ref a)
  | .type n=>some (.ty n)
  | _=>none
theorem bF.abs{x:V}{u:Value}(r:bF x u):DG u=some x:=by
  cases x with
  | non=>cases r;rfl
  | bl _=>cases r;rfl
  | int _=>obtain⟨t,rfl⟩:=r;rfl
  | str _=>obtain⟨t,rfl⟩:=r;rfl
  | byt _=>obtain⟨t,rfl⟩:=r;rfl
  | flt _=>obtain⟨t,rfl⟩:=r;rfl
  | ref _=>cases r;rfl
  | ty _=>cases r;rfl
theorem bF.inj{x y:V}{u:Value}(r:bF x u)(q:bF y u):x=y:=Option.some.inj (r.abs.symm.trans q.abs)
theorem aE.inj:∀{xs ys:List V} {us:List Value},aE xs us→aE ys us→xs=ys
  | _,_,_,.nil,.nil=>rfl
  | _,_,_,.cons r t,.cons r' t'=>by rw [r.inj r',aE.inj t t']
section
variable{X:Cx}{pins:List (Addr × Obj)}{σ:St}{H:Hp}{s:Shared}{a:Addr}{xs ys:List V}
theorem dP.of{K:PySem.W.Frag}(h:H a=some (.lst xs)):dP K H a xs:=.inl (.inl h)
theorem cc.of{K:PySem.W.Frag}(h:H a=some (.tup xs)):cc K H a xs:=.inl (.inl h)
theorem au.list(I:au X pins σ H s)(h:dP X.K H a xs):∃its:List Value,aE xs its∧PlainL s.heap a its.toArray∧xs.length≤sizeLine:=by
  rcases h with h | ⟨o,its,n,hk,hc,hd,hs,hz,r⟩
  · obtain⟨z,its,n,r,e⟩:=h.ok I.hok
    exact⟨its,r,⟨_,n,e,rfl,rfl,rfl⟩,z⟩
  · refine⟨its.toList,r,⟨o,n,I.kIn a o hk,hc,hd,by simpa using hs⟩,?_⟩
    have e:=r.length
    simp only [Array.length_toList] at e
    lia
theorem au.tuple(I:au X pins σ H s)(h:cc X.K H a xs):∃its:List Value,aE xs its∧IsTup s.heap a its.toArray∧xs.length≤sizeLine:=by
  rcases h with h | ⟨o,its,n,hk,hc,_,hs,hz,r⟩
  · obtain⟨z,its,r,p⟩:=h.ok I.hok
    exact⟨its,r,p.tup,z⟩
  · refine⟨its.toList,r,⟨o,I.kIn a o hk,hc,n,by simpa using hs⟩,?_⟩
    have e:=r.length
    simp only [Array.length_toList] at e
    lia
theorem au.list_inj(I:au X pins σ H s)(h:dP X.K H a xs)(h':dP X.K H a ys):xs=ys:=by
  obtain⟨its,r,⟨o,n,e,_,_,d⟩,_⟩:=I.list h
  obtain⟨its',r',⟨o',n',e',_,_,d'⟩,_⟩:=I.list h'
  rw [e] at e';cases e'
  rw [d] at d'
  injection d' with d1 _
  have:its=its':=by simpa using congrArg Array.toList d1
  subst this
  exact r.inj r'
theorem au.tuple_inj(I:au X pins σ H s)(h:cc X.K H a xs)(h':cc X.K H a ys):xs=ys:=by
  obtain⟨its,r,⟨o,e,_,n,d⟩,_⟩:=I.tuple h
  obtain⟨its',r',⟨o',e',_,n',d'⟩,_⟩:=I.tuple h'
  rw [e] at e';cases e'
  rw [d] at d'
  injection d' with d1 _
  have:its=its':=by simpa using congrArg Array.toList d1
  subst this
  exact r.inj r'
end
abbrev Cx.wish(X:Cx)(E:Value→Shared→Prop):Cx:={X with xe:=E}
abbrev Cx.nox(X:Cx):Cx:=X.wish fun _ _=>False
theorem Cx.Ok.wish{X:Cx}(ok:X.Ok)(E:Value→Shared→Prop):(X.wish E).Ok:=
  ⟨ok.mod,ok.kind,ok.glob,ok.blt,ok.above,ok.inj,ok.has,ok.cab,ok.hd,ok.frames,ok.stk,ok.exf,ok.bs,ok.bsz,ok.noex,ok.exfs,ok.funs,ok.frf⟩
theorem Cx.Ok.unwish{X:Cx}{E:Value→Shared→Prop}(ok:(X.wish E).Ok):X.Ok:=
  ⟨ok.mod,ok.kind,ok.glob,ok.blt,ok.above,ok.inj,ok.has,ok.cab,ok.hd,ok.frames,ok.stk,ok.exf,ok.bs,ok.bsz,ok.noex,ok.exfs,ok.funs,ok.frf⟩
section
variable{X:Cx}{pins:List (Addr × Obj)}{σ:St}{H:Hp}{s:Shared}{E:Value→Shared→Prop}
theorem au.wish(I:au X pins σ H s)(E:Value→Shared→Prop):au (X.wish E) pins σ H s:=⟨I.ok.wish E,I.os,I.bare,I.base,I.loc,I.cell,I.free,I.freeC,I.pin,I.hok,I.len⟩
theorem au.unwish(I:au (X.wish E) pins σ H s):au X pins σ H s:=⟨I.ok.unwish,I.os,I.bare,I.base,I.loc,I.cell,I.free,I.freeC,I.pin,I.hok,I.len⟩
theorem SP.unwish{D:pT}{f:Flow}{s':Shared}(h:SP (X.wish E) pins D f s'):SP X pins D f s':=by
  cases f with
  | next=>obtain⟨σ',H',I,q⟩:=h;exact⟨σ',H',I.unwish,q⟩
  | brk=>obtain⟨σ',H',I,q⟩:=h;exact⟨σ',H',I.unwish,q⟩
  | cont=>obtain⟨σ',H',I,q⟩:=h;exact⟨σ',H',I.unwish,q⟩
  | ret u=>obtain⟨v,σ',H',I,r,q⟩:=h;exact⟨v,σ',H',I.unwish,r,q⟩
theorem ko.nox{st:List Stmt}{t:TS}(h:ko X.nox st t):ko X st t:=fun pins s σ H D I hw=>
  wpAny_mono (h pins s σ H D (I.wish _) hw) (fun _ _ q=>q.unwish) fun _ _ z=>False.elim z
end
section
variable{X:Cx}{st:Stmt}{d9:List Stmt}{t u:TS}{e:Expr}{te:TE}{pos:Pos}
def C6:TS:=fun D σ H=>D.nx σ H
def Ed(t u:TS):TS:=fun D σ H=>t {D with nx:=u D} σ H
theorem x5:ko X [] C6:=fun _ _ σ H _ I h=>wpAny_execs_nil ⟨σ,H,I,h⟩
theorem vG(h1:PS X st t)(h2:ko X d9 u):ko X (st::d9) (Ed t u):=by
  intro pins s σ H D I h
  refine wpAny_execs_cons (bL (h1 pins s σ H {D with nx:=u D} I h) fun f s1 q=>?_)
  cases f with
  | next=>
    obtain⟨σ',H',I',q⟩:=q
    exact h2 pins s1 σ' H' D I' q
  | ret v=>exact q
  | brk=>exact q
  | cont=>exact q
theorem x6(h1:PS X st t):ko X [st] t:=by
  intro pins s σ H D I h
  refine wpAny_execs_cons (bL (h1 pins s σ H D I h) fun f s1 q=>?_)
  cases f with
  | next=>exact wpAny_execs_nil q
  | ret v=>exact q
  | brk=>exact q
  | cont=>exact q
theorem au.quiet{pins:List (Addr × Obj)}{σ:St}{H:Hp}{s:Shared}(I:au X pins σ H s):interactive X.env=false:=by simp [interactive,I.ok.kind]
def C5(te:TE):TS:=fun D σ H=>te σ H fun _ H1=>D.nx σ H1
theorem x4(he:PE X e te)(hs:swapsWith e none pos.line X.env=pure false:=by rfl):PS X (.Expr e pos) (C5 te):=by
  intro pins s σ H D I h
  exact wpAny_Expr_any (bL (he pins s σ H _ I h) fun v s1 ⟨x,H1,I1,r1,q1⟩=>⟨σ,H1,I1,q1⟩) I.quiet hs
def Ec(te:TE):TS:=fun D σ H=>te σ H D.rt
theorem AJ(he:PE X e te):PS X (.Return (some e) pos) (Ec te):=by
  intro pins s σ H D I h
  exact wpAny_Return_some (bL (he pins s σ H _ I h) fun v s1 ⟨x,H1,I1,r1,q1⟩=>⟨x,σ,H1,I1,r1,q1⟩)
def D9(c:TT)(t u:TS):TS:=fun D σ H=>c σ H fun b H1=>if b=true then t D σ H1 else u D σ H1
theorem CG{c:Expr}{a b:List Stmt}{tc:TT}(hc:PT X c tc)(ha:ko X a t)(hb:ko X b u):PS X (.If c a b pos) (D9 tc t u):=by
  intro pins s σ H D I h
  refine wpAny_If (bL (hc pins s σ H _ I h) fun d s1 ⟨H1,I1,q1⟩=>?_)
  cases d with
  | true=>exact ha pins s1 σ H1 D I1 q1
  | false=>exact hb pins s1 σ H1 D I1 q1
end
abbrev TG:=V→St→Hp→(St→Hp→Prop)→Prop
abbrev wF:=List V→St→Hp→(St→Hp→Prop)→Prop
def PG(X:Cx)(target:Expr)(t:TG):Prop:=
  ∀(pins:List (Addr × Obj)) (s:Shared) (σ:St) (H:Hp) (v:V) (u:Value) (Q:St→Hp→Prop),au X pins σ H s→bF v u→t v σ H Q→
    wpAny (model X.prog X.w) X.A (assign target X.env u) (fun _ s'=>∃σ' H',au X pins σ' H' s'∧Q σ' H') X.xe s
def tu(X:Cx)(ts:List Expr)(t:wF):Prop:=
  ∀(pins:List (Addr × Obj)) (s:Shared) (σ:St) (H:Hp) (vs:List V) (us:List Value) (Q:St→Hp→Prop),au X pins σ H s→aE vs us→t vs σ H Q→
    wpAny (model X.prog X.w) X.A (assignInOrder ((assignEach ts X.env).map (·.2)) us) (fun _ s'=>∃σ' H',au X pins σ' H' s'∧Q σ' H') X.xe s
section
variable{X:Cx}{pos:Pos}
def rC(i:Nat):TG:=fun v σ H Q=>Q (σ.set i (some v)) H
theorem xR{i:Nat}{x:Str}(hN:X.N.Nodup)(hi:X.N[i]?=some x)(hx:By X.env.scope x)(hf:X.fn x=true∨X.env.scope.names.lookup x=some .local:=by first | exact .inl rfl | exact .inr rfl | assumption):PG X (.Name x pos) (rC i):=by
  intro pins s σ H v u Q I r h
  exact wpAny_assign_Name (jC I hN hi hx r (fun s' I'=>⟨_,H,I',h⟩) hf)
def DK:wF:=fun vs σ H Q=>vs=[]∧Q σ H
def B5(t:TG)(u:wF):wF:=fun vs σ H Q=>∃v r,vs=v::r∧t v σ H fun σ' H'=>u r σ' H' Q
theorem xT:tu X [] DK:=by
  intro pins s σ H vs us Q I r h
  obtain⟨e,h⟩:=h
  subst e
  cases r
  exact assignInOrder_nil ⟨σ,H,I,h⟩
theorem vx{e:Expr}{es:List Expr}{t:TG}{u:wF}(h1:PG X e t)(h2:tu X es u)
    (hs:(assignEach (e::es) X.env).map (·.2)=assign e X.env::(assignEach es X.env).map (·.2):=by rfl):tu X (e::es) (B5 t u):=by
  intro pins s σ H vs us Q I r h
  obtain⟨v,vr,e1,h⟩:=h
  subst e1
  cases r with
  | cons r rr=>
    rw [hs]
    refine assignInOrder_cons (bL (h1 pins s σ H _ _ _ I r h) fun _ s1 ⟨σ1,H1,I1,q1⟩=>?_)
    exact h2 pins s1 σ1 H1 _ _ Q I1 rr q1
def uM(K:PySem.W.Frag)(n:Nat)(t:wF):TG:=fun v σ H Q=>∃a xs,v=.ref a∧cc K H a xs∧xs.length=n∧t xs σ H Q
theorem AD{es:List Expr}{k:Nat}{t:wF}{n:Nat}(hc:X.calm=true)(h:tu X es t)
    (hn:(assignEach es X.env).length=n:=by rfl)(hst:(assignEach es X.env).findIdx? (·.1)=none:=by rfl):PG X (.Tuple es k pos) (uM X.K n t):=by
  intro pins s σ H v u Q I r hw
  obtain⟨a,xs,e1,hq,hl,hw⟩:=hw
  subst e1
  cases r
  obtain⟨its,rv,ht,hz⟩:=I.tuple hq
  refine assign_Tuple_tuple (I.ok.hd hc) ht (by simp [hn,←hl,rv.length]) hst fun h' hx=>?_
  have I1:au X pins σ H {s with heap:=h'}:=I.kept (t':=s.toks) fun b o e=>hx b o (Nat.ne_of_lt (Heap.lt_size e)) e
  exact h pins _ σ H xs _ Q I1 (by simpa using rv) hw
def yr(te:TE)(g:TG):TS:=fun D σ H=>te σ H fun x H1=>g x σ H1 D.nx
theorem AG{tg e:Expr}{te:TE}{g:TG}(he:PE X e te)(hg:PG X tg g)(hs:swapsWithSole [tg] e pos.line X.env=pure false:=by rfl)(hw:swappedStores [tg] e X.env=pure none:=by rfl)
    (h1:(assignEach [tg] X.env).map (·.2)=[assign tg X.env]:=by rfl):PS X (.Assign [tg] e pos) (yr te g):=by
  intro pins s σ H D I h
  refine wpAny_Assign_stores (bL (he pins s σ H _ I h) fun v s1 ⟨x,H1,I1,r1,q1⟩=>?_) hs hw
  rw [h1]
  exact bL (hg pins s1 σ H1 x v _ I1 r1 q1) fun _ s2 q=>q
theorem AK{i:Nat}{x:Str}{e:Expr}{te:TE}{pos':Pos}(hN:X.N.Nodup)(hi:X.N[i]?=some x)(hx:By X.env.scope x)(he:PE X e te)(hs:swapsWith e (some (.Name x pos')) pos.line X.env=pure false:=by rfl)(hf:X.fn x=true∨X.env.scope.names.lookup x=some .local:=by first | exact .inl rfl | exact .inr rfl | assumption):
    PS X (.Assign [.Name x pos'] e pos) (yr te (rC i)):=by
  intro pins s σ H D I h
  refine wpAny_Assign_Name (bL (he pins s σ H _ I h) fun v s1 ⟨y,H1,I1,r1,q1⟩=>?_) hs
  exact jC I1 hN hi hx r1 (fun s2 I2=>⟨_,H1,I2,q1⟩) hf
def Eb(i j:Nat)(ta:TA):TS:=fun D σ H=>ta σ H fun vs H1=>∃v w,vs=[v,w]∧D.nx ((σ.set i (some v)).set j (some w)) H1
theorem AI{i j:Nat}{x y:Str}{a b:Expr}{ta:TA}{px py pt:Pos}{kt k2 pt2}(hc:X.calm=true)(hN:X.N.Nodup)(hi:X.N[i]?=some x)(hj:X.N[j]?=some y)(hij:i≠j)
    (hx:X.env.scope.names.lookup x=some .local)(hy:X.env.scope.names.lookup y=some .local)(ha:PA X [a,b] ta)
    (hw:swappedStores [.Tuple [.Name x px,.Name y py] kt pt] (.Tuple [a,b] k2 pt2) X.env=pure (some [x,y]))
    (hs:swapsWithSole [.Tuple [.Name x px,.Name y py] kt pt] (.Tuple [a,b] k2 pt2) pos.line X.env=pure false:=by rfl):
    PS X (.Assign [.Tuple [.Name x px,.Name y py] kt pt] (.Tuple [a,b] k2 pt2) pos) (Eb i j ta):=by
  intro pins s σ H D I h
  rw [exec_Assign_arm]
  refine wpAny_bind (wpAny_standAt ?_)
  rw [hs]
  refine wpAny_bind (wpAny_pure ?_)
  rw [if_neg (by decide)]
  refine wpAny_bind (Tuple_ (bL (ha _ pins s σ H _ I h) fun us s1 ⟨vs,H1,I1,r1,q1⟩=>?_))
  obtain⟨v,w,e1,q1⟩:=q1
  subst e1
  obtain⟨u1,u2,rfl,rv,rw'⟩:∃u1 u2,us=[u1,u2]∧bF v u1∧bF w u2:=by
    cases r1 with
    | cons p q=>
      cases q with
      | cons p' q'=>
        cases q'
        exact⟨_,_,rfl,p,p'⟩
  refine wpAny_newObj_type ?_ (by show 2≤sizeLine;decide)
  have I2:au X pins σ H1 {s1 with heap:=s1.heap.push {cls:=.type "tuple",data:=.seq [u1,u2].toArray}}:=I1.kept (t':=s1.toks) fun b o e=>Heap.get?_push_of_some _ e
  rw [hw]
  refine wpAny_bind (wpAny_pure ?_)
  show wpAny (model X.prog X.w) X.A (do rule "assign.swapped-stores";let items ←unpackItems (.ref s1.heap.objs.size) 2 none;assignInOrder [fun v=>bindName X.env y v,fun v=>bindName X.env x v] items.reverse;pure Flow.next) _ _ _
  refine wpAny_bind (wpAny_rule (wpAny_bind (unpackItems_tuple (items:=#[u1,u2]) (I.ok.hd hc) (IsTup.new s1.heap _) fun h' hx'=>?_)))
  have I3:=I2.kept (h':=h') (t':=s1.toks) fun b o e=>hx' b o (Nat.ne_of_lt (Heap.lt_size e)) e
  show wpAny _ _ (assignInOrder [fun v=>bindName X.env y v,fun v=>bindName X.env x v] [u2,u1] >>= fun _=>pure Flow.next) _ _ _
  refine wpAny_bind (assignInOrder_cons (wpAny_bindName (jC I3 hN hj (.inl hy) rw' (fun s2 I4=>?_) (.inr hy))))
  refine assignInOrder_cons (wpAny_bindName (jC I4 hN hi (.inl hx) rv (fun s3 I5=>assignInOrder_nil (wpAny_pure ?_)) (.inr hx)))
  rw [List.set_comm _ _ (Ne.symm hij)] at I5
  exact⟨_,H1,I5,q1⟩
end
section
variable{X:Cx}{pos:Pos}
def Bi(c:TT)(tb:TS):TS:=fun D σ H=>∃W:Nat→St→Hp→Prop,(∃m,W m σ H)∧∀m σ H,W m σ H→
  c σ H fun b H1=>if b=true then ∃N:St→Hp→Prop,(∀σ' H',N σ' H'→∃m',m' < m∧W m' σ' H')∧tb {D with nx:=N,ct:=N,bk:=D.nx} σ H1 else D.nx σ H1
theorem vF{c:Expr}{body:List Stmt}{tc:TT}{tb:TS}(hp:PassesOwn (model X.prog X.w) X.A X.env X.xe)(hc:PT X c tc)(hb:ko X body tb):PS X (.While c body [] pos) (Bi tc tb):=by
  intro pins s σ H D I h
  obtain⟨W,⟨m0,w0⟩,turn⟩:=h
  refine wpAny_While (codeAny_whileLoop (fun n s'=>∃σ' H',au X pins σ' H' s'∧W n σ' H') ?_ m0 ⟨σ,H,I,w0⟩)
  rintro n s1 ⟨σ1,H1,I1,w1⟩
  refine wpAny_passesOwn hp (bL (hc pins s1 σ1 H1 _ I1 (turn n σ1 H1 w1)) fun b s2 ⟨H2,I2,q2⟩=>?_)
  cases b with
  | true=>
    obtain⟨N,hN,q2⟩:=q2
    rw [if_pos rfl]
    refine wpAny_passesOwn hp (bL (hb pins s2 σ1 H2 _ I2 q2) fun f s3 q3=>?_)
    cases f with
    | next=>
      obtain⟨σ3,H3,I3,n3⟩:=q3
      obtain⟨m',hm,w3⟩:=hN σ3 H3 n3
      exact⟨m',hm,σ3,H3,I3,w3⟩
    | cont=>
      obtain⟨σ3,H3,I3,n3⟩:=q3
      obtain⟨m',hm,w3⟩:=hN σ3 H3 n3
      exact⟨m',hm,σ3,H3,I3,w3⟩
    | brk=>exact q3
    | ret v=>exact q3
  | false=>
    rw [if_neg Bool.false_ne_true]
    exact wpAny_execs_nil ⟨σ1,H2,I2,q2⟩
end
structure It where
  go:Nat→Hp→Prop
  yld:Nat→Hp→V→Hp→Prop
  stop:Nat→Hp→Prop
def eV(X:Cx)(pins:List (Addr × Obj))(H:Hp)(b:Addr):Prop:=
  H b=none∧b≠X.env.locals∧b∉X.fs∧(b∈X.ex∨X.s₀.heap.objs.size≤b)∧(∀x c,X.env.cells.lookup x=some c→c≠b)∧∀p∈X.pn++pins,p.1≠b
theorem au.fpOk{X:Cx}{pins:List (Addr × Obj)}{σ:St}{H H':Hp}{s:Shared}{b:Addr}(I:au X pins σ H s)(hb:s.heap.objs.size≤b)(hn:H' b=none):eV X pins H' b:=by
  refine⟨hn,Nat.ne_of_gt (Nat.lt_of_lt_of_le I.lt hb),I.nofs hb,.inr (Nat.le_trans I.sz hb),fun x c e z=>?_,fun p hp z=>?_⟩
  · obtain⟨v,q⟩:=I.cell x c e
    exact absurd (Nat.lt_of_lt_of_le q.lt (by rw [z];exact hb)) (Nat.lt_irrefl _)
  · exact absurd (Nat.lt_of_lt_of_le (Heap.lt_size (I.pin p hp).1) (by rw [z];exact hb)) (Nat.lt_irrefl _)
structure pX (P:Program) (w:World) (K:PySem.W.Frag) (tg:Expr) (J:It) (fp:List Addr) (it:Addr) (tn:Nat→Heap→Prop):Prop where
  mem:it∈fp
  obj:∀i h,tn i h→∀b∈fp,∃o,h.get? b=some o∧∀v,o.data≠.cell v
  keep:∀i h h',tn i h→(∀b∈fp,∀o,h.get? b=some o→h'.get? b=some o)→tn i h'
  item:∀(X:Cx),X.prog=P→X.w=w→X.K=K→X.calm=true→∀(i:Nat) (pins:List (Addr × Obj)) (s:Shared) (σ:St) (H:Hp) (E:Value→Shared→Prop),au X pins σ H s→(∀b∈fp,eV X pins H b)→tn i s.heap→J.go i H→
    wpAny (model P w) X.A (pyNext (.ref it)) (fun r s1=>∃u,r=some u∧
      wpAny (model P w) X.A (letOwnedTupleGo tg (.ref it) u) (fun _ s2=>∃x H',au X pins σ H' s2∧bF x u∧J.yld i H x H'∧tn (i+1) s2.heap∧∀b∈fp,H' b=none) E s1) E s
  done:∀(X:Cx),X.prog=P→X.w=w→X.K=K→X.calm=true→∀(i:Nat) (pins:List (Addr × Obj)) (s:Shared) (σ:St) (H:Hp) (E:Value→Shared→Prop),au X pins σ H s→(∀b∈fp,eV X pins H b)→tn i s.heap→J.stop i H→
    wpAny (model P w) X.A (pyNext (.ref it)) (fun r s1=>r=none∧au X pins σ H s1) E s
  self:∀(A:Around) (i:Nat) (s:Shared) (Q:Value→Shared→Prop) (E:Value→Shared→Prop),tn i s.heap→Q (.ref it) s→wpAny (model P w) A (pyIter (.ref it)) Q E s
abbrev TI:=St→Hp→(It→Hp→Prop)→Prop
def El(X:Cx)(pins:List (Addr × Obj))(σ:St)(tg:Expr)(R:It→Hp→Prop)(itv:Value)(s2:Shared):Prop:=
  ∃(it:Addr) (fp:List Addr) (tn:Nat→Heap→Prop) (J:It) (H':Hp),itv=.ref it∧au X pins σ H' s2∧pX X.prog X.w X.K tg J fp it tn∧tn 0 s2.heap∧(∀b∈fp,eV X pins H' b)∧R J H'
def PI(X:Cx)(tg iter:Expr)(wi:TI):Prop:=
  ∀(pins:List (Addr × Obj)) (s:Shared) (σ:St) (H:Hp) (R:It→Hp→Prop),au X pins σ H s→wi σ H R→
    wpAny (model X.prog X.w) X.A (eval iter X.env) (fun v s1=>wpAny (model X.prog X.w) X.A (pyIter v) (El X pins σ tg R) X.xe s1) X.xe s
theorem uP{M:Model}{A:Around}{E:Value→Shared→Prop}{s:Shared}{tg:Expr}{it:Addr}{u:Value}{o:Obj}{n:String}{vs:Array Value}{Q:Unit→Shared→Prop}(ho:s.heap.get? it=some o)(hc:o.cls=.type n)(hd:o.data=.fields vs)
    (hn:["enumerate","zip","dict_itemiterator","dict_reverseitemiterator","odict_iterator","itertools.zip_longest","itertools.pairwise"].contains n=false)(hQ:Q () s):wpAny M A (letOwnedTupleGo tg (.ref it) u) Q E s:=by
  unfold letOwnedTupleGo
  cases tg<;>first
    | exact wpAny_pure hQ
    | (cases u<;>first
        | exact wpAny_pure hQ
        | (refine wpAny_bind (wpAny_load ho ?_)
           rw [hc,hd]
           show wpAny M A (if (["enumerate","zip","dict_itemiterator","dict_reverseitemiterator","odict_iterator","itertools.zip_longest","itertools.pairwise"].contains n&&vs[0]?==some (rawInt _))=true then _ else _) Q E s
           rw [if_neg (by intro h;rw [hn,Bool.false_and] at h;cases h)]
           exact wpAny_pure hQ))
def Dx(K:PySem.W.Frag)(a:Addr):It:=
  ⟨fun i H=>∃xs x,dP K H a xs∧xs[i]?=some x,fun i H x H'=>H'=H∧∀xs,dP K H a xs→xs[i]?=some x,fun i H=>∃xs,dP K H a xs∧xs.length≤i⟩
def Dy(K:PySem.W.Frag)(a:Addr):It:=
  ⟨fun i H=>∃xs x,cc K H a xs∧xs[i]?=some x,fun i H x H'=>H'=H∧∀xs,cc K H a xs→xs[i]?=some x,fun i H=>∃xs,cc K H a xs∧xs.length≤i⟩
def Dl(lo:Int)(n:Nat):It:=⟨fun i _=>i < n,fun i H x H'=>H'=H∧x=.int (lo+i),fun i _=>n≤i⟩
theorem s_{P:Program}{w:World}{K:PySem.W.Frag}{tg:Expr}(a it:Addr):pX P w K tg (Dx K a) [it] it (fun i h=>h.IsListIter it a i) where
  mem:=by simp
  obj:=fun i h st b hb=>by
    have e:b=it:=by simpa using hb
    subst e
    obtain⟨o,e,c,d⟩:=st
    exact⟨o,e,fun v z=>by rw [d] at z;cases z⟩
  keep:=fun i h h' st k=>st.at fun o e=>k it (by simp) o e
  item:=by
    intro X hP hw hK hc i pins s σ H E I hf st hg
    subst hP hw hK
    obtain⟨xs,x,hq,hx⟩:=hg
    obtain⟨its,rv,p,hz⟩:=I.list hq
    obtain⟨u,hu,ru⟩:=rv.get hx
    obtain⟨f0,f1,f2,f3,f4,f5⟩:=hf it (by simp)
    refine wpAny_pyNext_list_item st p.isList (x:=u) (by simpa using hu) fun h' st' sb=>?_
    have I1:au X pins σ H {s with heap:=h'}:=I.turned (t':=s.toks) (fun b o hb e=>(sb.2 b hb).trans e) f0 f1 f3 f4 f5
    obtain⟨o,e,c,d⟩:=id st'
    exact⟨u,rfl,uP (s:={s with heap:=h'}) e c d (by decide) ⟨x,H,I1,ru,⟨rfl,fun ys hy=>by rw [I.list_inj hy hq];exact hx⟩,st',fun b hb=>(hf b hb).1⟩⟩
  done:=by
    intro X hP hw hK hc i pins s σ H E I hf st hg
    subst hP hw hK
    obtain⟨xs,hq,hx⟩:=hg
    obtain⟨its,rv,p,hz⟩:=I.list hq
    obtain⟨f0,f1,f2,f3,f4,f5⟩:=hf it (by simp)
    have hl:=rv.length
    exact wpAny_pyNext_list_end (I.ok.hd hc) st p.isList (by simp;lia) fun h' eb=>⟨rfl,I.turned (t':=s.toks) (fun b o hb e=>eb b o hb e) f0 f1 f3 f4 f5⟩
  self:=fun _ _ _ _ _ st h=>wpAny_pyIter_listiter st h
theorem qS{P:Program}{w:World}{K:PySem.W.Frag}{tg:Expr}(a it:Addr):pX P w K tg (Dy K a) [it] it (fun i h=>h.IsTupleIter it a i) where
  mem:=by simp
  obj:=fun i h st b hb=>by
    have e:b=it:=by simpa using hb
    subst e
    obtain⟨o,e,c,d⟩:=st
    exact⟨o,e,fun v z=>by rw [d] at z;cases z⟩
  keep:=fun i h h' st k=>st.at fun o e=>k it (by simp) o e
  item:=by
    intro X hP hw hK hc i pins s σ H E I hf st hg
    subst hP hw hK
    obtain⟨xs,x,hq,hx⟩:=hg
    obtain⟨its,rv,p,hz⟩:=I.tuple hq
    obtain⟨u,hu,ru⟩:=rv.get hx
    obtain⟨f0,f1,f2,f3,f4,f5⟩:=hf it (by simp)
    refine wpAny_pyNext_tuple_item st (show s.heap.IsTuple a its.toArray from p) (x:=u) (by simpa using hu) fun h' st' sb=>?_
    have I1:au X pins σ H {s with heap:=h'}:=I.turned (t':=s.toks) (fun b o hb e=>(sb.2 b hb).trans e) f0 f1 f3 f4 f5
    obtain⟨o,e,c,d⟩:=id st'
    exact⟨u,rfl,uP (s:={s with heap:=h'}) e c d (by decide) ⟨x,H,I1,ru,⟨rfl,fun ys hy=>by rw [I.tuple_inj hy hq];exact hx⟩,st',fun b hb=>(hf b hb).1⟩⟩
  done:=by
    intro X hP hw hK hc i pins s σ H E I hf st hg
    subst hP hw hK
    obtain⟨xs,hq,hx⟩:=hg
    obtain⟨its,rv,p,hz⟩:=I.tuple hq
    obtain⟨f0,f1,f2,f3,f4,f5⟩:=hf it (by simp)
    have hl:=rv.length
    exact wpAny_pyNext_tuple_end (I.ok.hd hc) st (show s.heap.IsTuple a its.toArray from p) (by simp;lia) fun h' eb=>⟨rfl,I.turned (t':=s.toks) (fun b o hb e=>eb b o hb e) f0 f1 f3 f4 f5⟩
  self:=fun _ _ _ _ _ st h=>wpAny_pyIter_tupleiter st h
theorem qR{P:Program}{w:World}{K:PySem.W.Frag}{tg:Expr}(it:Addr)(lo:Int)(n:Nat):pX P w K tg (Dl lo n) [it] it (fun i h=>IsRangeIter h it (lo+(i:Nat)*1) ((n:Int) - (i:Nat)) 1) where
  mem:=by simp
  obj:=fun i h st b hb=>by
    have e:b=it:=by simpa using hb
    subst e
    exact⟨_,st,fun v z=>by
      have z':Data.fields _=Data.cell v:=z
      cases z'⟩
  keep:=fun i h h' st k=>k it (by simp) _ st
  item:=by
    intro X hP hw hK hc i pins s σ H E I hf st hg
    subst hP hw hK
    obtain⟨f0,f1,f2,f3,f4,f5⟩:=hf it (by simp)
    have W:=Walks.range (prog:=X.prog) (w:=X.w) (I.ok.hd hc) it lo 1 n
    refine W.item i s _ _ hg st fun v h' tk hv st' kk=>?_
    obtain⟨t,rfl⟩:=hv
    have I1:au X pins σ H {s with heap:=h',toks:=tk}:=I.turned (fun b o hb e=>kk b o (by simpa using hb) e) f0 f1 f3 f4 f5
    refine⟨_,rfl,uP (s:={s with heap:=h',toks:=tk}) (n:="range_iterator") st' rfl rfl (by decide) ⟨.int (lo+i),H,I1,⟨t,?_⟩,⟨rfl,rfl⟩,st',fun b hb=>(hf b hb).1⟩⟩
    rw [Int.mul_one]
  done:=by
    intro X hP hw hK hc i pins s σ H E I hf st hg
    subst hP hw hK
    obtain⟨f0,f1,f2,f3,f4,f5⟩:=hf it (by simp)
    exact wpAny_pyNext_range_end (I.ok.hd hc) st (by have:n≤i:=hg;lia) fun h' eb=>⟨rfl,I.turned (t':=s.toks) (fun b o hb e=>eb b o hb e) f0 f1 f3 f4 f5⟩
  self:=fun _ _ _ _ _ st h=>wpAny_pyIter_rangeiter st h
end L2
namespace L2
open PySem PySem.Spec PyProof.Rows
section
variable{X:Cx}{tg:Expr}
def y4(K:PySem.W.Frag)(tl:TE):TI:=fun σ H R=>tl σ H fun x H1=>∃a,x=.ref a∧(∃xs,dP K H1 a xs)∧R (Dx K a) H1
def B9(K:PySem.W.Frag)(tl:TE):TI:=fun σ H R=>tl σ H fun x H1=>∃a,x=.ref a∧(∃xs,cc K H1 a xs)∧R (Dy K a) H1
theorem xU{l:Expr}{tl:TE}(hl:PE X l tl):PI X tg l (y4 X.K tl):=by
  intro pins s σ H R I h
  refine bL (hl pins s σ H _ I h) fun v s1 ⟨x,H1,I1,r1,q1⟩=>?_
  obtain⟨a,e,⟨xs,hq⟩,q⟩:=q1
  subst e
  cases r1
  obtain⟨its,rv,p,hz⟩:=I1.list hq
  refine wpAny_pyIter_list p.isList ?_
  refine⟨s1.heap.objs.size,[s1.heap.objs.size],_,_,H1,rfl,I1.kept (t':=s1.toks) fun b o e=>Heap.get?_push_of_some _ e,s_ a _,⟨_,Heap.get?_push_size _ rfl,rfl,rfl⟩,fun b hb=>?_,q⟩
  have e:b=s1.heap.objs.size:=by simpa using hb
  subst e
  exact I1.fpOk (Nat.le_refl _) (I1.hok.fresh (Nat.le_refl _))
theorem AE{l:Expr}{tl:TE}(hl:PE X l tl):PI X tg l (B9 X.K tl):=by
  intro pins s σ H R I h
  refine bL (hl pins s σ H _ I h) fun v s1 ⟨x,H1,I1,r1,q1⟩=>?_
  obtain⟨a,e,⟨xs,hq⟩,q⟩:=q1
  subst e
  cases r1
  obtain⟨its,rv,p,hz⟩:=I1.tuple hq
  refine wpAny_pyIter_tuple (show s1.heap.IsTuple a its.toArray from p) ?_
  refine⟨s1.heap.objs.size,[s1.heap.objs.size],_,_,H1,rfl,I1.kept (t':=s1.toks) fun b o e=>Heap.get?_push_of_some _ e,qS a _,⟨_,Heap.get?_push_size _ rfl,rfl,rfl⟩,fun b hb=>?_,q⟩
  have e:b=s1.heap.objs.size:=by simpa using hb
  subst e
  exact I1.fpOk (Nat.le_refl _) (I1.hok.fresh (Nat.le_refl _))
theorem vP{pins:List (Addr × Obj)}{σ:St}{H:Hp}{s:Shared}{R:It→Hp→Prop}{E:Value→Shared→Prop}{lo hi:Int}{t u v:Tok}{tk:Nat}(I:au X pins σ H s)(h1: -(2 ^ 62)≤lo)(h2:lo < 2 ^ 62)(h3: -(2 ^ 62)≤hi)(h4:hi < 2 ^ 62)
    (q:R (Dl lo (hi - lo).toNat) H):wpAny (model X.prog X.w) X.A (pyIter (.ref s.heap.objs.size)) (El X pins σ tg R) E {s with heap:=s.heap.push {cls:=.type "range",data:=.fields #[.int lo t,.int hi u,.int 1 v]},toks:=tk}:=by
  refine wpAny_pyIter_range (IsRange.new ..) (small_one h1 h2 h3 h4) ?_
  have I1:au X pins σ H {s with heap:=s.heap.push {cls:=.type "range",data:=.fields #[.int lo t,.int hi u,.int 1 v]},toks:=tk}:=I.kept fun b o e=>Heap.get?_push_of_some _ e
  refine⟨(s.heap.push {cls:=.type "range",data:=.fields #[.int lo t,.int hi u,.int 1 v]}).objs.size,[(s.heap.push {cls:=.type "range",data:=.fields #[.int lo t,.int hi u,.int 1 v]}).objs.size],_,_,H,rfl,
    I1.kept (t':=tk) fun b o e=>Heap.get?_push_of_some _ e,qR _ lo (hi - lo).toNat,?_,fun b hb=>?_,q⟩
  · have e1:lo+((0:Nat):Int)*1=lo:=by simp
    have e2:(((hi - lo).toNat:Nat):Int) - ((0:Nat):Int)=Builtin.Range.rangeSize lo hi 1:=by rw [rangeSize_one];split<;>lia
    show IsRangeIter _ _ (lo+((0:Nat):Int)*1) ((((hi - lo).toNat:Nat):Int) - ((0:Nat):Int)) 1
    rw [e1,e2]
    exact Heap.get?_push_size _ rfl
  · have e:b=(s.heap.push {cls:=.type "range",data:=.fields #[.int lo t,.int hi u,.int 1 v]}).objs.size:=by simpa using hb
    subst e
    exact I1.fpOk (Nat.le_refl _) (I1.hok.fresh (Nat.le_refl _))
def B8(ta:TA):TI:=fun σ H R=>ta σ H fun vs H1=>∃j:Int,vs=[.int j]∧ -(2 ^ 62)≤j∧j < 2 ^ 62∧R (Dl 0 j.toNat) H1
theorem sP{a:Expr}{ta:TA}{p pos:Pos}(hg:Gl X "range")(hm:X.mg "range"=none)(ha:PA X [a] ta)(hs:starEach [a] X.env=[(false,eval a X.env)]:=by rfl):PI X tg (.Call (.Name "range" p) [a] [] pos) (B8 ta):=by
  intro pins s σ H R I h
  refine Call_ (gw I hg hm boot_range (PyProof.Rows.callWith_type1 (bL (ha pos pins s σ H _ I h) fun us s1 ⟨vs,H1,I1,r1,q1⟩=>?_) hs rfl))
  obtain⟨j,e,q1,q2,q⟩:=q1
  subst e
  cases r1 with
  | cons r rr=>
    cases rr
    obtain⟨t,rfl⟩:=r
    exact call_range_1 (vP I1 (by lia) (by lia) q1 q2 (by simpa using q))
def D8(wi:TI)(g:TG)(tb:TS):TS:=fun D σ H=>wi σ H fun J H1=>∃W:Nat→Nat→St→Hp→Prop,(∃m,W 0 m σ H1)∧∀i m σ H,W i m σ H→
  (J.stop i H∧D.nx σ H)∨(J.go i H∧∃N:St→Hp→Prop,(∀σ' H',N σ' H'→∃m',m' < m∧W (i+1) m' σ' H')∧∀x H',J.yld i H x H'→g x σ H' fun σ2 H2=>tb {D with nx:=N,ct:=N,bk:=D.nx} σ2 H2)
def hG(fp:List Addr)(h:Heap):List (Addr × Obj):=fp.filterMap fun b=>(h.get? b).map fun o=>(b,o)
theorem bG{fp:List Addr}{h:Heap}{b:Addr}{o:Obj}(hb:b∈fp)(e:h.get? b=some o):(b,o)∈hG fp h:=List.mem_filterMap.mpr ⟨b,hb,by rw [e];rfl⟩
theorem sG{fp:List Addr}{h:Heap}{p:Addr × Obj}(hp:p∈hG fp h):p.1∈fp∧h.get? p.1=some p.2:=by
  obtain⟨b,hb,e⟩:=List.mem_filterMap.mp hp
  cases q:h.get? b with
  | none=>rw [q] at e;cases e
  | some o=>
    rw [q] at e
    have e':(b,o)=p:=Option.some.inj e
    subst e'
    exact⟨hb,q⟩
theorem au.pinned{pins:List (Addr × Obj)}{σ:St}{H:Hp}{s:Shared}{fp:List Addr}(I:au X pins σ H s)(hf:∀b∈fp,eV X pins H b)(ho:∀b∈fp,∃o,s.heap.get? b=some o∧∀v,o.data≠.cell v):au X (pins++hG fp s.heap) σ H s:=
  I.pins_of fun p hp=>(List.mem_append.mp hp).elim (fun z=>I.pin p (List.mem_append_right _ z)) fun z=>by
    obtain⟨hb,e⟩:=sG z
    obtain⟨f0,f1,f2,_⟩:=hf p.1 hb
    obtain⟨o,e',d⟩:=ho p.1 hb
    rw [e] at e';cases e'
    exact⟨e,f0,f1,f2,d⟩
theorem au.unpinned{pins pl:List (Addr × Obj)}{σ:St}{H:Hp}{s:Shared}(I:au X (pins++pl) σ H s):au X pins σ H s:=I.pins_of fun p hp=>I.pin p (List.mem_append_right _ (List.mem_append_left _ hp))
theorem AH{iter:Expr}{body:List Stmt}{wi:TI}{g:TG}{tb:TS}{pos:Pos}(hp:PassesOwn (model X.prog X.w) X.A X.env X.xe)(hc:X.calm=true)(hi:PI X tg iter wi)(hg:PG X tg g)(hb:ko X body tb)
    (hs:∀x,foldedSetIterable iter X.env x=pure x:=by intro _;rfl):PS X (.For tg iter body [] pos) (D8 wi g tb):=by
  intro pins s σ H D I h
  refine wpAny_For (bL (hi pins s σ H _ I h) fun v s1 h1=>bL h1 fun itv s2 h2=>?_) hs
  obtain⟨it,fp,tn,J,H2,e,I2,T,st2,f2,W,⟨m0,w0⟩,turn⟩:=h2
  subst e
  have stat:∀{H':Hp},(∀b∈fp,H' b=none)→∀b∈fp,eV X pins H' b:=fun hn b hb=>⟨hn b hb,(f2 b hb).2⟩
  refine codeAny_forLoop_any (fun n s'=>∃i σ' H',au X pins σ' H' s'∧tn i s'.heap∧(∀b∈fp,H' b=none)∧W i n σ' H') ?_ m0 ⟨0,σ,H2,I2,st2,fun b hb=>(f2 b hb).1,w0⟩
  rintro n s3 ⟨i,σ3,H3,I3,st3,fr3,w3⟩
  rcases turn i n σ3 H3 w3 with ⟨stop,qn⟩ | ⟨go,N,hN,step⟩
  · refine wpAny_passesOwn hp (bL (T.done X rfl rfl rfl hc i pins s3 σ3 H3 X.xe I3 (stat fr3) st3 stop) fun r s4 ⟨hr,I4⟩=>?_)
    subst hr
    exact wpAny_execs_nil ⟨σ3,H3,I4,qn⟩
  · refine wpAny_passesOwn hp (bL (T.item X rfl rfl rfl hc i pins s3 σ3 H3 X.xe I3 (stat fr3) st3 go) fun r s4 ⟨u,hr,h4⟩=>?_)
    subst hr
    refine wpAny_passesOwn hp (bL h4 fun _ s5 ⟨x,H5,I5,r5,y5,st5,fr5⟩=>?_)
    have I5':=I5.pinned (stat fr5) (T.obj _ _ st5)
    refine wpAny_passesOwn hp (bL (hg _ s5 σ3 H5 x u _ I5' r5 (step x H5 y5)) fun _ s6 ⟨σ6,H6,I6,q6⟩=>?_)
    refine wpAny_passesOwn hp (bL (hb _ s6 σ6 H6 _ I6 q6) fun f s7 q7=>?_)
    have again:∀{σ7:St} {H7:Hp},au X (pins++hG fp s5.heap) σ7 H7 s7→N σ7 H7→∃m,m < n∧∃i σ' H',au X pins σ' H' s7∧tn i s7.heap∧(∀b∈fp,H' b=none)∧W i m σ' H':=fun{σ7 H7} I7 n7=>by
      obtain⟨m',hm,w7⟩:=hN σ7 H7 n7
      refine⟨m',hm,i+1,σ7,H7,I7.unpinned,T.keep _ _ _ st5 fun b hb o e=>(I7.pin (b,o) (List.mem_append_right _ (List.mem_append_right _ (bG hb e)))).1,fun b hb=>?_,w7⟩
      obtain⟨o,e,d⟩:=T.obj _ _ st5 b hb
      exact(I7.pin (b,o) (List.mem_append_right _ (List.mem_append_right _ (bG hb e)))).2.1
    cases f with
    | next=>obtain⟨σ7,H7,I7,n7⟩:=q7;exact again I7 n7
    | cont=>obtain⟨σ7,H7,I7,n7⟩:=q7;exact again I7 n7
    | brk=>obtain⟨σ7,H7,I7,q7⟩:=q7;exact⟨σ7,H7,I7.unpinned,q7⟩
    | ret v=>obtain⟨x7,σ7,H7,I7,r7,q7⟩:=q7;exact⟨x7,σ7,H7,I7.unpinned,r7,q7⟩
end
end L2
namespace L2
open PySem PySem.Spec PyProof.Rows
abbrev R2:=V→V→Hp→VK→Prop
def fm(X:Cx)(f:Value→Value→Sem Value)(r:R2):Prop:=
  ∀(pins:List (Addr × Obj)) (s:Shared) (σ:St) (H:Hp) (x y:V) (v u:Value) (Q:VK),au X pins σ H s→bF x v→bF y u→r x y H Q→
    wpAny (model X.prog X.w) X.A (f v u) (EP X pins σ Q) X.xe s
def Dp(X:Cx)(f:Value→Sem Value)(r:V→Hp→VK→Prop):Prop:=
  ∀(pins:List (Addr × Obj)) (s:Shared) (σ:St) (H:Hp) (x:V) (v:Value) (Q:VK),au X pins σ H s→bF x v→r x H Q→
    wpAny (model X.prog X.w) X.A (f v) (EP X pins σ Q) X.xe s
def ce(X:Cx)(f:Value)(r:List V→Hp→VK→Prop):Prop:=
  ∀(pins:List (Addr × Obj)) (s:Shared) (σ:St) (H:Hp) (xs:List V) (us:List Value) (Q:VK),au X pins σ H s→aE xs us→r xs H Q→
    wpAny (model X.prog X.w) X.A (call f us) (EP X pins σ Q) X.xe s
def C9(r:R2)(ta tb:TE):TE:=fun σ H Q=>ta σ H fun x H1=>tb σ H1 fun y H2=>r x y H2 Q
def EB(r:V→Hp→VK→Prop)(ta:TE):TE:=fun σ H Q=>ta σ H fun x H1=>r x H1 Q
def rI(C:Int→Int→Prop)(g:Int→Int→V):R2:=fun x y H Q=>∃i j,x=.int i∧y=.int j∧C i j∧Q (g i j) H
def sT(g:Int→Int→V):R2:=fun x y H Q=>∃i j,x=.int i∧y=.int j∧Q (g i j) H
def rU(g:Int→V):V→Hp→VK→Prop:=fun x H Q=>∃i,x=.int i∧Q (g i) H
section
variable{X:Cx}{a b c:Expr}{ta tb tc:TE}{pos:Pos}
theorem zw(ha:PE X a ta)(hb:PE X b tb){pins:List (Addr × Obj)}{s:Shared}{σ:St}{H:Hp}{R:V→V→Hp→Prop}(I:au X pins σ H s)
    (h:ta σ H fun x H1=>tb σ H1 fun y H2=>R x y H2){Q:Value→Shared→Prop}{f:Value→Value→Sem Value}
    (hf:∀v u s2 x y H2,au X pins σ H2 s2→bF x v→bF y u→R x y H2→wpAny (model X.prog X.w) X.A (f v u) Q X.xe s2):
    wpAny (model X.prog X.w) X.A (eval a X.env) (fun v s₁=>wpAny (model X.prog X.w) X.A (eval b X.env) (fun u s₂=>wpAny (model X.prog X.w) X.A (f v u) Q X.xe s₂) X.xe s₁) X.xe s:=by
  refine bL (ha pins s σ H _ I h) fun v s1 ⟨x,H1,I1,r1,q1⟩=>?_
  refine bL (hb pins s1 σ H1 _ I1 q1) fun u s2 ⟨y,H2,I2,r2,q2⟩=>?_
  exact hf v u s2 x y H2 I2 r1 r2 q2
theorem CB{op:Operator}{r:R2}(ho:fm X (binaryOp op) r)(ha:PE X a ta)(hb:PE X b tb):PE X (.BinOp a op b pos) (C9 r ta tb):=by
  intro pins s σ H Q I h
  exact wpAny_BinOp (zw ha hb I h fun v u s2 x y H2 I2 rx ry q=>ho pins s2 σ H2 x y v u Q I2 rx ry q)
theorem CD{op:UnaryOp}{r:V→Hp→VK→Prop}(ho:Dp X (unaryOp op) r)(ha:PE X a ta):PE X (.UnaryOp op a pos) (EB r ta):=by
  intro pins s σ H Q I h
  exact UnaryOp_ (bL (ha pins s σ H _ I h) fun v s1 ⟨x,H1,I1,r1,q1⟩=>ho pins s1 σ H1 x v Q I1 r1 q1)
theorem Cr{f:Value→Value→Sem Value}{C:Int→Int→Prop}{g:Int→Int→Int}
    (rule:∀(i j:Int) (t u:Tok) (s:Shared) (Q:Value→Shared→Prop) (E:Value→Shared→Prop),C i j→Q (.int (g i j) s.toks) {s with toks:=s.toks+1}→wpAny (model X.prog X.w) X.A (f (.int i t) (.int j u)) Q E s):
    fm X f (rI C fun i j=>.int (g i j)):=by
  intro pins s σ H x y v u Q I rx ry h
  obtain⟨i,j,rfl,rfl,hc,q⟩:=h
  obtain⟨t,rfl⟩:=rx
  obtain⟨t',rfl⟩:=ry
  exact rule i j t t' s _ _ hc ⟨.int (g i j),H,I.tok _,⟨_,rfl⟩,q⟩
theorem Cs{f:Value→Value→Sem Value}{g:Int→Int→Int}
    (rule:∀(i j:Int) (t u:Tok) (s:Shared) (Q:Value→Shared→Prop) (E:Value→Shared→Prop),Q (.int (g i j) s.toks) {s with toks:=s.toks+1}→wpAny (model X.prog X.w) X.A (f (.int i t) (.int j u)) Q E s):
    fm X f (sT fun i j=>.int (g i j)):=by
  intro pins s σ H x y v u Q I rx ry h
  obtain⟨i,j,rfl,rfl,q⟩:=h
  obtain⟨t,rfl⟩:=rx
  obtain⟨t',rfl⟩:=ry
  exact rule i j t t' s _ _ ⟨.int (g i j),H,I.tok _,⟨_,rfl⟩,q⟩
theorem Ad{f:Value→Value→Sem Value}{g:Int→Int→Bool}
    (rule:∀(i j:Int) (t u:Tok) (s:Shared) (Q:Value→Shared→Prop) (E:Value→Shared→Prop),Q (.bool (g i j)) s→wpAny (model X.prog X.w) X.A (f (.int i t) (.int j u)) Q E s):
    fm X f (sT fun i j=>.bl (g i j)):=by
  intro pins s σ H x y v u Q I rx ry h
  obtain⟨i,j,rfl,rfl,q⟩:=h
  obtain⟨t,rfl⟩:=rx
  obtain⟨t',rfl⟩:=ry
  exact rule i j t t' s _ _ ⟨.bl (g i j),H,I,rfl,q⟩
def zp(i j:Int):Prop:=0≤j∧j≤1000000∧i.natAbs < 2 ^ 64
def wK(i j:Int):Prop:=(-(2 ^ 64) < i∧i < 2 ^ 64)∨(-(2 ^ 64) < j∧j < 2 ^ 64)
theorem wK.ok{i j:Int}(h:wK i j):IntMulOk i j:=by
  rcases h with ⟨h1,h2⟩ | ⟨h1,h2⟩
  · exact .of_left (intBits_le_64 h1 h2)
  · exact .of_right (intBits_le_64 h1 h2)
theorem Ae:fm X (binaryOp .Add) (sT fun i j=>.int (i+j)):=Cs fun _ _ _ _ _ _ _ q=>add_int q
theorem Ar:fm X (binaryOp .Sub) (sT fun i j=>.int (i - j)):=Cs fun _ _ _ _ _ _ _ q=>sub_int q
theorem An:fm X (binaryOp .Mult) (rI wK fun i j=>.int (i*j)):=Cr fun _ _ _ _ _ _ _ hc q=>mul_int q hc.ok
theorem xI:fm X (binaryOp .Mod) (rI (fun _ j=>j≠0) fun i j=>.int (i.fmod j)):=Cr fun _ _ _ _ _ _ _ hc q=>mod_int' hc q
theorem Ap:fm X (binaryOp .Pow) (rI zp fun i j=>.int (i ^ j.toNat)):=Cr fun _ _ _ _ _ _ _ hc q=>pow_int_small hc.1 hc.2.1 hc.2.2 q
theorem E3{f:Value→Sem Value}{g:Int→Int}
    (rule:∀(i:Int) (t:Tok) (s:Shared) (Q:Value→Shared→Prop) (E:Value→Shared→Prop),Q (.int (g i) s.toks) {s with toks:=s.toks+1}→wpAny (model X.prog X.w) X.A (f (.int i t)) Q E s):
    Dp X f (rU fun i=>.int (g i)):=by
  intro pins s σ H x v Q I rx h
  obtain⟨i,rfl,q⟩:=h
  obtain⟨t,rfl⟩:=rx
  exact rule i t s _ _ ⟨.int (g i),H,I.tok _,⟨_,rfl⟩,q⟩
theorem Br:Dp X (unaryOp .USub) (rU fun i=>.int (-i)):=E3 fun _ _ _ _ _ q=>neg_int q
end
section
variable{X:Cx}{a b c:Expr}{ta tb tc:TE}{pos:Pos}
theorem zE{pins:List (Addr × Obj)}{σ:St}{H:Hp}{s:Shared}{Q:VK}{k k':Bool}(I:au X pins σ H s)(q:Q (.bl k) H)(e:k=k'):EP X pins σ Q (.bool k') s:=by
  subst e
  exact⟨.bl k,H,I,rfl,q⟩
theorem Cv:fm X (compareOp .Lt) (sT fun i j=>.bl (decide (i < j))):=Ad fun _ _ _ _ _ _ _ q=>lt_int q
theorem Cu:fm X (compareOp .Gt) (sT fun i j=>.bl (decide (j < i))):=Ad fun _ _ _ _ _ _ _ q=>gt_int q
theorem Ct:fm X (compareOp .GtE) (sT fun i j=>.bl (decide (j≤i))):=Ad fun _ _ _ _ _ _ _ q=>ge_int q
theorem Am:fm X (compareOp .Is) (fun x y H Q=>y=.non∧Q (.bl (decide (x=.non))) H):=by
  intro pins s σ H x y v u Q I rx ry h
  obtain⟨rfl,q⟩:=h
  cases ry
  refine is_none_gen (zE I q ?_)
  cases x<;>first
    | (cases rx;rfl)
    | (obtain⟨t,rfl⟩:=rx;rfl)
theorem fm.or{f:Value→Value→Sem Value}{r r':R2}(h:fm X f r)(h':fm X f r'):fm X f (fun x y H Q=>r x y H Q∨r' x y H Q):=by
  intro pins s σ H x y v u Q I rx ry q
  rcases q with q | q
  · exact h pins s σ H x y v u Q I rx ry q
  · exact h' pins s σ H x y v u Q I rx ry q
theorem a_(b:Expr){op:CmpOp}(h:op≠.In:=by decide)(h2:op≠.NotIn:=by decide):behindInMarks op b=false:=by
  have e1:(op==CmpOp.In)=false:=by cases op<;>first | rfl | exact absurd rfl h
  have e2:(op==CmpOp.NotIn)=false:=by cases op<;>first | rfl | exact absurd rfl h2
  cases b<;>simp [behindInMarks,e1,e2]
theorem xP{op:CmpOp}{r:R2}(ho:fm X (compareOp op) r)(ha:PE X a ta)(hb:PE X b tb)(hm:behindInMarks op b=false):PE X (.Compare a [op] [b] pos) (C9 r ta tb):=by
  intro pins s σ H Q I h
  exact wpAny_Compare1 (zw ha hb I h fun v u s2 x y H2 I2 rx ry q=>ho pins s2 σ H2 x y v u Q I2 rx ry q) hm
def C'(t:TE):TT:=fun σ H Q=>t σ H fun x H'=>∃k,x=.bl k∧Q k H'
theorem x8{op:CmpOp}{r:R2}(ho:fm X (compareOp op) r)(ha:PE X a ta)(hb:PE X b tb)(hm:behindInMarks op b=false):PT X (.Compare a [op] [b] pos) (C' (C9 r ta tb)):=by
  intro pins s σ H Q I h
  refine wpAny_isTrue_Compare1 (bL (ha pins s σ H _ I h) fun v s1 ⟨x,H1,I1,r1,q1⟩=>bL (hb pins s1 σ H1 _ I1 q1) fun u s2 ⟨y,H2,I2,r2,q2⟩=>
    bL (ho pins s2 σ H2 x y v u _ I2 r1 r2 q2) fun c s3 ⟨z,H3,I3,r3,k,e,q3⟩=>?_) hm
  subst e
  cases r3
  exact wpAny_truthy_bool ⟨H3,I3,q3⟩
theorem qu:(sizeLine:Nat) < 2 ^ 63:=by rw [sizeLine_eq];decide
theorem mW{x:V}{us:List Value}(r:aE [x] us):∃u,us=[u]∧bF x u:=by
  cases r with
  | cons r1 r2=>cases r2;exact⟨_,rfl,r1⟩
theorem zm{x y:V}{us:List Value}(r:aE [x,y] us):∃u w',us=[u,w']∧bF x u∧bF y w':=by
  cases r with
  | cons r1 r2=>
    cases r2 with
    | cons r3 r4=>cases r4;exact⟨_,_,rfl,r1,r3⟩
theorem tX:ce X (.builtin "abs") (fun xs H Q=>∃i,xs=[.int i]∧Q (.int (if i < 0 then -i else i)) H):=by
  intro pins s σ H xs us Q I r h
  obtain⟨i,rfl,q⟩:=h
  obtain⟨u,rfl,t,rfl⟩:=mW r
  exact call_abs_int fun u tk=>⟨.int (if i < 0 then -i else i),H,I.tok _,⟨_,rfl⟩,q⟩
theorem r8(hc:X.calm=true):ce X (.builtin "max") (fun xs H Q=>∃i j,xs=[.int i,.int j]∧Q (.int (if j > i then j else i)) H):=by
  intro pins s σ H xs us Q I r h
  obtain⟨i,j,rfl,q⟩:=h
  obtain⟨u,w',rfl,⟨t,rfl⟩,⟨t',rfl⟩⟩:=zm r
  refine max_two_ints (I.ok.hd hc) fun h' tk k=>⟨_,H,I.kept k,?_,q⟩
  by_cases hj:j > i
  · rw [if_pos hj,if_pos hj];exact⟨_,rfl⟩
  · rw [if_neg hj,if_neg hj];exact⟨_,rfl⟩
theorem r9(hc:X.calm=true):ce X (.builtin "min") (fun xs H Q=>∃i j,xs=[.int i,.int j]∧Q (.int (if j < i then j else i)) H):=by
  intro pins s σ H xs us Q I r h
  obtain⟨i,j,rfl,q⟩:=h
  obtain⟨u,w',rfl,⟨t,rfl⟩,⟨t',rfl⟩⟩:=zm r
  refine min_two_ints (I.ok.hd hc) fun h' tk k=>⟨_,H,I.kept k,?_,q⟩
  by_cases hj:j < i
  · rw [if_pos hj,if_pos hj];exact⟨_,rfl⟩
  · rw [if_neg hj,if_neg hj];exact⟨_,rfl⟩
theorem r6:ce X (.type "int") (fun xs H Q=>(∃i,xs=[.int i]∧Q (.int i) H)∨∃k,xs=[.bl k]∧Q (.int (if k then 1 else 0)) H):=by
  intro pins s σ H xs us Q I r h
  rcases h with ⟨i,rfl,q⟩ | ⟨k,rfl,q⟩
  · obtain⟨u,rfl,t,rfl⟩:=mW r
    exact call_int_int ⟨.int i,H,I,⟨_,rfl⟩,q⟩
  · obtain⟨u,rfl,r1⟩:=mW r
    cases r1
    exact call_int_bool ⟨.int (if k then 1 else 0),H,I.tok _,⟨_,rfl⟩,q⟩
end
end L2
namespace L2
open PySem PySem.Spec PyProof.Rows
structure EM (h:Heap) (x dx C:Addr) (mA:Str→Option Value):Prop where
  obj:h.get? x=some (PySem.W.instObj C dx)
  ns:h.Ns1 dx mA
  ne:dx≠x
section
variable{prog:Program}{w:World}{A:Around}{E:Value→Shared→Prop}{s:Shared}{K:PySem.W.Frag}{x dx C f:Addr}{mA:Str→Option Value}{name:Str}{v:Value}
end
section
variable{P:Program}{w:World}{H H':Hp}{h h':Heap}{a C dx:Addr}{fs fs':List (Str × V)}
end
structure EG (K:PySem.W.Frag) (C:Addr):Prop where
  pg:PySem.W.plainGet K C Str.empty=true
  hd:PySem.W.hasDictIn K C=true
  po:PySem.W.plainOver K C=true
  sa:PySem.W.findIn K (.ref C) "__setattr__"=some (some (.builtin "object.__setattr__"))
structure E6 (K:PySem.W.Frag) (C:Addr) (f:Str) (v:V) (u:Value):Prop where
  at_:PySem.W.findIn K (.ref C) f=some (some u)
  rel:bF v u
  get:PySem.W.specialIn K u "__get__"=some none
  cp:PySem.W.copiedNames.contains f=false
structure EL (K:PySem.W.Frag) (C:Addr) (m:Str) (f:Addr):Prop where
  at_:PySem.W.findIn K (.ref C) m=some (some (.ref f))
  fn:PySem.W.isFn K (.ref f)=true
  kp:PySem.W.keepIn K (.ref f)=true
section
variable{X:Cx}{pins:List (Addr × Obj)}{σ:St}{H:Hp}{s:Shared}{a C dx:Addr}{fs:List (Str × V)}{f:Str}{v:V}{A:Around}{E:Value→Shared→Prop}
end
section
variable{X:Cx}{o e value:Expr}{f:Str}{pos pos' tpos:Pos}{ta tv:TE}
end
section
variable{X:Cx}{pins:List (Addr × Obj)}{σ:St}{H:Hp}{s:Shared}{A:Around}{E:Value→Shared→Prop}{Q:Value→Shared→Prop}{c:Value}{b:Bool}
inductive k7 (K:PySem.W.Frag) (H:Hp):V→Value→Prop where
  | non:k7 K H .non (.type "NoneType")
  | bl (x:Bool):k7 K H (.bl x) (.type "bool")
  | int (i:Int):k7 K H (.int i) (.type "int")
  | str (x:Str):k7 K H (.str x) (.type "str")
  | flt (x:UInt64):k7 K H (.flt x) (.type "float")
  | lst {a:Addr} {xs:List V} (e:H a=some (.lst xs)):k7 K H (.ref a) (.type "list")
  | frz {a:Addr} {o:Obj} {xs:List V} (e:H a=some (.frz o (.lst xs))):k7 K H (.ref a) (.type "list")
  | tup {a:Addr} {xs:List V} (e:H a=some (.tup xs)):k7 K H (.ref a) (.type "tuple")
  | dK {a:Addr} {kvs:List (kZ × V)} (e:H a=some (.dK kvs)):k7 K H (.ref a) (.type "dict")
  | dT {a:Addr} {kvs:List (List kZ × V)} (e:H a=some (.dT kvs)):k7 K H (.ref a) (.type "dict")
  | ins {a C dx:Addr} {fs:List (Str × V)} (e:H a=some (.ins C dx fs)) (cl:EG K C) (ha:PySem.W.findIn K (.ref C) "__class__"=some (some (.builtin "object.__class__")))
      (hn:PySem.W.specialIn K (.builtin "object.__class__") "__get__"=some (some (.builtin "getset_descriptor.__get__"))) (htk:PySem.W.takesIn K (.builtin "object.__class__")=some true)
      (hm:PySem.W.mroIn K C (.type "object")=some true):k7 K H (.ref a) (.ref C)
end
end L2
namespace L2
open PySem PySem.Spec PyProof.Rows
structure bW (k:Nat) (A:Around):Prop where
  hd:A.handled=none
  dp:A.depth+3*k+5 < recursionLimit
  un:A.units+16*k+200 < cLine
  gd:A.guards=some []
theorem bW.mono{j k:Nat}{A:Around}(r:bW k A)(h:j≤k):bW j A:=⟨r.hd,by have:=r.dp;lia,by have:=r.un;lia,r.gd⟩
theorem bW.deeper{k:Nat}{A:Around}(r:bW (k+1) A)(env:Env):bW k (A.deeper env):=
  ⟨r.hd,by have:=r.dp;show A.depth+1+3*k+5 < _;lia,by have:=r.un;show A.units+3+16*k+200 < _;lia,r.gd⟩
theorem bW.depth{k:Nat}{A:Around}(r:bW k A):A.depth < recursionLimit:=by have:=r.dp;lia
theorem bW.units{k:Nat}{A:Around}(r:bW k A):A.units+64 < cLine:=by have:=r.un;lia
theorem bW.units0{k:Nat}{A:Around}(r:bW k A):A.units < cLine:=by have:=r.un;lia
def Bh:TA:=fun _ H Q=>Q [] H
def pP(ta:TE)(tr:TA):TA:=fun σ H Q=>ta σ H fun x H1=>tr σ H1 fun xs H2=>Q (x::xs) H2
section
variable{X:Cx}{e:Expr}{es:List Expr}{te:TE}{t:TA}{pos:Pos}
theorem vp:PA X [] Bh:=fun _ _ _ _ H Q I h=>Calls.spliced_nil ⟨[],H,I,.nil,h⟩
theorem nP(ha:PE X e te)(hr:PA X es t)(hs:starEach (e::es) X.env=(false,eval e X.env)::starEach es X.env:=by rfl):PA X (e::es) (pP te t):=by
  intro pos pins s σ H Q I h
  rw [hs]
  show wpAny _ _ (spliced ((false,eval e X.env)::backTo pos (starEach es X.env))) _ _ s
  refine Calls.spliced_cons (bL (ha pins s σ H _ I h) fun u s1 ⟨x,H1,I1,r1,q1⟩=>?_)
  exact bL (hr pos pins s1 σ H1 _ I1 q1) fun us s2 ⟨xs,H2,I2,r2,q2⟩=>⟨x::xs,H2,I2,.cons r1 r2,q2⟩
def Da(t:TA):TE:=fun σ H Q=>t σ H fun xs H1=>xs.length≤sizeLine∧∀p,H1 p=none→Q (.ref p) (aM H1 p (.tup xs))
def D_(t:TA):TE:=fun σ H Q=>t σ H fun xs H1=>xs.length≤sizeLine∧∀p,H1 p=none→Q (.ref p) (aM H1 p (.lst xs))
theorem AB{x1}(h:PA X es t):PE X (.Tuple es x1 pos) (Da t):=by
  intro pins s σ H Q I hq
  refine wpAny_Tuple_spliced (bL (h pos pins s σ H _ I hq) fun us s1 ⟨xs,H1,I1,r,z,q⟩=>⟨by rw [←r.length];exact z,?_⟩)
  have hf:H1 s1.heap.objs.size=none:=I1.hok.fresh (Nat.le_refl _)
  refine⟨.ref s1.heap.objs.size,aM H1 s1.heap.objs.size (.tup xs),I1.laid (t':=s1.toks) (fun b u e=>Heap.get?_push_of_some _ e) (Nat.le_refl _) ?_,rfl,q _ hf⟩
  exact⟨z,us,r,⟨_,Heap.get?_push_size _ rfl,rfl,_,rfl,rfl⟩⟩
theorem Aw(h:PA X es t):PE X (.List es pos) (D_ t):=by
  intro pins s σ H Q I hq
  refine wpAny_List_spliced (bL (h pos pins s σ H _ I hq) fun us s1 ⟨xs,H1,I1,r,z,q⟩=>⟨by rw [←r.length];exact z,?_⟩)
  have hf:H1 s1.heap.objs.size=none:=I1.hok.fresh (Nat.le_refl _)
  refine⟨.ref s1.heap.objs.size,aM H1 s1.heap.objs.size (.lst xs),I1.laid (t':=s1.toks) (fun b u e=>Heap.get?_push_of_some _ e) (Nat.le_refl _) ?_,rfl,q _ hf⟩
  exact⟨z,us,0,r,Heap.get?_push_size _ rfl⟩
end
abbrev Sp:=List V→Hp→VK→XK→Prop
abbrev rZ:=List Env→Hp→Shared→XK→Value→Shared→Prop
structure wL (P:Program) (w:World) (K:PySem.W.Frag) (mg:Str→Option Value) (base:Heap) (A:Around) (outer:List Env) (s:Shared) (H:Hp):Prop where
  frames:A.frames=some outer
  mod:Mod K mg base
  bs:∀b o,base.get? b=some o→s.heap.get? b=some o∧H b=none
  bsz:base.objs.size≤s.heap.objs.size
  funs:s.heap.FunFrames base outer
  frf:∀b∈uk outer,H b=none
  hok:kY P w H s.heap
  bare:AllBare s.gens
def CE(outer:List Env)(P:Program)(w:World)(H:Hp)(s:Shared)(Q:VK)(u:Value)(s':Shared):Prop:=
  ∃v H',s'.os=s.os∧AllBare s'.gens∧Un (uk outer) [] H H' s.heap s'.heap∧kY P w H' s'.heap∧bF v u∧Q v H'
def CR(CX:rZ)(outer:List Env)(P:Program)(w:World)(H:Hp)(s:Shared)(Q:VK)(E:XK)(r:Result)(s':Shared):Prop:=
  match r with
  | .ok (.ret u)=>CE outer P w H s Q u s'
  | .ok _=>False
  | .error e=>CX outer H s E e s'
structure aJ (P:Program) (w:World) (K:PySem.W.Frag) (mg:Str→Option Value) (base:Heap) (CX:rZ) (k:Nat) (f:Addr) (fd:FuncData) (ps:List Str) (sp:Sp):Prop where
  len:∀vs H Q E,sp vs H Q E→vs.length=ps.length
  run:∀(A:Around) (outer:List Env) (s:Shared) (H:Hp) (args:Args) (us:List Value) (vs:List V) (Q:VK) (E:XK),bW k A→wL P w K mg base A outer s H→BindsTo s fd args (ps.zip us)→aE vs us→sp vs H Q E→
    codeAny (model P w) A (.call (.ref f) args) (CR CX outer P w H s Q E) s
section
variable{X:Cx}{pins:List (Addr × Obj)}{σ:St}{H:Hp}{s s':Shared}
theorem au.env0(I:au X pins σ H s):wL X.prog X.w X.K X.mg X.base X.A X.stack s H:=
  ⟨I.ok.frames,I.ok.mod,I.bs,Nat.le_trans I.ok.bsz I.sz,I.stack,I.stkFree,I.hok,I.bare⟩
theorem au.after{Q:VK}{u:Value}(I:au X pins σ H s)(h:CE X.stack X.prog X.w H s Q u s'):EP X pins σ Q u s':=by
  obtain⟨v,H',os,bare,un,hok,r,q⟩:=h
  obtain⟨hh,g,d,t,os'⟩:=s'
  obtain rfl:os'=s.os:=os
  exact⟨v,H',I.call (h':=hh) (g':=g) (d':=d) (t':=t) (ch:=[]) un hok bare (fun b z=>absurd z (by simp)),r,q⟩
end
def we(sp:Sp)(dvs:List V)(E:XK)(t:TA):TE:=fun σ H Q=>t σ H fun vs H1=>sp (vs++dvs) H1 Q E
def mj(K:PySem.W.Frag)(fd:FuncData)(ps:List Str)(ds:List Value):Prop:=
  ∀(s:Shared) (us:List Value),K.In s.heap→(us++ds).length=ps.length→BindsTo s fd ⟨us,[]⟩ (ps.zip (us++ds))
theorem mj.all{K:PySem.W.Frag}{fd:FuncData}{ps:List Str}(h:∀us:List Value,us.length=ps.length→bindArgs fd ⟨us,[]⟩=pure (ps.zip us)):mj K fd ps []:=fun s us _ hl=>by
  rw [List.append_nil] at hl ⊢
  exact .of_eq (h us hl)
def pW(CX:rZ)(X:Cx)(E:XK):Prop:=∀(pins:List (Addr × Obj)) (σ:St) (H:Hp) (s:Shared) (e:Value) (s':Shared),au X pins σ H s→CX X.stack H s E e s'→X.xe e s'
section
variable{X:Cx}{CX:rZ}{k:Nat}{f C:Addr}{fd:FuncData}{ps:List Str}{sp:Sp}{dvs:List V}{ds:List Value}{E:XK}{x m:Str}{p pos apos:Pos}{e o:Expr}{es:List Expr}{ta:TE}{t:TA}
theorem A_{pins:List (Addr × Obj)}{σ:St}{H:Hp}{s:Shared}{Q:VK}{us:List Value}{vs:List V}(F:aJ X.prog X.w X.K X.mg X.base CX k f fd ps sp)(hr:bW k X.A)(hb:mj X.K fd ps ds)(hd:aE dvs ds)(hx:pW CX X E)
    (I:au X pins σ H s)(r:aE vs us)(h:sp (vs++dvs) H Q E):wpAny (model X.prog X.w) X.A (call (.ref f) us) (EP X pins σ Q) X.xe s:=by
  have r2:aE (vs++dvs) (us++ds):=r.append hd
  have hl:(us++ds).length=ps.length:=by rw [←r2.length];exact F.len _ _ _ _ h
  refine wpAny_call (codeAny_mono (F.run X.A X.stack s H ⟨us,[]⟩ (us++ds) (vs++dvs) Q E hr I.env0 (hb s us I.kIn hl) r2 h) fun r s' hq=>?_)
  cases r with
  | error e=>exact hx pins σ H s e s' I hq
  | ok fl=>
    cases fl with
    | ret u=>exact I.after hq
    | next=>exact False.elim hq
    | brk=>exact False.elim hq
    | cont=>exact False.elim hq
theorem xO(F:aJ X.prog X.w X.K X.mg X.base CX k f fd ps sp)(hr:bW k X.A)(hg:Gl X x)(hm:X.mg x=some (.ref f))(hk:PySem.W.keepIn X.K (.ref f)=true)(hb:mj X.K fd ps ds)(hd:aE dvs ds)(hx:pW CX X E)
    (ha:PA X (e::es) t)(hdb:(x==("__debug__":Str))=false:=by decide)(he:starEach (e::es) X.env=(false,eval e X.env)::starEach es X.env:=by rfl)(hpl:(backTo pos (starEach es X.env)).any (·.1)=false:=by rfl):
    PE X (.Call (.Name x p) (e::es) [] pos) (we sp dvs E t):=by
  intro pins s σ H Q I h
  refine wpAny_Call_Name_kw (xn I hg hm ?_ hdb)
  refine PySem.W.callWith_K (h₀:=X.base) I.ok.mod.kin hk (bL (ha pos pins s σ H _ I h) fun us s1 ⟨vs,H1,I1,r,q⟩=>⟨I1.kIn,?_⟩) he hpl
  exact A_ F hr hb hd hx I1 r q
structure Mk (K:PySem.W.Frag) (C f:Addr):Prop where
  makes:PySem.W.makesIn K C=true
  init:PySem.W.findIn K (.ref C) "__init__"=some (some (.ref f))
  fn:PySem.W.isFn K (.ref f)=true
  kp:PySem.W.keepIn K (.ref C)=true
end
section
variable{X:Cx}{CX:rZ}{k:Nat}{f C:Addr}{fd:FuncData}{ps ks:List Str}{sp:Sp}{E:XK}{x m:Str}{p pos apos kpos:Pos}{e o:Expr}{es:List Expr}{kws:List Keyword}{te ta:TE}{t tk:TA}{nm:Option Str}
structure Dz (K:PySem.W.Frag) (fd:FuncData) (ps ks:List Str) (g:List Value→List Value→List Value) (gV:List V→List V→List V):Prop where
  to:∀(s:Shared) (us ws:List Value),K.In s.heap→(g us ws).length=ps.length→BindsTo s fd ⟨us,ks.zip ws⟩ (ps.zip (g us ws))
  rel:∀{vs:List V} {us:List Value} {zs:List V} {ws:List Value},aE vs us→aE zs ws→aE (gV vs zs) (g us ws)
variable{g:List Value→List Value→List Value}{gV:List V→List V→List V}
end
structure aA (N P:List Str) (sc:Scope):Prop where
  kind:sc.kind=.function
  co:sc.isCoroutine=false
  gen:sc.isGenerator=false
  nd:N.Nodup
  pre:N.take P.length=P
  par:∀x∈P,sc.names.lookup x=some .local∨sc.names.lookup x=some .cell
  nofree:∀y∈sc.names,y.2≠.free
theorem mv{kindOf:Str→Option NameKind}{x:Str}:∀{binds:List (Str × Value)} {m:Str→Option Value},(∀v,(x,v)∉binds)→bindL kindOf binds m x=m x
  | [],_,_=>rfl
  | (n,v)::r,m,h=>by
    unfold bindL
    rw [mv fun w hw=>h w (List.mem_cons_of_mem _ hw)]
    split
    · have:x≠n:=by rintro rfl;exact h v List.mem_cons_self
      simp [this]
    · rfl
theorem mr{kindOf:Str→Option NameKind}{x:Str}:∀{binds:List (Str × Value)} {m:Str→Option Value},(∀v,(x,v)∉binds)→bindC kindOf binds m x=m x
  | [],_,_=>rfl
  | (n,v)::r,m,h=>by
    unfold bindC
    rw [mr fun w hw=>h w (List.mem_cons_of_mem _ hw)]
    split
    · rfl
    · have:x≠n:=by rintro rfl;exact h v List.mem_cons_self
      simp [this]
theorem ms{kindOf:Str→Option NameKind}{x:Str}{v:Value}:∀{P:List Str} {vs:List Value} {i:Nat} {m:Str→Option Value},P.Nodup→P[i]?=some x→vs[i]?=some v→kindOf x=some .local→
    bindL kindOf (P.zip vs) m x=some v
  | [],_,_,_,_,h,_,_=>by simp at h
  | _::_,[],_,_,_,_,h,_=>by simp at h
  | p::P,w::vs,0,m,nd,h1,h2,hk=>by
    simp at h1 h2;subst h1;subst h2
    show bindL kindOf ((p,w)::P.zip vs) m p=_
    unfold bindL
    rw [mv fun v hv=>(List.nodup_cons.mp nd).1 (List.of_mem_zip hv).1,if_pos hk]
    simp
  | p::P,w::vs,i+1,m,nd,h1,h2,hk=>by
    show bindL kindOf ((p,w)::P.zip vs) m x=_
    unfold bindL
    exact ms (i:=i) (List.nodup_cons.mp nd).2 (by simpa using h1) (by simpa using h2) hk
theorem mq{kindOf:Str→Option NameKind}{x:Str}{v:Value}:∀{P:List Str} {vs:List Value} {i:Nat} {m:Str→Option Value},P.Nodup→P[i]?=some x→vs[i]?=some v→kindOf x≠some .local→
    bindC kindOf (P.zip vs) m x=some v
  | [],_,_,_,_,h,_,_=>by simp at h
  | _::_,[],_,_,_,_,h,_=>by simp at h
  | p::P,w::vs,0,m,nd,h1,h2,hk=>by
    simp at h1 h2;subst h1;subst h2
    show bindC kindOf ((p,w)::P.zip vs) m p=_
    unfold bindC
    rw [mr fun v hv=>(List.nodup_cons.mp nd).1 (List.of_mem_zip hv).1,if_neg hk]
    simp
  | p::P,w::vs,i+1,m,nd,h1,h2,hk=>by
    show bindC kindOf ((p,w)::P.zip vs) m x=_
    unfold bindC
    exact mq (i:=i) (List.nodup_cons.mp nd).2 (by simpa using h1) (by simpa using h2) hk
def gL(N:List Str)(vs:List V):St:=vs.map some++List.replicate (N.length - vs.length) none
def qd(CX:rZ)(P:Program)(w:World)(K:PySem.W.Frag)(mg:Str→Option Value)(base:Heap)(N:List Str)(qual:Str)(scope:Scope)(f:Addr)(cd:Value)(A:Around)(outer:List Env)(s:Shared)(H:Hp)(E:XK):Cx where
  prog:=P
  w:=w
  K:=K
  mg:=mg
  base:=base
  A:=A.deeper (envOfC qual scope s.heap.objs.size f cd)
  N:=N
  s₀:=s
  H₀:=H
  env:=envOfC qual scope s.heap.objs.size f cd
  outer:=outer
  stack:=envOfC qual scope s.heap.objs.size f cd::outer
  ex:=[]
  calm:=true
  fn:=fun _=>true
  pn:=[]
  xe:=fun e s'=>wpAny (model P w) (A.deeper (envOfC qual scope s.heap.objs.size f cd)) (leaving (envOfC qual scope s.heap.objs.size f cd) e) (fun _ s''=>CX outer H s E e s'') (fun e' s''=>CX outer H s E e' s'') s'
theorem oA{sc:Scope}{n:Nat}{x:Str}(h:sc.names.lookup x=some .cell):∃c,(cellsFrom n sc.names []).lookup x=some c:=by
  have q:=PySem.W.cellsFrom_some sc.names n [] (.inl h)
  exact Option.isSome_iff_exists.mp q
theorem sy{CX:rZ}{P:Program}{w:World}{K:PySem.W.Frag}{mg:Str→Option Value}{base:Heap}{N ps:List Str}{qual:Str}{scope:Scope}{f:Addr}{cd:Value}{A:Around}{outer:List Env}{s s1:Shared}{H:Hp}{E:XK}{us:List Value}{vs:List V}
    (S:aA N ps scope)(hd:A.handled=none)(e0:wL P w K mg base A outer s H)(hl:vs.length=ps.length)(r:aE vs us)
    (x:InCallC s s.heap.objs.size (bindL (envOfC qual scope s.heap.objs.size f cd).kindOf (ps.zip us) fun _=>none) (cellsFrom (s.heap.objs.size+1) scope.names []) (bindC (envOfC qual scope s.heap.objs.size f cd).kindOf (ps.zip us) fun _=>none) s1):
    au (qd CX P w K mg base N qual scope f cd A outer s H E) [] (gL N vs) H s1:=by
  have hpl:ps.length≤N.length:=by have:=congrArg List.length S.pre;rw [List.length_take] at this;lia
  obtain⟨h1,tk,rfl,hk⟩:=x.done
  have noA:∀b:Addr,b∉(qd CX P w K mg base N qual scope f cd A outer s H E).ex:=fun b z=>absurd (show b∈([]:List Addr) from z) (by simp)
  refine⟨⟨e0.mod,S.kind,rfl,rfl,Nat.le_refl _,fun y z c h1 h2=>?_,fun y hy=>?_,fun y c _ h=>?_,fun _=>hd,Around.frames_deeper e0.frames,.inr ⟨rfl,rfl⟩,fun b z=>absurd z (noA b),e0.bs,e0.bsz,fun b _ _=>noA b,fun b z=>absurd z (noA b),e0.funs,e0.frf⟩,
    rfl,e0.bare,Un.kept hk,⟨_,x.toInCall.ns,fun i y v h1 h2 h3=>?_⟩,fun y c h=>⟨_,x.cell y c h⟩,e0.hok.fresh (Nat.le_refl _),fun y c h=>?_,fun p hp=>absurd (show p∈([]:List (Addr × Obj)) from hp) (by simp),e0.hok.kept hk,?_⟩
  · exact name_of_addr x.apart (PySem.mem_of_lookup h1) (PySem.mem_of_lookup h2)
  · have hy:scope.names.lookup y=some .cell∨scope.names.lookup y=some .free:=hy
    rcases hy with hy | hy
    · exact oA hy
    · exact absurd rfl (S.nofree _ (PySem.mem_of_lookup hy))
  · exact Nat.le_of_lt (x.above y c (PySem.mem_of_lookup h))
  · have hi:i < vs.length:=by
      unfold gL at h2
      by_cases hi:i < vs.length
      · exact hi
      · rw [List.getElem?_append_right (by simpa using hi)] at h2
        rw [List.getElem?_replicate] at h2
        split at h2<;>cases h2
    have ha:vs[i]?=some v:=by
      unfold gL at h2
      rw [List.getElem?_append_left (by simpa using hi),List.getElem?_map] at h2
      cases e:vs[i]? with
      | none=>rw [e] at h2;cases h2
      | some a=>rw [e] at h2;cases h2;rfl
    obtain⟨u,hu,rv⟩:=r.get ha
    have hp:ps[i]?=some y:=by
      rw [←S.pre,List.getElem?_take_of_lt (by lia)];exact h1
    have ndP:ps.Nodup:=by rw [←S.pre];exact S.nd.sublist (List.take_sublist _ _)
    refine⟨u,rv,?_⟩
    rcases S.par y (List.mem_of_getElem? hp) with k | k
    · exact .inl ⟨k,ms ndP hp hu k⟩
    · obtain⟨c,e⟩:=oA (n:=s.heap.objs.size+1) k
      refine .inr ⟨.inl k,c,e,?_⟩
      have q:=x.cell y c e
      rw [mq ndP hp hu (by show scope.names.lookup y≠_;rw [k];decide)] at q
      exact q
  · exact e0.hok.fresh (Nat.le_of_lt (x.above y c (PySem.mem_of_lookup h)))
  · unfold gL
    show _=N.length
    rw [List.length_append,List.length_map,List.length_replicate]
    lia
theorem B3{CX:rZ}{P:Program}{w:World}{K:PySem.W.Frag}{mg:Str→Option Value}{base:Heap}{k:Nat}{f:Addr}{name qual:Str}{params:Arguments}{body:List Stmt}{scope:Scope}{dV kV doc pm cdv ct oc:Value}{an od:Option Addr}
    {osl:Array (Option Value)}{N ps:List Str}{sp:Sp}(lk:K.lookup f=some ⟨oc,od,.func (PySem.W.fnOf name qual params body scope dV kV doc pm an cdv ct),osl⟩)(hcd:PySem.W.codeIn K cdv qual=true)(S:aA N ps scope)
    (len:∀vs H Q E,sp vs H Q E→vs.length=ps.length)
    (hbody:∀(A:Around) (outer:List Env) (s:Shared) (H:Hp) (vs:List V) (Q:VK) (E:XK),bW k (A.deeper (envOfC qual scope s.heap.objs.size f cdv))→sp vs H Q E→
      ∃t,ko (qd CX P w K mg base N qual scope f cdv A outer s H E) body t∧t {nx:=fun _ H'=>Q .non H',rt:=Q} (gL N vs) H):
    aJ P w K mg base CX (k+1) f (PySem.W.fnOf name qual params body scope dV kV doc pm an cdv ct) ps sp:=by
  refine⟨len,fun A outer s H args us vs Q E hr e0 hb r hsp=>?_⟩
  have hl:=len _ _ _ _ hsp
  have KX:K.In s.heap:=e0.mod.kin.keeps fun b o e=>(e0.bs b o e).1
  have lim:s.heap.NoLimit:=e0.mod.nolimit.keeps fun b o e=>(e0.bs b o e).1
  have hkind:∀y∈ps.zip us,scope.names.lookup y.1=some .local∨(scope.names.lookup y.1=some .cell∧((cellsFrom (s.heap.objs.size+1) scope.names []).lookup y.1).isSome=true):=fun⟨n,v⟩ hy=>by
    rcases S.par n (List.of_mem_zip hy).1 with q | q
    · exact .inl q
    · exact .inr ⟨q,PySem.W.cellsFrom_some _ _ _ (.inl q)⟩
  refine codeAny_call_function hr.depth (KX _ _ lk) rfl S.co S.gen rfl (PySem.W.codeRec_of KX hcd) (hb _ _ _ _ ?_)
  refine wpAny_newFunctionEnv_cells S.kind hkind fun env he s1 x=>?_
  subst he
  refine⟨lim.keeps x.toInCall.keep,codeAny_func ?_⟩
  obtain⟨t,ht,hq⟩:=hbody A outer s H vs Q E (hr.deeper _) hsp
  have I:au (qd CX P w K mg base N qual scope f cdv A outer s H E) [] (gL N vs) H s1:=sy S hr.hd e0 hl r x
  refine wpAny_mono (ht [] s1 (gL N vs) H _ I hq) (fun fl s' hs=>?_) fun e s' hs=>hs
  have fin:∀{σ':St} {H':Hp} {v:V} {u:Value},au (qd CX P w K mg base N qual scope f cdv A outer s H E) [] σ' H' s'→bF v u→Q v H'→CE outer P w H s Q u s':=
    fun{σ' H' v u} J rv q=>⟨v,H',J.os,J.bare,J.base,J.hok,rv,q⟩
  cases fl with
  | ret u=>
    obtain⟨v,σ',H',J,rv,q⟩:=hs
    exact fin J rv q
  | next=>
    obtain⟨σ',H',J,q⟩:=hs
    exact fin (v:=V.non) (u:=Value.none) J rfl q
  | brk=>
    obtain⟨_,_,_,q⟩:=hs
    exact False.elim q
  | cont=>
    obtain⟨_,_,_,q⟩:=hs
    exact False.elim q
end L2
namespace L2
open PySem PySem.Spec PyProof.Rows
section
variable{X:Cx}{x:Str}{p pos:Pos}{e:Expr}{es:List Expr}{t:TA}{id T:String}{r:List V→Hp→VK→Prop}
def D6(r:List V→Hp→VK→Prop)(t:TA):TE:=fun σ H Q=>t σ H fun vs H1=>r vs H1 Q
theorem pj(hc:ce X (.builtin id) r)(hg:Gl X x)(hm:X.mg x=none)(hv:bootBuiltins x=some (.builtin id))(ha:PA X (e::es) t)(hn:x≠"__name__":=by decide)(hdb:(x==("__debug__":Str))=false:=by decide)
    (he:starEach (e::es) X.env=(false,eval e X.env)::starEach es X.env:=by rfl)(hpl:(backTo pos (starEach es X.env)).any (·.1)=false:=by rfl):PE X (.Call (.Name x p) (e::es) [] pos) (D6 r t):=by
  intro pins s σ H Q I h
  refine wpAny_Call_Name_kw (gw I hg hm hv ?_ hn hdb)
  exact PyProof.Rows.callWith_builtin1 (bL (ha pos pins s σ H _ I h) fun us s1 ⟨vs,H1,I1,r1,q1⟩=>hc pins s1 σ H1 vs us Q I1 r1 q1) he hpl
theorem sO(hc:ce X (.type T) r)(hg:Gl X x)(hm:X.mg x=none)(hv:bootBuiltins x=some (.type T))(ha:PA X (e::es) t)(hn:x≠"__name__":=by decide)(hdb:(x==("__debug__":Str))=false:=by decide)
    (he:starEach (e::es) X.env=(false,eval e X.env)::starEach es X.env:=by rfl)(hpl:(backTo pos (starEach es X.env)).any (·.1)=false:=by rfl):PE X (.Call (.Name x p) (e::es) [] pos) (D6 r t):=by
  intro pins s σ H Q I h
  refine wpAny_Call_Name_kw (gw I hg hm hv ?_ hn hdb)
  exact PyProof.Rows.callWith_type1 (bL (ha pos pins s σ H _ I h) fun us s1 ⟨vs,H1,I1,r1,q1⟩=>hc pins s1 σ H1 vs us Q I1 r1 q1) he hpl
end
end L2
namespace HT
open PySem PyProof.Rows
section
open PySem.SeqAt
open PySem.AutoSeq1 (wpAny_loadPart')
open PySem.MeetsSeq PySem.MeetsSeq2 PySem.MeetsSeq3
end
section
variable{prog:Program}{w:World}{A:Around}{E:Value→Shared→Prop}{s:Shared}
theorem cat_tup{t b:Addr}{vs ws:List Value}{Q:Value→Shared→Prop}(ht:IsTup s.heap t vs.toArray)(hb:IsTup s.heap b ws.toArray)(hv:vs≠[])
    (h1:ws=[]→Q (.ref t) s)(h2:ws≠[]→Q (.ref s.heap.objs.size) {s with heap:=s.heap.push {cls:=.type "tuple",data:=.seq (vs++ws).toArray}})
    (hsz:vs.length+ws.length≤sizeLine):wpAny (model prog w) A (binaryOp .Add (.ref t) (.ref b)) Q E s:=by
  obtain⟨⟨cls,dd,data,sl⟩,ho,hc,n,hd⟩:=id ht
  obtain⟨⟨cls2,dd2,data2,sl2⟩,ho2,hc2,n2,hd2⟩:=id hb
  simp only at hc hd hc2 hd2
  subst hc hd hc2 hd2
  have e:vs.toArray++ws.toArray=(vs++ws).toArray:=by simp
  by_cases hw:ws=[]
  · exact concat_meets ⟨_,ho,rfl⟩ ⟨_,ho2,rfl⟩ noFill_tuple_add seq_tuple_add PySem.F.slot_tuple_add PySem.F.entry_tuple_add (PySem.F.args_tuple_add_2 _ _)
      (tuple_addW1 t b vs.toArray ws.toArray n n2 dd dd2 sl sl2 (by simpa using hv) (by simp [hw])) ⟨ho,ho2,h1 hw⟩
  · refine concat_meets ⟨_,ho,rfl⟩ ⟨_,ho2,rfl⟩ noFill_tuple_add seq_tuple_add PySem.F.slot_tuple_add PySem.F.entry_tuple_add (PySem.F.args_tuple_add_2 _ _)
      (tuple_addW2 t b vs.toArray ws.toArray n n2 dd dd2 sl sl2 (by simpa using hv) (by simpa using hw) (by rw [List.size_toArray,List.size_toArray];exact hsz)) ⟨ho,ho2,?_⟩
    rw [e]
    exact h2 hw
def sIx(n d:Nat):Option Int→Nat
  | none=>d
  | some v=>if v < 0 then(v+(n:Int)).toNat else min v.toNat n
theorem Ba(n d:Nat)(hd:d≤n)(o:Option Int):sIx n d o≤n:=by
  cases o with
  | none=>exact hd
  | some v=>
    show(if v < 0 then(v+(n:Int)).toNat else min v.toNat n)≤n
    by_cases hv:v < 0
    · rw [if_pos hv];lia
    · rw [if_neg hv];exact Nat.min_le_right _ _
theorem q_(v:Int)(n d:Nat):(if v < 0 then max (v+(n:Int)) 0 else min v (n:Int))=((sIx n d (some v):Nat):Int):=by
  show(if v < 0 then max (v+(n:Int)) 0 else min v (n:Int))=(((if v < 0 then(v+(n:Int)).toNat else min v.toNat n):Nat):Int)
  by_cases hv:v < 0
  · simp only [if_pos hv];lia
  · simp only [if_neg hv];lia
theorem pY(lo hi:Option Int)(n:Nat):Builtin.Slice.sliceAdjust lo hi 1 (n:Int)=(((sIx n 0 lo:Nat):Int),((sIx n n hi:Nat):Int)):=by
  have h1:¬((1:Int) < 0):=by lia
  unfold Builtin.Slice.sliceAdjust
  simp only [h1,if_false]
  refine Prod.ext ?_ ?_
  · cases lo with
    | none=>rfl
    | some v=>exact q_ v n 0
  · cases hi with
    | none=>rfl
    | some v=>exact q_ v n n
theorem qD(i j:Nat):Builtin.Slice.slicePlaces (i:Int) (j:Int) 1=j - i:=by
  unfold Builtin.Slice.slicePlaces
  have h1:(1:Int) > 0:=by lia
  simp only [h1,if_true,Int.ediv_one]
  split<;>lia
theorem lY{v:Value}{o:Option Int}{Q:Option Int→Shared→Prop}(p:IsPart v o)(h:Q o s):wpAny (model prog w) A (Builtin.Slice.slicePartIndex v) Q E s:=by
  cases p with
  | none=>exact slicePart_none h
  | int i t=>exact slicePart_int h
theorem fX{sl:Addr}{vl vu:Value}{lo hi:Option Int}{n:Nat}{Q:Int × Int × Nat→Shared→Prop}(hs:s.heap.IsSliceOf sl vl vu .none)(pl:IsPart vl lo)(pu:IsPart vu hi)
    (h:Q (((sIx n 0 lo:Nat):Int),1,sIx n n hi - sIx n 0 lo) s):wpAny (model prog w) A (Builtin.Slice.sliceApplied (.ref sl) (pure (n:Int))) Q E s:=by
  obtain⟨os,hos,hcs,hds⟩:=id hs
  unfold Builtin.Slice.sliceApplied Builtin.Slice.sliceFields
  refine wpAny_bind (wpAny_bind (wpAny_field hos hds (x:=vl) rfl (wpAny_bind (wpAny_field hos hds (x:=vu) rfl (wpAny_bind (wpAny_field hos hds (x:=.none) rfl (wpAny_pure ?_)))))))
  refine wpAny_bind (slicePart_none ?_)
  show wpAny _ _ (if ((1:Int)==0)=true then _ else _) _ _ s
  rw [if_neg (by decide)]
  refine wpAny_bind (lY pl (wpAny_bind (lY pu (wpAny_bind (wpAny_pure ?_)))))
  show wpAny _ _ (match Builtin.Slice.sliceAdjust lo hi 1 (n:Int) with | (lo,hi)=>pure (lo,(1:Int),Builtin.Slice.slicePlaces lo hi 1)) _ _ s
  rw [pY lo hi n]
  show wpAny _ _ (pure (((sIx n 0 lo:Nat):Int),(1:Int),Builtin.Slice.slicePlaces ((sIx n 0 lo:Nat):Int) ((sIx n n hi:Nat):Int) 1)) _ _ s
  rw [qD]
  exact wpAny_pure h
theorem vB(xs:Array Value)(i k:Nat):((List.range k).filterMap fun(m:Nat)=>xs[((i:Int)+(m:Int)*1).toNat]?).toArray=((xs.toList.drop i).take k).toArray:=by
  have e:(fun(m:Nat)=>xs[((i:Int)+(m:Int)*1).toNat]?)=fun m=>xs[i+m]?:=by
    funext m
    have:((i:Int)+(m:Int)*1).toNat=i+m:=by lia
    rw [this]
  rw [e]
  have:=pick_run xs i k
  rw [List.filterMap_map] at this
  have e2:((fun x=>xs[x]?) ∘ fun x=>i+x)=fun m=>xs[i+m]?:=rfl
  rw [e2] at this
  rw [this]
theorem getItem_tuple_cut{t sl:Addr}{items:Array Value}{vl vu:Value}{lo hi:Option Int}{Q:Value→Shared→Prop}(ht:IsTup s.heap t items)(hs:s.heap.IsSliceOf sl vl vu .none)(pl:IsPart vl lo)(pu:IsPart vu hi)
    (hw:¬(sIx items.size 0 lo=0∧sIx items.size items.size hi=items.size))
    (h:Q (.ref s.heap.objs.size) {s with heap:=s.heap.push {cls:=.type "tuple",data:=.seq ((items.toList.drop (sIx items.size 0 lo)).take (sIx items.size items.size hi - sIx items.size 0 lo)).toArray}})
    (hsz:items.size≤sizeLine):wpAny (model prog w) A (getItem (.ref t) (.ref sl)) Q E s:=by
  have htake:sizeOk (.seq ((items.toList.drop (sIx items.size 0 lo)).take (sIx items.size items.size hi - sIx items.size 0 lo)).toArray):=by
    show((items.toList.drop (sIx items.size 0 lo)).take (sIx items.size items.size hi - sIx items.size 0 lo)).toArray.size≤sizeLine
    rw [List.size_toArray,List.length_take,List.length_drop,Array.length_toList]
    lia
  have hj:sIx items.size items.size hi≤items.size:=Ba _ _ (Nat.le_refl _) hi
  obtain⟨os,hos,hcs,hds⟩:=id hs
  have hTs:s.TypeIs (.ref sl) "slice":=⟨os,hos,hcs⟩
  unfold getItem
  try with_reducible refine wpAny_holding ?_
  first | refine wpAny_bind (wpAny_pure ?_) | skip
  refine wpAny_bind (wpAny_sequenceKey ht.typeIs (by decide) ?_)
  refine wpAny_bind (wpAny_callSpecial?_slot (name:=Str.ofString "__getitem__") ht.typeIs PyProof.Rows.slot_tuple_getitem
    (wpAny_call_entry PyProof.Rows.slot_tuple_getitem ht.typeIs entry_tuple_getitem ?_ (args_tuple_getitem _ _)))
  show wpAny _ _ (Builtin.Tuple.tupleItemsOf (.ref t) >>= _) _ _ s
  refine wpAny_bind (tupleItemsOf_ ht ?_)
  refine wpAny_bind (wpAny_typeOf hTs ?_)
  rw [if_pos (by decide)]
  refine wpAny_bind (fX hs pl pu ?_)
  have hno:¬((((sIx items.size 0 lo:Nat):Int)==0&&(1:Int)==1&&(sIx items.size items.size hi - sIx items.size 0 lo)==items.size)=true):=by
    intro q
    rw [Bool.and_eq_true,Bool.and_eq_true] at q
    have q1:((sIx items.size 0 lo:Nat):Int)=0:=eq_of_beq q.1.1
    have q2:sIx items.size items.size hi - sIx items.size 0 lo=items.size:=eq_of_beq q.2
    exact hw ⟨by lia,by lia⟩
  show wpAny _ _ (if (((sIx items.size 0 lo:Nat):Int)==0&&(1:Int)==1&&(sIx items.size items.size hi - sIx items.size 0 lo)==items.size)=true then _ else _) _ _ s
  rw [if_neg hno,vB]
  first
    | exact wpAny_bind (m:=Builtin.Tuple.tupleExact _) (wpAny_newObj_type (wpAny_pure ⟨_,rfl,wpAny_pure h⟩) htake)
    | exact wpAny_bind (m:=Builtin.Tuple.tupleExact _) (wpAny_newObj_type (wpAny_bind (wpAny_pure (wpAny_pure ⟨_,rfl,wpAny_pure h⟩))) htake)
    | exact wpAny_bind (wpAny_bind (m:=Builtin.Tuple.tupleExact _) (wpAny_newObj_type (wpAny_pure (wpAny_pure ⟨_,rfl,wpAny_pure h⟩)) htake))
    | exact wpAny_bind (wpAny_bind (m:=Builtin.Tuple.tupleExact _) (wpAny_newObj_type (wpAny_pure ⟨_,rfl,wpAny_pure h⟩) htake))
end
end HT
namespace L2
open PySem PySem.Spec PyProof.Rows
abbrev TO:=St→Hp→(Option Int→Hp→Prop)→Prop
def PO(X:Cx)(e:Option Expr)(t:TO):Prop:=
  ∀(pins:List (Addr × Obj)) (s:Shared) (σ:St) (H:Hp) (Q:Option Int→Hp→Prop),au X pins σ H s→t σ H Q→
    wpAny (model X.prog X.w) X.A (evalPart e X.env) (fun u s'=>∃o H',au X pins σ H' s'∧IsPart u o∧Q o H') X.xe s
def yt:TO:=fun _ H Q=>Q none H
def C_(t:TE):TO:=fun σ H Q=>t σ H fun x H1=>∃i,x=.int i∧Q (some i) H1
theorem iJ{ns:List Int}:∀{us:List Value},aE (ns.map V.int) us→IntsAre us ns:=by
  induction ns with
  | nil=>intro us r;rw [List.map_nil] at r;cases r;exact .nil
  | cons n ns ih=>
    intro us r
    rw [List.map_cons] at r
    cases r with
    | cons r1 r2=>
      obtain⟨t,e⟩:=r1
      subst e
      exact .cons n t (ih r2)
section
variable{X:Cx}{e:Expr}{te:TE}{lo hi:Option Expr}{tl th:TO}{pos p2:Pos}
theorem xW:PO X none yt:=by
  intro pins s σ H Q I h
  rw [evalPart_none]
  exact wpAny_pure ⟨none,H,I,.none,h⟩
theorem xX(h:PE X e te):PO X (some e) (C_ te):=by
  intro pins s σ H Q I hw
  rw [evalPart_some]
  refine bL (h pins s σ H _ I hw) fun u s1 ⟨x,H1,I1,r1,q1⟩=>?_
  obtain⟨i,rfl,q⟩:=q1
  obtain⟨t,rfl⟩:=r1
  exact⟨some i,H1,I1,.int i t,q⟩
def wO(X:Cx)(r:V→Option Int→Option Int→Hp→VK→Prop):Prop:=
  ∀(pins:List (Addr × Obj)) (s:Shared) (σ:St) (H:Hp) (x:V) (v vl vu:Value) (lo hi:Option Int) (sl:Addr) (Q:VK),au X pins σ H s→bF x v→s.heap.IsSliceOf sl vl vu .none→IsPart vl lo→IsPart vu hi→r x lo hi H Q→
    ∃T id,typeLookup (.type T) "__getitem__"=pure (some (.builtin id))∧s.TypeIs v T∧wpAny (model X.prog X.w) X.A (getItem v (.ref sl)) (EP X pins σ Q) X.xe s
theorem wO.or{r r':V→Option Int→Option Int→Hp→VK→Prop}(h:wO X r)(h':wO X r'):wO X (fun x lo hi H Q=>r x lo hi H Q∨r' x lo hi H Q):=by
  intro pins s σ H x v vl vu lo hi sl Q I rx hs pl pu q
  rcases q with q | q
  · exact h pins s σ H x v vl vu lo hi sl Q I rx hs pl pu q
  · exact h' pins s σ H x v vl vu lo hi sl Q I rx hs pl pu q
def E2(r:V→Option Int→Option Int→Hp→VK→Prop)(te:TE)(tl th:TO):TE:=fun σ H Q=>te σ H fun x H1=>tl σ H1 fun l H2=>th σ H2 fun u H3=>r x l u H3 Q
theorem vt{r:V→Option Int→Option Int→Hp→VK→Prop}(hr:wO X r)(he:PE X e te)(hl:PO X lo tl)(hu:PO X hi th):PE X (.Subscript e (.Slice lo hi none p2) pos) (E2 r te tl th):=by
  intro pins s σ H Q I h
  refine Subscript_ (bL (he pins s σ H _ I h) fun v s1 ⟨x,H1,I1,r1,q1⟩=>?_)
  refine wpAny_Slice (bL (hl pins s1 σ H1 _ I1 q1) fun vl s2 ⟨l,H2,I2,pl,q2⟩=>bL (hu pins s2 σ H2 _ I2 q2) fun vu s3 ⟨u,H3,I3,pu,q3⟩=>?_)
  rw [evalPart_none]
  refine wpAny_pure ?_
  have I4:au X pins σ H3 {s3 with heap:=s3.heap.push {cls:=.type "slice",data:=.fields #[vl,vu,.none]}}:=I3.kept (t':=s3.toks) fun b ob q=>Heap.get?_push_of_some _ q
  obtain⟨T,id,hT,ht,hg⟩:=hr pins {s3 with heap:=s3.heap.push {cls:=.type "slice",data:=.fields #[vl,vu,.none]}} σ H3 x v vl vu l u s3.heap.objs.size Q I4 r1 (Heap.IsSliceOf.new ..) pl pu q3
  show wpAny (model X.prog X.w) X.A (subscriptTail e (.Slice lo hi none p2) v (.ref s3.heap.objs.size)) (EP X pins σ Q) X.xe {s3 with heap:=s3.heap.push {cls:=.type "slice",data:=.fields #[vl,vu,.none]}}
  exact tail_any (ops:=[.ref s3.heap.objs.size,v]) ht hT hg (by with_unfolding_all rfl)
def ma(xs:List V)(lo hi:Option Int):List V:=(xs.drop (HT.sIx xs.length 0 lo)).take (HT.sIx xs.length xs.length hi - HT.sIx xs.length 0 lo)
theorem j7(xs:List V)(lo hi:Option Int):(ma xs lo hi).length≤xs.length:=by
  unfold ma
  rw [List.length_take,List.length_drop]
  lia
def CV(K:PySem.W.Frag):V→Option Int→Option Int→Hp→VK→Prop:=fun x lo hi H Q=>∃a xs,x=.ref a∧cc K H a xs∧
  ¬(HT.sIx xs.length 0 lo=0∧HT.sIx xs.length xs.length hi=xs.length)∧∀p,H p=none→Q (.ref p) (aM H p (.tup (ma xs lo hi)))
theorem Bc:wO X (CV X.K):=by
  intro pins s σ H x v vl vu lo hi sl Q I rx hs pl pu h
  obtain⟨a,xs,rfl,hx,hw,q⟩:=h
  cases rx
  obtain⟨its,r,ht,hz⟩:=I.tuple hx
  have hlen:its.toArray.size=xs.length:=by rw [List.size_toArray];exact r.length.symm
  refine⟨"tuple",_,PyProof.Rows.slot_tuple_getitem.lookup,ht.typeIs,?_⟩
  refine HT.getItem_tuple_cut ht hs pl pu (by rw [hlen];exact hw) ?_ (by rw [hlen];exact hz)
  rw [hlen]
  refine⟨.ref s.heap.objs.size,_,I.laid (t':=s.toks) (o:=.tup (ma xs lo hi)) (fun b ob q=>Heap.get?_push_of_some _ q) (Nat.le_refl _) ?_,rfl,q _ (I.hok.fresh (Nat.le_refl _))⟩
  exact⟨Nat.le_trans (j7 xs lo hi) hz,_,(r.drop (HT.sIx xs.length 0 lo)).take (HT.sIx xs.length xs.length hi - HT.sIx xs.length 0 lo),kn.new _ _⟩
def CN(K:PySem.W.Frag):R2:=fun x y H Q=>∃a b xs ys,x=.ref a∧y=.ref b∧cc K H a xs∧cc K H b ys∧xs≠[]∧xs.length+ys.length≤sizeLine∧
  (ys=[]→Q (.ref a) H)∧(ys≠[]→∀p,H p=none→Q (.ref p) (aM H p (.tup (xs++ys))))
theorem aE.nil_iff{xs:List V}{us:List Value}(r:aE xs us):us=[]↔ xs=[]:=by
  cases r with
  | nil=>simp
  | cons _ _=>simp
theorem xH:fm X (binaryOp .Add) (CN X.K):=by
  intro pins s σ H x y v u Q I rx ry h
  obtain⟨a,b,xs,ys,rfl,rfl,ha,hb,hx,hz,q1,q2⟩:=h
  cases rx
  cases ry
  obtain⟨its,r1,p1,_⟩:=I.tuple ha
  obtain⟨its2,r2,p2,_⟩:=I.tuple hb
  refine HT.cat_tup p1 p2 (fun z=>hx (r1.nil_iff.mp z)) (fun z=>⟨.ref a,H,I,rfl,q1 (r2.nil_iff.mp z)⟩) (fun z=>?_) (by rw [←r1.length,←r2.length];exact hz)
  refine⟨.ref s.heap.objs.size,_,I.laid (t':=s.toks) (o:=.tup (xs++ys)) (fun b ob q=>Heap.get?_push_of_some _ q) (Nat.le_refl _) ?_,rfl,q2 (fun w=>z (r2.nil_iff.mpr w)) _ (I.hok.fresh (Nat.le_refl _))⟩
  exact⟨by rw [List.length_append];exact hz,_,r1.append r2,kn.new _ _⟩
end
end L2
namespace L2
open PySem PySem.Spec PyProof.Rows
def Bz(n:Nat)(i:Int):Option Nat:=if 0≤i then(if i < n then some i.toNat else none) else if -(n:Int)≤i then some (i+n).toNat else none
def atI{α:Type}(xs:List α)(i:Int):Option α:=(Bz xs.length i).bind fun j=>xs[j]?
theorem xl{n:Nat}{i:Int}{j:Nat}(h:Bz n i=some j):seqIndex? i n=some j∧j < n∧ -(n:Int)≤i∧i < n:=by
  unfold Bz at h
  by_cases h0:0≤i
  · rw [if_pos h0] at h
    by_cases h1:i < n
    · rw [if_pos h1] at h
      have e:i.toNat=j:=Option.some.inj h
      exact⟨by rw [seqIndex_of h0 h1,e],by lia,by lia,h1⟩
    · rw [if_neg h1] at h;cases h
  · rw [if_neg h0] at h
    by_cases h1: -(n:Int)≤i
    · rw [if_pos h1] at h
      have e:(i+n).toNat=j:=Option.some.inj h
      exact⟨by rw [seqIndex_neg (by lia) h1,e],by lia,h1,by lia⟩
    · rw [if_neg h1] at h;cases h
theorem qV{α:Type}{xs:List α}{i:Int}{v:α}(h:atI xs i=some v):∃j,seqIndex? i xs.length=some j∧xs[j]?=some v∧j < xs.length∧ -(xs.length:Int)≤i∧i < xs.length:=by
  unfold atI at h
  cases e:Bz xs.length i with
  | none=>rw [e] at h;cases h
  | some j=>
    rw [e] at h
    obtain⟨h1,h2,h3,h4⟩:=xl e
    exact⟨j,h1,h,h2,h3,h4⟩
def mY(b:Expr):Prop:=∀o i,subscripted b false o i=operate [o,i] (getItem o i)
def wM(X:Cx)(r:R2):Prop:=
  ∀(value slice:Expr) (pins:List (Addr × Obj)) (s:Shared) (σ:St) (H:Hp) (x y:V) (v u:Value) (Q:VK),au X pins σ H s→bF x v→bF y u→r x y H Q→
    subscripted slice false v u=operate [v,u] (getItem v u)→wpAny (model X.prog X.w) X.A (subscriptTail value slice v u) (EP X pins σ Q) X.xe s
def Ej(X:Cx)(id:String)(r:V→List V→Hp→VK→Prop):Prop:=
  ∀(pins:List (Addr × Obj)) (s:Shared) (σ:St) (H:Hp) (x:V) (xs:List V) (v:Value) (us:List Value) (Q:VK),au X pins σ H s→bF x v→aE xs us→r x xs H Q→
    wpAny (model X.prog X.w) X.A (call (.builtin id) (v::us)) (EP X pins σ Q) X.xe s
section
variable{X:Cx}{a b:Expr}{ta tb:TE}{pos:Pos}
theorem wM.or{r r':R2}(h:wM X r)(h':wM X r'):wM X (fun x y H Q=>r x y H Q∨r' x y H Q):=by
  intro value slice pins s σ H x y v u Q I rx ry q hs
  rcases q with q | q
  · exact h value slice pins s σ H x y v u Q I rx ry q hs
  · exact h' value slice pins s σ H x y v u Q I rx ry q hs
theorem CA{r:R2}(hr:wM X r)(ha:PE X a ta)(hb:PE X b tb)(hs:mY b):PE X (.Subscript a b pos) (C9 r ta tb):=by
  intro pins s σ H Q I h
  exact Subscript_ (zw ha hb I h fun v u s2 x y H2 I2 rx ry q=>hr a b pins s2 σ H2 x y v u Q I2 rx ry q (hs _ _))
def CS(K:PySem.W.Frag):R2:=fun x y H Q=>∃p xs i v,x=.ref p∧y=.int i∧dP K H p xs∧atI xs i=some v∧Q v H
def CT(K:PySem.W.Frag):R2:=fun x y H Q=>∃p xs i v,x=.ref p∧y=.int i∧cc K H p xs∧atI xs i=some v∧Q v H
theorem xm:wM X (CS X.K):=by
  intro value slice pins s σ H x y v u Q I rx ry h hs
  obtain⟨p,xs,i,z,rfl,rfl,hq,he,q⟩:=h
  cases rx
  obtain⟨t,rfl⟩:=ry
  obtain⟨its,r,pl,hz⟩:=I.list hq
  obtain⟨j,h1,h2,h3,h4,h5⟩:=qV he
  obtain⟨w,ew,rw'⟩:=r.get h2
  have hl:=r.length
  have hn:=qu
  have fin:EP X pins σ Q w s:=⟨z,H,I,rw',q⟩
  by_cases h0:0≤i
  · have hj:i.toNat=j:=by
      rw [seqIndex_of h0 h5] at h1
      exact Option.some.inj h1
    exact item_listR pl.isList h0 (by lia) (by rw [hj];simpa using ew) fin hs
  · have hj:(i+(its.toArray.size:Int)).toNat=j:=by
      rw [seqIndex_neg (by lia) h4] at h1
      rw [List.size_toArray,←hl]
      exact Option.some.inj h1
    exact subscriptTail_builtinR (x:=w) pl.isList.typeIs slot_list_getitem.lookup
      (wpAny_getItem_list_neg (Q:=fun r s'=>r=w∧EP X pins σ Q r s') pl.isList (by lia) (by rw [List.size_toArray]<;>lia) (by lia) (by rw [hj];simpa using ew) ⟨rfl,fin⟩) hs
theorem zQ:wM X (CT X.K):=by
  intro value slice pins s σ H x y v u Q I rx ry h hs
  obtain⟨p,xs,i,z,rfl,rfl,hq,he,q⟩:=h
  cases rx
  obtain⟨t,rfl⟩:=ry
  obtain⟨its,r,pl,hz⟩:=I.tuple hq
  obtain⟨j,h1,h2,h3,h4,h5⟩:=qV he
  obtain⟨w,ew,rw'⟩:=r.get h2
  have hl:=r.length
  have hn:=qu
  have fin:EP X pins σ Q w s:=⟨z,H,I,rw',q⟩
  exact subscriptTail_builtinR (x:=w) pl.typeIs slot_tuple_getitem.lookup
    (getItem_tuple (j:=j) (Q:=fun r s'=>r=w∧EP X pins σ Q r s') pl (by lia) (by lia) (by rw [List.size_toArray,←hl];exact h1) (by simpa using ew) ⟨rfl,fin⟩) hs
theorem og(lo hi:Option Int)(n:Nat):(sliceBounds lo hi none n).1=((HT.sIx n 0 lo:Nat):Int)∧(sliceBounds lo hi none n).2.1=((HT.sIx n n hi:Nat):Int)∧(sliceBounds lo hi none n).2.2=1:=by
  refine⟨?_,?_,rfl⟩
  · cases lo with
    | none=>simp [sliceBounds,HT.sIx]
    | some i=>
      simp only [sliceBounds,HT.sIx,Option.getD_none,show(1:Int) > 0 by decide,if_true]
      by_cases h:i < 0
      · simp only [h,if_true]<;>lia
      · simp only [h,if_false]<;>lia
  · cases hi with
    | none=>simp [sliceBounds,HT.sIx]
    | some i=>
      simp only [sliceBounds,HT.sIx,Option.getD_none,show(1:Int) > 0 by decide,if_true]
      by_cases h:i < 0
      · simp only [h,if_true]<;>lia
      · simp only [h,if_false]<;>lia
theorem mf(its:List Value)(lo hi:Option Int):slicePick its.toArray lo hi none=((its.drop (HT.sIx its.length 0 lo)).take (HT.sIx its.length its.length hi - HT.sIx its.length 0 lo)).toArray:=by
  obtain⟨h1,h2,h3⟩:=og lo hi its.toArray.size
  unfold slicePick
  rw [h1,h2,h3]
  simp only [sliceRange_one,pick_run,List.size_toArray]<;>rfl
def CU(K:PySem.W.Frag):V→Option Int→Option Int→Hp→VK→Prop:=fun x lo hi H Q=>∃a xs,x=.ref a∧dP K H a xs∧∀p,H p=none→Q (.ref p) (aM H p (.lst (ma xs lo hi)))
theorem yk:wO X (CU X.K):=by
  intro pins s σ H x v vl vu lo hi sl Q I rx hs pl pu h
  obtain⟨a,xs,rfl,hx,q⟩:=h
  cases rx
  obtain⟨its,r,ht,hz⟩:=I.list hx
  have hlen:=r.length
  refine⟨"list",_,slot_list_getitem.lookup,ht.isList.typeIs,?_⟩
  refine wpAny_getItem_list_slice ht.isList hs pl pu .none (by simp) ?_ (by rw [List.size_toArray]<;>lia)
  rw [mf,←hlen]
  refine⟨.ref s.heap.objs.size,_,I.laid (t':=s.toks) (o:=.lst (ma xs lo hi)) (fun b ob q=>Heap.get?_push_of_some _ q) (Nat.le_refl _) ?_,rfl,q _ (I.hok.fresh (Nat.le_refl _))⟩
  exact⟨Nat.le_trans (j7 xs lo hi) hz,_,0,(r.drop (HT.sIx xs.length 0 lo)).take (HT.sIx xs.length xs.length hi - HT.sIx xs.length 0 lo),Heap.get?_push_size _ rfl⟩
theorem m_:ce X (.builtin "len") (fun xs H Q=>∃p ys,xs=[.ref p]∧(dP X.K H p ys∨cc X.K H p ys)∧Q (.int ys.length) H):=by
  intro pins s σ H xs us Q I r h
  obtain⟨p,ys,rfl,hq,q⟩:=h
  obtain⟨u,rfl,rx⟩:=mW r
  cases rx
  have hn:=qu
  rcases hq with hq | hq
  · obtain⟨its,r',pl,hz⟩:=I.list hq
    have hlen:=r'.length
    exact Calls.call_len_list pl.isList (by simp only [List.size_toArray]<;>lia) ⟨.int ys.length,H,I.tok _,⟨s.toks+1,by rw [List.size_toArray,hlen]⟩,q⟩
  · obtain⟨its,r',pl,hz⟩:=I.tuple hq
    have hlen:=r'.length
    exact len_tuple pl (by simp only [List.size_toArray]<;>lia) ⟨.int ys.length,H,I.tok _,⟨s.toks+1,by rw [List.size_toArray,hlen]⟩,q⟩
theorem ng:ce X (.type "list") (fun xs H Q=>∃p ys,xs=[.ref p]∧(dP X.K H p ys∨cc X.K H p ys)∧∀l,H l=none→Q (.ref l) (aM H l (.lst ys))):=by
  intro pins s σ H xs us Q I r h
  obtain⟨p,ys,rfl,hq,q⟩:=h
  obtain⟨u,rfl,rx⟩:=mW r
  cases rx
  have fin:∀(its:List Value),aE ys its→ys.length≤sizeLine→∀(h':Heap) (c':Nat),(∀b o',s.heap.get? b=some o'→h'.get? b=some o')→
      h'.get? s.heap.objs.size=some {cls:=.type "list",dict:=none,data:=.seq its.toArray c',slots:=#[]}→EP X pins σ Q (.ref s.heap.objs.size) {s with heap:=h'}:=fun its r' hz h' c' kp e=>
    ⟨.ref s.heap.objs.size,_,I.laid (t':=s.toks) kp (Nat.le_refl _) (show eu X.prog X.w _ h' _ (.lst ys) from⟨hz,its,c',r',e⟩),rfl,q _ (I.hok.fresh (Nat.le_refl _))⟩
  rcases hq with hq | hq
  · obtain⟨its,r',pl,hz⟩:=I.list hq
    have hlen:=r'.length
    obtain⟨o,ho,hc,n,hd⟩:=pl.isList
    exact call_list_seq p (.inl rfl) ho hc hd (fun h' c' kp e=>fin its r' hz h' c' kp e) (by simp only [List.size_toArray]<;>lia)
  · obtain⟨its,r',pl,hz⟩:=I.tuple hq
    have hlen:=r'.length
    obtain⟨o,ho,hc,n,hd⟩:=pl
    exact call_list_seq p (.inr rfl) ho hc hd (fun h' c' kp e=>fin its r' hz h' c' kp e) (by simp only [List.size_toArray]<;>lia)
theorem l_:ce X (.type "tuple") (fun xs H Q=>∃p ys,xs=[.ref p]∧((dP X.K H p ys∧∀l,H l=none→Q (.ref l) (aM H l (.tup ys)))∨(cc X.K H p ys∧Q (.ref p) H))):=by
  intro pins s σ H xs us Q I r h
  obtain⟨p,ys,rfl,h⟩:=h
  obtain⟨u,rfl,rx⟩:=mW r
  cases rx
  rcases h with ⟨hq,q⟩ | ⟨hq,q⟩
  · obtain⟨its,r',pl,hz⟩:=I.list hq
    have hlen:=r'.length
    refine call_tuple_list pl.isList (fun h' kp=>?_) (by simp only [List.size_toArray]<;>lia)
    have I1:au X pins σ H {s with heap:=h'}:=I.kept (t':=s.toks) kp
    have I2:au X pins σ (aM H h'.objs.size (.tup ys)) {s with heap:=h'.push {cls:=.type "tuple",data:=.seq its.toArray}}:=
      I1.laid (t':=s.toks) (fun b o e=>Heap.get?_push_of_some _ e) (Nat.le_refl _) (show eu X.prog X.w _ _ _ (.tup ys) from⟨hz,its,r',kn.new _ _⟩)
    exact⟨.ref h'.objs.size,_,I2,rfl,q _ (I1.hok.fresh (Nat.le_refl _))⟩
  · obtain⟨its,r',pl,hz⟩:=I.tuple hq
    exact call_tuple_same pl ⟨.ref p,H,I,rfl,q⟩
def EC(K:PySem.W.Frag)(T:String)(x:V)(H:Hp):Prop:=match x with
  | .str _=>T="str"
  | .int _=>T="int"
  | .ref p=>(T="list"∧∃xs,dP K H p xs)∨(T="tuple"∧∃o,K.lookup p=some o∧o.cls=.type "tuple"∧o.dict=none)∨
      (T="dict"∧((∃kvs,H p=some (.dK kvs))∨∃kvs,H p=some (.dT kvs)))∨(T="set"∧∃S n,H p=some (.set S n))
  | _=>False
theorem Bq{pins:List (Addr × Obj)}{σ:St}{H:Hp}{s:Shared}{T:String}{x:V}{v:Value}(I:au X pins σ H s)(r:bF x v)(ty:EC X.K T x H):
    s.TypeIs v T∧∀a,v=.ref a→∃ob,s.heap.get? a=some ob∧ob.dict=none:=by
  cases x with
  | str z=>
    obtain⟨t,rfl⟩:=r
    cases (show T="str" from ty)
    exact⟨typeIs_str s z t,fun _ e=>nomatch e⟩
  | int i=>
    obtain⟨t,rfl⟩:=r
    cases (show T="int" from ty)
    exact⟨typeIs_int s i t,fun _ e=>nomatch e⟩
  | ref p=>
    cases r
    rcases ty with ⟨rfl,xs,hq⟩ | ⟨rfl,o,hk,hc,hd⟩ | ⟨rfl,hk⟩ | ⟨rfl,S,n,hk⟩
    · obtain⟨its,_,pl,_⟩:=I.list hq
      refine⟨pl.isList.typeIs,fun a e=>?_⟩
      cases e
      obtain⟨o,n,e,c,hd,_⟩:=pl
      exact⟨o,e,hd⟩
    · refine⟨⟨o,I.kIn p o hk,hc⟩,fun a e=>?_⟩
      cases e
      exact⟨o,I.kIn _ o hk,hd⟩
    · have z:∃o,s.heap.get? p=some o∧o.ExactDict:=by
        rcases hk with ⟨kvs,hk⟩ | ⟨kvs,hk⟩
        · obtain⟨_,_,_,_,o,_,_,e,ex,_⟩:=I.hok p _ hk
          exact⟨o,e,ex⟩
        · obtain⟨_,_,_,_,o,_,_,e,ex,_⟩:=I.hok p _ hk
          exact⟨o,e,ex⟩
      obtain⟨o,e,ex⟩:=z
      refine⟨⟨o,e,ex.1⟩,fun a e2=>?_⟩
      cases e2
      exact⟨o,e,ex.2.1⟩
    · obtain⟨o,_,_,_,e,ex,_⟩:=I.hok p _ hk
      refine⟨⟨o,e,ex.1⟩,fun a e2=>?_⟩
      cases e2
      exact⟨o,e,ex.2.1⟩
  | _=>exact False.elim ty
def Ey(K:PySem.W.Frag)(T:String)(r:V→List V→Hp→VK→Prop)(to:TE)(t:TA):TE:=fun σ H Q=>to σ H fun x H1=>EC K T x H1∧t σ H1 fun xs H2=>r x xs H2 Q
variable{o e:Expr}{es:List Expr}{to:TE}{t:TA}{name:Str}{apos cpos:Pos}{T id:String}{r:V→List V→Hp→VK→Prop}
theorem Cz(pa:PlainAttrs T)(slot:Slot T name id)(hty:typeOf (.builtin id)=pure (.type "method_descriptor"))(hm:Ej X id r)(ho:PE X o to)(ha:PA X (e::es) t)
    (hbase:attributeBase o name X.env (eval o X.env)=eval o X.env:=by rfl)
    (hfew:((backTo cpos (starEach (e::es) X.env)).all (fun x=> !x.1)&&(backToKw cpos (keywordEach [] X.env)).all (fun x=>x.1.isSome)
      &&decide ((e::es).length+([]:List Keyword).length+(if ([]:List Keyword).isEmpty then 0 else 1) < 30))=true:=by rfl)
    (hline:(apos.endLine==cpos.line)=true:=by rfl)(hs:starEach (e::es) X.env=(false,eval e X.env)::starEach es X.env:=by rfl)(hplain:(backTo cpos (starEach es X.env)).any (·.1)=false:=by rfl):
    PE X (.Call (.Attribute o name apos) (e::es) [] cpos) (Ey X.K T r to t):=by
  intro pins s σ H Q I h
  refine wpAny_Call_method_late hbase hfew hline rfl (bL (ho pins s σ H _ I h) fun v s1 ⟨x,H1,I1,r1,ty,q1⟩=>?_)
  obtain⟨h1,h2⟩:=Bq I1 r1 ty
  refine⟨T,id,pa,slot,hty,h1,h2,?_⟩
  have hA:=ha cpos pins s1 σ H1 _ I1 q1
  rw [hs] at hA ⊢
  refine Calls.callWith_builtin (by show(false || (backTo cpos (starEach es X.env)).any (·.1))=false;rw [hplain]<;>rfl) (Calls.evalArgs_plain ?_)
  exact bL hA fun us s2 ⟨vs,H2,I2,r2,q2⟩=>hm pins s2 σ H2 x vs v us Q I2 r1 r2 q2
end
end L2
namespace L2
open PySem PySem.Spec PyProof.Rows
def Ei(X:Cx)(id:String)(r:V→List V→Hp→VK→Prop):Prop:=
  ∀(pins:List (Addr × Obj)) (s:Shared) (σ:St) (H:Hp) (x:V) (xs:List V) (v:Value) (us:List Value) (Q:VK),au X pins σ H s→bF x v→aE xs us→r x xs H Q→
    wpAny (model X.prog X.w) X.A (call (.builtin id) (v::us)) (EP X pins σ Q) X.xe s
theorem aE.one:∀{x:V} {us:List Value},aE [x] us→∃u,us=[u]∧bF x u
  | _,_,.cons r .nil=>⟨_,rfl,r⟩
theorem aE.eraseIdx:∀{xs:List V} {us:List Value} (i:Nat),aE xs us→aE (xs.eraseIdx i) (us.eraseIdx i)
  | _,_,_,.nil=>.nil
  | _,_,0,.cons _ t=>t
  | _,_,i+1,.cons r t=>.cons r (aE.eraseIdx i t)
theorem aE.rep{xs:List V}{us:List Value}(h:aE xs us):∀k:Nat,aE (List.replicate k xs).flatten (List.replicate k us).flatten
  | 0=>.nil
  | k+1=>by
    rw [List.replicate_succ,List.replicate_succ,List.flatten_cons,List.flatten_cons]
    exact aE.append h (aE.rep h k)
theorem mH{α:Type}:∀(l:List α) (i:Nat),(l.eraseIdx i).length≤l.length
  | [],_=>Nat.le_refl _
  | _::_,0=>Nat.le_succ _
  | _::r,i+1=>Nat.succ_le_succ (mH r i)
theorem mC(its:List Value):∀(k:Nat) (acc:List Value),
    List.foldl (fun x1 x2=>x1++x2) acc.toArray (List.replicate k its.toArray)=(acc++(List.replicate k its).flatten).toArray
  | 0,acc=>by simp
  | k+1,acc=>by
    have e:acc.toArray++its.toArray=(acc++its).toArray:=by simp
    have e2:(acc++its)++(List.replicate k its).flatten=acc++(List.replicate (k+1) its).flatten:=by
      rw [List.replicate_succ,List.flatten_cons,List.append_assoc]
    rw [←e2,←mC its k (acc++its),←e,List.replicate_succ,List.foldl_cons]
section
variable{X:Cx}{pins:List (Addr × Obj)}{σ:St}{H:Hp}{s:Shared}{l b:Addr}{xs ys zs:List V}
theorem au.lset{its its':List Value}{n:Nat}{f:Array Value→Array Value}{t':Nat}(I:au X pins σ H s)(hH:H l=some (.lst xs))
    (e:s.heap.get? l=some {cls:=.type "list",data:=.seq its.toArray n})(hf:f its.toArray=its'.toArray)(hv:aE ys its')(hz:ys.length≤sizeLine):
    au X pins σ (aM H l (.lst ys)) {s with heap:=s.heap.update l (Obj.mapSeq f),toks:=t'}:=by
  have q:=PySem.IsL.update e f
  rw [hf] at q
  refine I.write (x:=l) (e:=l) (by rw [hH];exact trivial) (.inl rfl) (fun b' u hb hu=>(Heap.get?_update_other s.heap (Obj.mapSeq f) (Ne.symm hb)).trans hu) ⟨_,q⟩ ?_
  exact⟨hz,its',_,hv,q⟩
theorem au.lnew{its:List Value}{t':Nat}(I:au X pins σ H s)(hv:aE ys its)(hz:ys.length≤sizeLine):
    au X pins σ (aM H s.heap.objs.size (.lst ys)) {s with heap:=s.heap.push {cls:=.type "list",data:=.seq its.toArray},toks:=t'}:=
  I.laid (fun _ _ q=>Heap.get?_push_of_some _ q) (Nat.le_refl _) ⟨hz,its,0,hv,Heap.get?_push_size _ rfl⟩
theorem au.fresh(I:au X pins σ H s):H s.heap.objs.size=none:=I.hok.fresh (Nat.le_refl _)
theorem au.lstM(I:au X pins σ H s)(hH:H l=some (.lst xs)):xs.length≤sizeLine∧∃(its:List Value) (n:Nat),aE xs its∧xs.length=its.length∧s.heap.get? l=some {cls:=.type "list",data:=.seq its.toArray n}:=by
  obtain⟨z,its,n,r,e⟩:=I.hok l _ hH
  exact⟨z,its,n,r,r.length,e⟩
theorem vh{n:Nat}(h:n≤sizeLine):Builtin.List.listTooLong n=false:=by
  unfold Builtin.List.listTooLong
  exact decide_eq_false (by lia)
end
section
variable{X:Cx}
def rL:V→List V→Hp→VK→Prop:=fun x vs H Q=>∃l xs y,x=.ref l∧vs=[y]∧H l=some (.lst xs)∧xs.length < sizeLine∧Q .non (aM H l (.lst (xs++[y])))
theorem fN:Ei X "list.append" rL:=by
  intro pins s σ H x vs v us Q I rx rv h
  obtain⟨l,xs,y,rfl,rfl,hH,hz,q⟩:=h
  cases rx
  obtain⟨u,rfl,ru⟩:=rv.one
  obtain⟨z,its,n,r,hl,e⟩:=I.lstM hH
  refine call_meets F.slot_list_append ⟨_,e,rfl⟩ F.entry_list_append (F.args_list_append_2 _ _) (PySem.list_append l its.toArray n u (by rw [List.size_toArray];lia)) ⟨e,?_⟩
  refine⟨.non,_,I.lset (its':=its++[u]) hH e (by simp) (r.append (.cons ru .nil)) ?_,rfl,q⟩
  rw [List.length_append,List.length_singleton]
  lia
def vL:V→List V→Hp→VK→Prop:=fun x vs H Q=>∃l xs i k y,x=.ref l∧vs=[.int i]∧H l=some (.lst xs)∧ -(2 ^ 63)≤i∧i < 2 ^ 63∧seqIndex? i xs.length=some k∧xs[k]?=some y∧Q y (aM H l (.lst (xs.eraseIdx k)))
theorem vb:Ei X "list.pop" vL:=by
  intro pins s σ H x vs v us Q I rx rv h
  obtain⟨l,xs,i,k,y,rfl,rfl,hH,h1,h2,hk,hy,q⟩:=h
  cases rx
  obtain⟨u,rfl,ru⟩:=rv.one
  obtain⟨t,rfl⟩:=ru
  obtain⟨z,its,n,r,hl,e⟩:=I.lstM hH
  obtain⟨w,hw,rw'⟩:=r.get hy
  refine call_meets F.slot_list_pop ⟨_,e,rfl⟩ F.entry_list_pop (F.args_list_pop_2 _ _)
    (MeetsSeq.list_pop_at l its.toArray n i t k w (fitsIndex_both h1 h2) (by rw [List.size_toArray,←hl];exact hk) (by rw [←Array.getElem?_toList];exact hw) (by rw [List.size_toArray];lia)) ⟨e,?_⟩
  refine⟨y,_,I.lset (its':=its.eraseIdx k) hH e ?_ (r.eraseIdx k) ?_,rw',q⟩
  · show its.toArray.eraseIdxIfInBounds k=(its.eraseIdx k).toArray
    rw [List.eraseIdxIfInBounds_toArray]
  · have:=mH xs k
    lia
def AW:R2:=fun x y H Q=>∃l b xs zs,x=.ref l∧y=.ref b∧H l=some (.lst xs)∧H b=some (.lst zs)∧xs.length+zs.length≤sizeLine∧∀p,H p=none→Q (.ref p) (aM H p (.lst (xs++zs)))
theorem Af:fm X (binaryOp .Add) AW:=by
  intro pins s σ H x y v u Q I rx ry h
  obtain⟨l,b,xs,zs,rfl,rfl,hH,hB,hz,q⟩:=h
  cases rx
  cases ry
  obtain⟨z,its,n,r,hl,e⟩:=I.lstM hH
  obtain⟨z2,its2,n2,r2,hl2,e2⟩:=I.lstM hB
  refine PySem.P.add_list e e2 ?_ (by rw [List.size_toArray,List.size_toArray];lia)
  have ea:its.toArray++its2.toArray=(its++its2).toArray:=by simp
  rw [ea]
  exact⟨.ref _,_,I.lnew (t':=s.toks) (r.append r2) (by rw [List.length_append];lia),rfl,q _ I.fresh⟩
def AZ:R2:=fun x y H Q=>∃l k xs,x=.ref l∧y=.int k∧H l=some (.lst xs)∧ -(2 ^ 63)≤k∧k < 2 ^ 63∧xs.length*k.toNat≤sizeLine∧
  ∀p,H p=none→Q (.ref p) (aM H p (.lst (List.replicate k.toNat xs).flatten))
theorem xo{α:Type}(xs:List α)(k:Nat):(List.replicate k xs).flatten.length=k*xs.length:=by
  induction k with
  | zero=>simp
  | succ k ih=>rw [List.replicate_succ,List.flatten_cons,List.length_append,ih,Nat.succ_mul,Nat.add_comm]
theorem Aq:fm X (binaryOp .Mult) AZ:=by
  intro pins s σ H x y v u Q I rx ry h
  obtain⟨l,k,xs,rfl,rfl,hH,h1,h2,hz,q⟩:=h
  cases rx
  obtain⟨t,rfl⟩:=ry
  obtain⟨z,its,n,r,hl,e⟩:=I.lstM hH
  have hlen:its.toArray.size*k.toNat≤sizeLine:=by rw [List.size_toArray,←hl];exact hz
  have hcap:¬its.toArray.size*k.toNat > (2 ^ 63 - 1) / 8:=by
    have:(sizeLine:Nat)≤(2 ^ 63 - 1) / 8:=by decide
    lia
  have hfit:¬(!Builtin.List.listFitsIndex k)=true:=by
    rw [fitsIndex_both h1 h2]
    exact Bool.false_ne_true
  have hlong:¬Builtin.List.listTooLong (its.toArray.size*k.toNat)=true:=by
    rw [vh hlen]
    exact Bool.false_ne_true
  have hnew:List.foldl (fun x1 x2=>x1++x2) #[] (List.replicate (if its.toArray.isEmpty=true then 0 else k.toNat) its.toArray)=(List.replicate k.toNat its).flatten.toArray:=by
    have f0:∀m:Nat,List.foldl (fun x1 x2=>x1++x2) #[] (List.replicate m its.toArray)=(List.replicate m its).flatten.toArray:=fun m=>by
      have:=mC its m []
      rw [List.nil_append] at this
      exact this
    rw [f0]
    cases its with
    | nil=>simp
    | cons a r'=>rw [if_neg (by simp)]
  refine wpAny_binaryOp_repeat_ref (T:="list") (U:="int") (by decide) ⟨_,e,rfl⟩ (fun s'=>typeIs_int s' k t) noFill_list_mul F.fills_int_mul F.slot_int_rmul repeat_list F.slot_int_index.lookup
    (call_meets F.slot_int_rmul (typeIs_int s k t) F.entry_int_rmul (F.args_int_rmul_2 _ _) (int___rmul___int_list k t l its.toArray n)
      ⟨e,rfl,⟨_,e,rfl⟩,call_meets F.slot_list_mul ⟨_,e,rfl⟩ F.entry_list_mul (F.args_list_mul_2 _ _) (AutoListH.list___mul___list_int_3 l its.toArray n k t hfit hcap hlong) ⟨e,?_⟩⟩)
  rw [hnew]
  exact⟨.ref _,_,I.lnew (t':=s.toks) (r.rep k.toNat) (by rw [xo,Nat.mul_comm];exact hz),rfl,q _ I.fresh⟩
end
section
variable{prog:Program}{w:World}{A:Around}{E:Value→Shared→Prop}{s:Shared}
end
section
variable{X:Cx}
end
end L2
namespace Att
open PySem PySem.W PySem.Calls PyProof.Rows
theorem ky{P:Params}{h:Heap}:∀(ns:List Int) (vs:List Value),WellAll P h vs (ns.map WData.int)→IntsAre vs ns:=by
  intro ns
  induction ns with
  | nil=>
    intro vs w
    rw [List.map_nil] at w
    cases w
    exact .nil
  | cons n ns ih=>
    intro vs w
    rw [List.map_cons] at w
    cases w with
    | cons a b=>
      cases a
      exact .cons _ _ (ih _ b)
theorem sU{l:OpenLaw}{n:Nat}(hn:l.most=some n){P:Params}{h:Heap}{args:List WData}{vals:List Value}
    (hpre:l.row.toRowW.claim.pre args=true)(hwl:WellAll P h vals args):
    ∃a vs ns,vals=[Value.ref a]∧args=[WData.list (ns.map WData.int)]∧h.get? a=some {cls:=.type "list",data:=.seq vs.toArray}∧IntsAre vs ns∧ns.length≤n:=by
  have hsh:WShape.hasAll [] args [.list .int]=true:=(pre_splitW hpre).1
  have hc:l.pre.holds [] {args:=args}=true:=(pre_splitW hpre).2
  obtain⟨d,r,rfl,h1,h2⟩:=hasAllW_cons hsh
  obtain rfl:=hasAllW_nil h2
  obtain⟨xs,rfl,h3⟩:=hasW_list h1
  obtain⟨ns,rfl⟩:=items_int h3
  have hlen:ns.length≤n:=by
    unfold OpenLaw.pre at hc
    have h4:(WTm.not (.lt (.lit (.int (n:Int))) (.len (.arg 0)))).holds [] {args:=[.list (ns.map .int)]}=true:=by
      have h4:=(holds_andW hc).1
      rw [hn] at h4
      exact h4
    have h5:=condW_of h4 (w_not (w_lt w_lit (w_len_list (w_arg rfl))))
    rw [List.length_map] at h5
    refine Nat.le_of_not_lt fun q=>?_
    have q':(n:Int) < ((ns.length:Nat):Int):=by lia
    first
      | (rw [decide_eq_true q'] at h5;exact absurd h5 (by decide))
      | (simp at h5;lia)
  cases hwl with
  | cons w1 w2=>
    cases w2
    cases w1 with
    | list ho hall=>exact⟨_,_,ns,rfl,rfl,ho,ky ns _ hall,hlen⟩
theorem sQ(l:OpenLaw)(args:List WData):l.row.toRowW.claim.post args (.bool true) args=true:=
  postW_of (r:=l.row.toRowW) (X:=(true==true))
    (show WShape.has [] (.bool true) .bool=true by first | rfl | decide | simp [WShape.has,WShape.arms,WShape.armsAll])
    (show(WTm.eq .res (.lit (.bool true))).value [] {args:=args,res:=some (.bool true),after:=args}=some (.bool (true==true)) from w_eq_bool (w_res rfl) w_lit) rfl
theorem attach_call{l:OpenLaw}{n:Nat}{q:Program}{loose:List Str}{XP:(Str→Option Value)→Heap→Prop}{YP:World→Heap→Prop}{d:DefRec}
    (hn:l.most=some n)(hdf:d.params.defaults=[])
    (call:∀(w:World) (s₀ s₁:Shared) (mg mb:Str→Option Value) (fa:Addr) (o:Obj) (pm cd doc:Value) (a:Addr) (vs:List Value) (ns:List Int),
      Ground q loose [] XP w s₀ mg mb s₁.heap→YP w s₁.heap→
      s₁.heap.get? fa=some o→o.data=.func (docDef d.name d.params d.body d.scope pm cd doc)→s₁.heap.CodeRec cd d.name→mg d.name=some (.ref fa)→
      s₁.heap.get? a=some {cls:=.type "list",data:=.seq vs.toArray}→IntsAre vs ns→ns.length≤n→s₁.gens=#[]→
      codeAny (model l.prog w) callerA (.call (.ref fa) ⟨[.ref a],[]⟩) (fun r s'=>r=.ok (.ret (.bool true))∧OldK s₁.heap s'.heap∧s'.os=s₁.os∧AllBare s'.gens) s₁):
    WalkO q loose XP YP l.row.toRowW d [] (fun f vs=>PySem.call f vs):=by
  intro w s₀ s₁ mg mb G Y fa o pm cd doc dV kV ho hd hcd hD hmg hg args vals as hpre hlay hrd hwl hlo
  obtain rfl:dV=.none:=Dflts.none hD hdf
  obtain rfl:kV=.none:=Dflts.noKw hD
  obtain⟨a,vs,ns,rfl,rfl,hobj,hints,hlen⟩:=sU hn hpre hwl
  refine enter_call (codeAny_mono (call w s₀ s₁ mg mb fa o pm cd doc a vs ns G Y ho (fd_plain hd) hcd hmg hobj hints hlen hg) fun r s' hq=>?_)
  obtain⟨rfl,h2,h3,h4⟩:=hq
  exact⟨.inl ⟨.bool true,.bool true,[],rfl,fun _=>rfl,.bool true,sQ l _,fun _=>⟨List.Pairwise.nil,fun _ hm=>(nomatch hm)⟩⟩,h2,h3,h4⟩
section
variable{prog:Program}{w:World}{A:Around}{E:Value→Shared→Prop}{s:Shared}{K:Frag}
end
end Att
namespace L2
open PySem PySem.Spec PyProof.Rows
theorem iu:∀{vs:List Value} {ns:List Int},IntsAre vs ns→aE (ns.map V.int) vs
  | _,_,.nil=>.nil
  | _,_,.cons n t h=>.cons ⟨t,rfl⟩ (iu h)
def zu(H:Hp):Prop:=∀b,H b=none∨∃o xs,H b=some (.frz o (.lst xs))
theorem uW{P:Program}{w:World}{K:PySem.W.Frag}{mg mb:Str→Option Value}{CX:rZ}{k:Nat}{fa a:Addr}{fd:FuncData}{x:Str}{sp:Sp}{s₁:Shared}{vs:List Value}{ns:List Int}
    (KX:K.In s₁.heap)(hns:s₁.heap.Ns mainGlobals mg)(hb:s₁.heap.Ns builtinsNs mb)(hbb:∀x:Str,x≠"__name__"→mb x=bootBuiltins x)(hlim:s₁.heap.NoLimit)(hg:s₁.gens=#[])
    (ha:s₁.heap.get? a=some {cls:=.type "list",data:=.seq vs.toArray})(hi:IntsAre vs ns)(hl:ns.length≤sizeLine)(hr:bW k callerA)
    (F:∀base:Heap,K.In base→base.Ns mainGlobals mg→aJ P w K mg base CX k fa fd [x] sp)(hbind:∀(s:Shared) (u:Value),BindsTo s fd ⟨[u],[]⟩ [(x,u)])
    (hsp:∀H:Hp,zu H→dP K H a (ns.map V.int)→sp [.ref a] H (fun v _=>v=.bl true) fun _ _ _=>False)
    (hCX:∀H e s',CX [] H s₁ (fun _ _ _=>False) e s'→False):
    codeAny (model P w) callerA (.call (.ref fa) ⟨[.ref a],[]⟩) (fun r s'=>r=.ok (.ret (.bool true))∧OldK s₁.heap s'.heap∧s'.os=s₁.os∧AllBare s'.gens) s₁:=by
  have rv:=iu hi
  have lenV:=hi.length
  have core:∀H:Hp,zu H→dP K H a (ns.map V.int)→kY P w H s₁.heap→(∀b,H b≠none→b=a)→(H a≠none→K.lookup a=none)→
      codeAny (model P w) callerA (.call (.ref fa) ⟨[.ref a],[]⟩) (fun r s'=>r=.ok (.ret (.bool true))∧OldK s₁.heap s'.heap∧s'.os=s₁.os∧AllBare s'.gens) s₁:=by
    intro H hO hS hok hA hK
    have base_of:∀{b:Addr} {o:Obj},s₁.heap.get? b=some o→H b=none→(nB s₁.heap H).get? b=some o:=fun e n=>uQ e n
    have noA:∀{b:Addr} {o:Obj} {es:Array DictEntry} {ep:Nat},s₁.heap.get? b=some o→o.data=.dict es ep→H b=none:=fun{b o es ep} e d=>by
      cases q:H b with
      | none=>rfl
      | some u=>
        have e':b=a:=hA b (by rw [q];simp)
        subst e'
        rw [ha] at e;cases e
        have d':Data.seq vs.toArray _=Data.dict es ep:=d
        cases d'
    have nsK:∀{b:Addr} {m:Str→Option Value},s₁.heap.Ns b m→(nB s₁.heap H).Ns b m:=fun{b m} ⟨o,es,ep,e,d,r⟩=>⟨o,es,ep,base_of e (noA e d),d,r⟩
    have hKb:K.In (nB s₁.heap H):=fun b o e=>base_of (KX b o e) (by
      cases q:H b with
      | none=>rfl
      | some u=>
        have e':b=a:=hA b (by rw [q];simp)
        subst e'
        rw [hK (by rw [q];simp)] at e;cases e)
    have hM:Mod K mg (nB s₁.heap H):=⟨hKb,nsK hns,⟨mb,nsK hb,hbb⟩,let ⟨mc,h1,h2⟩:=hlim;⟨mc,nsK h1,h2⟩⟩
    have e0:wL P w K mg (nB s₁.heap H) callerA [] s₁ H:=⟨rfl,hM,fun b o e=>xu e,Nat.le_of_eq (sx _ _),trivial,fun b hb=>absurd (show b∈([]:List Addr) from hb) (by simp),hok,.of_eq hg⟩
    refine codeAny_mono ((F _ hKb (nsK hns)).run callerA [] s₁ H ⟨[.ref a],[]⟩ [.ref a] [.ref a] _ _ hr e0 (hbind s₁ (.ref a)) (.cons rfl .nil) (hsp H hO hS)) fun r s' h=>?_
    cases r with
    | error e=>exact(hCX H e s' h).elim
    | ok fl=>
      cases fl with
      | next=>exact False.elim h
      | brk=>exact False.elim h
      | cont=>exact False.elim h
      | ret u=>
        obtain⟨v,H',os,bare,un,hok',r',q⟩:=h
        have q':v=.bl true:=q
        subst q'
        obtain rfl:u=Value.bool true:=r'
        refine⟨rfl,OldK.of_keep fun b o e=>?_,os,bare⟩
        cases q:H b with
        | none=>exact un.keep b o e q (by intro z;exact absurd (show b∈([]:List Addr) from z) (by simp)) (by simp)
        | some u=>
          rcases hO b with z | ⟨ob,xs,z⟩
          · rw [q] at z;cases z
          · have z2:=un.frzs b ob _ z
            obtain⟨e1,_⟩:=hok b _ z
            obtain⟨e2,_⟩:=hok' b _ z2
            rw [e] at e1;cases e1
            exact e2
  cases hk:K.lookup a with
  | some o=>
    have e:=KX a o hk
    rw [ha] at e
    cases e
    refine core (fun _=>none) (fun _=>.inl rfl) (.inr ⟨_,vs.toArray,_,hk,rfl,rfl,rfl,by rw [List.size_toArray,lenV];exact hl,by simpa using rv⟩) (fun b u z=>by have z':(none:Option HO)=some u:=z;cases z') (fun b z=>absurd rfl z) fun z=>absurd rfl z
  | none=>
    refine core (fun b=>if b=a then some (.frz {cls:=.type "list",data:=.seq vs.toArray} (.lst (ns.map V.int))) else none) (fun b=>?_) (.inl (.inr ⟨{cls:=.type "list",data:=.seq vs.toArray},if_pos rfl⟩)) (fun b u z=>?_) (fun b z=>?_) fun _=>hk
    · by_cases hb:b=a
      · exact .inr ⟨_,_,if_pos hb⟩
      · exact .inl (if_neg hb)
    · by_cases hb:b=a
      · have z':=(if_pos hb).symm.trans z
        cases z'
        subst hb
        exact⟨ha,by rw [List.length_map];exact hl,vs,_,rv,ha⟩
      · have z':=(if_neg hb).symm.trans z
        cases z'
    · by_cases hb:b=a
      · exact hb
      · exact absurd (if_neg hb) z
end L2
namespace L2
open PySem PySem.Spec PyProof.Rows
theorem walk_of{l:PySem.W.OpenLaw}{n k:Nat}{q:Program}{loose:List Str}{XP:(Str→Option Value)→Heap→Prop}{YP:World→Heap→Prop}{d:DefRec}{K:Params→PySem.W.Frag}{CX:World→rZ}{sp:World→Sp}{x:Str}
    (hn:l.most=some n)(hn2:n≤sizeLine)(hdf:d.params.defaults=[])(hr:bW k callerA)
    (hY:∀(w:World) (h:Heap),YP w h→(K w.params).In h)
    (F:∀(w:World) (mg:Str→Option Value) (fa:Addr) (h:Heap),(K w.params).In h→h.Ns mainGlobals mg→mg d.name=some (.ref fa)→
      ∃fd:FuncData,(∀(s:Shared) (u:Value),BindsTo s fd ⟨[u],[]⟩ [(x,u)])∧
        ∀base:Heap,(K w.params).In base→base.Ns mainGlobals mg→aJ l.prog w (K w.params) mg base (CX w) k fa fd [x] (sp w))
    (hsp:∀(w:World) (H:Hp) (a:Addr) (ns:List Int),ns.length≤n→zu H→dP (K w.params) H a (ns.map V.int)→sp w [.ref a] H (fun v _=>v=.bl true) fun _ _ _=>False)
    (hCX:∀(w:World) (H:Hp) (s:Shared) (e:Value) (s':Shared),CX w [] H s (fun _ _ _=>False) e s'→False):
    PySem.W.WalkO q loose XP YP l.row.toRowW d [] (fun f vs=>PySem.call f vs):=by
  refine Att.attach_call hn hdf fun w s₀ s₁ mg mb fa o pm cd doc a vs ns G Y ho hd hcd hmg hobj hints hlen hg=>?_
  have KX:=hY w _ Y
  obtain⟨fd,hb,hF⟩:=F w mg fa _ KX G.T.g hmg
  exact uW KX G.T.g G.T.b G.T.builtins G.T.nolimit hg hobj hints (Nat.le_trans hlen hn2) hr hF hb (fun H hO hS=>hsp w H a ns hlen hO hS) fun H e s'=>hCX w H s₁ e s'
end L2
namespace L2
open PySem PySem.Spec PyProof.Rows
def c7(s:Stmt):Arguments:=match s with
  | .FunctionDef _ a _ _ _ _ _ _ _ _=>a
  | _=>{posonlyargs:=[],args:=[],vararg:=none,kwonlyargs:=[],kw_defaults:=[],kwarg:=none,defaults:=[]}
def cA(s:Stmt):List Stmt:=match s with
  | .FunctionDef _ _ b _ _ _ _ _ _ _=>b
  | _=>[]
def ap(s:Stmt):Scope:=match s with
  | .FunctionDef _ _ _ _ _ _ sc _ _ _=>sc
  | _=>{kind:=.function,names:=[],isGenerator:=false,isCoroutine:=false}
abbrev cy:rZ:=fun _ _ _ _ _ _=>False
abbrev E0:XK:=fun _ _ _=>False
theorem Cw{X:Cx}:pW cy X E0:=fun _ _ _ _ _ _ _ h=>h.elim
structure Bx (K:PySem.W.Frag) (x qual:Str) (st:Stmt) (f:Addr) (fd:FuncData):Prop where
  ex:∃(oc:Value) (od:Option Addr) (kV doc pm:Value) (an:Option Addr) (cdv ct:Value) (osl:Array (Option Value)),
    fd=PySem.W.fnOf x qual (c7 st) (cA st) (ap st) .none kV doc pm an cdv ct∧K.lookup f=some ⟨oc,od,.func fd,osl⟩∧PySem.W.codeIn K cdv qual=true
  kp:PySem.W.keepIn K (.ref f)=true
section
variable{P:Program}{w:World}{K:PySem.W.Frag}{mg:Str→Option Value}{base:Heap}
theorem Bx.ok{x qual:Str}{st:Stmt}{f:Addr}{fd:FuncData}{N ps:List Str}{k:Nat}{sp:Sp}(F:Bx K x qual st f fd)(S:aA N ps (ap st))(len:∀vs H Q E,sp vs H Q E→vs.length=ps.length)
    (hbody:∀(cdv:Value) (A:Around) (outer:List Env) (s:Shared) (H:Hp) (vs:List V) (Q:VK) (E:XK),bW k (A.deeper (envOfC qual (ap st) s.heap.objs.size f cdv))→sp vs H Q E→
      ∃t,ko (qd cy P w K mg base N qual (ap st) f cdv A outer s H E).nox (cA st) t∧t {nx:=fun _ H'=>Q .non H',rt:=Q} (gL N vs) H):aJ P w K mg base cy (k+1) f fd ps sp:=by
  obtain⟨oc,od,kV,doc,pm,an,cdv,ct,osl,rfl,lk,hcd⟩:=F.ex
  refine B3 lk hcd S len fun A outer s H vs Q E hr hsp=>?_
  obtain⟨t,h,q⟩:=hbody cdv A outer s H vs Q E hr hsp
  exact⟨t,h.nox,q⟩
theorem Bx.binds{x qual:Str}{st:Stmt}{f:Addr}{fd:FuncData}{ps:List Str}(F:Bx K x qual st f fd)
    (h:∀(kV doc pm:Value) (an:Option Addr) (cdv ct:Value) (us:List Value),us.length=ps.length→bindArgs (PySem.W.fnOf x qual (c7 st) (cA st) (ap st) .none kV doc pm an cdv ct) ⟨us,[]⟩=pure (ps.zip us)):mj K fd ps []:=by
  obtain⟨oc,od,kV,doc,pm,an,cdv,ct,osl,rfl,lk,hcd⟩:=F.ex
  exact .all (h kV doc pm an cdv ct)
theorem um{x qual:Str}{st:Stmt}{f:Addr}{oc:Value}{od an:Option Addr}{osl:Array (Option Value)}{kV doc pm cdv ct:Value}(l:K.lookup f=some ⟨oc,od,.func (PySem.W.fnOf x qual (c7 st) (cA st) (ap st) .none kV doc pm an cdv ct),osl⟩)
    (c:PySem.W.codeIn K cdv qual=true)(k:PySem.W.keepIn K (.ref f)=true):Bx K x qual st f (PySem.W.fnOf x qual (c7 st) (cA st) (ap st) .none kV doc pm an cdv ct):=⟨⟨oc,od,kV,doc,pm,an,cdv,ct,osl,rfl,l,c⟩,k⟩
end
theorem mU{n:Nat}(h:n≤1000):n < sizeLine:=Nat.lt_of_le_of_lt h (by decide)
section
variable{X:Cx}
end
theorem Ce{A B:Prop}(h:B):if false=true then A else B:=by
  rw [if_neg Bool.false_ne_true]
  exact h
theorem Cf{A B:Prop}(h:A):if true=true then A else B:=by
  rw [if_pos rfl]
  exact h
def ar(H H':Hp):Prop:=∀b o,H b=some o→H' b=some o
theorem ar.refl(H:Hp):ar H H:=fun _ _ h=>h
theorem ar.trans{H H1 H2:Hp}(a:ar H H1)(b:ar H1 H2):ar H H2:=fun c o h=>b c o (a c o h)
theorem ar.free{H H':Hp}(e:ar H H'){l:Addr}(h:H' l=Option.none):H l=Option.none:=by
  cases q:H l with
  | none=>rfl
  | some o=>
    rw [e l o q] at h
    cases h
theorem ar.seq{K:PySem.W.Frag}{H H':Hp}{a:Addr}{xs:List V}(e:ar H H')(h:dP K H a xs):dP K H' a xs:=by
  rcases h with (h | ⟨o,h⟩) | h
  · exact .inl (.inl (e _ _ h))
  · exact .inl (.inr ⟨o,e _ _ h⟩)
  · exact .inr h
end L2
set_option maxHeartbeats 4000000
namespace L2
open PySem PySem.Spec PyProof.Rows
def Bt(n:Nat)(i:Int):Prop:=i.natAbs < 2 ^ n
theorem Bt.mono{m n:Nat}{i:Int}(h:Bt m i)(hm:m≤n):Bt n i:=Nat.lt_of_lt_of_le h (Nat.pow_le_pow_right (by decide) hm)
theorem Bt.log{m:Nat}{i:Int}(h:Bt m i)(hm:0 < m):i.natAbs.log2 < m:=by
  unfold Bt at h
  rcases Nat.eq_zero_or_pos i.natAbs with h0 | hp
  · rw [h0];exact hm
  · exact(Nat.log2_lt (by lia)).mpr h
theorem Bt.bits{m:Nat}{i:Int}(h:Bt m i)(hm:0 < m):Builtin.Int.intBits i≤m:=by
  unfold Builtin.Int.intBits
  split
  · exact Nat.zero_le _
  · exact h.log hm
theorem Bt.of_le{m:Nat}{i:Int}{j:Int}(h:Bt m j)(e:i.natAbs≤j.natAbs):Bt m i:=Nat.lt_of_le_of_lt e h
section
variable{X:Cx}
def yG(i j:Int):Prop:=Bt 4000 i∧Bt 4000 j
theorem xM:fm X (binaryOp .Mult) (rI yG fun i j=>.int (i*j)):=Cr fun _ _ _ _ _ _ _ hc q=>
  mul_int q (.of_bits (Nat.le_trans (hc.1.bits (by decide)) (by decide)) (Nat.le_trans (hc.2.bits (by decide)) (by decide)))
def yF(i j:Int):Prop:=j≠0∧Bt 8000 j
theorem vo:fm X (binaryOp .FloorDiv) (rI yF fun i j=>.int (i.fdiv j)):=Cr fun _ _ _ _ _ _ _ hc q=>
  floordiv_int hc.1 q (.inl (PyProof.noPylong_of_log2 (Nat.lt_trans (hc.2.log (by decide)) (by decide))))
def D3(K:PySem.W.Frag):R2:=fun x y H Q=>∃a b xs,x=.ref a∧y=.ref b∧dP K H a xs∧dP K H b []∧Q (.bl xs.isEmpty) H
theorem Ah(hu:X.A.units < cLine):fm X (compareOp .Eq) (D3 X.K):=by
  intro pins s σ H x y v u Q I rx ry h
  obtain⟨a,b,xs,rfl,rfl,ha,hb,q⟩:=h
  cases rx
  cases ry
  obtain⟨its,r,p,hz⟩:=I.list ha
  obtain⟨its2,r2,p2,hz2⟩:=I.list hb
  cases r2
  cases r with
  | nil=>
    refine SeqAt.eq_listAt (e:=fun _=>true) p.isList p2.isList rfl hu (fun j h1 h2=>by simp at h1) ?_
    exact⟨.bl true,H,I,rfl,q⟩
  | cons r rr=>
    refine SeqAt.eq_list_lengthsAt p.isList p2.isList (by simp) hu ?_
    exact⟨.bl false,H,I,rfl,q⟩
theorem Al:fm X (compareOp .Is) (fun x y H Q=>∃b c,x=.bl b∧y=.bl c∧Q (.bl (b==c)) H):=by
  intro pins s σ H x y v u Q I rx ry h
  obtain⟨b,c,rfl,rfl,q⟩:=h
  cases rx;cases ry
  exact is_bool ⟨.bl _,H,I,rfl,q⟩
end
def jY(H H':Hp):Prop:=∀a o,H a=some o→(∀xs,o≠.lst xs)→(∀ob xs,o≠.frz ob (.lst xs))→H' a=some o
theorem jY.trans{H H1 H2:Hp}(a:jY H H1)(b:jY H1 H2):jY H H2:=fun c o h n m=>b c o (a c o h n m) n m
theorem ar.ts{H H':Hp}(h:ar H H'):jY H H':=fun a o e _ _=>h a o e
theorem jY.tup{K:PySem.W.Frag}{H H':Hp}(h:jY H H'){a:Addr}{xs:List V}(q:cc K H a xs):cc K H' a xs:=by
  rcases q with (q | ⟨o,q⟩) | q
  · exact .inl (.inl (h _ _ q (fun _ e=>nomatch e) (fun _ _ e=>nomatch e)))
  · exact .inl (.inr ⟨o,h _ _ q (fun _ e=>nomatch e) (fun _ _ e=>nomatch e)⟩)
  · exact .inr q
section
variable{X:Cx}
end
end L2
namespace L2
open PySem PySem.Spec PyProof.Rows
structure bD (K:PySem.W.Frag) (mg:Str→Option Value) (x:Str) (st:Stmt) (f:Addr) (fd:FuncData) (ps:List Str):Prop where
  F:Bx K x x st f fd
  m:mg x=some (.ref f)
  b:mj K fd ps []
theorem zN{K:PySem.W.Frag}{mg:Str→Option Value}{h:Heap}{x:Str}{st:Stmt}{f:Addr}{ps:List Str}{oc:Value}{od an:Option Addr}{osl:Array (Option Value)}{kV doc pm cdv ct:Value}(X:K.In h)(G:h.Ns mainGlobals mg)(a:PySem.W.nsIn K mainGlobals x=some (some (.ref f)))
    (l:K.lookup f=some ⟨oc,od,.func (PySem.W.fnOf x x (c7 st) (cA st) (ap st) .none kV doc pm an cdv ct),osl⟩)(c:PySem.W.codeIn K cdv x=true)(k:PySem.W.keepIn K (.ref f)=true)
    (hb:∀(kV doc pm:Value) (an:Option Addr) (cdv ct:Value) (us:List Value),us.length=ps.length→bindArgs (PySem.W.fnOf x x (c7 st) (cA st) (ap st) .none kV doc pm an cdv ct) ⟨us,[]⟩=pure (ps.zip us)):
    bD K mg x st f (PySem.W.fnOf x x (c7 st) (cA st) (ap st) .none kV doc pm an cdv ct) ps:=⟨um l c k,PySem.W.mg_of X G a,(um l c k).binds hb⟩
theorem D1{X:Cx}{x:Str}{st:Stmt}{f:Addr}{fd:FuncData}{ps:List Str}{k:Nat}{sp:Sp}{e:Expr}{es:List Expr}{t:TA}{p pos:Pos}(h:bD X.K X.mg x st f fd ps)(G:aJ X.prog X.w X.K X.mg X.base cy k f fd ps sp)(hr:bW k X.A)(ha:PA X (e::es) t)
    (hg:Gl X x:=by rfl)(hdb:(x==("__debug__":Str))=false:=by decide)(he:starEach (e::es) X.env=(false,eval e X.env)::starEach es X.env:=by rfl)(hpl:(backTo pos (starEach es X.env)).any (·.1)=false:=by rfl):
    PE X (.Call (.Name x p) (e::es) [] pos) (we sp [] E0 t):=xO G hr hg h.m h.F.kp h.b .nil Cw ha hdb he hpl
theorem ar.new{H:Hp}{p:Addr}{o:HO}(h:H p=none):ar H (aM H p o):=fun b u e=>by
  rw [aC (dJ e h)];exact e
theorem ar.tup{K:PySem.W.Frag}{H H':Hp}{a:Addr}{xs:List V}(e:ar H H')(h:cc K H a xs):cc K H' a xs:=e.ts.tup h
end L2
namespace L2
open PySem PySem.Spec PyProof.Rows
def eh(t b:Int):Int × Int:=if b < 0 then(t.fdiv (-(Int.gcd t b:Int)),b.fdiv (-(Int.gcd t b:Int))) else(t.fdiv (Int.gcd t b:Int),b.fdiv (Int.gcd t b:Int))
theorem uO(x y:Int):Int.gcd y (x.fmod y)=Int.gcd x y:=by
  rw [Int.fmod_def,Int.gcd_sub_mul_left_right,Int.gcd_comm]
theorem j'(x:Int){y:Int}(h:y≠0):(x.fmod y).natAbs < y.natAbs:=by
  rcases Int.lt_or_gt_of_ne h with h | h
  · have h1:x.fmod y= -((-x).fmod (-y)):=by
      have:=Int.neg_fmod_neg x y
      lia
    have h2:=Int.fmod_nonneg_of_pos (-x) (b:= -y) (by lia)
    have h3:=Int.fmod_lt_of_pos (-x) (b:= -y) (by lia)
    lia
  · have h2:=Int.fmod_nonneg_of_pos x h
    have h3:=Int.fmod_lt_of_pos x h
    lia
theorem rD{t b:Int}(h:b≠0):(0:Int) < Int.gcd t b:=by
  have:=Int.gcd_pos_of_ne_zero_right t h
  lia
theorem mI{t b:Int}(h:b≠0):∃d:Int,d.natAbs=Int.gcd t b∧d≠0∧(eh t b).1*d=t∧(eh t b).2*d=b∧0 < (eh t b).2:=by
  have hg:=rD (t:=t) h
  have d1:(Int.gcd t b:Int) ∣ t:=Int.gcd_dvd_left ..
  have d2:(Int.gcd t b:Int) ∣ b:=Int.gcd_dvd_right ..
  unfold eh
  split
  · rename_i hb
    have e1:t.fdiv (-(Int.gcd t b:Int))*(-(Int.gcd t b:Int))=t:=Int.fdiv_mul_cancel (Int.neg_dvd.mpr d1)
    have e2:b.fdiv (-(Int.gcd t b:Int))*(-(Int.gcd t b:Int))=b:=Int.fdiv_mul_cancel (Int.neg_dvd.mpr d2)
    refine⟨-(Int.gcd t b:Int),by lia,by lia,e1,e2,?_⟩
    show 0 < b.fdiv (-(Int.gcd t b:Int))
    have h3:b.fdiv (-(Int.gcd t b:Int))*(Int.gcd t b:Int)= -b:=by rw [Int.mul_neg] at e2;lia
    exact Int.pos_of_mul_pos_left (by lia) (by lia) (b:=(Int.gcd t b:Int))
  · rename_i hb
    have e1:t.fdiv (Int.gcd t b:Int)*(Int.gcd t b:Int)=t:=Int.fdiv_mul_cancel d1
    have e2:b.fdiv (Int.gcd t b:Int)*(Int.gcd t b:Int)=b:=Int.fdiv_mul_cancel d2
    refine⟨(Int.gcd t b:Int),by lia,by lia,e1,e2,?_⟩
    show 0 < b.fdiv (Int.gcd t b:Int)
    exact Int.pos_of_mul_pos_left (by lia) (by lia) (b:=(Int.gcd t b:Int))
theorem u9{t b:Int}(h:b≠0):Int.gcd (eh t b).1 (eh t b).2=1:=by
  obtain⟨d,h1,h2,h3,h4,h5⟩:=mI (t:=t) h
  have e:Int.gcd ((eh t b).1*d) ((eh t b).2*d)=Int.gcd (eh t b).1 (eh t b).2*d.natAbs:=Int.gcd_mul_right ..
  rw [h3,h4,←h1] at e
  have hd:0 < d.natAbs:=by lia
  exact(Nat.eq_of_mul_eq_mul_right hd (by rw [Nat.one_mul];exact e)).symm
theorem zL{t b:Int}(h:b≠0){n:Nat}(hb:Bt n b):Bt n (Int.gcd t b:Int):=by
  refine hb.of_le ?_
  have h1:=Nat.le_of_dvd (show 0 < b.natAbs by lia) (Int.ofNat_dvd.mp (by rw [Int.dvd_natAbs];exact Int.gcd_dvd_right t b))
  lia
mutual
def cnt:PyData→Nat
  | .tuple ds=>1+iB ds
  | .str _=>0
  | _=>1
def iB:List PyData→Nat
  | []=>0
  | d::ds=>cnt d+iB ds
end
mutual
def lG:PyData→Bool
  | .tuple ds=>fP ds
  | .str _=>false
  | .list _=>false
  | .dict _=>false
  | _=>true
def fP:List PyData→Bool
  | []=>true
  | d::ds=>lG d&&fP ds
end
theorem md{a:Int}(h:a.natAbs.log2 < 1920):(Str.ofString (toString a)).length≤1921:=by
  have e:=int_text_length_le (k:=1920) (by decide) h
  rw [PySem.ofString_length];lia
theorem lJ(x:Str)(r:List Str):piled (x::r)=x.length+2+piled r:=by
  simp [piled]
theorem mV(ts:List Str):(tupleText ts).length≤piled ts+3:=by
  unfold tupleText
  rw [strLen_append,strLen_append]
  have h1:(("(":Str)).length=1:=by decide
  have h2:(Str.ofString (if (ts.length==1)=true then ",)" else ")")).length≤2:=by split<;>decide
  have h3:(Str.join ", " ts).length≤piled ts:=by
    cases ts with
    | nil=>show(Str.join ", " []).length≤0;decide
    | cons x r=>have:=join_length_add (x::r) (by simp);lia
  lia
mutual
theorem mT:∀{d:PyData},lG d=true→d.showable=true→d.shown.length+2≤2000*cnt d
  | .none,_,_=>by show(Str.ofString "None").length+2≤2000*1;decide
  | .bool b,_,_=>by
    cases b
    · show(Str.ofString "False").length+2≤2000*1;decide
    · show(Str.ofString "True").length+2≤2000*1;decide
  | .int i,_,hs=>by
    simp only [PyData.showable,decide_eq_true_eq] at hs
    have:=md hs
    show(Str.ofString (toString i)).length+2≤2000*1
    lia
  | .tuple ds,hn,hs=>by
    simp only [PyData.showable] at hs
    simp only [lG] at hn
    have h1:=jB hn hs
    have h2:=mV (PyData.shownAll ds)
    simp only [PyData.shown,cnt]
    lia
  | .str _,hn,_=>by simp [lG] at hn
  | .list _,hn,_=>by simp [lG] at hn
  | .dict _,hn,_=>by simp [lG] at hn
theorem jB:∀{ds:List PyData},fP ds=true→PyData.showableAll ds=true→piled (PyData.shownAll ds)≤2000*iB ds
  | [],_,_=>by simp [PyData.shownAll,piled]
  | d::ds,hn,hs=>by
    simp only [fP,Bool.and_eq_true] at hn
    simp only [PyData.showableAll,Bool.and_eq_true] at hs
    have h1:=mT hn.1 hs.1
    have h2:=jB hn.2 hs.2
    simp only [PyData.shownAll,iB,lJ]
    lia
end
end L2
namespace L2
open PySem PySem.Spec PyProof.Rows
def bM(env:Env):List (Str × NameKind)→List (Str × Addr)→List (Str × Addr)
  | [],cs=>cs
  | (n,k)::r,cs=>bM env r (if k==.free then(n,(env.cells.lookup n).getD 0)::cs else cs)
theorem i9{env:Env}:∀(names:List (Str × NameKind)) (cs:List (Str × Addr)),(∀y∈names,y.2=.free→∃c,env.cells.lookup y.1=some c)→
    (forIn names cs (fun(x:Str × NameKind) (r:List (Str × Addr))=>(if (x.2==NameKind.free)=true then do let a ←cellOf env x.1;pure (ForInStep.yield ((x.1,a)::r)) else pure (ForInStep.yield r):Sem (ForInStep (List (Str × Addr))))):Sem (List (Str × Addr)))=pure (bM env names cs)
  | [],cs,_=>rfl
  | (n,k)::r,cs,h=>by
    rw [List.forIn_cons]
    have ih:=fun cs'=>i9 (env:=env) r cs' (fun y hy=>h y (List.mem_cons_of_mem _ hy))
    by_cases hk:(k==NameKind.free)=true
    · have hk':k=.free:=by simpa using hk
      obtain⟨c,hc⟩:=h (n,k) List.mem_cons_self hk'
      have e:cellOf env n=pure c:=by unfold cellOf;rw [hc]
      simp only [hk,if_true,e,pure_bind,bM,hc,Option.getD_some]
      exact ih _
    · have hk':(k==NameKind.free)=false:=by simpa using hk
      simp only [hk',Bool.false_eq_true,if_false,pure_bind,bM]
      exact ih _
theorem gb{scope:Scope}{env:Env}(h:∀y∈scope.names,y.2=.free→∃c,env.cells.lookup y.1=some c):closureFor scope env=pure (bM env scope.names []):=by
  have e:=i9 (env:=env) scope.names [] h
  unfold closureFor
  simp only [pure_bind,bind_pure] at e ⊢
  exact e
theorem eK{env:Env}:∀(names:List (Str × NameKind)) (cs:List (Str × Addr)) (x:Str) (c:Addr),(∀y∈names,y.2=.free→∃c,env.cells.lookup y.1=some c)→(∀x c,cs.lookup x=some c→env.cells.lookup x=some c)→(bM env names cs).lookup x=some c→env.cells.lookup x=some c
  | [],cs,x,c,_,hs,h=>hs x c h
  | (n,k)::r,cs,x,c,hn,hs,h=>by
    refine eK r _ x c (fun y hy=>hn y (List.mem_cons_of_mem _ hy)) (fun x' c' e=>?_) h
    by_cases hk:(k==NameKind.free)=true
    · rw [if_pos hk] at e
      obtain⟨c0,hc⟩:=hn (n,k) List.mem_cons_self (by simpa using hk)
      rw [List.lookup_cons] at e
      cases hx:x'==n with
      | true=>
        rw [hx] at e
        have e1:x'=n:=by simpa using hx
        subst e1
        simp only [hc,Option.getD_some,Option.some.injEq] at e
        rw [←e];exact hc
      | false=>rw [hx] at e;exact hs x' c' e
    · rw [if_neg hk] at e
      exact hs x' c' e
theorem gR{env:Env}:∀(names:List (Str × NameKind)) (cs:List (Str × Addr)) (x:Str),((∃y∈names,y.1=x∧y.2=.free)∨∃c,cs.lookup x=some c)→∃c,(bM env names cs).lookup x=some c
  | [],cs,x,h=>by
    rcases h with ⟨y,hy,_⟩ | h
    · cases hy
    · exact h
  | (n,k)::r,cs,x,h=>by
    refine gR r _ x ?_
    by_cases hk:(k==NameKind.free)=true
    · rw [if_pos hk,List.lookup_cons]
      cases hx:x==n with
      | true=>exact .inr ⟨_,rfl⟩
      | false=>
        rcases h with ⟨y,hy,e1,e2⟩ | h
        · rcases List.mem_cons.mp hy with z | z
          · subst z;subst e1;simp at hx
          · exact .inl ⟨y,z,e1,e2⟩
        · exact .inr h
    · rw [if_neg hk]
      rcases h with ⟨y,hy,e1,e2⟩ | h
      · rcases List.mem_cons.mp hy with z | z
        · subst z;exact absurd (by simpa using e2) hk
        · exact .inl ⟨y,z,e1,e2⟩
      · exact .inr h
theorem dh{env:Env}:∀{names:List (Str × NameKind)} {x:Str},(∀y∈names,y.2≠.cell)→(names.map fun(n,k)=>if (k==NameKind.free&&env.scope.kind==.function&&env.kindOf n==some .cell) then(n,NameKind.cell) else(n,k)).lookup x=some .cell∨
    (names.map fun(n,k)=>if (k==NameKind.free&&env.scope.kind==.function&&env.kindOf n==some .cell) then(n,NameKind.cell) else(n,k)).lookup x=some .free→∃y∈names,y.1=x∧y.2=.free
  | [],x,_,h=>by simp at h
  | (n,k)::r,x,hc,h=>by
    have ih:=@dh env r x (fun y hy=>hc y (List.mem_cons_of_mem _ hy))
    have nc:k≠.cell:=hc (n,k) List.mem_cons_self
    rw [List.map_cons] at h
    cases hx:x==n with
    | true=>
      have e1:x=n:=by simpa using hx
      subst e1
      refine⟨(x,k),List.mem_cons_self,rfl,?_⟩
      by_cases q:(k==NameKind.free&&env.scope.kind==.function&&env.kindOf x==some .cell)=true
      · simp only [Bool.and_eq_true,beq_iff_eq] at q;exact q.1.1
      · simp only [q,Bool.false_eq_true,if_false,List.lookup_cons,beq_self_eq_true,Option.some.injEq] at h
        rcases h with h | h
        · exact absurd h nc
        · exact h
    | false=>
      have e2:∀(l:List (Str × NameKind)),((if (k==NameKind.free&&env.scope.kind==.function&&env.kindOf n==some .cell)=true then(n,NameKind.cell) else(n,k))::l).lookup x=l.lookup x:=fun l=>by
        split<;>simp [List.lookup_cons,hx]
      simp only [e2] at h
      obtain⟨y,hy,z⟩:=ih h
      exact⟨y,List.mem_cons_of_mem _ hy,z⟩
theorem bU{env:Env}:∀{names:List (Str × NameKind)} {x:Str},names.lookup x=some .free→
    (names.map fun(n,k)=>if (k==NameKind.free&&env.scope.kind==.function&&env.kindOf n==some .cell) then(n,NameKind.cell) else(n,k)).lookup x≠some .local
  | [],x,h=>by simp at h
  | (n,k)::r,x,h=>by
    rw [List.map_cons]
    cases hx:x==n with
    | true=>
      simp only [hx,List.lookup_cons] at h
      cases h
      show List.lookup x ((if (NameKind.free==NameKind.free&&env.scope.kind==.function&&env.kindOf n==some .cell)=true then(n,NameKind.cell) else(n,NameKind.free))::_)≠_
      split<;>simp [List.lookup_cons,hx]
    | false=>
      simp only [hx,List.lookup_cons] at h
      have ih:=@bU env r x h
      have e2:∀(l:List (Str × NameKind)),((if (k==NameKind.free&&env.scope.kind==.function&&env.kindOf n==some .cell)=true then(n,NameKind.cell) else(n,k))::l).lookup x=l.lookup x:=fun l=>by
        split<;>simp [List.lookup_cons,hx]
      simp only [e2]
      exact ih
def aG(X:Cx)(scope:Scope)(cp:List (Nat × Str))(tgN:List Str)(C:Addr)(s0:Shared)(H0:Hp)(fp:List Addr):Cx where
  prog:=X.prog
  w:=X.w
  K:=X.K
  mg:=X.mg
  base:=X.base
  A:=X.A
  N:=cp.map (·.2)++tgN
  s₀:=s0
  H₀:=H0
  env:=compEnvC scope (bM X.env scope.names []) C X.env
  outer:=X.stack
  stack:=X.stack
  ex:=fp
  fn:=fun x=>scope.names.lookup x==some .local
  calm:=X.calm
  pn:=[]
  xe:=fun _ _=>False
def pV(X:Cx)(ifs:List Expr)(t:TT):Prop:=
  ∀(pins:List (Addr × Obj)) (s:Shared) (σ:L2.St) (H:Hp) (Q:Bool→Hp→Prop),au X pins σ H s→t σ H Q→
    wpAny (model X.prog X.w) X.A (forIn ifs true fun c r=>if r=true then do let ok ←isTrue c X.env (eval c X.env);pure (ForInStep.yield ok) else pure (ForInStep.yield r)) (TP X pins σ Q) X.xe s
theorem x9{X:Cx}:pV X [] (fun _ H Q=>Q true H):=fun _ _ _ H _ I h=>wpAny_tests_nil ⟨H,I,h⟩
theorem x_{X:Cx}{c:Expr}{t:TT}(h:PT X c t):pV X [c] t:=fun pins s σ H Q I q=>wpAny_tests_one (h pins s σ H Q I q)
abbrev BD:Value→Shared→Prop:=fun _ _=>False
def zB(prog:Program)(w:World)(A:Around)(elt tg:Expr)(ifs:List Expr)(env:Env)(it acc:Value)(onward:Shared→Prop)(v:Value)(u:Shared):Prop:=
  wpAny (model prog w) A (letOwnedTupleGo tg it v) (fun _ u1=>wpAny (model prog w) A (assign tg env v) (fun _ u2=>wpAny (model prog w) A
    (forIn ifs true fun c r=>if r=true then do let ok ←isTrue c env (eval c env);pure (ForInStep.yield ok) else pure (ForInStep.yield r)) (fun ok u3=>if ok=true then wpAny (model prog w) A (eval elt env) (fun x u4=>wpAny (model prog w) A (call (.builtin "list.append") [acc,x]) (fun _ u5=>onward u5) BD u4) BD u3 else onward u3) BD u2) BD u1) BD u
theorem eB{prog:Program}{w:World}{A:Around}{R:Result→Shared→Prop}{elt tg iter:Expr}{ifs:List Expr}{scope:Scope}{pos:Pos}{it acc:Value}{env:Env}(J:Nat→Shared→Prop)
    (turn:∀n u,J n u→wpAny (model prog w) A (pyNext it) (fun r u1=>(r=none→R (.ok .next) u1)∧∀v,r=some v→zB prog w A elt tg ifs env it acc (fun u2=>∃m,m < n∧J m u2) v u1) BD u){n0:Nat}{u0:Shared}(gL:J n0 u0):
    codeAny (model prog w) A (.compLoop (.ListComp elt [⟨tg,iter,ifs,0⟩] scope pos) 0 it acc env) R u0:=by
  refine codeAny_loop rfl J (fun n u ju=>?_) n0 gL
  show wpAny _ A ((compTurn (.ListComp elt [⟨tg,iter,ifs,0⟩] scope pos) 0 it acc env).onRaise _) _ _ u;refine wpAny_noted ?_;rw [compTurn_list]
  refine wpAny_bind (wpAny_standAt (wpAny_bind (wpAny_mono (turn n u ju) (fun r u1 k1=>?_) fun _ _ z=>z.elim)))
  cases r with
  | none=>exact wpAny_pure (k1.1 rfl)
  | some v=>
    refine wpAny_bind (wpAny_mono (k1.2 v rfl) (fun _ u2 k2=>wpAny_bind (wpAny_mono k2 (fun _ u3 k3=>wpAny_bind (wpAny_mono k3 (fun ok u4 k4=>?_) fun _ _ z=>z.elim)) fun _ _ z=>z.elim)) fun _ _ z=>z.elim)
    cases ok with
    | false=>rw [if_neg Bool.false_ne_true] at k4;exact wpAny_pure ⟨rfl,k4⟩
    | true=>
      rw [if_pos rfl] at k4
      refine wpAny_bind (wpAny_bind (wpAny_mono k4 (fun x u5 k5=>wpAny_bind (wpAny_mono k5 (fun _ u6 k6=>?_) fun _ _ z=>z.elim)) fun _ _ z=>z.elim));exact wpAny_pure (wpAny_pure ⟨rfl,k6⟩)
def dq(cp:List (Nat × Str))(nT:Nat)(σ:L2.St):L2.St:=cp.map (fun p=>(σ[p.1]?).join)++List.replicate nT none
structure l3 (cp:List (Nat × Str)) (nT:Nat) (wi:TI) (g:TG) (tc:TT) (te:TE) (σ:L2.St) (H:Hp) (Q:VK):Prop where
  go:wi σ H fun J H1=>∀l,H1 l=none→
  ∃W:Nat→Nat→L2.St→Hp→Prop,(∃m,W 0 m (dq cp nT σ) (aM H1 l (.lst [])))∧∀i m σ' H',W i m σ' H'→
    (J.stop i H'∧Q (.ref l) H')∨(J.go i H'∧∃N:L2.St→Hp→Prop,(∀σ2 H2,N σ2 H2→∃m',m' < m∧W (i+1) m' σ2 H2)∧
      ∀x H2,J.yld i H' x H2→g x σ' H2 fun σ2 H3=>tc σ2 H3 fun b H4=>if b=true then te σ2 H4 fun v H5=>∃ys,H5 l=some (.lst ys)∧ys.length < sizeLine∧N σ2 (aM H5 l (.lst (ys++[v]))) else N σ2 H4)
theorem xQ{X:Cx}{elt iter tg:Expr}{ifs:List Expr}{scope:Scope}{pos:Pos}{wi:TI}{g:TG}{tc:TT}{te:TE}(sc0:Scope)(N0:List Str)(cp:List (Nat × Str))(tgN:List Str)
    (hc:X.calm=true)(hsc:X.env.scope=sc0)(hN0:X.N=N0)(hi:PI X tg iter wi)
    (hg:∀C s0 H0 fp,PG (aG X scope cp tgN C s0 H0 fp) tg g)
    (ht:∀C s0 H0 fp,pV (aG X scope cp tgN C s0 H0 fp) ifs tc)
    (he:∀C s0 H0 fp,PE (aG X scope cp tgN C s0 H0 fp) elt te)
    (hk:scope.kind=.function)(hcell:∀y∈scope.names,y.2≠.cell)(hnames:∀y∈scope.names,y.2=.local→scope.names.lookup y.1=some .local)
    (hfr:∀y∈scope.names,y.2=.free→scope.names.lookup y.1=some .free∧sc0.names.lookup y.1=some .cell)
    (hcp:∀p∈cp,N0[p.1]?=some p.2)(hcq:∀p∈cp,sc0.names.lookup p.2=some .cell∧scope.names.lookup p.2=some .free)
    (hs:∀x,foldedSetIterable iter X.env x=pure x:=by intro _;rfl):
    PE X (.ListComp elt [⟨tg,iter,ifs,0⟩] scope pos) (l3 cp tgN.length wi g tc te):=by
  intro pins s σ H Q I h
  have hkind:∀x,X.env.kindOf x=sc0.names.lookup x:=fun x=>by unfold Env.kindOf;rw [hsc]
  have hfree:∀y∈scope.names,y.2=.free→∃c,X.env.cells.lookup y.1=some c:=fun y hy e=>I.ok.has y.1 (.inl (by rw [hkind];exact(hfr y hy e).2))
  rw [eval_ListComp]
  refine wpAny_comprehension_free (use:=none) rfl hs (gb hfree) hk hnames (wpAny_mono (hi pins s σ H _ I h.go) (fun xv s₁ h₁=>wpAny_mono h₁ (fun itv s₂ h₂=>?_) fun _ _ e=>e) fun _ _ e=>e)
  obtain⟨it,fp,tn,J,H2,rfl,I2,T,st2,f2,hq⟩:=h₂
  refine wpAny_newObj_type ?_
  have hlF:H2 s₂.heap.objs.size=none:=I2.hok.fresh (Nat.le_refl _)
  have I3:au X pins σ (aM H2 s₂.heap.objs.size (.lst [])) {s₂ with heap:=s₂.heap.push {cls:=.type "list",data:=.seq ([]:List Value).toArray}}:=I2.lnew (t':=s₂.toks) .nil (Nat.zero_le _)
  obtain⟨W,⟨m0,w0⟩,turn⟩:=hq _ hlF
  have f3:∀b∈fp,eV X pins (aM H2 s₂.heap.objs.size (.lst [])) b:=fun b hb=>by
    obtain⟨f0,fr⟩:=f2 b hb
    obtain⟨o,ho,_⟩:=T.obj _ _ st2 b hb
    exact⟨by rw [aC (Nat.ne_of_lt (Heap.lt_size ho))];exact f0,fr⟩
  have st3:tn 0 (s₂.heap.push {cls:=.type "list",data:=.seq ([]:List Value).toArray}):=T.keep _ _ _ st2 fun b _ o e=>Heap.get?_push_of_some _ e
  generalize hD:s₂.heap.objs.size=D at*
  generalize hs3:({s₂ with heap:=s₂.heap.push {cls:=.type "list",data:=.seq ([]:List Value).toArray}}:Shared)=s₃ at*
  have hst3:tn 0 s₃.heap:=by rw [←hs3];exact st3
  refine wpAny_newFunctionEnv hcell (by intro y hy;simp at hy) (fun h₁ hns₁ hsb₁=>?_) hk
  generalize hC:s₃.heap.objs.size=C at*
  have old:∀b o,s₃.heap.get? b=some o→h₁.get? b=some o:=fun b o e=>hsb₁.extBut b o (by rw [←hC];exact Nat.ne_of_lt (Heap.lt_size e)) (Heap.get?_push_of_some _ e)
  have nC:∀b o,s₃.heap.get? b=some o→b≠C:=fun b o e=>by rw [←hC];exact Nat.ne_of_lt (Heap.lt_size e)
  have hHC:(aM H2 D (.lst [])) C=none:=I3.hok.fresh (by rw [hC];exact Nat.le_refl _)
  have clS:∀x c,(bM X.env scope.names []).lookup x=some c→X.env.cells.lookup x=some c:=fun x c e=>eK _ _ x c hfree (fun _ _ z=>by simp at z) e
  have clH:∀x,(∃y∈scope.names,y.1=x∧y.2=.free)→∃c,(bM X.env scope.names []).lookup x=some c:=fun x e=>gR _ _ x (.inl e)
  have ok':(aG X scope cp tgN C s₃ (aM H2 D (.lst [])) fp).Ok:=by
    refine⟨I.ok.mod,hk,I.ok.glob,I.ok.blt,by rw [←hC];exact Nat.le_refl _,fun x y c e1 e2=>I.ok.inj x y c (clS _ _ e1) (clS _ _ e2),fun x e=>clH x (dh hcell e),fun x c e1 e2=>?_,I.ok.hd,I.ok.frames,.inl rfl,fun b hb=>?_,fun b o e=>I3.bs b o e,?_,fun b o e hb=>?_,fun b hb z=>?_,I3.stack,fun b hb=>I3.stkFree b hb⟩
    · exfalso
      have e1':scope.names.lookup x=some .local:=by simpa [aG] using e1
      have e2':=clS x c e2
      obtain⟨c',hc'⟩:∃y∈scope.names,y.1=x∧y.2=.free:=by
        by_cases q:∃y∈scope.names,y.1=x∧y.2=.free
        · exact q
        · exfalso
          have:∀(names:List (Str × NameKind)) (cs:List (Str × Addr)),(¬∃y∈names,y.1=x∧y.2=.free)→cs.lookup x=none→(bM X.env names cs).lookup x=none:=by
            intro names
            induction names with
            | nil=>intro cs _ h;exact h
            | cons y r ih=>
              intro cs hn hcs
              obtain⟨n,k⟩:=y
              refine ih _ (fun⟨y,hy,z⟩=>hn ⟨y,List.mem_cons_of_mem _ hy,z⟩) ?_
              by_cases hk:(k==NameKind.free)=true
              · rw [if_pos hk,List.lookup_cons]
                cases hx:x==n with
                | true=>exact absurd ⟨(n,k),List.mem_cons_self,(by simpa using hx:x=n).symm,by simpa using hk⟩ hn
                | false=>exact hcs
              · rw [if_neg hk];exact hcs
          have z:=this scope.names [] q rfl
          have e2'':(bM X.env scope.names []).lookup x=some c:=e2
          rw [z] at e2'';cases e2''
      have z:=(hfr c' hc'.1 hc'.2.2).1
      rw [hc'.2.1,e1'] at z;cases z
    · obtain⟨f0,f1,f4,f5,f6,f7⟩:=f3 b hb
      obtain⟨o,ho,_⟩:=T.obj _ _ hst3 b hb
      exact⟨nC b o ho,fun x c e=>f6 x c (clS x c e)⟩
    · exact Nat.le_trans I.ok.bsz I3.sz
    · obtain⟨f0,f1,f4,f5,f6,f7⟩:=f3 b hb
      rcases f5 with z | z
      · exact I.ok.noex b o e z
      · have:=(I.ok.bs b o e).1
        exact absurd (Nat.lt_of_lt_of_le (Heap.lt_size this) z) (Nat.lt_irrefl _)
    · obtain⟨f0,f1,f4,f5,f6,f7⟩:=f3 b hb
      rcases List.mem_cons.mp (I3.stkSub b z) with z | z
      · exact f1 z
      · exact f4 z
  have I4:au (aG X scope cp tgN C s₃ (aM H2 D (.lst [])) fp) [] (dq cp tgN.length σ) (aM H2 D (.lst [])) {s₃ with heap:=h₁,toks:=s₃.toks+([]:List (Str × Value)).length}:=by
    refine⟨ok',rfl,I3.bare,Un.kept old,⟨_,hns₁,fun i x v e1 e2 e3=>?_⟩,fun x c e=>?_,hHC,fun x c e=>I3.freeC x c (clS x c e),fun p hp=>by simp [aG] at hp,I3.hok.kept old,by simp [dq,aG]⟩
    · have hlt:i < cp.length:=by
        by_cases q:i < cp.length
        · exact q
        · exfalso
          unfold dq at e2
          rw [List.getElem?_append_right (by simp;lia)] at e2
          rw [List.getElem?_replicate] at e2
          split at e2<;>cases e2
      have e1':(cp.map (·.2))[i]?=some x:=by
        have e1'':(cp.map (·.2)++tgN)[i]?=some x:=e1
        rwa [List.getElem?_append_left (by simp;exact hlt)] at e1''
      have e2':(cp.map (fun p=>(σ[p.1]?).join))[i]?=some (some v):=by
        unfold dq at e2
        rwa [List.getElem?_append_left (by simp;exact hlt)] at e2
      rw [List.getElem?_map,List.getElem?_eq_getElem hlt] at e1' e2'
      have ex:(cp[i]).2=x:=by simpa using e1'
      have ev:(σ[(cp[i]).1]?).join=some v:=by simpa using e2'
      have ev':σ[(cp[i]).1]?=some (some v):=by
        cases q:σ[(cp[i]).1]? with
        | none=>rw [q] at ev;cases ev
        | some z=>rw [q] at ev;simp only [Option.join_some] at ev;rw [ev]
      have hN:=hcp cp[i] (List.getElem_mem hlt)
      rw [←hN0] at hN
      obtain⟨hcl,hcf⟩:=hcq cp[i] (List.getElem_mem hlt)
      rw [ex] at hN hcl hcf
      obtain⟨m,hn,hl⟩:=I3.loc
      obtain⟨u,r,l⟩:=hl _ x v hN ev' (.inr (.inl (by rw [hsc];exact hcl)))
      refine⟨u,r,.inr ?_⟩
      rcases l with ⟨k1,_⟩ | ⟨k1,c,hcc,o,ho,hd⟩
      · rw [hkind,hcl] at k1;cases k1
      · have e3':(relabel scope X.env).names.lookup x=some .local∨(relabel scope X.env).names.lookup x=some .cell∨(relabel scope X.env).names.lookup x=some .free:=e3
        have nl:(relabel scope X.env).names.lookup x=some .cell∨(relabel scope X.env).names.lookup x=some .free:=by
          rcases e3' with z | z | z
          · exact absurd z (bU hcf)
          · exact .inl z
          · exact .inr z
        obtain⟨c',hc'⟩:=clH x (dh hcell nl)
        have:=clS x c' hc'
        rw [hcc] at this;cases this
        exact⟨nl,c,hc',o,old c o ho,hd⟩
    · obtain⟨v,o,ho,hd⟩:=I3.cell x c (clS x c e)
      exact⟨v,o,old c o ho,hd⟩
  have hst4:tn 0 h₁:=T.keep _ _ _ hst3 fun b _ o e=>old b o e
  have loop:codeAny (model X.prog X.w) X.A (.compLoop (.ListComp elt [⟨tg,iter,ifs,0⟩] scope pos) 0 (.ref it) (.ref D) (compEnvC scope (bM X.env scope.names []) C X.env))
      (compPost (model X.prog X.w) X.A X.xe none (EP X pins σ Q) (.ref D) C) {s₃ with heap:=h₁,toks:=s₃.toks+([]:List (Str × Value)).length}:=by
    refine eB (fun n s'=>∃i σ' H',au (aG X scope cp tgN C s₃ (aM H2 D (.lst [])) fp) [] σ' H' s'∧tn i s'.heap∧(∀b∈fp,H' b=none)∧W i n σ' H') ?_ (n0:=m0) ⟨0,_,_,I4,hst4,fun b hb=>(f3 b hb).1,w0⟩
    rintro n s5 ⟨i,σ5,H5,I5,st5,fr5,w5⟩
    have stat:∀{H':Hp},(∀b∈fp,H' b=none)→∀b∈fp,eV (aG X scope cp tgN C s₃ (aM H2 D (.lst [])) fp) [] H' b:=fun hn b hb=>
      ⟨hn b hb,(ok'.exf b hb).1,ok'.exfs b hb,.inl hb,(ok'.exf b hb).2,fun p hp=>by simp [aG] at hp⟩
    rcases turn i n σ5 H5 w5 with ⟨stop,qn⟩ | ⟨go,N,hN,step⟩
    · refine bL (T.done (aG X scope cp tgN C s₃ (aM H2 D (.lst [])) fp) rfl rfl rfl hc i [] s5 σ5 H5 (fun _ _=>False) I5 (stat fr5) st5 stop) fun r s6 ⟨hr,I6⟩=>?_
      subst hr
      refine⟨fun _=>?_,fun v z=>by cases z⟩
      obtain⟨m,hn,_⟩:=I6.loc
      refine⟨m,hn,fun h' sb=>⟨.ref D,H5,?_,rfl,qn⟩⟩
      have ub:=I6.base
      have kp:∀b u,b≠C→s6.heap.get? b=some u→h'.get? b=some u:=fun b u ne e=>sb.extBut b u ne e
      have nit:∀b u,H5 b=some u→b≠C:=fun b u e z=>by
        have:=I6.free
        rw [z] at e
        rw [show H5 C=none from this] at e;cases e
      refine I3.call' (s':={s6 with heap:=h'}) (ch:=fp) I6.os ⟨fun b o e n hb hx=>kp b o (nC b o e) (ub.keep b o e n hb hx),fun b o e n hb hx=>?_,ub.free,fun b o e hx=>?_,ub.tups,ub.frzs,ub.tbls⟩ (fun b u e=>?_) I6.bare (fun b hb=>?_)
      · obtain⟨sl,q⟩:=ub.slot b o e n hb hx
        exact⟨sl,kp b _ (nC b o e) q⟩
      · obtain⟨o',q⟩:=ub.there b o e hx
        exact⟨o',kp b _ (nC b o e) q⟩
      · refine(I6.hok b u e).stay (fun c v hc q=>kp c v ?_ q) (fun _ q=>q) fun _ _ q=>q
        rcases hc with z | z
        · rw [z];exact nit b u e
        · exact nit c _ z
      · obtain⟨f0,f1,f4,f5,f6,f7⟩:=f3 b hb
        exact⟨f5,f1,f6,f7⟩
    · refine bL (T.item (aG X scope cp tgN C s₃ (aM H2 D (.lst [])) fp) rfl rfl rfl hc i [] s5 σ5 H5 (fun _ _=>False) I5 (stat fr5) st5 go) fun r s6 ⟨u,hr,h6⟩=>?_
      subst hr
      refine⟨fun z=>(by cases z),fun v z=>?_⟩
      cases z
      refine bL h6 fun _ s7 ⟨x,H7,I7,r7,y7,st7,fr7⟩=>?_
      have I7':=I7.pinned (stat fr7) (T.obj _ _ st7)
      have again:∀{σ8:L2.St} {H8:Hp} {s8:Shared},au (aG X scope cp tgN C s₃ (aM H2 D (.lst [])) fp) ([]++hG fp s7.heap) σ8 H8 s8→N σ8 H8→∃m,m < n∧∃i σ' H',au (aG X scope cp tgN C s₃ (aM H2 D (.lst [])) fp) [] σ' H' s8∧tn i s8.heap∧(∀b∈fp,H' b=none)∧W i m σ' H':=fun{σ8 H8 s8} I8 n8=>by
        obtain⟨m',hm,w8⟩:=hN σ8 H8 n8
        refine⟨m',hm,i+1,σ8,H8,I8.unpinned,T.keep _ _ _ st7 fun b hb o e=>(I8.pin (b,o) (List.mem_append_right _ (List.mem_append_right _ (bG hb e)))).1,fun b hb=>?_,w8⟩
        obtain⟨o,e,d⟩:=T.obj _ _ st7 b hb
        exact(I8.pin (b,o) (List.mem_append_right _ (List.mem_append_right _ (bG hb e)))).2.1
      refine bL (hg C s₃ (aM H2 D (.lst [])) fp _ s7 σ5 H7 x u _ I7' r7 (step x H7 y7)) fun _ s8 ⟨σ8,H8,I8,q8⟩=>?_
      refine bL (ht C s₃ (aM H2 D (.lst [])) fp _ s8 σ8 H8 _ I8 q8) fun ok s9 ⟨H9,I9,q9⟩=>?_
      cases ok with
      | false=>
        rw [if_neg Bool.false_ne_true] at q9 ⊢
        exact again I9 q9
      | true=>
        rw [if_pos rfl] at q9 ⊢
        refine bL (he C s₃ (aM H2 D (.lst [])) fp _ s9 σ8 H9 _ I9 q9) fun v s10 ⟨xv,H10,I10,r10,ys,hl,hz,n10⟩=>?_
        refine bL (fN _ s10 σ8 H10 (.ref D) [xv] (.ref D) [v] (fun _ H=>N σ8 H) I10 rfl (.cons r10 .nil) ⟨D,ys,xv,rfl,rfl,hl,hz,n10⟩) fun _ s11 ⟨_,H11,I11,_,q11⟩=>?_
        exact again I11 q11
  exact codeAny_compStart_list loop (T.self X.A 0 _ _ _ hst4 loop)
end L2
namespace L2
open PySem PySem.Spec PyProof.Rows
section
variable{X:Cx}
def vK(K:PySem.W.Frag):R2:=fun x y H Q=>∃a b xs ys,x=.ref a∧y=.ref b∧cc K H a xs∧cc K H b ys∧xs.length+ys.length≤sizeLine∧∀p H',ar H H'→cc K H' p (xs++ys)→Q (.ref p) H'
theorem xG:fm X (binaryOp .Add) (vK X.K):=by
  intro pins s σ H x y v u Q I rx ry h
  obtain⟨a,b,xs,ys,rfl,rfl,ha,hb,hz,q⟩:=h
  cases rx;cases ry
  by_cases hx:xs=[]
  · obtain⟨i1,r1,p1,_⟩:=I.tuple ha
    obtain⟨i2,r2,p2,_⟩:=I.tuple hb
    obtain⟨m,F⟩:=I.fr
    have e1:i1=[]:=by subst hx;cases r1;rfl
    refine add_tuples F (vg (g:=X.base)) p1 p2 (fun _=>?_) (fun z1 _=>absurd e1 z1) (fun z1 _ _ _ _=>absurd e1 z1) (by rw [←r1.length,←r2.length];exact hz)
    exact⟨.ref b,H,I,rfl,q b H (ar.refl H) (by rw [hx];exact hb)⟩
  · exact xH pins s σ H (.ref a) (.ref b) _ _ Q I rfl rfl ⟨a,b,xs,ys,rfl,rfl,ha,hb,hx,hz,fun z=>q a H (ar.refl H) (by rw [z,List.append_nil];exact ha),fun _ p hp=>q p _ (ar.new hp) (cc.of ay)⟩
theorem g_{x:V}{us:List Value}(r:aE [x] us):∃u,us=[u]∧bF x u:=by
  cases r with
  | cons p p'=>cases p';exact⟨_,rfl,p⟩
theorem oC{prog:Program}{w:World}{A:Around}{E:Value→Shared→Prop}{s:Shared}{t:Addr}{vs:List Value}{Q:List Value→Shared→Prop}(ht:IsTup s.heap t vs.toArray)
    (h:Q vs {s with heap:=(s.heap.push (seqObj "list" #[] 0)).update s.heap.objs.size (Obj.mapSeq (· ++vs.toArray))})(hsz:vs.length≤sizeLine):wpAny (model prog w) A (collect (.ref t)) Q E s:=by
  obtain⟨o,ho,hc,n,hd⟩:=id ht;unfold collect;refine wpAny_bind (wpAny_runValue (codeAny_builtin entry_proto_collect' ?_))
  show wpAny _ _ (do again (.builtin "list.__iadd__" ⟨[←newList [],.ref t],[]⟩)) _ _ s
  refine wpAny_bind (wpAny_newList (wpAny_pure ⟨Code.quiet_builtin _ (by decide+kernel),?_⟩));refine codeAny_builtin entry_list_iadd' ?_
  show wpAny _ _ (Builtin.List.listExtendWith (.ref s.heap.objs.size) (.ref t) (.ref s.heap.objs.size)) _ _ {s with heap:=s.heap.push (seqObj "list" #[] 0)}
  unfold Builtin.List.listExtendWith;have ho':(s.heap.push (seqObj "list" #[] 0)).get? t=some o:=Heap.get?_push_of_some _ ho
  refine wpAny_bind (wpAny_typeOf (T:="tuple") ⟨o,ho',hc⟩ ?_)
  rw [if_pos (by rw [show(Value.type "tuple"==Value.type "tuple")=true from rfl,Bool.or_true])]
  refine wpAny_bind (listItems_at ho' hd ?_);refine wpAny_bind (listItems_at (xs:=#[]) (n:=0) (Heap.get?_push_size _ rfl) rfl ?_)
  rw [if_neg (by simp)];refine wpAny_bind (listUpdate_at (xs:=#[]) (n:=0) (Heap.get?_push_size _ rfl) rfl ?_ (Nat.zero_le _) (by show(#[]++vs.toArray).size≤sizeLine+1;simp only [Array.size_append,List.size_toArray,List.length_nil];lia))
  refine wpAny_pure ?_
  show wpAny (model prog w) A (load s.heap.objs.size >>= fun o=>match o.data with | .seq xs _=>pure xs.toList | _=>unsupported "internal:collect") Q E {s with heap:=(s.heap.push (seqObj "list" #[] 0)).update s.heap.objs.size (Obj.mapSeq (· ++vs.toArray))}
  refine wpAny_bind (wpAny_load (get?_update_seq (Heap.get?_push_size _ rfl) _) ?_);show wpAny _ _ (pure ((#[]:Array Value)++vs.toArray).toList) Q E _;rw [show((#[]:Array Value)++vs.toArray).toList=vs by simp];exact wpAny_pure h
theorem qL{prog:Program}{w:World}{A:Around}{E:Value→Shared→Prop}{s:Shared}{t:Addr}{vs:List Value}{ns:List Int}{Q:Value→Shared→Prop}(ht:IsTup s.heap t vs.toArray)(hI:IntsAre vs ns)(h64:vs.length < 64)
    (h:∀(out:Array Value) (ns':List Int),IntsAre out.toList ns'→ns'.Perm ns→ns'.Pairwise (· ≤·)→Q (.ref (s.heap.objs.size+1)) {s with heap:=sortedAll s.heap vs out}):wpAny (model prog w) A (call (.builtin "sorted") [.ref t]) Q E s:=by
  refine Calls.call_function_entry kind_sorted plain_sorted entry_sorted (args_sorted1 _) ?_;unfold Builtin.«sorted»
  refine wpAny_bind (m:=checkCount "sorted" 1 1 _) (wpAny_pure ?_);refine wpAny_bind (oC ht ?_ (Nat.le_trans (Nat.le_of_lt h64) (by decide)))
  have z:((s.heap.push (seqObj "list" #[] 0)).update s.heap.objs.size (Obj.mapSeq (· ++vs.toArray))).objs.size=s.heap.objs.size+1:=by rw [Heap.size_update,size_push']
  have o:(((s.heap.push (seqObj "list" #[] 0)).update s.heap.objs.size (Obj.mapSeq (· ++vs.toArray))).push (seqObj "list" vs.toArray 0)).get? (s.heap.objs.size+1)=some (seqObj "list" vs.toArray 0):=by rw [←z];exact Heap.get?_push_size _ rfl
  refine wpAny_bind (wpAny_newList ?_);show wpAny _ _ _ _ _ {s with heap:=((s.heap.push (seqObj "list" #[] 0)).update s.heap.objs.size (Obj.mapSeq (· ++vs.toArray))).push (seqObj "list" vs.toArray 0)}
  rw [z];refine wpAny_bind (wpAny_holding (wpAny_call_entry slot_list_sort ⟨_,o,rfl⟩ entry_list_sort (list_sort_tree o hI h64 fun out ns' b1 b2 b3=>⟨_,rfl,?_⟩) (args_list_sort _)))
  exact wpAny_pure ⟨_,rfl,h out ns' b1 b2 b3⟩
theorem j5:ce X (.builtin "sorted") (fun xs H Q=>∃(a:Addr) (ns:List Int),xs=[.ref a]∧cc X.K H a (ns.map V.int)∧ns.length < 64∧∀(l:Addr) (ns':List Int) (H':Hp),ar H H'→H l=none→H' l=some (.lst (ns'.map V.int))→ns'.Perm ns→ns'.Pairwise (· ≤·)→Q (.ref l) H'):=by
  intro pins s σ H xs us Q I r h
  obtain⟨a,ns,rfl,hs,h64,q⟩:=h
  obtain⟨u,rfl,ru⟩:=g_ r
  cases ru
  obtain⟨its,rv,p,hz⟩:=I.tuple hs
  have hl:=rv.length
  rw [List.length_map] at hl
  refine qL p (iJ rv) (by lia) fun out ns' a1 a2 a3=>?_
  obtain⟨e,he⟩:=sortedAll_at s.heap its out
  have hf:H (s.heap.objs.size+1)=none:=I.hok.fresh (Nat.le_succ _)
  refine⟨.ref (s.heap.objs.size+1),aM H (s.heap.objs.size+1) (.lst (ns'.map V.int)),I.laid (t':=s.toks) (fun _ _=>sortedAll_old) (Nat.le_succ _) ⟨?_,out.toList,e,iu a1,?_⟩,rfl,q _ ns' _ (ar.new hf) hf ay a2 a3⟩
  · rw [List.length_map,a2.length_eq]
    exact Nat.le_trans (Nat.le_of_lt h64) (by decide)
  · simpa [seqObj] using he
end
end L2
namespace L2
open PySem PySem.Spec PyProof.Rows
section
variable{X:Cx}
end
theorem sV{e:Expr}{es:List Expr}{env:Env}(h:PySem.W.isStarred e=false):starEach (e::es) env=(false,eval e env)::starEach es env:=by
  cases e<;>first | rfl | cases h
theorem DZ{X:Cx}{e:Expr}{es:List Expr}{te:TE}{t:TA}(ha:PE X e te)(hr:PA X es t)(h:PySem.W.isStarred e=false:=by rfl):PA X (e::es) (pP te t):=nP ha hr (sV h)
def rV:List (Int × Int)→TA
  | []=>Bh
  | p::r=>pP (Da (pP (tC (.int p.1)) (pP (tC (.int p.2)) Bh))) (rV r)
@[irreducible] def Ea(ps:List (Int × Int)):TA:=rV ps
structure kB where
  one:Int
  other:Int
  top:Int
  bot:Int
  worth:Int
structure be where
  things:Int
  ties:List kB
  pat:List Int
  asks:Int
structure kB.Ok (n:Int) (t:kB):Prop where
  o0:0≤t.one
  o1:t.one < t.other
  o2:t.other < n
  c0:0≤t.top
  c1:t.top≤t.bot
  b0:1≤t.bot
  b1:t.bot≤100
  w0:0≤t.worth
  w1:t.worth≤1000
  cop:Int.gcd t.top t.bot=1
structure be.Ok (w:be):Prop where
  t0:0≤w.things
  t1:w.things≤12
  ties:∀t∈w.ties,t.Ok w.things
  len:w.ties.length≤16
  pl:(w.pat.length:Int)=w.things
  pat:∀p∈w.pat,0≤p∧p≤20
  a0:0≤w.asks
  a1:w.asks≤40
def BM(K:PySem.W.Frag)(H:Hp)(v:V)(t:kB):Prop:=∃p q,v=.ref p∧cc K H p [.int t.one,.int t.other,.ref q,.int t.worth]∧cc K H q [.int t.top,.int t.bot]
inductive mZ (K:PySem.W.Frag) (H:Hp):List V→List kB→Prop
  | nil:mZ K H [] []
  | cons {v vs t ts}:BM K H v t→mZ K H vs ts→mZ K H (v::vs) (t::ts)
structure Ep (K:PySem.W.Frag) (H:Hp) (v:V) (w:be):Prop where
  ex:∃a b c ts,v=.ref a∧cc K H a [.int w.things,.ref b,.ref c,.int w.asks]∧cc K H b ts∧mZ K H ts w.ties∧cc K H c (w.pat.map V.int)
section
variable{K:PySem.W.Frag}{H H':Hp}
end
theorem qA{t b:Int}(hb:0 < b)(h0:0≤t)(h1:t≤b)(h2:b≤100):0≤(eh t b).1∧(eh t b).1≤(eh t b).2∧1≤(eh t b).2∧(eh t b).2≤100:=by
  obtain⟨d,e1,e2,e3,e4,e5⟩:=mI (t:=t) (b:=b) (by lia)
  generalize (eh t b).1=x at*
  generalize (eh t b).2=y at*
  have dp:0 < d:=by
    rcases Int.lt_or_gt_of_ne e2 with z | z
    · exfalso
      have:y*d < 0:=Int.mul_neg_of_pos_of_neg e5 z
      lia
    · exact z
  have x0:0≤x:=by
    rcases Int.lt_or_le x 0 with z | z
    · have:x*d < 0:=Int.mul_neg_of_neg_of_pos z dp
      lia
    · exact z
  have xy:x≤y:=by
    rcases Int.lt_or_le y x with z | z
    · have:y*d < x*d:=Int.mul_lt_mul_of_pos_right z dp
      lia
    · exact z
  have yb:y≤y*d:=by
    have:=Int.mul_le_mul_of_nonneg_left (show(1:Int)≤d by lia) (show 0≤y by lia)
    lia
  exact⟨x0,xy,by lia,by lia⟩
end L2
namespace L2
open PySem PySem.Spec PyProof.Rows
inductive km {α β:Type} (R:α→β→Prop):List α→List β→Prop
  | nil:km R [] []
  | cons {a b as bs}:R a b→km R as bs→km R (a::as) (b::bs)
namespace km
variable{α β:Type}{R S:α→β→Prop}
theorem mono(h:∀a b,R a b→S a b):∀{as:List α} {bs:List β},km R as bs→km S as bs
  | _,_,.nil=>.nil
  | _,_,.cons x r=>.cons (h _ _ x) (mono h r)
theorem len:∀{as:List α} {bs:List β},km R as bs→as.length=bs.length
  | _,_,.nil=>rfl
  | _,_,.cons _ r=>by simp [len r]
theorem snoc{a:α}{b:β}(h:R a b):∀{as:List α} {bs:List β},km R as bs→km R (as++[a]) (bs++[b])
  | _,_,.nil=>.cons h .nil
  | _,_,.cons x r=>.cons x (snoc h r)
theorem get:∀{as:List α} {bs:List β} {i:Nat} {b:β},km R as bs→bs[i]?=some b→∃a,as[i]?=some a∧R a b
  | _,_,_,_,.nil,e=>by simp at e
  | _,_,0,_,.cons x _,e=>by simp at e;subst e;exact⟨_,rfl,x⟩
  | _,_,i+1,b,.cons _ r,e=>by
    obtain⟨v,h1,h2⟩:=get (i:=i) (b:=b) r (by simpa using e)
    exact⟨v,by simpa using h1,h2⟩
end km
section
variable{K:PySem.W.Frag}{a l:Addr}{xs:List V}{g:TG}{tc:TT}{te:TE}{Q:VK}{σ:L2.St}{H:Hp}{α β:Type}{us:List α}{cp:List (Nat × Str)}{nT:Nat}
def Dn(aW:Hp→V→β→Prop)(SI:L2.St→Prop)(us:List α)(f:α→Option β)(H:Hp)(l:Addr)(i:Nat)(σ:L2.St)(H':Hp):Prop:=SI σ∧ar H H'∧∃vs,H' l=some (.lst vs)∧vs.length≤i∧km (aW H') vs ((us.take i).filterMap f)
end
theorem kg:∀{a b:List Int},a.Perm b→a.Pairwise (· ≤·)→b.Pairwise (· ≤·)→a=b
  | [],b,p,_,_=>by
    have:=p.length_eq
    exact(List.length_eq_zero_iff.mp this.symm).symm
  | x::a,b,p,h1,h2=>by
    cases b with
    | nil=>have:=p.length_eq;simp at this
    | cons y b=>
      have h1':=List.pairwise_cons.mp h1
      have h2':=List.pairwise_cons.mp h2
      have e:x=y:=by
        have m1:y∈x::a:=p.mem_iff.mpr (by simp)
        have m2:x∈y::b:=p.mem_iff.mp (by simp)
        rcases List.mem_cons.mp m1 with z | z
        · exact z.symm
        · rcases List.mem_cons.mp m2 with z2 | z2
          · exact z2
          · have:=h1'.1 y z
            have:=h2'.1 x z2
            lia
      subst e
      rw [kg ((List.perm_cons x).mp p) h1'.2 h2'.2]
def cW(ns:List Int):List Int:=ns.mergeSort
theorem lZ{ns ns':List Int}(p:ns'.Perm ns)(h:ns'.Pairwise (· ≤·)):ns'=cW ns:=by
  refine kg (p.trans (List.mergeSort_perm ns _).symm) h ?_
  have:=List.pairwise_mergeSort (le:=fun a b:Int=>decide (a≤b)) (fun a b c h1 h2=>by simp at*;lia) (fun a b=>by simp;lia) ns
  exact this.imp fun h=>by simpa using h
theorem gF(ns:List Int):(cW ns).Perm ns:=List.mergeSort_perm ns _
theorem BF{ns:List Int}{x:Int}:x∈cW ns↔ x∈ns:=(gF ns).mem_iff
theorem BE(ns:List Int):(cW ns).length=ns.length:=(gF ns).length_eq
section
variable{X:Cx}{K:PySem.W.Frag}{pos:Pos}
theorem xS{es:List Expr}{k:Nat}{t:wF}{n:Nat}(hK:X.K=K)(hc:X.calm=true)(h:tu X es t)(hn:(assignEach es X.env).length=n:=by rfl)(hst:(assignEach es X.env).findIdx? (·.1)=none:=by rfl):PG X (.Tuple es k pos) (uM K n t):=hK ▸ AD hc h hn hst
theorem xV{tg l:Expr}{tl:TE}(h:X.K=K)(hl:PE X l tl):PI X tg l (B9 K tl):=h ▸ AE hl
theorem vA{tg l:Expr}{tl:TE}(h:X.K=K)(hl:PE X l tl):PI X tg l (y4 K tl):=h ▸ xU hl
end
instance:Inhabited kB:=⟨⟨0,1,1,1,0⟩⟩
def be.tie(W:be)(k:Int):kB:=W.ties.getD k.toNat default
def be.has(W:be)(k thing:Int):Bool:=(W.tie k).one==thing || (W.tie k).other==thing
def be.many(W:be)(asked:List Int)(thing:Int):Int:=((asked.filter fun k=>W.has k thing).length:Nat)
def be.bears(W:be)(asked taken:List Int)(thing:Int):Bool:= !taken.contains thing&&decide (W.many asked thing < W.pat.getD thing.toNat 0)
def be.may(W:be)(asked taken:List Int)(k:Int):Bool:= !(asked.contains k || decide (W.asks≤(asked.length:Int)))&&(W.bears asked taken (W.tie k).one&&W.bears asked taken (W.tie k).other)
def be.askd(asked:List Int)(k:Int):List Int:=cW (asked++[k])
def be.took(W:be)(taken:List Int)(k:Int)(truth:Bool):List Int:=if truth then cW (taken++[(W.tie k).one,(W.tie k).other]) else taken
def be.rng(W:be):List Int:=(List.range W.ties.length).map Int.ofNat
def eg(W:be)(k:Int):Prop:=0≤k∧k < (W.ties.length:Int)
theorem eg.get{W:be}{k:Int}(h:eg W k):W.ties[k.toNat]?=some (W.tie k):=by
  have hk:k.toNat < W.ties.length:=by have:=h.1;have:=h.2;lia
  unfold be.tie
  rw [List.getD_eq_getElem?_getD,List.getElem?_eq_getElem hk];rfl
theorem eg.ok{W:be}{k:Int}(h:eg W k)(o:W.Ok):(W.tie k).Ok W.things:=o.ties _ (List.mem_of_getElem? h.get)
theorem Dt{W:be}{k:Int}:k∈W.rng↔ eg W k:=by
  unfold be.rng eg
  rw [List.mem_map]
  constructor
  · rintro⟨n,hn,rfl⟩
    have:=List.mem_range.mp hn
    exact⟨Int.natCast_nonneg n,by simp;lia⟩
  · rintro⟨h0,h1⟩
    exact⟨k.toNat,List.mem_range.mpr (by lia),by simp;lia⟩
def zv(K:PySem.W.Frag)(H:Hp)(v:V)(asked taken:List Int):Prop:=∃a b c,v=.ref a∧cc K H a [.ref b,.ref c]∧cc K H b (asked.map V.int)∧cc K H c (taken.map V.int)
theorem zv.ts{K:PySem.W.Frag}{H H':Hp}(s:jY H H'){v:V}{asked taken:List Int}(h:zv K H v asked taken):zv K H' v asked taken:=by
  obtain⟨a,b,c,e,h1,h2,h3⟩:=h
  exact⟨a,b,c,e,s.tup h1,s.tup h2,s.tup h3⟩
section
variable{K:PySem.W.Frag}{σ:L2.St}{H:Hp}{Q:VK}{i j:Nat}{vW:V}{W:be}{k:Int}
end
def small(k:Int):Prop:= -1000000≤k∧k≤1000000
def Dk(n dep:Nat)(d:PyData):Prop:=d.showable=true∧lG d=true∧L2.cnt d≤n∧d.depth≤dep
theorem Dk.mono{n m dep e:Nat}{d:PyData}(h:Dk n dep d)(h1:n≤m)(h2:dep≤e):Dk m e d:=⟨h.1,h.2.1,Nat.le_trans h.2.2.1 h1,Nat.le_trans h.2.2.2 h2⟩
theorem Dk.int{k:Int}(h:small k):Dk 1 2 (.int k):=by
  refine⟨?_,rfl,Nat.le_refl _,by simp [PyData.depth]⟩
  show decide (k.natAbs.log2 < 1920)=true
  rw [decide_eq_true_eq]
  exact Nat.lt_trans ((show Bt 64 k by have:=h.1;have:=h.2;unfold Bt;lia).log (by decide)) (by decide)
theorem Dk.bool(b:Bool):Dk 1 2 (.bool b):=⟨rfl,rfl,Nat.le_refl _,by simp [PyData.depth]⟩
theorem Dk.none:Dk 1 2 .none:=⟨rfl,rfl,Nat.le_refl _,by simp [PyData.depth]⟩
theorem Dk.all{n dep:Nat}:∀{ds:List PyData},(∀d∈ds,Dk n dep d)→PyData.showableAll ds=true∧fP ds=true∧iB ds≤ds.length*n∧PyData.depthAll ds≤dep
  | [],_=>⟨rfl,rfl,by simp [iB],by simp [PyData.depthAll]⟩
  | d::r,h=>by
    obtain⟨a1,a2,a3,a4⟩:=h d (by simp)
    obtain⟨b1,b2,b3,b4⟩:=Dk.all (ds:=r) fun x hx=>h x (by simp [hx])
    refine⟨?_,?_,?_,?_⟩
    · simp only [PyData.showableAll,a1,b1,Bool.and_self]
    · simp only [fP,a2,b2,Bool.and_self]
    · simp only [iB,List.length_cons,Nat.succ_mul]
      lia
    · simp only [PyData.depthAll];lia
theorem Dk.tup{n dep m:Nat}{ds:List PyData}(h:∀d∈ds,Dk n dep d)(hl:ds.length≤m):Dk (1+m*n) (dep+2) (.tuple ds):=by
  obtain⟨b1,b2,b3,b4⟩:=Dk.all h
  refine⟨b1,b2,?_,?_⟩
  · simp only [L2.cnt]
    have:=Nat.mul_le_mul_right n hl
    lia
  · simp only [PyData.depth];lia
theorem Dk.ok{n dep:Nat}{d:PyData}(h:Dk n dep d)(h1:n≤8000)(h2:dep≤60):d.showable=true∧d.depth≤60∧d.shown.length≤sizeLine:=by
  have:=mT h.2.1 h.1
  have sl:sizeLine=16777216:=sizeLine_eq
  have:=h.2.2.1
  exact⟨h.1,Nat.le_trans h.2.2.2 h2,by lia⟩
theorem Dk.ints{ns:List Int}{m:Nat}(hl:ns.length≤m)(h:∀r∈ns,small r):Dk (1+m) 4 (.tuple (ns.map .int)):=by
  have:=Dk.tup (n:=1) (dep:=2) (m:=m) (ds:=ns.map PyData.int) (fun d hd=>by
    obtain⟨x,hx,rfl⟩:=List.mem_map.mp hd
    exact Dk.int (h x hx)) (by rw [List.length_map];exact hl)
  simpa using this
section
variable{K:PySem.W.Frag}{H:Hp}
theorem Dk.bools{ns:List Bool}{m:Nat}(hl:ns.length≤m):Dk (1+m) 4 (.tuple (ns.map .bool)):=by
  have:=Dk.tup (n:=1) (dep:=2) (m:=m) (ds:=ns.map PyData.bool) (fun d hd=>by
    obtain⟨x,hx,rfl⟩:=List.mem_map.mp hd
    exact Dk.bool x) (by rw [List.length_map];exact hl)
  simpa using this
def cZ(t:kB):PyData:=.tuple [.int t.one,.int t.other,.tuple [.int t.top,.int t.bot],.int t.worth]
def aq(W:be):PyData:=.tuple [.int W.things,.tuple (W.ties.map cZ),.tuple (W.pat.map .int),.int W.asks]
def Fc(asked taken:List Int):PyData:=.tuple [.tuple (asked.map .int),.tuple (taken.map .int)]
end
end L2
namespace L2
open PySem PySem.Spec PyProof.Rows
theorem p7:∀{bs:List Bool} {us:List Value} {i:Nat} {v:Value},aE (bs.map V.bl) us→us[i]?=some v→∃b,bs[i]?=some b∧v=.bool b
  | [],us,i,v,r,e=>by cases r;simp at e
  | b::bs,us,i,v,r,e=>by
    cases r with
    | cons p q=>
      cases i with
      | zero=>simp at e;subst e;cases p;exact⟨b,rfl,rfl⟩
      | succ i=>
        obtain⟨c,h1,h2⟩:=p7 (bs:=bs) (i:=i) (v:=v) q (by simpa using e)
        exact⟨c,by simpa using h1,h2⟩
theorem yh(bs:List Bool):((List.range bs.length).all fun i=>(bs[i]?).getD true)=bs.all id:=by
  rw [Bool.eq_iff_iff,List.all_eq_true,List.all_eq_true]
  constructor
  · intro h b hb
    obtain⟨i,hi,rfl⟩:=List.getElem_of_mem hb
    have:=h i (List.mem_range.mpr hi)
    rw [List.getElem?_eq_getElem hi] at this
    exact this
  · intro h i hi
    have hi':=List.mem_range.mp hi
    rw [List.getElem?_eq_getElem hi']
    exact h _ (List.getElem_mem hi')
theorem yi(bs:List Bool):((List.range bs.length).any fun i=>(bs[i]?).getD false)=bs.any id:=by
  rw [Bool.eq_iff_iff,List.any_eq_true,List.any_eq_true]
  constructor
  · rintro⟨i,hi,e⟩
    have hi':=List.mem_range.mp hi
    rw [List.getElem?_eq_getElem hi'] at e
    exact⟨_,List.getElem_mem hi',e⟩
  · rintro⟨b,hb,e⟩
    obtain⟨i,hi,rfl⟩:=List.getElem_of_mem hb
    refine⟨i,List.mem_range.mpr hi,?_⟩
    rw [List.getElem?_eq_getElem hi]
    exact e
section
variable{X:Cx}
theorem tY{k:Nat}{K:PySem.W.Frag}(hr:bW k X.A)(hK:X.K=K):ce X (.builtin "all") (fun xs H Q=>∃(l:Addr) (bs:List Bool),xs=[.ref l]∧dP K H l (bs.map V.bl)∧Q (.bl (bs.all id)) H):=by
  intro pins s σ H xs us Q I r h
  subst hK
  obtain⟨l,bs,rfl,hs,q⟩:=h
  obtain⟨u,rfl,ru⟩:=g_ r
  cases ru
  obtain⟨its,rv,p,hz⟩:=I.list hs
  have hl:=p.isList
  have lt:l < s.heap.objs.size:=by obtain⟨_,e,_⟩:=hl;exact Heap.lt_size e
  refine PySem.call_all_walk (wpAny_pyIter_list hl ?_)
  refine⟨s.heap.objs.size,[s.heap.objs.size,l],[s.heap.objs.size],its.toArray.size,_,_,fun i=>(bs[i]?).getD true,rfl,Walks.list (A:=X.A.in1) hr.hd _ l (Nat.ne_of_lt lt) its.toArray,⟨⟨_,Heap.get?_push_size _ rfl,rfl,rfl⟩,hl.push _⟩,fun i v s' Q' E' hP hQ=>?_,fun h' tk hk=>?_⟩
  · obtain⟨b,e,rfl⟩:=p7 rv (by simpa using hP)
    simp only [e,Option.getD_some] at hQ
    exact wpAny_truthy_bool hQ
  · have e:its.toArray.size=bs.length:=by have:=rv.length;rw [List.length_map] at this;simpa using this.symm
    rw [e,yh]
    refine⟨.bl (bs.all id),H,I.kept fun b x e=>hk b x (fun hm=>?_) (Heap.get?_push_of_some _ e),rfl,q⟩
    rw [List.mem_singleton.mp hm] at e
    exact Nat.lt_irrefl _ (Heap.lt_size e)
theorem tZ{k:Nat}{K:PySem.W.Frag}(hr:bW k X.A)(hK:X.K=K):ce X (.builtin "any") (fun xs H Q=>∃(l:Addr) (bs:List Bool),xs=[.ref l]∧dP K H l (bs.map V.bl)∧Q (.bl (bs.any id)) H):=by
  intro pins s σ H xs us Q I r h
  subst hK
  obtain⟨l,bs,rfl,hs,q⟩:=h
  obtain⟨u,rfl,ru⟩:=g_ r
  cases ru
  obtain⟨its,rv,p,hz⟩:=I.list hs
  have hl:=p.isList
  have lt:l < s.heap.objs.size:=by obtain⟨_,e,_⟩:=hl;exact Heap.lt_size e
  refine PySem.call_any_walk (wpAny_pyIter_list hl ?_)
  refine⟨s.heap.objs.size,[s.heap.objs.size,l],[s.heap.objs.size],its.toArray.size,_,_,fun i=>(bs[i]?).getD false,rfl,Walks.list (A:=X.A.in1) hr.hd _ l (Nat.ne_of_lt lt) its.toArray,⟨⟨_,Heap.get?_push_size _ rfl,rfl,rfl⟩,hl.push _⟩,fun i v s' Q' E' hP hQ=>?_,fun h' tk hk=>?_⟩
  · obtain⟨b,e,rfl⟩:=p7 rv (by simpa using hP)
    simp only [e,Option.getD_some] at hQ
    exact wpAny_truthy_bool hQ
  · have e:its.toArray.size=bs.length:=by have:=rv.length;rw [List.length_map] at this;simpa using this.symm
    rw [e,yi]
    refine⟨.bl (bs.any id),H,I.kept fun b x e=>hk b x (fun hm=>?_) (Heap.get?_push_of_some _ e),rfl,q⟩
    rw [List.mem_singleton.mp hm] at e
    exact Nat.lt_irrefl _ (Heap.lt_size e)
end
end L2
namespace L2
theorem tS:PySem.bootBuiltins "all"=some (.builtin "all"):=by decide+kernel
theorem tT:PySem.bootBuiltins "any"=some (.builtin "any"):=by decide+kernel
end L2
namespace L2
open PySem PySem.Spec PyProof.Rows
section
variable{prog:Program}{w:World}{A:Around}{E:Value→Shared→Prop}{s:Shared}
theorem wn{it t:Addr}{i:Nat}{ys}{x:Value}{Q:Value→Shared→Prop}(hi:s.heap.IsTupleIter it t i)(ht:s.heap.IsTuple t ys)(hx:ys[i]?=some x)
    (q:∀g,g.IsTupleIter it t (i+1)→Heap.SameBut it s.heap g→Q x {s with heap:=g}):wpAny (model prog w) A (Builtin.SmallTypes.nextOf (.ref it)) Q E s:=by
  obtain⟨o,ho,hc,hd⟩:=id hi;obtain⟨p,hp,_,n,hpd⟩:=ht;unfold Builtin.SmallTypes.nextOf
  refine wpAny_bind (wpAny_callSpecial?_slot (name:=Str.ofString "__next__") hi.typeIs F.slot_tuple_iterator_next (wpAny_call_entry F.slot_tuple_iterator_next hi.typeIs F.entry_tuple_iterator_next ?_ (F.args_tuple_iterator_next_1 _)))
  show wpAny _ _ (field (.ref it) 0 >>= _) _ _ s;refine wpAny_bind (wpAny_field ho hd (x:=.ref t) rfl ?_)
  show wpAny _ _ (if (Value.ref t==Value.none)=true then _ else _) _ _ s;rw [if_neg (show ¬((Value.ref t==Value.none)=true) from Bool.false_ne_true)]
  show wpAny _ _ (field (.ref it) 1 >>= _) _ _ s;refine wpAny_bind (wpAny_field ho hd (x:=.int i 0) rfl ?_)
  show wpAny _ _ (seqItems? (.ref t) >>= _) _ _ s;refine wpAny_bind (wpAny_seqItems hp hpd ?_)
  simp only [Int.toNat_natCast,hx];refine wpAny_bind (wpAny_setField ho hd (by simp) (wpAny_pure ⟨x,rfl,wpAny_pure (q _ ?_ (Heap.SameBut.update ..))⟩))
  refine⟨_,Heap.get?_update_self _ ho (Obj.isFreed_of_fields (Obj.data_mapFields hd _)),(Obj.cls_mapFields ..).trans hc,?_⟩;rw [Obj.data_mapFields hd];simp [rawInt]
theorem wm{it t:Addr}{i:Nat}{ys}{Q:Value→Shared→Prop}(hh:A.handled=none)(hi:s.heap.IsTupleIter it t i)(ht:s.heap.IsTuple t ys)(hx:ys[i]?=none)
    (q:∀g e,Heap.ExtBut it s.heap g→(∃o,g.get? e=some o∧o.cls=.type "StopIteration")→E (.ref e) {s with heap:=g}):wpAny (model prog w) A (Builtin.SmallTypes.nextOf (.ref it)) Q E s:=by
  obtain⟨o,ho,hc,hd⟩:=id hi;obtain⟨p,hp,_,n,hpd⟩:=ht;unfold Builtin.SmallTypes.nextOf
  refine wpAny_bind (wpAny_callSpecial?_slot (name:=Str.ofString "__next__") hi.typeIs F.slot_tuple_iterator_next (wpAny_call_entry F.slot_tuple_iterator_next hi.typeIs F.entry_tuple_iterator_next ?_ (F.args_tuple_iterator_next_1 _)))
  show wpAny _ _ (field (.ref it) 0 >>= _) _ _ s;refine wpAny_bind (wpAny_field ho hd (x:=.ref t) rfl ?_)
  show wpAny _ _ (if (Value.ref t==Value.none)=true then _ else _) _ _ s;rw [if_neg (show ¬((Value.ref t==Value.none)=true) from Bool.false_ne_true)]
  show wpAny _ _ (field (.ref it) 1 >>= _) _ _ s;refine wpAny_bind (wpAny_field ho hd (x:=.int i 0) rfl ?_)
  show wpAny _ _ (seqItems? (.ref t) >>= _) _ _ s;refine wpAny_bind (wpAny_seqItems hp hpd ?_)
  simp only [Int.toNat_natCast,hx];refine wpAny_bind (wpAny_rule (wpAny_bind (wpAny_setField ho hd (by simp) ?_)))
  show wpAny _ _ (newExc (.type "StopIteration") [] >>= _) _ _ _;refine wpAny_bind ?_;simp only [newExc,newTuple]
  refine wpAny_bind (wpAny_newObj_type ?_ (by size_fits));refine wpAny_bind (m:=firstArgMember _ _) (wpAny_of_eq (a:=Value.none) (by first | rfl | (simp only [firstArgMember];rfl)) ?_)
  refine wpAny_newObj_type ?_ (by size_fits);simp only [raiseNew];refine wpAny_bind (wpAny_handled ?_);first | rw [show A.in1.handled=none from hh] | rw [hh]
  refine wpAny_bind (wpAny_pure (wpAny_throw ?_));exact q _ _ (((Heap.SameBut.update ..).extBut.push _).push _) ⟨_,Heap.get?_push_size _ rfl,rfl⟩
end
structure Sc (prog:Program) (w:World) (it l:Addr) (St:Nat→Heap→Prop) (Sq:Heap→Array Value→Prop):Prop where
  stay:∀{k h h'},St k h→(∀o,h.get? it=some o→h'.get? it=some o)→St k h'
  live:∀{k h},St k h→∃o,h.get? it=some o∧∀v,o.data≠.cell v
  row:∀{h h' xs},Sq h xs→(∀o,h.get? l=some o→h'.get? l=some o)→Sq h' xs
  next:∀{A:Around} {s:Shared} {E:Value→Shared→Prop} {Q:Value→Shared→Prop} {k:Nat} {xs:Array Value} {x:Value},St k s.heap→Sq s.heap xs→xs[k]?=some x→(∀g,St (k+1) g→Heap.SameBut it s.heap g→Q x {s with heap:=g})→wpAny (model prog w) A (Builtin.SmallTypes.nextOf (.ref it)) Q E s
  last:∀{A:Around} {s:Shared} {E:Value→Shared→Prop} {Q:Value→Shared→Prop} {k:Nat} {xs:Array Value},A.handled=none→St k s.heap→Sq s.heap xs→xs[k]?=none→(∀g e,Heap.ExtBut it s.heap g→(∃o,g.get? e=some o∧o.cls=.type "StopIteration")→E (.ref e) {s with heap:=g})→wpAny (model prog w) A (Builtin.SmallTypes.nextOf (.ref it)) Q E s
theorem jW{prog:Program}{w:World}(it l:Addr):Sc prog w it l (fun k h=>h.IsTupleIter it l k) (fun h xs=>h.IsTuple l xs) where
  stay:=fun st k=>st.at fun o e=>k o e
  live:=fun st=>by
    obtain⟨o,e,c,d⟩:=st
    exact⟨o,e,fun v z=>by rw [d] at z;cases z⟩
  row:=fun q k=>by
    obtain⟨o,e,r⟩:=q
    exact⟨o,k o e,r⟩
  next:=fun st sq hx q=>wn st sq hx q
  last:=fun hh st sq hx q=>wm hh st sq hx q
theorem rT{prog:Program}{w:World}(it l:Addr):Sc prog w it l (fun k h=>h.IsListIter it l k) (fun h xs=>h.IsList l xs) where
  stay:=fun st k=>st.at fun o e=>k o e
  live:=fun st=>by
    obtain⟨o,e,c,d⟩:=st
    exact⟨o,e,fun v z=>by rw [d] at z;cases z⟩
  row:=fun q k=>by
    obtain⟨o,e,r⟩:=q
    exact⟨o,k o e,r⟩
  next:=fun st sq hx q=>wpAny_nextOf_list_item st sq hx q
  last:=fun hh st sq hx q=>wpAny_nextOf_list_end hh st sq hx q
structure mh (z TI TO i1 i2 l1 l2:Addr):Prop where
  a1:TO≠z
  a2:i1≠z
  a3:i2≠z
  a4:TO≠i1
  a5:TO≠i2
  a6:i1≠i2
  b1:l1≠z
  b2:l1≠TO
  b3:l1≠i1
  b4:l1≠i2
  c1:l2≠z
  c2:l2≠TO
  c3:l2≠i1
  c4:l2≠i2
section
variable{prog:Program}{w:World}{A:Around}{E:Value→Shared→Prop}{s:Shared}{z TI TO i1 i2 l1 l2:Addr}{k:Nat}{xs ys:Array Value}{a b:Value}{S1 S2:Nat→Heap→Prop}{R1 R2:Heap→Array Value→Prop}
theorem Bw{x y:Value}{Q:Value→Shared→Prop}(P1:Sc prog w i1 l1 S1 R1)(P2:Sc prog w i2 l2 S2 R2)(D:mh z TI TO i1 i2 l1 l2)(hz:IsZip s.heap z TI TO .none)(hI:IsPair s.heap TI (.ref i1) (.ref i2))(hO:IsPair s.heap TO a b)(u1:S1 k s.heap)(u2:S2 k s.heap)(r1:R1 s.heap xs)(r2:R2 s.heap ys)(hx:xs[k]?=some x)(hy:ys[k]?=some y)
    (q:∀g,IsZip g z TI TO (rawInt s.heap.objs.size)→IsPair g TO x y→S1 (k+1) g→S2 (k+1) g→IsPair g s.heap.objs.size x y→g.objs.size=s.heap.objs.size+1→(∀c o,c≠z→c≠TO→c≠i1→c≠i2→s.heap.get? c=some o→g.get? c=some o)→Q (.ref s.heap.objs.size) {s with heap:=g}):
    wpAny (model prog w) A (Builtin.«zip.__next__» ⟨[.ref z],[]⟩) (fun f s'=>∃v,f=.done (.ret v)∧Q v s') E s:=by
  show wpAny _ _ (field (.ref z) 2 >>= _) _ _ _;refine wpAny_bind (wpAny_field hz rfl (x:=.bool false) rfl ?_)
  show wpAny _ _ (field (.ref z) 3 >>= _) _ _ _;refine wpAny_bind (wpAny_field hz rfl (x:=.ref TI) rfl ?_);refine wpAny_bind (wpAny_seqItems hI rfl ?_)
  show wpAny _ _ (Builtin.SmallTypes.ownedTupleIsFree (.ref z) >>= _) _ _ _;refine wpAny_bind ?_;unfold Builtin.SmallTypes.ownedTupleIsFree
  refine wpAny_bind (wpAny_field hz rfl (x:=.none) rfl (wpAny_pure ?_));simp only [if_true];refine wpAny_bind (wpAny_rule ?_)
  refine wpAny_bind (wpAny_field hz rfl (x:=.ref TO) rfl ?_);refine wpAny_bind (wpAny_setField_rec hz (by simp) fun g1 z1 e1=>?_)
  replace z1:IsZip g1 z TI TO .ellipsis:=z1;refine wpAny_bind ?_;simp only [List.zipIdx_cons,List.zipIdx_nil,List.forIn_cons,List.forIn_nil]
  refine wpAny_bind (wpAny_bind (wpAny_onRaise ?_));show wpAny _ _ (Builtin.SmallTypes.nextOf (.ref i1) >>= _) _ _ _
  refine wpAny_bind (P1.next (P1.stay u1 fun o e=>e1.extBut _ _ D.a2 e) (P1.row r1 fun o e=>e1.extBut _ _ D.b1 e) hx fun g2 v1 e2=>wpAny_pure ?_)
  have O2:IsPair g2 TO a b:=e2.extBut _ _ D.a4 (e1.extBut _ _ D.a1 hO)
  refine wpAny_bind (wpAny_seqItems O2 rfl ?_);refine wpAny_bind (wpAny_updateSeq_pair O2 fun g3 O3 e3=>?_);replace O3:IsPair g3 TO x b:=O3;refine wpAny_bind (wpAny_letGo (wpAny_pure ?_))
  refine wpAny_bind (wpAny_bind (wpAny_onRaise ?_));show wpAny _ _ (Builtin.SmallTypes.nextOf (.ref i2) >>= _) _ _ _
  have up3:∀c o,c≠z→c≠i1→c≠TO→s.heap.get? c=some o→g3.get? c=some o:=fun c o n1 n2 n3 e=>e3.extBut _ _ n3 (e2.extBut _ _ n2 (e1.extBut _ _ n1 e))
  refine wpAny_bind (P2.next (P2.stay u2 fun o e=>up3 _ _ D.a3 D.a6.symm D.a5.symm e) (P2.row r2 fun o e=>up3 _ _ D.c1 D.c3 D.c2 e) hy fun g4 v2 e4=>wpAny_pure ?_)
  have O4:IsPair g4 TO x b:=e4.extBut _ _ D.a5 O3
  refine wpAny_bind (wpAny_seqItems O4 rfl ?_);refine wpAny_bind (wpAny_updateSeq_pair O4 fun g5 O5 e5=>?_);replace O5:IsPair g5 TO x y:=O5;refine wpAny_bind (wpAny_letGo (wpAny_pure (wpAny_pure ?_)))
  refine wpAny_bind (wpAny_seqItems O5 rfl ?_);refine wpAny_bind (wpAny_newTuple ?_)
  have sz:g5.objs.size=s.heap.objs.size:=by rw [e5.1,e4.1,e3.1,e2.1,e1.1]
  have z5:IsZip g5 z TI TO .ellipsis:=e5.extBut _ _ D.a1.symm (e4.extBut _ _ D.a3.symm (e3.extBut _ _ D.a1.symm (e2.extBut _ _ D.a2.symm z1)))
  have k5:∀c o,c≠z→c≠TO→c≠i1→c≠i2→s.heap.get? c=some o→g5.get? c=some o:=fun c o n1 n2 n3 n4 e=>e5.extBut _ _ n2 (e4.extBut _ _ n4 (up3 c o n1 n3 n2 e))
  have w1:S1 (k+1) g5:=P1.stay v1 fun o e=>e5.extBut _ _ D.a4.symm (e4.extBut _ _ D.a6 (e3.extBut _ _ D.a4.symm e))
  have w2:S2 (k+1) g5:=P2.stay v2 fun o e=>e5.extBut _ _ D.a5.symm e
  have lz:z < g5.objs.size:=Heap.lt_size z5
  show wpAny _ _ (Builtin.SmallTypes.ownedTupleHandOut (.ref z) (.ref g5.objs.size) >>= _) _ _ _;refine wpAny_bind ?_;unfold Builtin.SmallTypes.ownedTupleHandOut
  have z6:IsZip (g5.push {cls:=.type "tuple",data:=.seq #[x,y]}) z TI TO .ellipsis:=Heap.get?_push_of_some _ z5
  refine wpAny_bind (wpAny_setField_rec z6 (by simp) fun g7 z7 e7=>?_);replace z7:IsZip g7 z TI TO (rawInt g5.objs.size):=z7
  refine wpAny_setField_rec z7 (by simp) fun g8 z8 e8=>?_;replace z8:IsZip g8 z TI TO (rawInt g5.objs.size):=z8
  have up:∀c o,c≠z→g5.get? c=some o→g8.get? c=some o:=fun c o n e=>e8.extBut _ _ n (e7.extBut _ _ n (Heap.get?_push_of_some _ e))
  have T8:IsPair g8 g5.objs.size x y:=e8.extBut _ _ (Nat.ne_of_gt lz) (e7.extBut _ _ (Nat.ne_of_gt lz) (Heap.get?_push_size _ rfl))
  have n8:g8.objs.size=g5.objs.size+1:=by rw [e8.1,e7.1,Heap.size_push]
  rw [sz] at z8 T8 n8;refine wpAny_pure ⟨_,rfl,?_⟩;show Q (.ref g5.objs.size) _;rw [sz]
  exact q g8 z8 (up _ _ D.a1 O5) (P1.stay w1 fun o e=>up _ o D.a2 e) (P2.stay w2 fun o e=>up _ o D.a3 e) T8 n8 fun c o n1 n2 n3 n4 e=>up c o n1 (k5 c o n1 n2 n3 n4 e)
theorem yD{Q:Fin→Shared→Prop}(hh:A.handled=none)(P1:Sc prog w i1 l1 S1 R1)(P2:Sc prog w i2 l2 S2 R2)(D:mh z TI TO i1 i2 l1 l2)(hz:IsZip s.heap z TI TO .none)(hI:IsPair s.heap TI (.ref i1) (.ref i2))(hO:IsPair s.heap TO a b)(u1:S1 k s.heap)(u2:S2 k s.heap)(r1:R1 s.heap xs)(r2:R2 s.heap ys)(hn:xs[k]?=none∨ys[k]?=none)
    (q:∀g e,(∀c o,c≠z→c≠TO→c≠i1→c≠i2→s.heap.get? c=some o→g.get? c=some o)→(∃o,g.get? e=some o∧o.cls=.type "StopIteration")→E (.ref e) {s with heap:=g}):
    wpAny (model prog w) A (Builtin.«zip.__next__» ⟨[.ref z],[]⟩) Q E s:=by
  show wpAny _ _ (field (.ref z) 2 >>= _) _ _ _;refine wpAny_bind (wpAny_field hz rfl (x:=.bool false) rfl ?_)
  show wpAny _ _ (field (.ref z) 3 >>= _) _ _ _;refine wpAny_bind (wpAny_field hz rfl (x:=.ref TI) rfl ?_);refine wpAny_bind (wpAny_seqItems hI rfl ?_)
  show wpAny _ _ (Builtin.SmallTypes.ownedTupleIsFree (.ref z) >>= _) _ _ _;refine wpAny_bind ?_;unfold Builtin.SmallTypes.ownedTupleIsFree
  refine wpAny_bind (wpAny_field hz rfl (x:=.none) rfl (wpAny_pure ?_));simp only [if_true];refine wpAny_bind (wpAny_rule ?_)
  refine wpAny_bind (wpAny_field hz rfl (x:=.ref TO) rfl ?_);refine wpAny_bind (wpAny_setField_rec hz (by simp) fun g1 z1 e1=>?_)
  replace z1:IsZip g1 z TI TO .ellipsis:=z1;refine wpAny_bind ?_;simp only [List.zipIdx_cons,List.zipIdx_nil,List.forIn_cons,List.forIn_nil]
  refine wpAny_bind (wpAny_bind (wpAny_onRaise ?_));show wpAny _ _ (Builtin.SmallTypes.nextOf (.ref i1) >>= _) _ _ _
  cases hx:xs[k]? with
  | none=>
    refine wpAny_bind (P1.last hh (P1.stay u1 fun o e=>e1.extBut _ _ D.a2 e) (P1.row r1 fun o e=>e1.extBut _ _ D.b1 e) hx fun g2 e e2 he=>?_)
    obtain⟨oe,h1,h2⟩:=he;have z2:IsZip g2 z TI TO .ellipsis:=e2 _ _ D.a2.symm z1
    have nz:e≠z:=fun x=>by subst x;rw [z2] at h1;cases h1;simp at h2
    refine wpAny_setField_rec z2 (by simp) fun g3 _ e3=>q g3 e (fun c o n1 _ n3 _ x=>e3.extBut _ _ n1 (e2 _ _ n3 (e1.extBut _ _ n1 x))) ⟨oe,e3.extBut _ _ nz h1,h2⟩
  | some x=>
    have hy:ys[k]?=none:=by
      rcases hn with h | h
      · rw [hx] at h;cases h
      · exact h
    refine wpAny_bind (P1.next (P1.stay u1 fun o e=>e1.extBut _ _ D.a2 e) (P1.row r1 fun o e=>e1.extBut _ _ D.b1 e) hx fun g2 v1 e2=>wpAny_pure ?_)
    have O2:IsPair g2 TO a b:=e2.extBut _ _ D.a4 (e1.extBut _ _ D.a1 hO)
    refine wpAny_bind (wpAny_seqItems O2 rfl ?_);refine wpAny_bind (wpAny_updateSeq_pair O2 fun g3 O3 e3=>?_);refine wpAny_bind (wpAny_letGo (wpAny_pure ?_))
    refine wpAny_bind (wpAny_bind (wpAny_onRaise ?_));show wpAny _ _ (Builtin.SmallTypes.nextOf (.ref i2) >>= _) _ _ _
    have up3:∀c o,c≠z→c≠i1→c≠TO→s.heap.get? c=some o→g3.get? c=some o:=fun c o n1 n2 n3 e=>e3.extBut _ _ n3 (e2.extBut _ _ n2 (e1.extBut _ _ n1 e))
    refine wpAny_bind (P2.last hh (P2.stay u2 fun o e=>up3 _ _ D.a3 D.a6.symm D.a5.symm e) (P2.row r2 fun o e=>up3 _ _ D.c1 D.c3 D.c2 e) hy fun g4 e e4 he=>?_)
    obtain⟨oe,h1,h2⟩:=he;have z4:IsZip g4 z TI TO .ellipsis:=e4 _ _ D.a3.symm (e3.extBut _ _ D.a1.symm (e2.extBut _ _ D.a2.symm z1))
    have nz:e≠z:=fun x=>by subst x;rw [z4] at h1;cases h1;simp at h2
    refine wpAny_setField_rec z4 (by simp) fun g5 _ e5=>q g5 e (fun c o n1 n2 n3 n4 x=>e5.extBut _ _ n1 (e4 _ _ n4 (up3 c o n1 n3 n2 x))) ⟨oe,e5.extBut _ _ nz h1,h2⟩
theorem wC{x y:Value}{Q:Option Value→Shared→Prop}(P1:Sc prog w i1 l1 S1 R1)(P2:Sc prog w i2 l2 S2 R2)(D:mh z TI TO i1 i2 l1 l2)(hz:IsZip s.heap z TI TO .none)(hI:IsPair s.heap TI (.ref i1) (.ref i2))(hO:IsPair s.heap TO a b)(u1:S1 k s.heap)(u2:S2 k s.heap)(r1:R1 s.heap xs)(r2:R2 s.heap ys)(hx:xs[k]?=some x)(hy:ys[k]?=some y)
    (q:∀g,IsZip g z TI TO (rawInt s.heap.objs.size)→IsPair g TO x y→S1 (k+1) g→S2 (k+1) g→IsPair g s.heap.objs.size x y→g.objs.size=s.heap.objs.size+1→(∀c o,c≠z→c≠TO→c≠i1→c≠i2→s.heap.get? c=some o→g.get? c=some o)→Q (some (.ref s.heap.objs.size)) {s with heap:=g}):
    wpAny (model prog w) A (pyNext (.ref z)) Q E s:=by
  have hT:s.TypeIs (.ref z) "zip":=⟨_,hz,rfl⟩;unfold pyNext
  refine wpAny_bind (wpAny_attempt (wpAny_callSpecial?_slot (name:=Str.ofString "__next__") hT F.slot_zip_next (wpAny_call_entry F.slot_zip_next hT F.entry_zip_next ?_ (F.args_zip_next_1 _))))
  exact Bw P1 P2 D hz hI hO u1 u2 r1 r2 hx hy fun g b1 b2 b3 b4 b5 b6 b7=>wpAny_pure (q g b1 b2 b3 b4 b5 b6 b7)
theorem wD{Q:Option Value→Shared→Prop}(hh:A.handled=none)(P1:Sc prog w i1 l1 S1 R1)(P2:Sc prog w i2 l2 S2 R2)(D:mh z TI TO i1 i2 l1 l2)(hz:IsZip s.heap z TI TO .none)(hI:IsPair s.heap TI (.ref i1) (.ref i2))(hO:IsPair s.heap TO a b)(u1:S1 k s.heap)(u2:S2 k s.heap)(r1:R1 s.heap xs)(r2:R2 s.heap ys)(hn:xs[k]?=none∨ys[k]?=none)
    (q:∀g,(∀c o,c≠z→c≠TO→c≠i1→c≠i2→s.heap.get? c=some o→g.get? c=some o)→Q none {s with heap:=g}):wpAny (model prog w) A (pyNext (.ref z)) Q E s:=by
  have hT:s.TypeIs (.ref z) "zip":=⟨_,hz,rfl⟩;unfold pyNext
  refine wpAny_bind (wpAny_attempt (wpAny_callSpecial?_slot (name:=Str.ofString "__next__") hT F.slot_zip_next (wpAny_call_entry F.slot_zip_next hT F.entry_zip_next (yD hh P1 P2 D hz hI hO u1 u2 r1 r2 hn fun g e hk he=>?_) (F.args_zip_next_1 _))))
  obtain⟨o,ho,hc⟩:=he;refine wpAny_bind (wpAny_isInstance (T:="StopIteration") (b:=true) ⟨o,ho,hc⟩ isSubtype_stop ?_);exact wpAny_pure (q _ hk)
end
end L2
namespace L2
open PySem PySem.Spec PyProof.Rows
section
variable{X:Cx}{pins:List (Addr × Obj)}{σ:L2.St}{H:Hp}{s:Shared}{h':Heap}
theorem au.turnedL{t':Nat}{fp:List Addr}(I:au X pins σ H s)(hf:∀b∈fp,eV X pins H b)(k:∀b o,b∉fp→s.heap.get? b=some o→h'.get? b=some o):au X pins σ H {s with heap:=h',toks:=t'}:=by
  have hL:X.env.locals∉fp:=fun z=>(hf _ z).2.1 rfl
  have nit:∀b u,H b=some u→b∉fp:=fun b u e z=>by have:=(hf b z).1;rw [this] at e;cases e
  refine I.step (g':=s.gens) (d':=s.drawn) (ch:=fp) (fun b hb=>?_) (fun b o _ _ hc e _=>k b o hc e) (fun b o _ _ hc e _=>⟨o.slots,k b o hc e⟩) (fun _ _ _ _ n=>n) (fun b o hc e=>⟨o,k b o hc e⟩) (fun _ _ e=>e) (fun _ _ _ e=>e) (fun b ps e=>⟨#[],by rw [e];simp⟩) (fun m hm=>?_) (fun b u e=>?_) I.bare
  · obtain⟨f0,f1,f2,f3,f4,f5⟩:=hf b hb
    exact⟨f3,f1,f4,f5⟩
  · obtain⟨o,es,ep,ho,r⟩:=hm
    exact⟨o,es,ep,k _ o hL ho,r⟩
  · refine(I.hok b u e).stay (fun c v hc q=>k c v ?_ q) (fun _ q=>q) fun _ _ q=>q
    rcases hc with z | z
    · rw [z];exact nit b u e
    · exact nit c _ z
theorem aV(I:au X pins σ H s){b l:Addr}{xs:List V}(f:eV X pins H b)(q:cc X.K H l xs):l≠b:=by
  intro z
  subst z
  rcases q with (q | ⟨o,q⟩) | ⟨o,its,n,hk,_⟩
  · rw [f.1] at q;cases q
  · rw [f.1] at q;cases q
  · have hb:X.base.get? l=some o:=I.ok.mod.kin l o hk
    rcases f.2.2.2.1 with z | z
    · exact I.ok.noex l o hb z
    · exact absurd (Nat.lt_of_lt_of_le (Heap.lt_size (I.ok.bs l o hb).1) z) (Nat.lt_irrefl _)
end
def Eh(K:PySem.W.Frag)(l1 l2:Addr):It:=
  ⟨fun i H=>∃xs ys x y,cc K H l1 xs∧cc K H l2 ys∧xs[i]?=some x∧ys[i]?=some y,
   fun i H v H'=>∃p x y,v=.ref p∧H p=none∧H'=aM H p (.tup [x,y])∧∀xs ys,cc K H l1 xs→cc K H l2 ys→xs[i]?=some x∧ys[i]?=some y,
   fun i H=>∃xs ys,cc K H l1 xs∧cc K H l2 ys∧(xs.length≤i∨ys.length≤i)⟩
def zo(z TI TO i1 i2 l1 l2:Addr)(i:Nat)(h:Heap):Prop:=IsZip h z TI TO .none∧IsPair h TI (.ref i1) (.ref i2)∧(∃a b,IsPair h TO a b)∧h.IsTupleIter i1 l1 i∧h.IsTupleIter i2 l2 i
theorem wo{P:Program}{w:World}{K:PySem.W.Frag}{es:List Expr}{k0:Nat}{pos:Pos}{z TI TO i1 i2:Addr}(l1 l2:Addr)(n1:TO≠z)(n2:i1≠z)(n3:i2≠z)(n4:TO≠i1)(n5:TO≠i2)(n6:i1≠i2)(n7:TI≠z)(n8:TI≠TO)(n9:TI≠i1)(n10:TI≠i2):
    pX P w K (.Tuple es k0 pos) (Eh K l1 l2) [z,TI,TO,i1,i2] z (zo z TI TO i1 i2 l1 l2) where
  mem:=by simp
  obj:=fun i h st b hb=>by
    obtain⟨hz,hI,⟨a,c,hO⟩,u1,u2⟩:=st
    simp only [List.mem_cons,List.not_mem_nil,or_false] at hb
    rcases hb with rfl | rfl | rfl | rfl | rfl
    · exact⟨_,hz,fun v z=>by cases z⟩
    · exact⟨_,hI,fun v z=>by cases z⟩
    · exact⟨_,hO,fun v z=>by cases z⟩
    · obtain⟨o,e,c,d⟩:=u1
      exact⟨o,e,fun v z=>by rw [d] at z;cases z⟩
    · obtain⟨o,e,c,d⟩:=u2
      exact⟨o,e,fun v z=>by rw [d] at z;cases z⟩
  keep:=fun i h h' st k=>by
    obtain⟨hz,hI,⟨a,c,hO⟩,u1,u2⟩:=st
    exact⟨k _ (by simp) _ hz,k _ (by simp) _ hI,⟨a,c,k _ (by simp) _ hO⟩,u1.at fun o e=>k _ (by simp) o e,u2.at fun o e=>k _ (by simp) o e⟩
  item:=by
    intro X hP hw hK hc i pins s σ H E I hf st hg
    subst hP hw hK
    obtain⟨xs,ys,x,y,q1,q2,hx,hy⟩:=hg
    obtain⟨hz,hI,⟨a,b,hO⟩,u1,u2⟩:=id st
    obtain⟨its1,rv1,p1,z1⟩:=I.tuple q1
    obtain⟨its2,rv2,p2,z2⟩:=I.tuple q2
    obtain⟨ux,hux,rux⟩:=rv1.get hx
    obtain⟨uy,huy,ruy⟩:=rv2.get hy
    have fz:=hf z (by simp);have fO:=hf TO (by simp);have f1:=hf i1 (by simp);have f2:=hf i2 (by simp)
    have D:mh z TI TO i1 i2 l1 l2:=⟨n1,n2,n3,n4,n5,n6,aV I fz q1,aV I fO q1,aV I f1 q1,aV I f2 q1,aV I fz q2,aV I fO q2,aV I f1 q2,aV I f2 q2⟩
    refine wC (xs:=its1.toArray) (ys:=its2.toArray) (jW i1 l1) (jW i2 l2) D hz hI hO u1 u2 p1 p2 (by simpa using hux) (by simpa using huy) fun g gz gO g1 g2 gT gs gk=>?_
    refine⟨_,rfl,wpAny_letOwnedTupleGo_zip gz fun g' gz' ge=>?_⟩
    have lt:∀b∈[z,TI,TO,i1,i2],b < s.heap.objs.size:=fun b hb=>by
      simp only [List.mem_cons,List.not_mem_nil,or_false] at hb
      rcases hb with rfl | rfl | rfl | rfl | rfl
      · exact Heap.lt_size hz
      · exact Heap.lt_size hI
      · exact Heap.lt_size hO
      · obtain⟨o,e,_⟩:=u1;exact Heap.lt_size e
      · obtain⟨o,e,_⟩:=u2;exact Heap.lt_size e
    have hT:H s.heap.objs.size=none:=I.hok.fresh (Nat.le_refl _)
    have vv:aE [x,y] [ux,uy]:=.cons rux (.cons ruy .nil)
    have I1:au X pins σ (aM H s.heap.objs.size (.tup [x,y])) {s with heap:=s.heap.push {cls:=.type "tuple",data:=.seq #[ux,uy]},toks:=s.toks}:=
      I.laid (t':=s.toks) (fun b u e=>Heap.get?_push_of_some _ e) (Nat.le_refl _) ⟨(by show 2≤sizeLine;decide),[ux,uy],vv,kn.new _ _⟩
    have hf1:∀b∈[z,TI,TO,i1,i2],eV X pins (aM H s.heap.objs.size (.tup [x,y])) b:=fun b hb=>by
      obtain⟨f0,fr⟩:=hf b hb
      exact⟨by rw [aC (Nat.ne_of_lt (lt b hb))];exact f0,fr⟩
    have nzT:s.heap.objs.size≠z:=Nat.ne_of_gt (lt z (by simp))
    have I2:au X pins σ (aM H s.heap.objs.size (.tup [x,y])) {s with heap:=g',toks:=s.toks}:=by
      refine I1.turnedL (t':=s.toks) hf1 fun b o nb e=>?_
      have nb':b≠z∧b≠TI∧b≠TO∧b≠i1∧b≠i2:=by simpa using nb
      refine ge.extBut _ _ nb'.1 ?_
      rcases Heap.get?_push_cases e with ⟨rfl,rfl⟩ | e
      · exact gT
      · exact gk b o nb'.1 nb'.2.2.1 nb'.2.2.2.1 nb'.2.2.2.2 e
    refine⟨.ref s.heap.objs.size,_,I2,rfl,⟨_,x,y,rfl,hT,rfl,fun xs' ys' w1 w2=>?_⟩,⟨gz',ge.extBut _ _ n7 (gk _ _ n7 n8 n9 n10 hI),⟨ux,uy,ge.extBut _ _ n1 gO⟩,g1.at fun o e=>ge.extBut _ _ n2 e,g2.at fun o e=>ge.extBut _ _ n3 e⟩,fun b hb=>(hf1 b hb).1⟩
    rw [I.tuple_inj w1 q1,I.tuple_inj w2 q2]
    exact⟨hx,hy⟩
  done:=by
    intro X hP hw hK hc i pins s σ H E I hf st hg
    subst hP hw hK
    obtain⟨xs,ys,q1,q2,hn⟩:=hg
    obtain⟨hz,hI,⟨a,b,hO⟩,u1,u2⟩:=id st
    obtain⟨its1,rv1,p1,z1⟩:=I.tuple q1
    obtain⟨its2,rv2,p2,z2⟩:=I.tuple q2
    have fz:=hf z (by simp);have fO:=hf TO (by simp);have f1:=hf i1 (by simp);have f2:=hf i2 (by simp)
    have D:mh z TI TO i1 i2 l1 l2:=⟨n1,n2,n3,n4,n5,n6,aV I fz q1,aV I fO q1,aV I f1 q1,aV I f2 q1,aV I fz q2,aV I fO q2,aV I f1 q2,aV I f2 q2⟩
    have e1:=rv1.length
    have e2:=rv2.length
    refine wD (xs:=its1.toArray) (ys:=its2.toArray) (I.ok.hd hc) (jW i1 l1) (jW i2 l2) D hz hI hO u1 u2 p1 p2 ?_ fun g gk=>⟨rfl,I.turnedL (t':=s.toks) hf fun b o nb e=>?_⟩
    · rcases hn with hn | hn
      · exact .inl (by simp;lia)
      · exact .inr (by simp;lia)
    · have nb':b≠z∧b≠TI∧b≠TO∧b≠i1∧b≠i2:=by simpa using nb
      exact gk b o nb'.1 nb'.2.2.1 nb'.2.2.2.1 nb'.2.2.2.2 e
  self:=fun A i s Q E st h=>wpAny_pyIter_zip st.1 h
theorem yE(l1 l2:Addr)(xs ys:Array Value):
    Meets (Builtin.«zip.__new__» ⟨[.type "zip",.ref l1,.ref l2],[]⟩) (fun _ R s=>s.heap.IsTuple l1 xs∧s.heap.IsTuple l2 ys∧
      R (.ok (.ret (.ref (s.heap.objs.size+4)))) {s with heap:=((((s.heap.push {cls:=.type "tuple_iterator",data:=.fields #[.ref l1,.int 0 0]}).push {cls:=.type "tuple_iterator",data:=.fields #[.ref l2,.int 0 0]}).push {cls:=.type "tuple",data:=.seq #[.ref s.heap.objs.size,.ref (s.heap.objs.size+1)]}).push {cls:=.type "tuple",data:=.seq #[.none,.none]}).push {cls:=.type "zip",data:=.fields #[.none,.bool false,.bool false,.ref (s.heap.objs.size+2),.ref (s.heap.objs.size+3)]}}):=
  .of_wp fun prog w A R s h=>by
    obtain⟨hp,g,d,tk,os⟩:=s;obtain⟨t1,t2,h⟩:=h;have sz:=PySem.sub_zip
    have T1:Heap.IsTuple (Shared.heap ⟨hp,g,d,tk,os⟩) l1 xs:=t1
    have T2:Heap.IsTuple (Shared.heap ⟨hp.push {cls:=.type "tuple_iterator",data:=.fields #[.ref l1,.int 0 0]},g,d,tk,os⟩) l2 ys:=Heap.IsTuple.push t2 _
    wp_walk using wpAny_pyIter_tuple T1,wpAny_pyIter_tuple T2
    refine⟨_,rfl,?_⟩
    simp only [Heap.size_push]
    exact h
section
variable{prog:Program}{w:World}{A:Around}{E:Value→Shared→Prop}{s:Shared}
theorem wB{l1 l2:Addr}{xs ys:Array Value}{Q:Value→Shared→Prop}(t1:s.heap.IsTuple l1 xs)(t2:s.heap.IsTuple l2 ys)
    (h:∀g,zo (s.heap.objs.size+4) (s.heap.objs.size+2) (s.heap.objs.size+3) s.heap.objs.size (s.heap.objs.size+1) l1 l2 0 g→(∀c o,s.heap.get? c=some o→g.get? c=some o)→Q (.ref (s.heap.objs.size+4)) {s with heap:=g}):
    wpAny (model prog w) A (call (.type "zip") [.ref l1,.ref l2]) Q E s:=by
  refine callType_new F.called_zip (by decide) (F.typeCall_zip_2 _ _) (F.newCall_zip_2 _ _) (fun obj=>F.args_object_init_3 obj _ _) F.entry_zip_new (yE l1 l2 xs ys) ⟨t1,t2,?_⟩
  have at5:∀(g:Heap) (o:Obj) (a:Addr),o.isFreed=false→a=g.objs.size→(g.push o).get? a=some o:=fun g o a hf e=>by rw [e];exact Heap.get?_push_size _ hf
  have g5:=at5 ((((s.heap.push {cls:=.type "tuple_iterator",data:=.fields #[.ref l1,.int 0 0]}).push {cls:=.type "tuple_iterator",data:=.fields #[.ref l2,.int 0 0]}).push {cls:=.type "tuple",data:=.seq #[.ref s.heap.objs.size,.ref (s.heap.objs.size+1)]}).push {cls:=.type "tuple",data:=.seq #[.none,.none]}) {cls:=.type "zip",data:=.fields #[.none,.bool false,.bool false,.ref (s.heap.objs.size+2),.ref (s.heap.objs.size+3)]} (s.heap.objs.size+4) rfl (by simp only [Heap.size_push])
  have g4:=at5 (((s.heap.push {cls:=.type "tuple_iterator",data:=.fields #[.ref l1,.int 0 0]}).push {cls:=.type "tuple_iterator",data:=.fields #[.ref l2,.int 0 0]}).push {cls:=.type "tuple",data:=.seq #[.ref s.heap.objs.size,.ref (s.heap.objs.size+1)]}) {cls:=.type "tuple",data:=.seq #[.none,.none]} (s.heap.objs.size+3) rfl (by simp only [Heap.size_push])
  have g3:=at5 ((s.heap.push {cls:=.type "tuple_iterator",data:=.fields #[.ref l1,.int 0 0]}).push {cls:=.type "tuple_iterator",data:=.fields #[.ref l2,.int 0 0]}) {cls:=.type "tuple",data:=.seq #[.ref s.heap.objs.size,.ref (s.heap.objs.size+1)]} (s.heap.objs.size+2) rfl (by simp only [Heap.size_push])
  have g2:=at5 (s.heap.push {cls:=.type "tuple_iterator",data:=.fields #[.ref l1,.int 0 0]}) {cls:=.type "tuple_iterator",data:=.fields #[.ref l2,.int 0 0]} (s.heap.objs.size+1) rfl (by simp only [Heap.size_push])
  have g1:=at5 s.heap {cls:=.type "tuple_iterator",data:=.fields #[.ref l1,.int 0 0]} s.heap.objs.size rfl rfl
  have up:∀{g:Heap} {a:Addr} {u:Obj} (o:Obj),g.get? a=some u→(g.push o).get? a=some u:=fun o e=>Heap.get?_push_of_some o e
  refine⟨⟨_,g5,rfl⟩,h _ ⟨g5,up _ (up _ g3),⟨_,_,up _ g4⟩,⟨_,up _ (up _ (up _ (up _ g1))),rfl,rfl⟩,⟨_,up _ (up _ (up _ g2)),rfl,rfl⟩⟩ fun c o x=>up _ (up _ (up _ (up _ (up _ x))))⟩
end
theorem tU:PySem.bootBuiltins "zip"=some (.type "zip"):=by decide+kernel
def DQ(K:PySem.W.Frag)(ta:TA):TI:=fun σ H R=>ta σ H fun vs H1=>∃a b,vs=[.ref a,.ref b]∧(∃xs,cc K H1 a xs)∧(∃ys,cc K H1 b ys)∧R (Eh K a b) H1
theorem AF{X:Cx}{K:PySem.W.Frag}{es:List Expr}{k0:Nat}{tp:Pos}{a b:Expr}{ta:TA}{p pos:Pos}(hK:X.K=K)(hg:Gl X "zip")(hm:X.mg "zip"=none)(ha:PA X [a,b] ta)(hs:starEach [a,b] X.env=[(false,eval a X.env),(false,eval b X.env)]:=by rfl)(hs2:starEach [b] X.env=[(false,eval b X.env)]:=by rfl):
    PI X (.Tuple es k0 tp) (.Call (.Name "zip" p) [a,b] [] pos) (DQ K ta):=by
  intro pins s σ H R I h
  subst hK
  refine Call_ (gw I hg hm tU (PyProof.Rows.callWith_type1 (bL (ha pos pins s σ H _ I h) fun us s1 ⟨vs,H1,I1,r1,q1⟩=>?_) (by rw [hs,hs2]) (by rw [hs2];rfl)))
  obtain⟨a,b,e,⟨xs,qx⟩,⟨ys,qy⟩,q⟩:=q1
  subst e
  cases r1 with
  | cons r rr=>
    cases rr with
    | cons r' rr=>
      cases rr
      cases r
      cases r'
      obtain⟨i1,v1,p1,_⟩:=I1.tuple qx
      obtain⟨i2,v2,p2,_⟩:=I1.tuple qy
      refine wB p1 p2 fun g st hk=>wpAny_pyIter_zip st.1 ?_
      have I2:au X pins σ H1 {s1 with heap:=g,toks:=s1.toks}:=I1.kept (t':=s1.toks) fun b o e=>hk b o e
      refine⟨s1.heap.objs.size+4,[s1.heap.objs.size+4,s1.heap.objs.size+2,s1.heap.objs.size+3,s1.heap.objs.size,s1.heap.objs.size+1],_,_,H1,rfl,I2,wo a b (show((s1.heap.objs.size+3:Nat)≠s1.heap.objs.size+4) by lia) (show((s1.heap.objs.size:Nat)≠s1.heap.objs.size+4) by lia) (show((s1.heap.objs.size+1:Nat)≠s1.heap.objs.size+4) by lia) (show((s1.heap.objs.size+3:Nat)≠s1.heap.objs.size) by lia) (show((s1.heap.objs.size+3:Nat)≠s1.heap.objs.size+1) by lia) (show((s1.heap.objs.size:Nat)≠s1.heap.objs.size+1) by lia) (show((s1.heap.objs.size+2:Nat)≠s1.heap.objs.size+4) by lia) (show((s1.heap.objs.size+2:Nat)≠s1.heap.objs.size+3) by lia) (show((s1.heap.objs.size+2:Nat)≠s1.heap.objs.size) by lia) (show((s1.heap.objs.size+2:Nat)≠s1.heap.objs.size+1) by lia),st,fun c hc=>?_,q⟩
      have le:s1.heap.objs.size≤c:=by
        simp only [List.mem_cons,List.not_mem_nil,or_false] at hc
        rcases hc with rfl | rfl | rfl | rfl | rfl
        · exact Nat.le_add_right _ 4
        · exact Nat.le_add_right _ 2
        · exact Nat.le_add_right _ 3
        · exact Nat.le_refl _
        · exact Nat.le_add_right _ 1
      have f:=I1.fpOk (H':=H1) le (I1.hok.fresh le)
      exact f
end L2
namespace L2
open PySem PySem.Spec PyProof.Rows
def zq(h:Heap)(z TI TO:Addr)(a:Addr)(f:Bool):Prop:=h.get? z=some {cls:=.type "zip",data:=.fields #[rawInt a,.bool f,.bool false,.ref TI,.ref TO]}
section
variable{prog:Program}{w:World}{A:Around}{E:Value→Shared→Prop}{s:Shared}{z TI TO i1 i2 l1 l2:Addr}{k:Nat}{xs ys:Array Value}{a:Addr}{f:Bool}{S1 S2:Nat→Heap→Prop}{R1 R2:Heap→Array Value→Prop}
end
end L2
namespace L2
open PySem PySem.Spec PyProof.Rows
structure ZL (S z TI TO i1 i2 l1 l2:Addr) (xs ys:Array Value) (i:Nat) (h:Heap):Prop where
  pr:IsPair h TI (.ref i1) (.ref i2)
  t1:h.IsTupleIter i1 l1 i
  t2:h.IsTupleIter i2 l2 i
  s1:h.IsTuple l1 xs
  s2:h.IsTuple l2 ys
  ot:∃o,h.get? TO=some o
  zs:(IsZip h z TI TO .none∧∃a b,IsPair h TO a b)∨∃a f oa,zq h z TI TO a f∧h.get? a=some oa∧a≠S∧a≠z∧a≠i1∧a≠i2
structure Eg (S z TO i1 i2:Addr) (xs ys:Array Value) (h:Heap) (acc:Array Value) (i:Nat):Prop where
  sz:acc.size=i
  at_:∀(j:Nat) (v:Value),acc[j]?=some v→∃(p:Addr) (x y:Value),v=.ref p∧xs[j]?=some x∧ys[j]?=some y∧IsPair h p x y∧p≠S∧p≠z∧p≠TO∧p≠i1∧p≠i2
  lo:∀(j:Nat) (p:Addr),acc[j]?=some (.ref p)→S < p
  EU:∀(i j:Nat) (p q:Addr),i < j→acc[i]?=some (.ref p)→acc[j]?=some (.ref q)→p < q
section
variable{prog:Program}{w:World}{A:Around}{R:Result→Shared→Prop}{S z TI TO i1 i2 l1 l2:Addr}{xs ys:Array Value}{n:Nat}
end
end L2
namespace L2
open PySem PySem.Spec PyProof.Rows
section
variable{X:Cx}{pins:List (Addr × Obj)}{σ:L2.St}{H H':Hp}{s:Shared}{h':Heap}
end
end L2
namespace L2
open PySem PySem.Spec PyProof.Rows
section
variable{prog:Program}{w:World}{A:Around}{E:Value→Shared→Prop}{s:Shared}{e it l:Addr}{k:Nat}{xs:Array Value}{S:Nat→Heap→Prop}{R:Heap→Array Value→Prop}
theorem pM(P1:Sc prog w it l S R)(hh:A.handled=none)(hne:l≠it)(xs:Array Value):Draws prog w A it [it,l] xs.size (fun i v=>xs[i]?=some v) (fun i h=>S i h∧R h xs) where
  live:=fun _ _ st=>let ⟨o,ho,_⟩:=P1.live st.1;⟨o,ho⟩
  frame:=fun _ _ _ st hk=>⟨P1.stay st.1 fun o e=>hk it (by simp) o e,P1.row st.2 fun o e=>hk l (by simp) o e⟩
  item:=fun i s Q E hi st hQ=>P1.next st.1 st.2 (x:=xs[i]) (by simp [hi]) fun g h1 h2=>hQ _ g s.toks (by simp [hi]) ⟨h1,P1.row st.2 fun o e=>h2.extBut _ _ hne e⟩ h2
  done:=fun s Q E st hE=>P1.last hh st.1 st.2 (by simp) hE
theorem my{i:Int}{old:Value}{Q:Option Value→Shared→Prop}(P1:Sc prog w it l S R)(hh:A.handled=none)(he:IsEnum s.heap e it i old)(st:S k s.heap)(sq:R s.heap xs)(hx:xs[k]?=none)(q:∀g,Heap.ExtBut it s.heap g→Q none {s with heap:=g}):wpAny (model prog w) A (pyNext (.ref e)) Q E s:=by
  have hT:s.TypeIs (.ref e) "enumerate":=⟨_,he,rfl⟩;unfold pyNext
  refine wpAny_bind (wpAny_attempt (wpAny_callSpecial?_slot (name:=Str.ofString "__next__") hT F.slot_enumerate_next (wpAny_call_entry F.slot_enumerate_next hT F.entry_enumerate_next ?_ (F.args_enumerate_next_1 _))))
  show wpAny _ _ (field (.ref e) 2 >>= _) _ _ _;refine wpAny_bind (wpAny_field he rfl (x:=.ref it) rfl ?_)
  refine wpAny_bind (P1.last hh st sq hx fun g x hk hx'=>?_);obtain⟨o,ho,hc⟩:=hx'
  refine wpAny_bind (wpAny_isInstance (T:="StopIteration") (b:=true) ⟨o,ho,hc⟩ isSubtype_stop ?_);exact wpAny_pure (q _ hk)
theorem ia{i:Int}{old:Value}{Q:Value→Shared→Prop}(he:IsEnum s.heap e it i old)(h:Q (.ref e) s):wpAny (model prog w) A (pyIter (.ref e)) Q E s:=by
  have hT:s.TypeIs (.ref e) "enumerate":=⟨_,he,rfl⟩
  refine wpAny_pyIter_slot hT F.slot_enumerate_iter (wpAny_call_entry F.slot_enumerate_iter hT F.entry_enumerate_iter ?_ (F.args_enumerate_iter_1 _))
  show wpAny _ _ (ret (.ref e)) _ _ s;exact wpAny_pure ⟨_,rfl,"enumerate",_,hT,F.slot_enumerate_next.lookup,h⟩
end
section
variable{X:Cx}{pins:List (Addr × Obj)}{σ:L2.St}{H:Hp}{s:Shared}
theorem ml(I:au X pins σ H s){b l:Addr}{xs:List V}(f:eV X pins H b)(q:dP X.K H l xs):l≠b:=by
  intro z
  subst z
  rcases q with (q | ⟨o,q⟩) | ⟨o,its,n,hk,_⟩
  · rw [f.1] at q;cases q
  · rw [f.1] at q;cases q
  · have hb:X.base.get? l=some o:=I.ok.mod.kin l o hk
    rcases f.2.2.2.1 with z | z
    · exact I.ok.noex l o hb z
    · exact absurd (Nat.lt_of_lt_of_le (Heap.lt_size (I.ok.bs l o hb).1) z) (Nat.lt_irrefl _)
end
def zt(K:PySem.W.Frag)(l:Addr):It:=
  ⟨fun i H=>∃xs x,cc K H l xs∧xs[i]?=some x,fun i H v H'=>∃p x,v=.ref p∧H p=none∧H'=aM H p (.tup [.int i,x])∧∀xs,cc K H l xs→xs[i]?=some x,fun i H=>∃xs,cc K H l xs∧xs.length≤i⟩
def rg(e it l:Addr)(i:Nat)(h:Heap):Prop:=(∃old,IsEnum h e it i old)∧h.IsTupleIter it l i
theorem qQ{P:Program}{w:World}{K:PySem.W.Frag}{es:List Expr}{k0:Nat}{pos:Pos}{e it:Addr}(l:Addr)(ne:e≠it):pX P w K (.Tuple es k0 pos) (zt K l) [e,it] e (rg e it l) where
  mem:=by simp
  obj:=fun i h st b hb=>by
    obtain⟨⟨old,he⟩,u⟩:=st
    simp only [List.mem_cons,List.not_mem_nil,or_false] at hb
    rcases hb with rfl | rfl
    · exact⟨_,he,fun v z=>by cases z⟩
    · obtain⟨o,e,c,d⟩:=u
      exact⟨o,e,fun v z=>by rw [d] at z;cases z⟩
  keep:=fun i h h' st k=>by
    obtain⟨⟨old,he⟩,u⟩:=st
    exact⟨⟨old,k _ (by simp) _ he⟩,u.at fun o e=>k _ (by simp) o e⟩
  item:=by
    intro X hP hw hK hc i pins s σ H E I hf st hg
    subst hP hw hK
    obtain⟨xs,x,q1,hx⟩:=hg
    obtain⟨⟨old,he⟩,u⟩:=id st
    obtain⟨its,rv,p,hz⟩:=I.tuple q1
    obtain⟨ux,hux,rux⟩:=rv.get hx
    have fe:=hf e (by simp);have ft:=hf it (by simp)
    have n1:l≠e:=aV I fe q1
    have n2:l≠it:=aV I ft q1
    have hi:i < its.toArray.size:=by have:=(List.getElem?_eq_some_iff.mp hux).1;simpa using this
    refine wpAny_pyNext_enum_itemD (pM (A:=X.A.in1) (jW it l) (show X.A.in1.handled=none from I.ok.hd hc) n2 its.toArray) he ⟨u,p⟩ hi ne (by simpa using ⟨ne,fun z=>n1 z.symm⟩) fun x' g tk hP ho hs hT hsz hk=>?_
    have ex:x'=ux:=by
      have:its[i]?=some x':=by simpa using hP
      rw [hux] at this;exact(Option.some.inj this).symm
    subst ex
    refine⟨_,rfl,wpAny_letOwnedTupleGo_enum ho fun g' he' ge=>?_⟩
    have lt:∀b∈[e,it],b < s.heap.objs.size:=fun b hb=>by
      simp only [List.mem_cons,List.not_mem_nil,or_false] at hb
      rcases hb with rfl | rfl
      · exact Heap.lt_size he
      · obtain⟨o,e,_⟩:=u;exact Heap.lt_size e
    have hTn:H s.heap.objs.size=none:=I.hok.fresh (Nat.le_refl _)
    have vv:aE [.int i,x] [.int i tk,x']:=.cons ⟨tk,rfl⟩ (.cons rux .nil)
    have I1:au X pins σ (aM H s.heap.objs.size (.tup [.int i,x])) {s with heap:=s.heap.push {cls:=.type "tuple",data:=.seq #[.int i tk,x']},toks:=s.toks}:=
      I.laid (t':=s.toks) (fun b u e=>Heap.get?_push_of_some _ e) (Nat.le_refl _) ⟨(by show 2≤sizeLine;decide),[.int i tk,x'],vv,kn.new _ _⟩
    have hf1:∀b∈[e,it],eV X pins (aM H s.heap.objs.size (.tup [.int i,x])) b:=fun b hb=>by
      obtain⟨f0,fr⟩:=hf b hb
      exact⟨by rw [aC (Nat.ne_of_lt (lt b hb))];exact f0,fr⟩
    have I2:au X pins σ (aM H s.heap.objs.size (.tup [.int i,x])) {s with heap:=g',toks:=tk+1}:=by
      refine I1.turnedL (t':=tk+1) hf1 fun b o nb eb=>?_
      have nb':b≠e∧b≠it:=by simpa using nb
      refine ge.extBut _ _ nb'.1 ?_
      rcases Heap.get?_push_cases eb with ⟨rfl,rfl⟩ | eb
      · exact hT
      · exact hk b o nb'.1 nb'.2 eb
    refine⟨.ref s.heap.objs.size,_,I2,rfl,⟨_,x,rfl,hTn,rfl,fun xs' w1=>by rw [I.tuple_inj w1 q1];exact hx⟩,⟨⟨_,by simpa using he'⟩,hs.1.at fun o e=>ge.extBut _ _ (fun z=>ne z.symm) e⟩,fun b hb=>(hf1 b hb).1⟩
  done:=by
    intro X hP hw hK hc i pins s σ H E I hf st hg
    subst hP hw hK
    obtain⟨xs,q1,hn⟩:=hg
    obtain⟨⟨old,he⟩,u⟩:=id st
    obtain⟨its,rv,p,hz⟩:=I.tuple q1
    have e1:=rv.length
    refine my (xs:=its.toArray) (jW it l) (I.ok.hd hc) he u p (by simp;lia) fun g gk=>⟨rfl,I.turnedL (t':=s.toks) hf fun b o nb eb=>?_⟩
    have nb':b≠e∧b≠it:=by simpa using nb
    exact gk b o nb'.2 eb
  self:=fun A i s Q E st h=>by
    obtain⟨⟨old,he⟩,u⟩:=st
    exact ia he h
def zr(K:PySem.W.Frag)(l:Addr):It:=
  ⟨fun i H=>∃xs x,dP K H l xs∧xs[i]?=some x,fun i H v H'=>∃p x,v=.ref p∧H p=none∧H'=aM H p (.tup [.int i,x])∧∀xs,dP K H l xs→xs[i]?=some x,fun i H=>∃xs,dP K H l xs∧xs.length≤i⟩
def wY(e it l:Addr)(i:Nat)(h:Heap):Prop:=(∃old,IsEnum h e it i old)∧h.IsListIter it l i
theorem qP{P:Program}{w:World}{K:PySem.W.Frag}{es:List Expr}{k0:Nat}{pos:Pos}{e it:Addr}(l:Addr)(ne:e≠it):pX P w K (.Tuple es k0 pos) (zr K l) [e,it] e (wY e it l) where
  mem:=by simp
  obj:=fun i h st b hb=>by
    obtain⟨⟨old,he⟩,u⟩:=st
    simp only [List.mem_cons,List.not_mem_nil,or_false] at hb
    rcases hb with rfl | rfl
    · exact⟨_,he,fun v z=>by cases z⟩
    · obtain⟨o,e,c,d⟩:=u
      exact⟨o,e,fun v z=>by rw [d] at z;cases z⟩
  keep:=fun i h h' st k=>by
    obtain⟨⟨old,he⟩,u⟩:=st
    exact⟨⟨old,k _ (by simp) _ he⟩,u.at fun o e=>k _ (by simp) o e⟩
  item:=by
    intro X hP hw hK hc i pins s σ H E I hf st hg
    subst hP hw hK
    obtain⟨xs,x,q1,hx⟩:=hg
    obtain⟨⟨old,he⟩,u⟩:=id st
    obtain⟨its,rv,p,hz⟩:=I.list q1
    obtain⟨ux,hux,rux⟩:=rv.get hx
    have fe:=hf e (by simp);have ft:=hf it (by simp)
    have n1:l≠e:=ml I fe q1
    have n2:l≠it:=ml I ft q1
    have hi:i < its.toArray.size:=by have:=(List.getElem?_eq_some_iff.mp hux).1;simpa using this
    refine wpAny_pyNext_enum_itemD (pM (A:=X.A.in1) (rT it l) (show X.A.in1.handled=none from I.ok.hd hc) n2 its.toArray) he ⟨u,p.isList⟩ hi ne (by simpa using ⟨ne,fun z=>n1 z.symm⟩) fun x' g tk hP ho hs hT hsz hk=>?_
    have ex:x'=ux:=by
      have:its[i]?=some x':=by simpa using hP
      rw [hux] at this;exact(Option.some.inj this).symm
    subst ex
    refine⟨_,rfl,wpAny_letOwnedTupleGo_enum ho fun g' he' ge=>?_⟩
    have lt:∀b∈[e,it],b < s.heap.objs.size:=fun b hb=>by
      simp only [List.mem_cons,List.not_mem_nil,or_false] at hb
      rcases hb with rfl | rfl
      · exact Heap.lt_size he
      · obtain⟨o,e,_⟩:=u;exact Heap.lt_size e
    have hTn:H s.heap.objs.size=none:=I.hok.fresh (Nat.le_refl _)
    have vv:aE [.int i,x] [.int i tk,x']:=.cons ⟨tk,rfl⟩ (.cons rux .nil)
    have I1:au X pins σ (aM H s.heap.objs.size (.tup [.int i,x])) {s with heap:=s.heap.push {cls:=.type "tuple",data:=.seq #[.int i tk,x']},toks:=s.toks}:=
      I.laid (t':=s.toks) (fun b u e=>Heap.get?_push_of_some _ e) (Nat.le_refl _) ⟨(by show 2≤sizeLine;decide),[.int i tk,x'],vv,kn.new _ _⟩
    have hf1:∀b∈[e,it],eV X pins (aM H s.heap.objs.size (.tup [.int i,x])) b:=fun b hb=>by
      obtain⟨f0,fr⟩:=hf b hb
      exact⟨by rw [aC (Nat.ne_of_lt (lt b hb))];exact f0,fr⟩
    have I2:au X pins σ (aM H s.heap.objs.size (.tup [.int i,x])) {s with heap:=g',toks:=tk+1}:=by
      refine I1.turnedL (t':=tk+1) hf1 fun b o nb eb=>?_
      have nb':b≠e∧b≠it:=by simpa using nb
      refine ge.extBut _ _ nb'.1 ?_
      rcases Heap.get?_push_cases eb with ⟨rfl,rfl⟩ | eb
      · exact hT
      · exact hk b o nb'.1 nb'.2 eb
    refine⟨.ref s.heap.objs.size,_,I2,rfl,⟨_,x,rfl,hTn,rfl,fun xs' w1=>by rw [I.list_inj w1 q1];exact hx⟩,⟨⟨_,by simpa using he'⟩,hs.1.at fun o e=>ge.extBut _ _ (fun z=>ne z.symm) e⟩,fun b hb=>(hf1 b hb).1⟩
  done:=by
    intro X hP hw hK hc i pins s σ H E I hf st hg
    subst hP hw hK
    obtain⟨xs,q1,hn⟩:=hg
    obtain⟨⟨old,he⟩,u⟩:=id st
    obtain⟨its,rv,p,hz⟩:=I.list q1
    have e1:=rv.length
    refine my (xs:=its.toArray) (rT it l) (I.ok.hd hc) he u p.isList (by simp;lia) fun g gk=>⟨rfl,I.turnedL (t':=s.toks) hf fun b o nb eb=>?_⟩
    have nb':b≠e∧b≠it:=by simpa using nb
    exact gk b o nb'.2 eb
  self:=fun A i s Q E st h=>by
    obtain⟨⟨old,he⟩,u⟩:=st
    exact ia he h
end L2
namespace L2
open PySem PySem.Spec PyProof.Rows
theorem rY:∀(us:List Value) (f:Nat→Int),(∀(j:Nat) (v:Value),us[j]?=some v→∃t,v=Value.int (f j) t)→aE ((List.range us.length).map fun j=>V.int (f j)) us
  | [],_,_=>.nil
  | u::us,f,h=>by
    rw [List.length_cons,List.range_succ_eq_map,List.map_cons,List.map_map]
    refine .cons (h 0 u rfl) (rY us (fun j=>f (j+1)) fun j v e=>h (j+1) v (by simpa using e))
def jq(n:Nat):List Int:=(List.range n).map Int.ofNat
theorem pA(n:Nat):(jq n).length=n:=by simp [jq]
section
variable{X:Cx}{a:Expr}{ta:TA}{p p2 pos pos2:Pos}
theorem uh(hg:Gl X "range")(hm:X.mg "range"=none)(ha:PA X [a] ta)(hs:starEach [a] X.env=[(false,eval a X.env)]){pins:List (Addr × Obj)}{s:Shared}{σ:L2.St}{H:Hp}{R:Int→Hp→Prop}(I:au X pins σ H s)(h:ta σ H fun vs H1=>∃j:Int,vs=[.int j]∧R j H1):
    wpAny (model X.prog X.w) X.A (eval (.Call (.Name "range" p) [a] [] pos) X.env) (fun v s1=>∃(r:Addr) (j:Int) (H1:Hp) (t u w:Tok),v=.ref r∧IsRange s1.heap r 0 j 1 t u w∧r < s1.heap.objs.size∧au X pins σ H1 s1∧R j H1) X.xe s:=by
  refine Call_ (gw I hg hm boot_range (PyProof.Rows.callWith_type1 (bL (ha pos pins s σ H _ I h) fun us s1 ⟨vs,H1,I1,r1,q1⟩=>?_) hs rfl))
  obtain⟨j,e,q⟩:=q1
  subst e
  cases r1 with
  | cons r rr=>
    cases rr
    obtain⟨t,rfl⟩:=r
    exact call_range_1 ⟨_,j,H1,_,_,_,rfl,IsRange.new ..,by simp [Heap.size_push],I1.kept fun b o e=>Heap.get?_push_of_some _ e,q⟩
def E1(ta:TA):TE:=fun σ H Q=>ta σ H fun vs H1=>∃j:Int,vs=[.int j]∧(0≤j∧j≤100000∧∀l,H1 l=none→Q (.ref l) (aM H1 l (.lst ((jq j.toNat).map V.int))))
theorem nQ(hc:X.calm=true)(hgl:Gl X "list")(hml:X.mg "list"=none)(hg:Gl X "range")(hm:X.mg "range"=none)(ha:PA X [a] ta)(hs:starEach [a] X.env=[(false,eval a X.env)]:=by rfl)
    (he:starEach [.Call (.Name "range" p) [a] [] pos] X.env=(false,eval (.Call (.Name "range" p) [a] [] pos) X.env)::starEach [] X.env:=by rfl):PE X (.Call (.Name "list" p2) [.Call (.Name "range" p) [a] [] pos] [] pos2) (E1 ta):=by
  intro pins s σ H Q I h
  refine wpAny_Call_Name_kw (gw I hgl hml PyProof.Rows.boot_list ?_ (by decide) (by decide))
  refine PyProof.Rows.callWith_type1 ?_ he rfl
  rw [he]
  refine Calls.spliced_cons (bL (uh hg hm ha hs I h) fun u s1 ⟨r,j,H1,t,u1,w,e,hr,lt,I1,j0,j1,q⟩=>?_)
  subst e
  refine wpAny_pure ?_
  have hsm:Builtin.Range.small 0 j 1=true:=small_one (by decide) (by decide) (by lia) (by lia)
  refine call_list_range (n:=j.toNat) (I1.ok.hd hc) hr hsm (by rw [rangeSize_one];split<;>lia) (Nat.le_trans (show j.toNat≤100000 by lia) (by decide)) fun h' tk acc c hk hD hI=>?_
  have hf:H1 s1.heap.objs.size=none:=I1.hok.fresh (Nat.le_refl _)
  have vv:aE ((jq j.toNat).map V.int) acc.toList:=by
    have z:=rY acc.toList (fun k=>(k:Int)) fun k v e=>by
      obtain⟨t,ht⟩:=hI.2 k v (by simpa using e)
      exact⟨t,by rw [ht];simp⟩
    rw [Array.length_toList,hI.1] at z
    rw [jq,List.map_map]
    exact z
  refine⟨.ref s1.heap.objs.size,_,I1.laid (o:=.lst ((jq j.toNat).map V.int)) hk (Nat.le_refl _) ⟨?_,acc.toList,c,vv,by simpa using hD⟩,rfl,q _ hf⟩
  rw [List.length_map,pA,sizeLine_eq];lia
end
end L2
namespace L2
open PySem PySem.Spec PyProof.Rows
theorem sE:fillsNumberSlot (.type "tuple") "mul"=pure false:=
  PySem.fillsNumberSlot_seq (id:="tuple.__mul__") (r:=some (.builtin "tuple.__rmul__")) F.slot_tuple_mul.lookup (by decide+kernel) F.slot_tuple_rmul.lookup (by decide+kernel)
theorem A6:seqRepeat? (.type "tuple")=pure (some (.builtin "tuple.__mul__")):=by
  unfold seqRepeat?;rw [PySem.seqSlot_of (T:="tuple") (name:="__mul__") (id:="tuple.__mul__") F.slot_tuple_mul.lookup (by decide+kernel),PySem.seqSlot_of (T:="tuple") (name:="__rmul__") (id:="tuple.__rmul__") F.slot_tuple_rmul.lookup (by decide+kernel)];rfl
theorem yf(a:Int)(t:Tok)(l:Addr)(items:Array Value)(n:Nat)(dd:Option Addr)(sl:Array (Option Value)):
    Meets (Builtin.«int.__rmul__» ⟨[.int a t,.ref l],[]⟩) (fun _ R s=>s.heap.get? l=some {cls:=.type "tuple",dict:=dd,data:=.seq items n,slots:=sl}∧R (.ok (.ret Value.notImplemented)) s):=
  .of_wp fun prog w A R s h=>by obtain⟨hp,g,d,tk,os⟩:=s;obtain⟨hl,h⟩:=h;wp_walk;exact⟨_,rfl,h⟩
theorem zZ(l:Addr)(x:Value)(n:Nat)(k:Int)(u:Tok)(dd:Option Addr)(sl:Array (Option Value))(h0:2≤k)(h1:k≤100000):
    Meets (Builtin.«tuple.__mul__» ⟨[.ref l,.int k u],[]⟩) (fun _ R s=>s.heap.get? l=some {cls:=.type "tuple",dict:=dd,data:=.seq #[x] n,slots:=sl}∧
      R (.ok (.ret (.ref s.heap.objs.size))) {s with heap:=s.heap.push {cls:=.type "tuple",data:=.seq (List.replicate k.toNat x).toArray}}):=
  .of_wp fun prog w A R s h=>by
    obtain⟨hp,g,d,tk,os⟩:=s;obtain⟨hl,h⟩:=h
    have f1:=AutoSeq1.idx_int
    have c1:¬(decide (k < -(2 ^ 63)) || decide (k≥2 ^ 63))=true:=by simp;lia
    have c2:¬((#[x]:Array Value).isEmpty || k==1)=true:=by simp;lia
    have c3:¬(decide (k≤0) || (#[x]:Array Value).isEmpty)=true:=by simp;lia
    have c4:¬(((#[x]:Array Value).size:Int)*k > (2 ^ 63 - 1) / 8):=by simp;lia
    have c5:¬Builtin.Tuple.tupleTooMany (((#[x]:Array Value).size:Int)*k)=true:=by
      unfold Builtin.Tuple.tupleTooMany;rw [sizeLine_eq];simp;lia
    wp_walk using wpAny_loadPart' hl
    rw [if_neg c1]
    wp_walk using wpAny_loadPart' hl
    rw [if_neg c2]
    wp_walk using wpAny_loadPart' hl
    rw [if_neg c3]
    wp_walk using wpAny_loadPart' hl
    rw [if_neg c4]
    show wpAny _ _ (if Builtin.Tuple.tupleTooMany (((#[x]:Array Value).size:Int)*k)=true then _ else _) _ _ _
    rw [if_neg c5]
    have f0:∀(m:Nat) (acc:Array Value),List.foldl (fun x1 x2=>x1++x2) acc (List.replicate m #[x])=acc++(List.replicate m x).toArray:=by
      intro m
      induction m with
      | zero=>intro acc;simp
      | succ m ih=>intro acc;rw [List.replicate_succ,List.foldl_cons,ih,List.replicate_succ];apply Array.toList_inj.mp;simp
    have e:List.foldl (fun x1 x2=>x1++x2) #[] (List.replicate k.toNat #[x])=(List.replicate k.toNat x).toArray:=by rw [f0];simp
    show wpAny _ _ (Builtin.Tuple.tupleExact (List.foldl (fun x1 x2=>x1++x2) #[] (List.replicate k.toNat #[x])) >>= fun v=>ret v) _ _ _
    rw [e]
    unfold Builtin.Tuple.tupleExact
    refine wpAny_bind (wpAny_newObj_type ?_ (by show(List.replicate k.toNat x).toArray.size≤sizeLine;rw [List.size_toArray,List.length_replicate,sizeLine_eq];lia))
    exact wpAny_pure ⟨_,rfl,h⟩
theorem xr(l:Addr)(x:Value)(n:Nat)(u:Tok)(dd:Option Addr)(sl:Array (Option Value)):
    Meets (Builtin.«tuple.__mul__» ⟨[.ref l,.int 0 u],[]⟩) (fun _ R s=>s.heap.get? l=some {cls:=.type "tuple",dict:=dd,data:=.seq #[x] n,slots:=sl}∧R (.ok (.ret (.ref s.heap.objs.size))) {s with heap:=s.heap.push {cls:=.type "tuple",data:=.seq #[]}}):=
  .of_wp fun prog w A R s h=>by
    obtain⟨hp,g,d,tk,os⟩:=s;obtain⟨hl,h⟩:=h;have f1:=AutoSeq1.idx_int
    have c2:¬((#[x]:Array Value).isEmpty || (0:Int)==1)=true:=by simp
    wp_walk using wpAny_loadPart' hl
    first | rw [if_neg c2] | skip
    wp_walk using wpAny_loadPart' hl
    exact⟨_,rfl,h⟩
theorem xt(l:Addr)(x:Value)(n:Nat)(u:Tok)(dd:Option Addr)(sl:Array (Option Value)):
    Meets (Builtin.«tuple.__mul__» ⟨[.ref l,.int 1 u],[]⟩) (fun _ R s=>s.heap.get? l=some {cls:=.type "tuple",dict:=dd,data:=.seq #[x] n,slots:=sl}∧R (.ok (.ret (.ref l))) s):=
  .of_wp fun prog w A R s h=>by
    obtain⟨hp,g,d,tk,os⟩:=s;obtain⟨hl,h⟩:=h;have f1:=AutoSeq1.idx_int
    wp_walk using wpAny_loadPart' hl
    exact⟨_,rfl,h⟩
section
variable{X:Cx}
def vM(K:PySem.W.Frag):R2:=fun x y H Q=>∃a k v,x=.ref a∧y=.int k∧cc K H a [v]∧0≤k∧k≤100000∧∀p H',ar H H'→cc K H' p (List.replicate k.toNat v)→Q (.ref p) H'
theorem xN:fm X (binaryOp .Mult) (vM X.K):=by
  intro pins s σ H x y v u Q I rx ry h
  obtain⟨a,k,z,rfl,rfl,ha,k0,k1,q⟩:=h
  cases rx
  obtain⟨t,rfl⟩:=ry
  obtain⟨its,r,p,hz⟩:=I.tuple ha
  obtain⟨uz,rfl,rz⟩:=g_ r
  obtain⟨⟨cls,dd,data,sl⟩,ho,hc,n,hd⟩:=id p
  simp only at hc hd
  subst hc hd
  refine wpAny_binaryOp_repeat_ref (T:="tuple") (U:="int") (by decide) ⟨_,ho,rfl⟩ (fun s'=>PySem.typeIs_int s' k t) sE F.fills_int_mul F.slot_int_rmul A6 F.slot_int_index.lookup (call_meets F.slot_int_rmul (PySem.typeIs_int s k t) F.entry_int_rmul (F.args_int_rmul_2 _ _) (yf k t a #[uz] n dd sl) ⟨ho,rfl,⟨_,ho,rfl⟩,?_⟩)
  have new:∀m:Nat,m=k.toNat→EP X pins σ Q (.ref s.heap.objs.size) {s with heap:=s.heap.push {cls:=.type "tuple",data:=.seq (List.replicate m uz).toArray},toks:=s.toks}:=fun m hm=>by
    have hf:H s.heap.objs.size=none:=I.hok.fresh (Nat.le_refl _)
    have vv:∀j:Nat,aE (List.replicate j z) (List.replicate j uz):=fun j=>by
      induction j with
      | zero=>exact .nil
      | succ j ih=>exact .cons rz ih
    refine⟨.ref s.heap.objs.size,_,I.laid (t':=s.toks) (o:=.tup (List.replicate m z)) (fun b ob q=>Heap.get?_push_of_some _ q) (Nat.le_refl _) ⟨by rw [List.length_replicate,sizeLine_eq];lia,_,vv m,kn.new _ _⟩,rfl,q _ _ (ar.new hf) (cc.of (by rw [ay,hm]))⟩
  rcases(by lia:k=0∨k=1∨2≤k) with e | e | e
  · subst e
    exact call_meets F.slot_tuple_mul ⟨_,ho,rfl⟩ F.entry_tuple_mul (F.args_tuple_mul_2 _ _) (xr a uz n t dd sl) ⟨ho,new 0 rfl⟩
  · subst e
    exact call_meets F.slot_tuple_mul ⟨_,ho,rfl⟩ F.entry_tuple_mul (F.args_tuple_mul_2 _ _) (xt a uz n t dd sl) ⟨ho,⟨.ref a,H,I,rfl,q a H (ar.refl H) ha⟩⟩
  · exact call_meets F.slot_tuple_mul ⟨_,ho,rfl⟩ F.entry_tuple_mul (F.args_tuple_mul_2 _ _) (zZ a uz n k t dd sl e k1) ⟨ho,new _ rfl⟩
end
end L2
namespace L2
open PySem PySem.Spec PyProof.Rows
section
variable{prog:Program}{w:World}{A:Around}{E:Value→Shared→Prop}{s:Shared}
end
section
variable{X:Cx}{a:Expr}{ta:TA}{p p2 p3 pos pos2 pos3:Pos}
end
end L2
namespace L2
open PySem PySem.Spec PyProof.Rows
theorem si(l:Addr)(xs:Array Value):
    Meets (Builtin.«enumerate.__new__» ⟨[.type "enumerate",.ref l],[]⟩) (fun _ R s=>s.heap.IsTuple l xs∧R (.ok (.ret (.ref (s.heap.objs.size+1)))) {s with heap:=(s.heap.push {cls:=.type "tuple_iterator",data:=.fields #[.ref l,.int 0 0]}).push {cls:=.type "enumerate",data:=.fields #[.none,.bool false,.ref s.heap.objs.size,rawInt 0,.none,.none]}}):=
  .of_wp fun prog w A R s h=>by
    obtain⟨hp,g,d,tk,os⟩:=s;obtain⟨ht,h⟩:=h;have a1:=sub_enumerate
    have T1:Heap.IsTuple (Shared.heap ⟨hp,g,d,tk,os⟩) l xs:=ht
    obtain⟨⟨cls,dd,data,sl⟩,ho,hc,n,hd⟩:=id ht
    simp only at hc hd
    subst hc hd
    wp_walk using wpAny_loadPart' ho
    refine wpAny_stack_any fun st=>wpAny_pure ?_
    split
    · rename_i c _ _ _ _ _
      cases (c==Value.type "enumerate")
      · wp_walk using wpAny_loadPart' ho,wpAny_pyIter_tuple T1
        refine⟨_,rfl,?_⟩
        simp only [Heap.size_push]
        exact h
      · wp_walk using wpAny_loadPart' ho,wpAny_pyIter_tuple T1
        refine⟨_,rfl,?_⟩
        simp only [Heap.size_push]
        exact h
    · wp_walk using wpAny_loadPart' ho,wpAny_pyIter_tuple T1
      refine⟨_,rfl,?_⟩
      simp only [Heap.size_push]
      exact h
section
variable{prog:Program}{w:World}{A:Around}{E:Value→Shared→Prop}{s:Shared}
theorem qh{l:Addr}{xs:Array Value}{Q:Value→Shared→Prop}(t1:s.heap.IsTuple l xs)(h:∀g,rg (s.heap.objs.size+1) s.heap.objs.size l 0 g→(∀c o,s.heap.get? c=some o→g.get? c=some o)→Q (.ref (s.heap.objs.size+1)) {s with heap:=g}):wpAny (model prog w) A (call (.type "enumerate") [.ref l]) Q E s:=by
  refine callType_new F.called_enumerate (by decide) (F.typeCall_enumerate_1 _) (F.newCall_enumerate_1 _) (fun obj=>F.args_object_init_2 obj _) F.entry_enumerate_new (si l xs) ⟨t1,?_⟩
  have g2:((s.heap.push {cls:=.type "tuple_iterator",data:=.fields #[.ref l,.int 0 0]}).push {cls:=.type "enumerate",data:=.fields #[.none,.bool false,.ref s.heap.objs.size,rawInt 0,.none,.none]}).get? (s.heap.objs.size+1)=some {cls:=.type "enumerate",data:=.fields #[.none,.bool false,.ref s.heap.objs.size,rawInt 0,.none,.none]}:=by
    have e:s.heap.objs.size+1=(s.heap.push {cls:=.type "tuple_iterator",data:=.fields #[.ref l,.int 0 0]}).objs.size:=by simp only [Heap.size_push]
    rw [e];exact Heap.get?_push_size _ rfl
  exact⟨⟨_,g2,rfl⟩,h _ ⟨⟨.none,g2⟩,⟨_,Heap.get?_push_of_some _ (Heap.get?_push_size _ rfl),rfl,rfl⟩⟩ fun c o x=>Heap.get?_push_of_some _ (Heap.get?_push_of_some _ x)⟩
end
theorem gQ:PySem.bootBuiltins "enumerate"=some (.type "enumerate"):=by decide+kernel
def DP(K:PySem.W.Frag)(ta:TA):TI:=fun σ H R=>ta σ H fun vs H1=>∃a,vs=[.ref a]∧(∃xs,cc K H1 a xs)∧R (zt K a) H1
def DO(K:PySem.W.Frag)(ta:TA):TI:=fun σ H R=>ta σ H fun vs H1=>∃a,vs=[.ref a]∧(∃xs,dP K H1 a xs)∧R (zr K a) H1
section
variable{X:Cx}{K:PySem.W.Frag}{es:List Expr}{k0:Nat}{tp:Pos}{a:Expr}{ta:TA}{p pos:Pos}
theorem vz(hK:X.K=K)(hg:Gl X "enumerate")(hm:X.mg "enumerate"=none)(ha:PA X [a] ta)(hs:starEach [a] X.env=[(false,eval a X.env)]:=by rfl):PI X (.Tuple es k0 tp) (.Call (.Name "enumerate" p) [a] [] pos) (DP K ta):=by
  intro pins s σ H R I h
  subst hK
  refine Call_ (gw I hg hm gQ (PyProof.Rows.callWith_type1 (bL (ha pos pins s σ H _ I h) fun us s1 ⟨vs,H1,I1,r1,q1⟩=>?_) hs rfl))
  obtain⟨a,e,⟨xs,qx⟩,q⟩:=q1
  subst e
  obtain⟨u,rfl,ru⟩:=g_ r1
  cases ru
  obtain⟨i1,v1,p1,_⟩:=I1.tuple qx
  refine qh p1 fun g st hk=>?_
  obtain⟨⟨old,he⟩,hit⟩:=id st
  refine ia he ?_
  have I2:au X pins σ H1 {s1 with heap:=g,toks:=s1.toks}:=I1.kept (t':=s1.toks) fun b o e=>hk b o e
  refine⟨s1.heap.objs.size+1,[s1.heap.objs.size+1,s1.heap.objs.size],_,_,H1,rfl,I2,qQ a (show((s1.heap.objs.size+1:Nat)≠s1.heap.objs.size) by lia),st,fun c hc=>?_,q⟩
  have le:s1.heap.objs.size≤c:=by
    simp only [List.mem_cons,List.not_mem_nil,or_false] at hc
    rcases hc with rfl | rfl
    · exact Nat.le_add_right _ 1
    · exact Nat.le_refl _
  exact I1.fpOk (H':=H1) le (I1.hok.fresh le)
theorem vy(hK:X.K=K)(hg:Gl X "enumerate")(hm:X.mg "enumerate"=none)(ha:PA X [a] ta)(hs:starEach [a] X.env=[(false,eval a X.env)]:=by rfl):PI X (.Tuple es k0 tp) (.Call (.Name "enumerate" p) [a] [] pos) (DO K ta):=by
  intro pins s σ H R I h
  subst hK
  refine Call_ (gw I hg hm gQ (PyProof.Rows.callWith_type1 (bL (ha pos pins s σ H _ I h) fun us s1 ⟨vs,H1,I1,r1,q1⟩=>?_) hs rfl))
  obtain⟨a,e,⟨xs,qx⟩,q⟩:=q1
  subst e
  obtain⟨u,rfl,ru⟩:=g_ r1
  cases ru
  obtain⟨i1,v1,p1,_⟩:=I1.list qx
  refine call_enumerate_list p1.isList fun g he hit hsz hk=>?_
  refine ia he ?_
  have I2:au X pins σ H1 {s1 with heap:=g,toks:=s1.toks}:=I1.kept (t':=s1.toks) fun b o e=>hk b o e
  refine⟨s1.heap.objs.size+1,[s1.heap.objs.size+1,s1.heap.objs.size],_,_,H1,rfl,I2,qP a (show((s1.heap.objs.size+1:Nat)≠s1.heap.objs.size) by lia),⟨⟨_,he⟩,hit⟩,fun c hc=>?_,q⟩
  have le:s1.heap.objs.size≤c:=by
    simp only [List.mem_cons,List.not_mem_nil,or_false] at hc
    rcases hc with rfl | rfl
    · exact Nat.le_add_right _ 1
    · exact Nat.le_refl _
  exact I1.fpOk (H':=H1) le (I1.hok.fresh le)
end
end L2
namespace L2
open PySem PySem.Spec PyProof.Rows
section
variable{prog:Program}{w:World}{A:Around}{E:Value→Shared→Prop}{s:Shared}
end
section
variable{prog:Program}{w:World}{A:Around}{E:Value→Shared→Prop}{s:Shared}
end
section
variable{prog:Program}{w:World}{A:Around}{E:Value→Shared→Prop}{s:Shared}
end
end L2
namespace L2
open PySem PySem.Spec PyProof.Rows
theorem qF{X:Cx}{ix:Nat}{nm:Str}{posn poss:Pos}{elt iter tg:Expr}{ifs:List Expr}{scope:Scope}{pos:Pos}{wi:TI}{g:TG}{tc:TT}{te:TE}(sc0:Scope)(N0:List Str)(cp:List (Nat × Str))(tgN:List Str)
    (hc:X.calm=true)(hsc:X.env.scope=sc0)(hN0:X.N=N0)(hi:PI X tg iter wi)
    (hg:∀C s0 H0 fp,PG (aG X scope cp tgN C s0 H0 fp) tg g)
    (ht:∀C s0 H0 fp,pV (aG X scope cp tgN C s0 H0 fp) ifs tc)
    (he:∀C s0 H0 fp,PE (aG X scope cp tgN C s0 H0 fp) elt te)
    (hk:scope.kind=.function)(hcell:∀y∈scope.names,y.2≠.cell)(hnames:∀y∈scope.names,y.2=.local→scope.names.lookup y.1=some .local)
    (hfr:∀y∈scope.names,y.2=.free→scope.names.lookup y.1=some .free∧sc0.names.lookup y.1=some .cell)
    (hcp:∀p∈cp,N0[p.1]?=some p.2)(hcq:∀p∈cp,sc0.names.lookup p.2=some .cell∧scope.names.lookup p.2=some .free)
    (hNd:X.N.Nodup)(hix:X.N[ix]?=some nm)(hlc:X.env.scope.names.lookup nm=some .local)(hsw:swapsWith (.ListComp elt [⟨tg,iter,ifs,0⟩] scope pos) (some (.Name nm posn)) poss.line X.env=pure true)
    (hs:∀x,foldedSetIterable iter X.env x=pure x:=by intro _;rfl):
    PS X (.Assign [.Name nm posn] (.ListComp elt [⟨tg,iter,ifs,0⟩] scope pos) poss) (yr (l3 cp tgN.length wi g tc te) (rC ix)):=by
  intro pins s σ H D0 I h
  let Q:VK:=fun x H1=>D0.nx (σ.set ix (some x)) H1
  have h:l3 cp tgN.length wi g tc te σ H Q:=h
  have hkind:∀x,X.env.kindOf x=sc0.names.lookup x:=fun x=>by unfold Env.kindOf;rw [hsc]
  have hfree:∀y∈scope.names,y.2=.free→∃c,X.env.cells.lookup y.1=some c:=fun y hy e=>I.ok.has y.1 (.inl (by rw [hkind];exact(hfr y hy e).2))
  rw [exec_Assign_Name_used _ _ _ _ hsw]
  refine wpAny_bind (wpAny_standAt (wpAny_bind ?_))
  unfold evalThenUse
  refine wpAny_bind ?_
  refine wpAny_comprehension_free (use:=some (assign (.Name nm posn) X.env)) rfl hs (gb hfree) hk hnames (wpAny_mono (hi pins s σ H _ I h.go) (fun xv s₁ h₁=>wpAny_mono h₁ (fun itv s₂ h₂=>?_) fun _ _ e=>e) fun _ _ e=>e)
  obtain⟨it,fp,tn,J,H2,rfl,I2,T,st2,f2,hq⟩:=h₂
  refine wpAny_newObj_type ?_
  have hlF:H2 s₂.heap.objs.size=none:=I2.hok.fresh (Nat.le_refl _)
  have I3:au X pins σ (aM H2 s₂.heap.objs.size (.lst [])) {s₂ with heap:=s₂.heap.push {cls:=.type "list",data:=.seq ([]:List Value).toArray}}:=I2.lnew (t':=s₂.toks) .nil (Nat.zero_le _)
  obtain⟨W,⟨m0,w0⟩,turn⟩:=hq _ hlF
  have f3:∀b∈fp,eV X pins (aM H2 s₂.heap.objs.size (.lst [])) b:=fun b hb=>by
    obtain⟨f0,fr⟩:=f2 b hb
    obtain⟨o,ho,_⟩:=T.obj _ _ st2 b hb
    exact⟨by rw [aC (Nat.ne_of_lt (Heap.lt_size ho))];exact f0,fr⟩
  have st3:tn 0 (s₂.heap.push {cls:=.type "list",data:=.seq ([]:List Value).toArray}):=T.keep _ _ _ st2 fun b _ o e=>Heap.get?_push_of_some _ e
  generalize hD:s₂.heap.objs.size=D at*
  generalize hs3:({s₂ with heap:=s₂.heap.push {cls:=.type "list",data:=.seq ([]:List Value).toArray}}:Shared)=s₃ at*
  have hst3:tn 0 s₃.heap:=by rw [←hs3];exact st3
  refine wpAny_newFunctionEnv hcell (by intro y hy;simp at hy) (fun h₁ hns₁ hsb₁=>?_) hk
  generalize hC:s₃.heap.objs.size=C at*
  have old:∀b o,s₃.heap.get? b=some o→h₁.get? b=some o:=fun b o e=>hsb₁.extBut b o (by rw [←hC];exact Nat.ne_of_lt (Heap.lt_size e)) (Heap.get?_push_of_some _ e)
  have nC:∀b o,s₃.heap.get? b=some o→b≠C:=fun b o e=>by rw [←hC];exact Nat.ne_of_lt (Heap.lt_size e)
  have hHC:(aM H2 D (.lst [])) C=none:=I3.hok.fresh (by rw [hC];exact Nat.le_refl _)
  have clS:∀x c,(bM X.env scope.names []).lookup x=some c→X.env.cells.lookup x=some c:=fun x c e=>eK _ _ x c hfree (fun _ _ z=>by simp at z) e
  have clH:∀x,(∃y∈scope.names,y.1=x∧y.2=.free)→∃c,(bM X.env scope.names []).lookup x=some c:=fun x e=>gR _ _ x (.inl e)
  have ok':(aG X scope cp tgN C s₃ (aM H2 D (.lst [])) fp).Ok:=by
    refine⟨I.ok.mod,hk,I.ok.glob,I.ok.blt,by rw [←hC];exact Nat.le_refl _,fun x y c e1 e2=>I.ok.inj x y c (clS _ _ e1) (clS _ _ e2),fun x e=>clH x (dh hcell e),fun x c e1 e2=>?_,I.ok.hd,I.ok.frames,.inl rfl,fun b hb=>?_,fun b o e=>I3.bs b o e,?_,fun b o e hb=>?_,fun b hb z=>?_,I3.stack,fun b hb=>I3.stkFree b hb⟩
    · exfalso
      have e1':scope.names.lookup x=some .local:=by simpa [aG] using e1
      have e2':=clS x c e2
      obtain⟨c',hc'⟩:∃y∈scope.names,y.1=x∧y.2=.free:=by
        by_cases q:∃y∈scope.names,y.1=x∧y.2=.free
        · exact q
        · exfalso
          have:∀(names:List (Str × NameKind)) (cs:List (Str × Addr)),(¬∃y∈names,y.1=x∧y.2=.free)→cs.lookup x=none→(bM X.env names cs).lookup x=none:=by
            intro names
            induction names with
            | nil=>intro cs _ h;exact h
            | cons y r ih=>
              intro cs hn hcs
              obtain⟨n,k⟩:=y
              refine ih _ (fun⟨y,hy,z⟩=>hn ⟨y,List.mem_cons_of_mem _ hy,z⟩) ?_
              by_cases hk:(k==NameKind.free)=true
              · rw [if_pos hk,List.lookup_cons]
                cases hx:x==n with
                | true=>exact absurd ⟨(n,k),List.mem_cons_self,(by simpa using hx:x=n).symm,by simpa using hk⟩ hn
                | false=>exact hcs
              · rw [if_neg hk];exact hcs
          have z:=this scope.names [] q rfl
          have e2'':(bM X.env scope.names []).lookup x=some c:=e2
          rw [z] at e2'';cases e2''
      have z:=(hfr c' hc'.1 hc'.2.2).1
      rw [hc'.2.1,e1'] at z;cases z
    · obtain⟨f0,f1,f4,f5,f6,f7⟩:=f3 b hb
      obtain⟨o,ho,_⟩:=T.obj _ _ hst3 b hb
      exact⟨nC b o ho,fun x c e=>f6 x c (clS x c e)⟩
    · exact Nat.le_trans I.ok.bsz I3.sz
    · obtain⟨f0,f1,f4,f5,f6,f7⟩:=f3 b hb
      rcases f5 with z | z
      · exact I.ok.noex b o e z
      · have:=(I.ok.bs b o e).1
        exact absurd (Nat.lt_of_lt_of_le (Heap.lt_size this) z) (Nat.lt_irrefl _)
    · obtain⟨f0,f1,f4,f5,f6,f7⟩:=f3 b hb
      rcases List.mem_cons.mp (I3.stkSub b z) with z | z
      · exact f1 z
      · exact f4 z
  have I4:au (aG X scope cp tgN C s₃ (aM H2 D (.lst [])) fp) [] (dq cp tgN.length σ) (aM H2 D (.lst [])) {s₃ with heap:=h₁,toks:=s₃.toks+([]:List (Str × Value)).length}:=by
    refine⟨ok',rfl,I3.bare,Un.kept old,⟨_,hns₁,fun i x v e1 e2 e3=>?_⟩,fun x c e=>?_,hHC,fun x c e=>I3.freeC x c (clS x c e),fun p hp=>by simp [aG] at hp,I3.hok.kept old,by simp [dq,aG]⟩
    · have hlt:i < cp.length:=by
        by_cases q:i < cp.length
        · exact q
        · exfalso
          unfold dq at e2
          rw [List.getElem?_append_right (by simp;lia)] at e2
          rw [List.getElem?_replicate] at e2
          split at e2<;>cases e2
      have e1':(cp.map (·.2))[i]?=some x:=by
        have e1'':(cp.map (·.2)++tgN)[i]?=some x:=e1
        rwa [List.getElem?_append_left (by simp;exact hlt)] at e1''
      have e2':(cp.map (fun p=>(σ[p.1]?).join))[i]?=some (some v):=by
        unfold dq at e2
        rwa [List.getElem?_append_left (by simp;exact hlt)] at e2
      rw [List.getElem?_map,List.getElem?_eq_getElem hlt] at e1' e2'
      have ex:(cp[i]).2=x:=by simpa using e1'
      have ev:(σ[(cp[i]).1]?).join=some v:=by simpa using e2'
      have ev':σ[(cp[i]).1]?=some (some v):=by
        cases q:σ[(cp[i]).1]? with
        | none=>rw [q] at ev;cases ev
        | some z=>rw [q] at ev;simp only [Option.join_some] at ev;rw [ev]
      have hN:=hcp cp[i] (List.getElem_mem hlt)
      rw [←hN0] at hN
      obtain⟨hcl,hcf⟩:=hcq cp[i] (List.getElem_mem hlt)
      rw [ex] at hN hcl hcf
      obtain⟨m,hn,hl⟩:=I3.loc
      obtain⟨u,r,l⟩:=hl _ x v hN ev' (.inr (.inl (by rw [hsc];exact hcl)))
      refine⟨u,r,.inr ?_⟩
      rcases l with ⟨k1,_⟩ | ⟨k1,c,hcc,o,ho,hd⟩
      · rw [hkind,hcl] at k1;cases k1
      · have e3':(relabel scope X.env).names.lookup x=some .local∨(relabel scope X.env).names.lookup x=some .cell∨(relabel scope X.env).names.lookup x=some .free:=e3
        have nl:(relabel scope X.env).names.lookup x=some .cell∨(relabel scope X.env).names.lookup x=some .free:=by
          rcases e3' with z | z | z
          · exact absurd z (bU hcf)
          · exact .inl z
          · exact .inr z
        obtain⟨c',hc'⟩:=clH x (dh hcell nl)
        have:=clS x c' hc'
        rw [hcc] at this;cases this
        exact⟨nl,c,hc',o,old c o ho,hd⟩
    · obtain⟨v,o,ho,hd⟩:=I3.cell x c (clS x c e)
      exact⟨v,o,old c o ho,hd⟩
  have hst4:tn 0 h₁:=T.keep _ _ _ hst3 fun b _ o e=>old b o e
  have loop:codeAny (model X.prog X.w) X.A (.compLoop (.ListComp elt [⟨tg,iter,ifs,0⟩] scope pos) 0 (.ref it) (.ref D) (compEnvC scope (bM X.env scope.names []) C X.env))
      (compPost (model X.prog X.w) X.A X.xe (some (assign (.Name nm posn) X.env)) (fun _ s'=>wpAny (model X.prog X.w) X.A (pure ()) (fun _ s''=>wpAny (model X.prog X.w) X.A (pure Flow.next) (SP X pins D0) X.xe s'') X.xe s') (.ref D) C) {s₃ with heap:=h₁,toks:=s₃.toks+([]:List (Str × Value)).length}:=by
    refine eB (fun n s'=>∃i σ' H',au (aG X scope cp tgN C s₃ (aM H2 D (.lst [])) fp) [] σ' H' s'∧tn i s'.heap∧(∀b∈fp,H' b=none)∧W i n σ' H') ?_ (n0:=m0) ⟨0,_,_,I4,hst4,fun b hb=>(f3 b hb).1,w0⟩
    rintro n s5 ⟨i,σ5,H5,I5,st5,fr5,w5⟩
    have stat:∀{H':Hp},(∀b∈fp,H' b=none)→∀b∈fp,eV (aG X scope cp tgN C s₃ (aM H2 D (.lst [])) fp) [] H' b:=fun hn b hb=>
      ⟨hn b hb,(ok'.exf b hb).1,ok'.exfs b hb,.inl hb,(ok'.exf b hb).2,fun p hp=>by simp [aG] at hp⟩
    rcases turn i n σ5 H5 w5 with ⟨stop,qn⟩ | ⟨go,N,hN,step⟩
    · refine bL (T.done (aG X scope cp tgN C s₃ (aM H2 D (.lst [])) fp) rfl rfl rfl hc i [] s5 σ5 H5 (fun _ _=>False) I5 (stat fr5) st5 stop) fun r s6 ⟨hr,I6⟩=>?_
      subst hr
      refine⟨fun _=>?_,fun v z=>by cases z⟩
      obtain⟨m,hn,_⟩:=I6.loc
      have I7:au X pins σ H5 s6:=by
        have key:∀h':Heap,Heap.SameBut C s6.heap h'→au X pins σ H5 {s6 with heap:=h'}:=fun h' sb=>by
          have ub:=I6.base
          have kp:∀b u,b≠C→s6.heap.get? b=some u→h'.get? b=some u:=fun b u ne e=>sb.extBut b u ne e
          have nit:∀b u,H5 b=some u→b≠C:=fun b u e z=>by
            have:=I6.free
            rw [z] at e
            rw [show H5 C=none from this] at e;cases e
          refine I3.call' (s':={s6 with heap:=h'}) (ch:=fp) I6.os ⟨fun b o e n hb hx=>kp b o (nC b o e) (ub.keep b o e n hb hx),fun b o e n hb hx=>?_,ub.free,fun b o e hx=>?_,ub.tups,ub.frzs,ub.tbls⟩ (fun b u e=>?_) I6.bare (fun b hb=>?_)
          · obtain⟨sl,q⟩:=ub.slot b o e n hb hx
            exact⟨sl,kp b _ (nC b o e) q⟩
          · obtain⟨o',q⟩:=ub.there b o e hx
            exact⟨o',kp b _ (nC b o e) q⟩
          · refine(I6.hok b u e).stay (fun c v hc q=>kp c v ?_ q) (fun _ q=>q) fun _ _ q=>q
            rcases hc with z | z
            · rw [z];exact nit b u e
            · exact nit c _ z
          · obtain⟨f0,f1,f4,f5,f6,f7⟩:=f3 b hb
            exact⟨f5,f1,f6,f7⟩
        exact key s6.heap ⟨rfl,fun _ _=>rfl⟩
      have fC:eV X pins H5 C:=I3.fpOk (by rw [hC];exact Nat.le_refl _) I6.free
      show wpAny (model X.prog X.w) X.A (assign (.Name nm posn) X.env (.ref D)) _ X.xe s6
      refine wpAny_assign_Name (jX (v:=.ref D) I7 hNd hix (Or.inl hlc) rfl (fun s' I' hsb=>?_) (Or.inr hlc))
      obtain⟨a,sb,ha⟩:=hsb
      have nCa:C≠a:=by
        rcases ha with z | z
        · rw [z];exact fC.2.1
        · exact fun e=>fC.2.2.2.2.1 _ _ z e.symm
      obtain⟨oN,esN,epN,hoN,rN⟩:=hn
      refine⟨m,⟨oN,esN,epN,(sb.2 C nCa).trans hoN,rN⟩,fun h' sb'=>wpAny_pure (wpAny_pure ?_)⟩
      have I8:au X pins (σ.set ix (some (.ref D))) H5 {s' with heap:=h',toks:=s'.toks}:=I'.turnedL (t':=s'.toks) (fp:=[C]) (fun b hb=>by rw [List.mem_singleton.mp hb];exact fC) fun b o nb e=>sb'.extBut b o (by simpa using nb) e
      exact⟨_,H5,I8,qn⟩
    · refine bL (T.item (aG X scope cp tgN C s₃ (aM H2 D (.lst [])) fp) rfl rfl rfl hc i [] s5 σ5 H5 (fun _ _=>False) I5 (stat fr5) st5 go) fun r s6 ⟨u,hr,h6⟩=>?_
      subst hr
      refine⟨fun z=>(by cases z),fun v z=>?_⟩
      cases z
      refine bL h6 fun _ s7 ⟨x,H7,I7,r7,y7,st7,fr7⟩=>?_
      have I7':=I7.pinned (stat fr7) (T.obj _ _ st7)
      have again:∀{σ8:L2.St} {H8:Hp} {s8:Shared},au (aG X scope cp tgN C s₃ (aM H2 D (.lst [])) fp) ([]++hG fp s7.heap) σ8 H8 s8→N σ8 H8→∃m,m < n∧∃i σ' H',au (aG X scope cp tgN C s₃ (aM H2 D (.lst [])) fp) [] σ' H' s8∧tn i s8.heap∧(∀b∈fp,H' b=none)∧W i m σ' H':=fun{σ8 H8 s8} I8 n8=>by
        obtain⟨m',hm,w8⟩:=hN σ8 H8 n8
        refine⟨m',hm,i+1,σ8,H8,I8.unpinned,T.keep _ _ _ st7 fun b hb o e=>(I8.pin (b,o) (List.mem_append_right _ (List.mem_append_right _ (bG hb e)))).1,fun b hb=>?_,w8⟩
        obtain⟨o,e,d⟩:=T.obj _ _ st7 b hb
        exact(I8.pin (b,o) (List.mem_append_right _ (List.mem_append_right _ (bG hb e)))).2.1
      refine bL (hg C s₃ (aM H2 D (.lst [])) fp _ s7 σ5 H7 x u _ I7' r7 (step x H7 y7)) fun _ s8 ⟨σ8,H8,I8,q8⟩=>?_
      refine bL (ht C s₃ (aM H2 D (.lst [])) fp _ s8 σ8 H8 _ I8 q8) fun ok s9 ⟨H9,I9,q9⟩=>?_
      cases ok with
      | false=>
        rw [if_neg Bool.false_ne_true] at q9 ⊢
        exact again I9 q9
      | true=>
        rw [if_pos rfl] at q9 ⊢
        refine bL (he C s₃ (aM H2 D (.lst [])) fp _ s9 σ8 H9 _ I9 q9) fun v s10 ⟨xv,H10,I10,r10,ys,hl,hz,n10⟩=>?_
        refine bL (fN _ s10 σ8 H10 (.ref D) [xv] (.ref D) [v] (fun _ H=>N σ8 H) I10 rfl (.cons r10 .nil) ⟨D,ys,xv,rfl,rfl,hl,hz,n10⟩) fun _ s11 ⟨_,H11,I11,_,q11⟩=>?_
        exact again I11 q11
  exact codeAny_compStart_list loop (T.self X.A 0 _ _ _ hst4 loop)
end L2
namespace L2
open PySem PySem.Spec PyProof.Rows
mutual
def DA(K:PySem.W.Frag)(F:Hp):PyData→V→Prop
  | .none,v=>v=.non
  | .bool b,v=>v=.bl b
  | .int i,v=>v=.int i
  | .str x,v=>v=.str x
  | .tuple ds,v=>∃a xs,v=.ref a∧cc K F a xs∧az K F ds xs
  | .list ds,v=>∃a xs,v=.ref a∧dP K F a xs∧az K F ds xs
  | .dict kvs,v=>∃(a:Addr) (m:List (Int × Int)),v=.ref a∧F a=some (.dK (m.map fun p=>(Sum.inl p.1,V.int p.2)))∧kvs=m.map fun p=>(PyData.int p.1,PyData.int p.2)
def az(K:PySem.W.Frag)(F:Hp):List PyData→List V→Prop
  | [],xs=>xs=[]
  | d::ds,xs=>∃x r,xs=x::r∧DA K F d x∧az K F ds r
end
mutual
theorem DA.mono{K:PySem.W.Frag}{F F':Hp}(h:ar F F'):∀{d:PyData} {v:V},DA K F d v→DA K F' d v
  | .none,_,q=>by simp only [DA] at q ⊢;exact q
  | .bool b,_,q=>by simp only [DA] at q ⊢;exact q
  | .int i,_,q=>by simp only [DA] at q ⊢;exact q
  | .str x,_,q=>by simp only [DA] at q ⊢;exact q
  | .tuple ds,_,q=>by
    simp only [DA] at q ⊢
    obtain⟨a,xs,e,s,r⟩:=q
    exact⟨a,xs,e,h.tup s,az.mono h r⟩
  | .list ds,_,q=>by
    simp only [DA] at q ⊢
    obtain⟨a,xs,e,s,r⟩:=q
    exact⟨a,xs,e,h.seq s,az.mono h r⟩
  | .dict _,_,q=>by
    simp only [DA] at q ⊢
    obtain⟨a,m,e,s,k⟩:=q
    exact⟨a,m,e,h _ _ s,k⟩
theorem az.mono{K:PySem.W.Frag}{F F':Hp}(h:ar F F'):∀{ds:List PyData} {xs:List V},az K F ds xs→az K F' ds xs
  | [],_,q=>by simp only [az] at q ⊢;exact q
  | d::ds,_,q=>by
    simp only [az] at q ⊢
    obtain⟨x,r,e,a,b⟩:=q
    exact⟨x,r,e,DA.mono h a,az.mono h b⟩
end
section
variable{K:PySem.W.Frag}{F:Hp}
theorem az.len:∀{ds:List PyData} {xs:List V},az K F ds xs→ds.length=xs.length
  | [],_,q=>by simp only [az] at q;subst q;rfl
  | d::ds,_,q=>by
    simp only [az] at q
    obtain⟨x,r,e,a,b⟩:=q
    subst e
    simp [az.len b]
theorem az.get:∀{ds:List PyData} {xs:List V} {i:Nat} {d:PyData},az K F ds xs→ds[i]?=some d→∃v,xs[i]?=some v∧DA K F d v
  | [],_,_,_,_,h=>by simp at h
  | d::ds,_,i,d',q,h=>by
    simp only [az] at q
    obtain⟨x,r,e,a,b⟩:=q
    subst e
    cases i with
    | zero=>simp at h;subst h;exact⟨x,rfl,a⟩
    | succ i=>
      obtain⟨v,h1,h2⟩:=az.get (i:=i) b (by simpa using h)
      exact⟨v,by simpa using h1,h2⟩
theorem az.append:∀{ds es:List PyData} {xs ys:List V},az K F ds xs→az K F es ys→az K F (ds++es) (xs++ys)
  | [],_,_,_,q,s=>by simp only [az] at q;subst q;simpa using s
  | d::ds,es,_,ys,q,s=>by
    simp only [az] at q
    obtain⟨x,r,e,a,b⟩:=q
    subst e
    simp only [List.cons_append,az]
    exact⟨x,_,rfl,a,az.append b s⟩
theorem az.one{d:PyData}{v:V}(h:DA K F d v):az K F [d] [v]:=by simp only [az];exact⟨_,_,rfl,h,rfl⟩
theorem az.nil:az K F [] []:=by simp only [az]
theorem az.cons{d:PyData}{v:V}{ds:List PyData}{vs:List V}(h:DA K F d v)(r:az K F ds vs):az K F (d::ds) (v::vs):=by simp only [az];exact⟨_,_,rfl,h,r⟩
theorem az.drop:∀{ds:List PyData} {xs:List V} (n:Nat),az K F ds xs→az K F (ds.drop n) (xs.drop n)
  | _,_,0,q=>q
  | [],_,n+1,q=>by simp only [az] at q;subst q;exact az.nil
  | d::ds,_,n+1,q=>by
    simp only [az] at q
    obtain⟨x,r,e,a,b⟩:=q
    subst e
    simpa using az.drop n b
theorem az.take:∀{ds:List PyData} {xs:List V} (n:Nat),az K F ds xs→az K F (ds.take n) (xs.take n)
  | _,_,0,q=>by simpa using az.nil
  | [],_,n+1,q=>by simp only [az] at q;subst q;exact az.nil
  | d::ds,_,n+1,q=>by
    simp only [az] at q
    obtain⟨x,r,e,a,b⟩:=q
    subst e
    simpa using az.cons a (az.take n b)
theorem az.erase:∀{ds:List PyData} {xs:List V} (n:Nat),az K F ds xs→az K F (ds.eraseIdx n) (xs.eraseIdx n)
  | [],_,_,q=>by simp only [az] at q;subst q;exact az.nil
  | e::ds,_,n,q=>by
    simp only [az] at q
    obtain⟨x,r,e,a,b⟩:=q
    subst e
    cases n with
    | zero=>exact b
    | succ n=>exact az.cons a (az.erase n b)
theorem az.ints:∀{ns:List Int} {xs:List V},az K F (ns.map .int) xs↔ xs=ns.map V.int
  | [],xs=>by simp [az]
  | n::ns,xs=>by
    simp only [List.map_cons,az,DA]
    constructor
    · rintro⟨x,r,e,rfl,q⟩;rw [e,az.ints.mp q]
    · rintro rfl;exact⟨_,_,rfl,rfl,az.ints.mpr rfl⟩
theorem az.bools:∀{ns:List Bool} {xs:List V},az K F (ns.map .bool) xs↔ xs=ns.map V.bl
  | [],xs=>by simp [az]
  | n::ns,xs=>by
    simp only [List.map_cons,az,DA]
    constructor
    · rintro⟨x,r,e,rfl,q⟩;rw [e,az.bools.mp q]
    · rintro rfl;exact⟨_,_,rfl,rfl,az.bools.mpr rfl⟩
theorem ck{i:Int}{v:V}:DA K F (.int i) v↔ v=.int i:=by simp only [DA]
theorem cM{b:Bool}{v:V}:DA K F (.bool b) v↔ v=.bl b:=by simp only [DA]
theorem h8{v:V}:DA K F .none v↔ v=.non:=by simp only [DA]
theorem qe{x:Str}{v:V}:DA K F (.str x) v↔ v=.str x:=by simp only [DA]
theorem bX{ds:List PyData}{v:V}:DA K F (.tuple ds) v↔ ∃a xs,v=.ref a∧cc K F a xs∧az K F ds xs:=by simp only [DA]
theorem dD{ds:List PyData}{v:V}:DA K F (.list ds) v↔ ∃a xs,v=.ref a∧dP K F a xs∧az K F ds xs:=by simp only [DA]
end
inductive Sv where
  | d (x:PyData)
  | l (xs:List PyData)
  /-- a list of lists that nobody else holds -/
  | n (xss:List (List PyData))
abbrev En:=List (Option Sv)
inductive Rv where
  | d (x:PyData)
  | l (xs:List PyData)
  | s (i:Nat)
def Fp(σ:L2.St)(e:En)(H:Hp)(i:Nat)(a:Addr):Prop:=(∃xs:List PyData,e[i]?=some (some (Sv.l xs))∧σ[i]?=some (some (.ref a)))∨
  ∃(xss:List (List PyData)) (l:Addr) (bs:List Addr),e[i]?=some (some (Sv.n xss))∧σ[i]?=some (some (.ref l))∧H l=some (.lst (bs.map V.ref))∧(a=l∨a∈bs)
def dy(σ:L2.St)(e:En)(H:Hp)(a:Addr):Prop:=∃i,Fp σ e H i a
structure aW (K:PySem.W.Frag) (F H:Hp) (σ:L2.St) (e:En):Prop where
  sm:ar F H
  len:σ.length=e.length
  dat:∀(i:Nat) (x:PyData),e[i]?=some (some (.d x))→∃v,σ[i]?=some (some v)∧DA K F x v
  own:∀(i:Nat) (xs:List PyData),e[i]?=some (some (.l xs))→∃l vs,σ[i]?=some (some (.ref l))∧F l=none∧H l=some (.lst vs)∧az K F xs vs
  nst:∀(i:Nat) (xss:List (List PyData)),e[i]?=some (some (.n xss))→∃(l:Addr) (bs:List Addr),σ[i]?=some (some (.ref l))∧F l=none∧H l=some (.lst (bs.map V.ref))∧bs.length=xss.length∧bs.Nodup∧l∉bs∧
    ∀(k:Nat) (b:Addr) (ys:List PyData),bs[k]?=some b→xss[k]?=some ys→F b=none∧∃us,H b=some (.lst us)∧az K F ys us
  fp:∀(i j:Nat) (a:Addr),Fp σ e H i a→Fp σ e H j a→i=j
theorem aW.inj{K:PySem.W.Frag}{F H:Hp}{σ:L2.St}{e:En}(R:aW K F H σ e)(i j:Nat)(xs ys:List PyData)(l:Addr)(h1:e[i]?=some (some (.l xs)))(h2:e[j]?=some (some (.l ys)))(h3:σ[i]?=some (some (.ref l)))(h4:σ[j]?=some (some (.ref l))):i=j:=R.fp i j l (.inl ⟨xs,h1,h3⟩) (.inl ⟨ys,h2,h4⟩)
theorem aW.fpAt{K:PySem.W.Frag}{F H:Hp}{σ:L2.St}{e:En}(R:aW K F H σ e){i:Nat}{a:Addr}(h:Fp σ e H i a):F a=none∧∃vs,H a=some (.lst vs):=by
  rcases h with ⟨xs,h1,h2⟩ | ⟨xss,l,bs,h1,h2,h3,h4⟩
  · obtain⟨l,vs,g1,g2,g3,_⟩:=R.own i xs h1
    rw [h2] at g1;cases g1
    exact⟨g2,vs,g3⟩
  · obtain⟨l',bs',g1,g2,g3,g4,g5,g6,g7⟩:=R.nst i xss h1
    rw [h2] at g1;cases g1
    rw [h3] at g3
    have e1:bs=bs':=by
      have:=HO.lst.inj (Option.some.inj g3)
      exact List.map_inj_right (fun _ _ z=>V.ref.inj z) |>.mp this
    subst e1
    rcases h4 with rfl | h4
    · exact⟨g2,_,h3⟩
    · obtain⟨k,hk⟩:=List.getElem?_of_mem h4
      have hk2:k < xss.length:=by rw [←g4];exact(List.getElem?_eq_some_iff.mp hk).1
      obtain⟨c1,us,c2,_⟩:=g7 k a xss[k] hk (List.getElem?_eq_getElem hk2)
      exact⟨c1,us,c2⟩
structure dO (σ:L2.St) (F H:Hp) (e:En) (F' H':Hp) (e':En):Prop where
  sf:ar F F'
  dom:∀a,H' a=none→H a=none
  fr:∀a vs,F a=none→H a=some (.lst vs)→¬dy σ e H a→F' a=none
  lst:∀a vs,H a=some (.lst vs)→∃vs',H' a=some (.lst vs')
  tmp:∀a o,H a=some o→¬dy σ e H a→H' a=some o
  shp:∀i:Nat,(∃xs,e'[i]?=some (some (.l xs)))↔ (∃xs,e[i]?=some (some (.l xs)))
  ow:∀a,dy σ e' H' a→dy σ e H a∨H a=none
theorem dO.refl(σ:L2.St)(F H:Hp)(e:En):dO σ F H e F H e:=⟨ar.refl _,fun _ h=>h,fun _ _ h _ _=>h,fun _ vs h=>⟨vs,h⟩,fun _ _ h _=>h,fun _=>Iff.rfl,fun _ h=>.inl h⟩
theorem dO.trans{σ:L2.St}{F H F1 H1 F2 H2:Hp}{e e1 e2:En}(x:dO σ F H e F1 H1 e1)(y:dO σ F1 H1 e1 F2 H2 e2):dO σ F H e F2 H2 e2:=
  ⟨x.sf.trans y.sf,fun a h=>x.dom a (y.dom a h),fun a vs h n no=>let ⟨vs',q⟩:=x.lst a vs n;y.fr a vs' (x.fr a vs h n no) q (fun z=>(x.ow a z).elim no fun z=>by rw [n] at z;cases z),fun a vs h=>let ⟨vs',q⟩:=x.lst a vs h;y.lst a vs' q,
    fun a o h n=>y.tmp a o (x.tmp a o h n) (fun z=>(x.ow a z).elim n fun z=>by rw [h] at z;cases z),fun i=>(y.shp i).trans (x.shp i),fun a h=>(y.ow a h).elim (x.ow a) fun z=>.inr (x.dom a z)⟩
def cf(K:PySem.W.Frag)(σ:L2.St)(H0 F H:Hp)(e:En):Rv→V→Prop
  | .d x,v=>DA K F x v
  | .l xs,v=>∃l vs,v=.ref l∧H0 l=none∧F l=none∧H l=some (.lst vs)∧az K F xs vs∧¬dy σ e H l
  | .s i,v=>σ[i]?=some (some v)∧∃xs,e[i]?=some (some (.l xs))
section
variable{K:PySem.W.Frag}{σ:L2.St}{H0 F H F' H':Hp}{e e':En}{r:Rv}{v:V}
theorem cf.ext(h:cf K σ H0 F H e r v)(x:dO σ F H e F' H' e'):cf K σ H0 F' H' e' r v:=by
  cases r with
  | d y=>exact DA.mono x.sf h
  | l xs=>
    obtain⟨l,vs,e1,h1,h2,h3,h4,h5⟩:=h
    exact⟨l,vs,e1,h1,x.fr l _ h2 h3 h5,x.tmp l _ h3 h5,az.mono x.sf h4,fun z=>(x.ow l z).elim h5 fun z=>by rw [h3] at z;cases z⟩
  | s i=>exact⟨h.1,(x.shp i).mpr h.2⟩
theorem cf.weak{H1:Hp}(h:cf K σ H1 F H e r v)(d:∀a,H1 a=none→H0 a=none):cf K σ H0 F H e r v:=by
  cases r with
  | d y=>exact h
  | l xs=>
    obtain⟨l,vs,e1,h1,r⟩:=h
    exact⟨l,vs,e1,d l h1,r⟩
  | s i=>exact h
theorem aW.ownH(R:aW K F H σ e)(a:Addr)(h:dy σ e H a):H a≠none:=by
  obtain⟨i,h⟩:=h
  obtain⟨_,vs,h2⟩:=R.fpAt h
  rw [h2];simp
theorem aW.freeF(R:aW K F H σ e){p:Addr}(hp:H p=none):F p=none:=R.sm.free hp
theorem xa(R:aW K F H σ e)(h:∀l bs,H l=some (.lst bs)→dy σ e H l→H' l=some (.lst bs)){i:Nat}{a:Addr}:Fp σ e H' i a↔ Fp σ e H i a:=by
  have key:∀xss l,e[i]?=some (some (.n xss))→σ[i]?=some (some (.ref l))→H' l=H l:=fun xss l h1 h2=>by
    obtain⟨l',bs,g1,g2,g3,_⟩:=R.nst i xss h1
    rw [h2] at g1;cases g1
    rw [g3]
    exact h l _ g3 ⟨i,.inr ⟨xss,l,bs,h1,h2,g3,.inl rfl⟩⟩
  constructor
  · rintro(h1 | ⟨xss,l,bs,h1,h2,h3,h4⟩)
    · exact .inl h1
    · exact .inr ⟨xss,l,bs,h1,h2,by rw [←key xss l h1 h2];exact h3,h4⟩
  · rintro(h1 | ⟨xss,l,bs,h1,h2,h3,h4⟩)
    · exact .inl h1
    · exact .inr ⟨xss,l,bs,h1,h2,by rw [key xss l h1 h2];exact h3,h4⟩
theorem aW.keep(R:aW K F H σ e)(sF:ar F F')(sm:ar F' H')(hf:∀a,dy σ e H a→F' a=none)(hh:∀a o,dy σ e H a→H a=some o→H' a=some o):aW K F' H' σ e∧∀a,dy σ e H' a↔ dy σ e H a:=by
  have fs:∀{i a},Fp σ e H' i a↔ Fp σ e H i a:=fun{i a}=>xa R fun l bs h1 h2=>hh l _ h2 h1
  refine⟨⟨sm,R.len,fun i x h=>let ⟨v,h1,h2⟩:=R.dat i x h;⟨v,h1,DA.mono sF h2⟩,fun i xs h=>?_,fun i xss h=>?_,fun i j a h1 h2=>R.fp i j a (fs.mp h1) (fs.mp h2)⟩,fun a=>⟨fun⟨i,h⟩=>⟨i,fs.mp h⟩,fun⟨i,h⟩=>⟨i,fs.mpr h⟩⟩⟩
  · obtain⟨l,vs,h1,h2,h3,h4⟩:=R.own i xs h
    have o:dy σ e H l:=⟨i,.inl ⟨xs,h,h1⟩⟩
    exact⟨l,vs,h1,hf l o,hh l _ o h3,h4.mono sF⟩
  · obtain⟨l,bs,h1,h2,h3,h4,h5,h6,h7⟩:=R.nst i xss h
    have o:dy σ e H l:=⟨i,.inr ⟨xss,l,bs,h,h1,h3,.inl rfl⟩⟩
    refine⟨l,bs,h1,hf l o,hh l _ o h3,h4,h5,h6,fun k b ys g1 g2=>?_⟩
    obtain⟨c1,us,c2,c3⟩:=h7 k b ys g1 g2
    have ob:dy σ e H b:=⟨i,.inr ⟨xss,l,bs,h,h1,h3,.inr (List.mem_of_getElem? g1)⟩⟩
    exact⟨hf b ob,us,hh b _ ob c2,c3.mono sF⟩
theorem aW.same(R:aW K F H σ e)(s:ar H H'):aW K F H' σ e∧dO σ F H e F H' e:=by
  obtain⟨R',o'⟩:=R.keep (ar.refl F) (R.sm.trans s) (fun a ⟨i,h⟩=>(R.fpAt h).1) fun a o _ h=>s a o h
  exact⟨R',⟨ar.refl _,fun a h=>s.free h,fun _ _ h _ _=>h,fun a vs h=>⟨vs,s _ _ h⟩,fun a o h _=>s a o h,fun _=>Iff.rfl,fun a h=>.inl ((o' a).mp h)⟩⟩
theorem aW.freeze(R:aW K F H σ e){p:Addr}{o:HO}(hF:F p=none)(hp:H p=some o)(hn:¬dy σ e H p):aW K (aM F p o) H σ e∧ar F (aM F p o):=by
  have sF:ar F (aM F p o):=ar.new hF
  refine⟨(R.keep sF (fun b u q=>?_) (fun a ha=>?_) fun _ _ _ h=>h).1,sF⟩
  · by_cases z:b=p
    · subst z;rw [ay] at q;cases q;exact hp
    · rw [aC z] at q;exact R.sm _ _ q
  · obtain⟨i,hi⟩:=ha
    have z:a≠p:=fun z=>hn ⟨i,by rw [←z];exact hi⟩
    rw [aC z];exact(R.fpAt hi).1
theorem aW.notOwn(R:aW K F H σ e){p:Addr}{o:HO}(hp:H p=some o)(hl:∀vs,o≠.lst vs):¬dy σ e H p:=fun⟨i,h⟩=>by
  obtain⟨_,vs,g⟩:=R.fpAt h
  rw [hp] at g;cases g
  exact hl _ rfl
theorem aW.newT(R:aW K F H σ e){p:Addr}{vs:List V}(hp:H p=none):aW K (aM F p (.tup vs)) (aM H p (.tup vs)) σ e∧dO σ F H e (aM F p (.tup vs)) (aM H p (.tup vs)) e:=by
  have hF:=R.freeF hp
  obtain⟨R1,X1⟩:=R.same (ar.new hp (o:=.tup vs))
  obtain⟨R2,s2⟩:=R1.freeze (p:=p) hF ay (R1.notOwn ay (fun _ z=>nomatch z))
  refine⟨R2,⟨s2,X1.dom,fun a ws h n _=>?_,X1.lst,X1.tmp,X1.shp,X1.ow⟩⟩
  have z:a≠p:=fun z=>by rw [z,hp] at n;cases n
  rw [aC z];exact h
theorem aW.sameOwn(R:aW K F H σ e)(s:ar H H')(a:Addr):dy σ e H' a↔ dy σ e H a:=(R.keep (ar.refl F) (R.sm.trans s) (fun a ⟨i,h⟩=>(R.fpAt h).1) fun a o _ h=>s a o h).2 a
theorem aW.newL(R:aW K F H σ e){p:Addr}{vs:List V}(hp:H p=none):aW K F (aM H p (.lst vs)) σ e∧dO σ F H e F (aM H p (.lst vs)) e∧F p=none∧¬dy σ e (aM H p (.lst vs)) p:=
  ⟨(R.same (ar.new hp)).1,(R.same (ar.new hp)).2,R.freeF hp,fun z=>R.ownH p ((R.sameOwn (ar.new hp) p).mp z) hp⟩
theorem aW.growT(R:aW K F H σ e){p:Addr}{xs:List V}(s:ar H H')(hp:cc K H' p xs):∃F',aW K F' H' σ e∧dO σ F H e F' H' e∧cc K F' p xs:=by
  obtain⟨R1,X1⟩:=R.same s
  rcases hp with hp | hp
  · have key:∀o,H' p=some o→(∀vs,o≠.lst vs)→(∀G:Hp,G p=some o→Rd G p (.tup xs))→∃F',aW K F' H' σ e∧dO σ F H e F' H' e∧cc K F' p xs:=by
      intro o ho hl hr
      cases q:F p with
      | some u=>
        have:=R1.sm _ _ q
        rw [ho] at this;cases this
        exact⟨F,R1,X1,.inl (hr F q)⟩
      | none=>
        obtain⟨R2,s2⟩:=R1.freeze q ho (R1.notOwn ho hl)
        refine⟨_,R2,⟨s2,X1.dom,fun a ws h n _=>?_,X1.lst,X1.tmp,X1.shp,X1.ow⟩,.inl (hr _ ay)⟩
        have z:a≠p:=fun z=>by rw [z] at n;rw [s _ _ n] at ho;cases ho;exact hl _ rfl
        rw [aC z];exact h
    rcases hp with hp | ⟨ob,hp⟩
    · exact key _ hp (fun _ z=>nomatch z) fun G g=>.inl g
    · exact key _ hp (fun _ z=>nomatch z) fun G g=>.inr ⟨ob,g⟩
  · exact⟨F,R1,X1,.inr hp⟩
theorem cf.frozen(R:aW K F H σ e){xs:List PyData}(h:cf K σ H0 F H e (.l xs) v):∃F',aW K F' H σ e∧ar F F'∧DA K F' (.list xs) v∧(∀a,F a=none→H0 a≠none→F' a=none):=by
  obtain⟨l,vs,rfl,h1,h2,h3,h4,h5⟩:=h
  obtain⟨R2,s2⟩:=R.freeze h2 h3 h5
  refine⟨_,R2,s2,?_,fun a ha hn=>?_⟩
  · rw [dD]
    exact⟨l,vs,rfl,.inl (.inl ay),az.mono s2 h4⟩
  · have z:a≠l:=fun z=>hn (by rw [z];exact h1)
    rw [aC z];exact ha
def cx(e:En):Rv→Option (Bool × List PyData)
  | .d (.tuple xs)=>some (false,xs)
  | .d (.list xs)=>some (true,xs)
  | .l xs=>some (true,xs)
  | .s i=>match e[i]? with
    | some (some (.l xs))=>some (true,xs)
    | _=>none
  | _=>none
theorem bT(R:aW K F H σ e)(h:cf K σ H0 F H e r v){b:Bool}{xs:List PyData}(q:cx e r=some (b,xs)):
    ∃p vs,v=.ref p∧az K F xs vs∧(if b=true then dP K H p vs else cc K H p vs):=by
  cases r with
  | d x=>
    cases x with
    | tuple ds=>
      cases q
      obtain⟨a,ys,e1,e2,e3⟩:=bX.mp h
      exact⟨a,ys,e1,e3,R.sm.tup e2⟩
    | list ds=>
      cases q
      obtain⟨a,ys,e1,e2,e3⟩:=dD.mp h
      exact⟨a,ys,e1,e3,R.sm.seq e2⟩
    | _=>cases q
  | l ys=>
    cases q
    obtain⟨l,vs,e1,h1,h2,h3,h4,_⟩:=h
    exact⟨l,vs,e1,h4,.inl (.inl h3)⟩
  | s i=>
    obtain⟨h1,ys,h2⟩:=h
    simp only [cx,h2] at q
    cases q
    obtain⟨l,vs,e1,e2,e3,e4⟩:=R.own i _ h2
    rw [h1] at e1;cases e1
    exact⟨l,vs,rfl,e4,.inl (.inl e3)⟩
end
end L2
namespace L2
open PySem PySem.Spec PyProof.Rows
abbrev FE:=En→Option (Rv × En)
abbrev FT:=En→Option (Bool × En)
abbrev FA:=En→Option (List Rv × En)
def du(K:PySem.W.Frag)(σ:L2.St)(H0 F H:Hp)(e:En):List Rv→List V→Prop
  | [],vs=>vs=[]
  | r::rs,vs=>∃v ws,vs=v::ws∧cf K σ H0 F H e r v∧du K σ H0 F H e rs ws
def fE(K:PySem.W.Frag)(f:FE):TE:=fun σ H Q=>∃F e r e',aW K F H σ e∧f e=some (r,e')∧∀F' H' v,dO σ F H e F' H' e'→aW K F' H' σ e'→cf K σ H F' H' e' r v→Q v H'
def fT(K:PySem.W.Frag)(f:FT):TT:=fun σ H Q=>∃F e b e',aW K F H σ e∧f e=some (b,e')∧∀F' H',dO σ F H e F' H' e'→aW K F' H' σ e'→Q b H'
def fA(K:PySem.W.Frag)(f:FA):TA:=fun σ H Q=>∃F e rs e',aW K F H σ e∧f e=some (rs,e')∧∀F' H' vs,dO σ F H e F' H' e'→aW K F' H' σ e'→du K σ H F' H' e' rs vs→Q vs H'
theorem PE.mono{X:Cx}{e:Expr}{t t':TE}(h:PE X e t)(m:∀σ H Q,t' σ H Q→t σ H Q):PE X e t':=fun pins s σ H Q I q=>h pins s σ H Q I (m σ H Q q)
theorem PT.mono{X:Cx}{e:Expr}{t t':TT}(h:PT X e t)(m:∀σ H Q,t' σ H Q→t σ H Q):PT X e t':=fun pins s σ H Q I q=>h pins s σ H Q I (m σ H Q q)
theorem PW.mono{X:Cx}{e:Expr}{t t':TT}(h:PW X e t)(m:∀σ H Q,t' σ H Q→t σ H Q):PW X e t':=fun wh pins s σ H Q I q=>h wh pins s σ H Q I (m σ H Q q)
theorem PA.mono{X:Cx}{es:List Expr}{t t':TA}(h:PA X es t)(m:∀σ H Q,t' σ H Q→t σ H Q):PA X es t':=fun pos pins s σ H Q I q=>h pos pins s σ H Q I (m σ H Q q)
section
variable{K:PySem.W.Frag}{σ:L2.St}{H0 F H F' H':Hp}{e e':En}
theorem du.weak{H1:Hp}(d:∀a,H1 a=none→H0 a=none):∀{rs:List Rv} {vs:List V},du K σ H1 F H e rs vs→du K σ H0 F H e rs vs
  | [],_,h=>h
  | r::rs,_,h=>by
    obtain⟨v,ws,rfl,h1,h2⟩:=h
    exact⟨v,ws,rfl,h1.weak d,du.weak d h2⟩
theorem dO.frz{F'':Hp}(x:dO σ F H e F' H' e')(s:ar F' F'')(h:∀a,F' a=none→H a≠none→F'' a=none):dO σ F H e F'' H' e':=
  ⟨x.sf.trans s,x.dom,fun a vs h1 h2 h3=>h a (x.fr a vs h1 h2 h3) (by rw [h2];simp),x.lst,x.tmp,x.shp,x.ow⟩
def ja:List Rv→Option (List PyData)
  | []=>some []
  | .d x::rs=>(ja rs).map (x::·)
  | .l xs::rs=>(ja rs).map (.list xs::·)
  | .s _::_=>none
theorem du.frozen:∀{rs:List Rv} {vs:List V} {ds:List PyData} {F:Hp},aW K F H σ e→du K σ H0 F H e rs vs→ja rs=some ds→
    ∃F',aW K F' H σ e∧ar F F'∧az K F' ds vs∧(∀a,F a=none→H0 a≠none→F' a=none)
  | [],_,_,F,R,h,q=>by
    cases q
    have h':_=[]:=h
    subst h'
    exact⟨F,R,ar.refl _,az.nil,fun _ h _=>h⟩
  | .d x::rs,_,ds,F,R,h,q=>by
    obtain⟨v,ws,rfl,h1,h2⟩:=h
    obtain⟨ds',q1,rfl⟩:=Option.map_eq_some_iff.mp q
    obtain⟨F',R',s',d',f'⟩:=du.frozen R h2 q1
    exact⟨F',R',s',.cons (DA.mono s' h1) d',f'⟩
  | .l xs::rs,_,ds,F,R,h,q=>by
    obtain⟨v,ws,rfl,h1,h2⟩:=h
    obtain⟨ds',q1,rfl⟩:=Option.map_eq_some_iff.mp q
    obtain⟨F',R',s',d',f'⟩:=du.frozen R h2 q1
    obtain⟨l,us,rfl,g1,g2,g3,g4,g5⟩:=h1
    cases hl:F' l with
    | none=>
      have h1':cf K σ H0 F' H e (.l xs) (.ref l):=⟨l,us,rfl,g1,hl,g3,az.mono s' g4,g5⟩
      obtain⟨F2,R2,s2,d2,f2⟩:=h1'.frozen R'
      exact⟨F2,R2,s'.trans s2,.cons d2 (az.mono s2 d'),fun a ha hn=>f2 a (f' a ha hn) hn⟩
    | some o=>
      have:=R'.sm _ _ hl
      rw [g3] at this;cases this
      exact⟨F',R',s',.cons (dD.mpr ⟨l,us,rfl,.inl (.inl hl),az.mono s' g4⟩) d',f'⟩
end
section
variable{X:Cx}{K:PySem.W.Frag}{a b c:Expr}{fa fb:FE}{ft fu:FT}{pos:Pos}{es:List Expr}{fs:FA}
def af(i:Nat):FE:=fun e=>match e[i]? with
  | some (some (.d x))=>some (.d x,e)
  | some (some (.l _))=>some (.s i,e)
  | _=>none
def vC(x:PyData):FE:=fun e=>some (.d x,e)
theorem yB{i:Nat}{σ:L2.St}{H:Hp}{Q:VK}(h:fE K (af i) σ H Q):Dc i σ H Q:=by
  obtain⟨F,e,r,e',R,hf,q⟩:=h
  unfold af at hf
  match h1:e[i]?,hf with
  | some (some (.d x)),hf=>
    cases hf
    obtain⟨v,h2,h3⟩:=R.dat i x h1
    exact⟨v,h2,q F H v (dO.refl _ _ _ _) R h3⟩
  | some (some (.n _)),hf=>cases hf
  | some (some (.l xs)),hf=>
    cases hf
    obtain⟨l,vs,h2,h3⟩:=R.own i xs h1
    exact⟨_,h2,q F H _ (dO.refl _ _ _ _) R ⟨h2,xs,h1⟩⟩
  | some none,hf=>cases hf
  | none,hf=>cases hf
theorem qv(i:Nat){x:Str}{pos:Pos}(hN:X.N[i]?=some x)(hv:BO X.env.scope x)(hd:(x==("__debug__":Str))=false)(hcd:(x==("__classdict__":Str))=false):PE X (.Name x pos) (fE K (af i)):=(AC hN hv hd hcd).mono fun _ _ _ h=>yB h
theorem wq{x:PyData}{v:V}{σ:L2.St}{H:Hp}{Q:VK}(hx:∀F,DA K F x v)(h:fE K (vC x) σ H Q):tC v σ H Q:=by
  obtain⟨F,e,r,e',R,hf,q⟩:=h
  cases hf
  exact q F H v (dO.refl _ _ _ _) R (hx F)
theorem ag{i j pos}:PE X (.Constant (.int i) j pos) (fE K (vC (.int i))):=Av.mono fun _ _ _ h=>wq (fun _=>ck.mpr rfl) h
theorem eY{b j pos}:PE X (.Constant (.bool b) j pos) (fE K (vC (.bool b))):=Cy.mono fun _ _ _ h=>wq (fun _=>cM.mpr rfl) h
theorem nU{j pos}:PE X (.Constant .none j pos) (fE K (vC .none)):=Ax.mono fun _ _ _ h=>wq (fun _=>h8.mpr rfl) h
def fY(K:PySem.W.Frag)(r:R2)(g:En→Rv→Rv→Option Rv):Prop:=
  ∀(σ:L2.St) (H0 F H:Hp) (e:En) (x y z:Rv) (v u:V) (Q:VK),aW K F H σ e→cf K σ H0 F H e x v→cf K σ H0 F H e y u→g e x y=some z→
    (∀F' H' w,dO σ F H e F' H' e→aW K F' H' σ e→cf K σ H F' H' e z w→Q w H')→r v u H Q
def av(g:En→Rv→Rv→Option Rv)(fa fb:FE):FE:=fun e=>(fa e).bind fun p=>(fb p.2).bind fun q=>(g q.2 p.1 q.1).map fun z=>(z,q.2)
theorem om{r:R2}{g:En→Rv→Rv→Option Rv}(ho:fY K r g){σ:L2.St}{H:Hp}{Q:VK}(h:fE K (av g fa fb) σ H Q):C9 r (fE K fa) (fE K fb) σ H Q:=by
  obtain⟨F,e,z,e2,R,hf,q⟩:=h
  unfold av at hf
  obtain⟨⟨x,e1⟩,h1,hf⟩:=Option.bind_eq_some_iff.mp hf
  obtain⟨⟨y,e2'⟩,h2,hf⟩:=Option.bind_eq_some_iff.mp hf
  obtain⟨z',h3,hf⟩:=Option.map_eq_some_iff.mp hf
  cases hf
  refine⟨F,e,x,e1,R,h1,fun F1 H1 v X1 R1 A1=>⟨F1,e1,y,_,R1,h2,fun F2 H2 u X2 R2 A2=>?_⟩⟩
  have X12:=X1.trans X2
  refine ho σ H F2 H2 _ x y _ v u Q R2 (A1.ext X2) (A2.weak X1.dom) h3 fun F3 H3 w X3 R3 A3=>?_
  exact q F3 H3 w (X12.trans X3) R3 (A3.weak X12.dom)
theorem mN{op:Operator}{r:R2}{g:En→Rv→Rv→Option Rv}(hr:fm X (binaryOp op) r)(ho:fY K r g)(ha:PE X a (fE K fa))(hb:PE X b (fE K fb)):PE X (.BinOp a op b pos) (fE K (av g fa fb)):=(CB hr ha hb).mono fun _ _ _ h=>om ho h
theorem AQ{op:CmpOp}{r:R2}{g:En→Rv→Rv→Option Rv}(hr:fm X (compareOp op) r)(ho:fY K r g)(ha:PE X a (fE K fa))(hb:PE X b (fE K fb))(hm:behindInMarks op b=false):PE X (.Compare a [op] [b] pos) (fE K (av g fa fb)):=(xP hr ha hb hm).mono fun _ _ _ h=>om ho h
theorem CK{r:R2}{g:En→Rv→Rv→Option Rv}(hr:wM X r)(ho:fY K r g)(ha:PE X a (fE K fa))(hb:PE X b (fE K fb))(hs:mY b):PE X (.Subscript a b pos) (fE K (av g fa fb)):=(CA hr ha hb hs).mono fun _ _ _ h=>om ho h
def rX(g:En→Rv→Option Rv)(fa:FE):FE:=fun e=>(fa e).bind fun p=>(g p.2 p.1).map fun z=>(z,p.2)
def BN(K:PySem.W.Frag)(r:V→Hp→VK→Prop)(g:En→Rv→Option Rv):Prop:=
  ∀(σ:L2.St) (H0 F H:Hp) (e:En) (x z:Rv) (v:V) (Q:VK),aW K F H σ e→cf K σ H0 F H e x v→g e x=some z→
    (∀F' H' w,dO σ F H e F' H' e→aW K F' H' σ e→cf K σ H F' H' e z w→Q w H')→r v H Q
theorem wz{r:V→Hp→VK→Prop}{g:En→Rv→Option Rv}(ho:BN K r g){σ:L2.St}{H:Hp}{Q:VK}(h:fE K (rX g fa) σ H Q):EB r (fE K fa) σ H Q:=by
  obtain⟨F,e,z,e2,R,hf,q⟩:=h
  unfold rX at hf
  obtain⟨⟨x,e1⟩,h1,hf⟩:=Option.bind_eq_some_iff.mp hf
  obtain⟨z',h3,hf⟩:=Option.map_eq_some_iff.mp hf
  cases hf
  refine⟨F,e,x,_,R,h1,fun F1 H1 v X1 R1 A1=>?_⟩
  refine ho σ H F1 H1 _ x _ v Q R1 A1 h3 fun F3 H3 w X3 R3 A3=>?_
  exact q F3 H3 w (X1.trans X3) R3 (A3.weak X1.dom)
theorem CM{op:UnaryOp}{r:V→Hp→VK→Prop}{g:En→Rv→Option Rv}(hr:Dp X (unaryOp op) r)(ho:BN K r g)(ha:PE X a (fE K fa)):PE X (.UnaryOp op a pos) (fE K (rX g fa)):=(CD hr ha).mono fun _ _ _ h=>wz ho h
def ff:Rv→Option Bool
  | .d (.bool b)=>some b
  | _=>none
theorem eF{σ:L2.St}{H0 F H:Hp}{e:En}{r:Rv}{v:V}{b:Bool}(h:cf K σ H0 F H e r v)(q:ff r=some b):v=.bl b:=by
  unfold ff at q
  split at q
  · cases q;exact cM.mp (show DA K F (.bool _) v from h)
  · cases q
theorem dj{σ:L2.St}{H0 F H:Hp}{e:En}{b:Bool}:cf K σ H0 F H e (.d (.bool b)) (.bl b):=(cM (K:=K) (F:=F)).mpr rfl
def aH(f:FE):FT:=fun e=>(f e).bind fun p=>(ff p.1).map fun b=>(b,p.2)
theorem pS{σ:L2.St}{H:Hp}{Q:Bool→Hp→Prop}(h:fT K (aH fa) σ H Q):fE K fa σ H fun x H'=>∃k,x=.bl k∧Q k H':=by
  obtain⟨F,e,b,e1,R,hf,q⟩:=h
  unfold aH at hf
  obtain⟨⟨x,e1'⟩,h1,hf⟩:=Option.bind_eq_some_iff.mp hf
  obtain⟨b',h3,hf⟩:=Option.map_eq_some_iff.mp hf
  cases hf
  exact⟨F,e,x,_,R,h1,fun F1 H1 v X1 R1 A1=>⟨_,eF A1 h3,q F1 H1 X1 R1⟩⟩
theorem AV{op:CmpOp}{r:R2}{g:En→Rv→Rv→Option Rv}(hr:fm X (compareOp op) r)(ho:fY K r g)(ha:PE X a (fE K fa))(hb:PE X b (fE K fb))(hm:behindInMarks op b=false):PT X (.Compare a [op] [b] pos) (fT K (aH (av g fa fb))):=
  (x8 hr ha hb hm).mono fun σ H Q h=>by
    obtain⟨F,e,z,e2,R,hf,q⟩:=pS h
    exact om ho ⟨F,e,z,e2,R,hf,q⟩
theorem cQ{e:Expr}(h:PE X e (fE K fa))(he:∀whole,isTrue e X.env whole=(do let v ←whole;standAt e.pos;holding [v] (truthy v))):PT X e (fT K (aH fa)):=(AM h he).mono fun _ _ _ h=>pS h
def l6(f g:FT):FT:=fun e=>(f e).bind fun p=>if p.1=true then g p.2 else some (false,p.2)
def ww(f g:FT):FT:=fun e=>(f e).bind fun p=>if p.1=true then some (true,p.2) else g p.2
def iv(f:FT):FT:=fun e=>(f e).map fun p=>(!p.1,p.2)
theorem yz{σ:L2.St}{H:Hp}{Q:Bool→Hp→Prop}(h:fT K (l6 ft fu) σ H Q):C3 (fT K ft) (fT K fu) σ H Q:=by
  obtain⟨F,e,b,e1,R,hf,q⟩:=h
  unfold l6 at hf
  obtain⟨⟨x,e1'⟩,h1,hf⟩:=Option.bind_eq_some_iff.mp hf
  refine⟨F,e,x,e1',R,h1,fun F1 H1 X1 R1=>?_⟩
  cases x with
  | true=>exact⟨F1,e1',b,e1,R1,hf,fun F2 H2 X2 R2=>q F2 H2 (X1.trans X2) R2⟩
  | false=>cases hf;exact q F1 H1 X1 R1
theorem Bu{σ:L2.St}{H:Hp}{Q:Bool→Hp→Prop}(h:fT K (ww ft fu) σ H Q):Ez (fT K ft) (fT K fu) σ H Q:=by
  obtain⟨F,e,b,e1,R,hf,q⟩:=h
  unfold ww at hf
  obtain⟨⟨x,e1'⟩,h1,hf⟩:=Option.bind_eq_some_iff.mp hf
  refine⟨F,e,x,e1',R,h1,fun F1 H1 X1 R1=>?_⟩
  cases x with
  | false=>exact⟨F1,e1',b,e1,R1,hf,fun F2 H2 X2 R2=>q F2 H2 (X1.trans X2) R2⟩
  | true=>cases hf;exact q F1 H1 X1 R1
theorem yA{σ:L2.St}{H:Hp}{Q:Bool→Hp→Prop}(h:fT K (iv ft) σ H Q):C7 (fT K ft) σ H Q:=by
  obtain⟨F,e,b,e1,R,hf,q⟩:=h
  unfold iv at hf
  obtain⟨⟨x,e1'⟩,h1,hf⟩:=Option.map_eq_some_iff.mp hf
  cases hf
  exact⟨F,e,x,_,R,h1,fun F1 H1 X1 R1=>q F1 H1 X1 R1⟩
variable{d9:List Expr}
theorem jp(ha:PT X a (fT K ft)):PW X (.BoolOp .And [a] pos) (fT K ft):=yc ha
theorem nX(ha:PT X a (fT K ft)):PW X (.BoolOp .Or [a] pos) (fT K ft):=AO ha
theorem jT(ha:PT X a (fT K ft))(hb:PW X (.BoolOp .And (b::d9) pos) (fT K fu)):PW X (.BoolOp .And (a::b::d9) pos) (fT K (l6 ft fu)):=(AN ha hb).mono fun _ _ _ h=>yz h
theorem mO(ha:PT X a (fT K ft))(hb:PW X (.BoolOp .Or (b::d9) pos) (fT K fu)):PW X (.BoolOp .Or (a::b::d9) pos) (fT K (ww ft fu)):=(CH ha hb).mono fun _ _ _ h=>Bu h
theorem eR(ha:PT X a (fT K ft)):PT X (.UnaryOp .Not a pos) (fT K (iv ft)):=(AL ha).mono fun _ _ _ h=>yA h
theorem nW{e:Expr}(h:PW X e (fT K ft)):PT X e (fT K ft):=h.pt
def kj(f g:FE):FE:=fun e=>(f e).bind fun p=>(ff p.1).bind fun b=>if b=true then g p.2 else some (.d (.bool false),p.2)
def wx(f g:FE):FE:=fun e=>(f e).bind fun p=>(ff p.1).bind fun b=>if b=true then some (.d (.bool true),p.2) else g p.2
def pR(f:FE):FE:=fun e=>(f e).bind fun p=>(ff p.1).map fun b=>(.d (.bool (!b)),p.2)
theorem nS(ha:PE X a (fE K fa))(hb:PE X (.BoolOp .And (b::d9) pos) (fE K fb)):PE X (.BoolOp .And (a::b::d9) pos) (fE K (kj fa fb)):=(Au ha hb).mono fun σ H Q h=>by
  obtain⟨F,e,z,e2,R,hf,q⟩:=h
  unfold kj at hf
  obtain⟨⟨x,e1⟩,h1,hf⟩:=Option.bind_eq_some_iff.mp hf
  obtain⟨b,h2,hf⟩:=Option.bind_eq_some_iff.mp hf
  refine⟨F,e,x,e1,R,h1,fun F1 H1 v X1 R1 A1=>⟨b,eF A1 h2,?_⟩⟩
  cases b with
  | true=>exact⟨F1,e1,z,e2,R1,hf,fun F2 H2 w X2 R2 A2=>q F2 H2 w (X1.trans X2) R2 (A2.weak X1.dom)⟩
  | false=>cases hf;exact q F1 H1 _ X1 R1 dj
theorem CL(ha:PE X a (fE K fa))(hb:PE X (.BoolOp .Or (b::d9) pos) (fE K fb)):PE X (.BoolOp .Or (a::b::d9) pos) (fE K (wx fa fb)):=(CC ha hb).mono fun σ H Q h=>by
  obtain⟨F,e,z,e2,R,hf,q⟩:=h
  unfold wx at hf
  obtain⟨⟨x,e1⟩,h1,hf⟩:=Option.bind_eq_some_iff.mp hf
  obtain⟨b,h2,hf⟩:=Option.bind_eq_some_iff.mp hf
  refine⟨F,e,x,e1,R,h1,fun F1 H1 v X1 R1 A1=>⟨b,eF A1 h2,?_⟩⟩
  cases b with
  | false=>exact⟨F1,e1,z,e2,R1,hf,fun F2 H2 w X2 R2 A2=>q F2 H2 w (X1.trans X2) R2 (A2.weak X1.dom)⟩
  | true=>cases hf;exact q F1 H1 _ X1 R1 dj
theorem nV{op}(h:PE X a (fE K fa)):PE X (.BoolOp op [a] pos) (fE K fa):=Az h
theorem AR(ha:PE X a (fE K fa)):PE X (.UnaryOp .Not a pos) (fE K (pR fa)):=(Ay ha).mono fun σ H Q h=>by
  obtain⟨F,e,z,e2,R,hf,q⟩:=h
  unfold pR at hf
  obtain⟨⟨x,e1⟩,h1,hf⟩:=Option.bind_eq_some_iff.mp hf
  obtain⟨b,h2,hf⟩:=Option.map_eq_some_iff.mp hf
  cases hf
  exact⟨F,e,x,_,R,h1,fun F1 H1 v X1 R1 A1=>⟨b,eF A1 h2,q F1 H1 _ X1 R1 dj⟩⟩
def ED(t:FT)(f g:FE):FE:=fun e=>(t e).bind fun p=>if p.1=true then f p.2 else g p.2
def am:FA:=fun e=>some ([],e)
def ac(fa:FE)(fs:FA):FA:=fun e=>(fa e).bind fun p=>(fs p.2).map fun q=>(p.1::q.1,q.2)
theorem ae:PA X [] (fA K am):=vp.mono fun σ H Q h=>by
  obtain⟨F,e,r,e',R,hf,q⟩:=h
  cases hf
  exact q F H [] (dO.refl _ _ _ _) R rfl
theorem D2(ha:PE X a (fE K fa))(hr:PA X es (fA K fs))(h:PySem.W.isStarred a=false):PA X (a::es) (fA K (ac fa fs)):=(DZ ha hr h).mono fun σ H Q h=>by
  obtain⟨F,e,z,e2,R,hf,q⟩:=h
  unfold ac at hf
  obtain⟨⟨x,e1⟩,h1,hf⟩:=Option.bind_eq_some_iff.mp hf
  obtain⟨⟨xs,e2'⟩,h2,hf⟩:=Option.map_eq_some_iff.mp hf
  cases hf
  refine⟨F,e,x,e1,R,h1,fun F1 H1 v X1 R1 A1=>⟨F1,e1,xs,_,R1,h2,fun F2 H2 vs X2 R2 A2=>?_⟩⟩
  exact q F2 H2 (v::vs) (X1.trans X2) R2 ⟨v,vs,rfl,A1.ext X2,A2.weak X1.dom⟩
def cL(fs:FA):FE:=fun e=>(fs e).bind fun p=>(ja p.1).bind fun ds=>if ds.length≤1000 then some (.d (.tuple ds),p.2) else none
def eU(fs:FA):FE:=fun e=>(fs e).bind fun p=>(ja p.1).bind fun ds=>if ds.length≤1000 then some (.l ds,p.2) else none
theorem aU{x1}(h:PA X es (fA K fs)):PE X (.Tuple es x1 pos) (fE K (cL fs)):=(AB h).mono fun σ H Q h=>by
  obtain⟨F,e,z,e2,R,hf,q⟩:=h
  unfold cL at hf
  obtain⟨⟨rs,e1⟩,h1,hf⟩:=Option.bind_eq_some_iff.mp hf
  obtain⟨ds,h2,hf⟩:=Option.bind_eq_some_iff.mp hf
  split at hf
  case isFalse=>cases hf
  case isTrue hl=>
  cases hf
  refine⟨F,e,rs,_,R,h1,fun F1 H1 vs X1 R1 A1=>?_⟩
  obtain⟨F2,R2,s2,d2,f2⟩:=du.frozen R1 A1 h2
  have hlen:=d2.len
  refine⟨Nat.le_of_lt (mU (by lia)),fun p hp=>?_⟩
  obtain⟨R3,X3⟩:=R2.newT (vs:=vs) hp
  exact q _ _ _ ((X1.frz s2 f2).trans X3) R3 (bX.mpr ⟨p,vs,rfl,.inl (.inl ay),az.mono X3.sf d2⟩)
theorem bR(h:PA X es (fA K fs)):PE X (.List es pos) (fE K (eU fs)):=(Aw h).mono fun σ H Q h=>by
  obtain⟨F,e,z,e2,R,hf,q⟩:=h
  unfold eU at hf
  obtain⟨⟨rs,e1⟩,h1,hf⟩:=Option.bind_eq_some_iff.mp hf
  obtain⟨ds,h2,hf⟩:=Option.bind_eq_some_iff.mp hf
  split at hf
  case isFalse=>cases hf
  case isTrue hl=>
  cases hf
  refine⟨F,e,rs,_,R,h1,fun F1 H1 vs X1 R1 A1=>?_⟩
  obtain⟨F2,R2,s2,d2,f2⟩:=du.frozen R1 A1 h2
  have hlen:=d2.len
  refine⟨Nat.le_of_lt (mU (by lia)),fun p hp=>?_⟩
  obtain⟨R3,X3,hF,no⟩:=R2.newL (vs:=vs) hp
  exact q _ _ _ ((X1.frz s2 f2).trans X3) R3 ⟨p,vs,rfl,X1.dom p hp,hF,ay,d2,no⟩
def cB(K:PySem.W.Frag)(r:List V→Hp→VK→Prop)(g:En→List Rv→Option Rv):Prop:=
  ∀(σ:L2.St) (H0 F H:Hp) (e:En) (xs:List Rv) (z:Rv) (vs:List V) (Q:VK),aW K F H σ e→du K σ H0 F H e xs vs→g e xs=some z→
    (∀F' H' w,dO σ F H e F' H' e→aW K F' H' σ e→cf K σ H F' H' e z w→Q w H')→r vs H Q
def aN(g:En→List Rv→Option Rv)(fs:FA):FE:=fun e=>(fs e).bind fun p=>(g p.2 p.1).map fun z=>(z,p.2)
theorem pQ{r:List V→Hp→VK→Prop}{g:En→List Rv→Option Rv}(ho:cB K r g){σ:L2.St}{H:Hp}{Q:VK}(h:fE K (aN g fs) σ H Q):D6 r (fA K fs) σ H Q:=by
  obtain⟨F,e,z,e2,R,hf,q⟩:=h
  unfold aN at hf
  obtain⟨⟨x,e1⟩,h1,hf⟩:=Option.bind_eq_some_iff.mp hf
  obtain⟨z',h3,hf⟩:=Option.map_eq_some_iff.mp hf
  cases hf
  refine⟨F,e,x,_,R,h1,fun F1 H1 vs X1 R1 A1=>?_⟩
  refine ho σ H F1 H1 _ x _ vs Q R1 A1 h3 fun F3 H3 w X3 R3 A3=>?_
  exact q F3 H3 w (X1.trans X3) R3 (A3.weak X1.dom)
theorem vI{x:Str}{p pos:Pos}{id:String}{r:List V→Hp→VK→Prop}{g:En→List Rv→Option Rv}(hc:ce X (.builtin id) r)(ho:cB K r g)(hg:Gl X x)(hm:X.mg x=none)(hv:bootBuiltins x=some (.builtin id))(ha:PA X (a::es) (fA K fs))(hn:x≠"__name__")(hdb:(x==("__debug__":Str))=false)
    (he:starEach (a::es) X.env=(false,eval a X.env)::starEach es X.env)(hpl:(backTo pos (starEach es X.env)).any (·.1)=false):PE X (.Call (.Name x p) (a::es) [] pos) (fE K (aN g fs)):=(pj hc hg hm hv ha hn hdb he hpl).mono fun _ _ _ h=>pQ ho h
theorem sS{x:Str}{p pos:Pos}{T:String}{r:List V→Hp→VK→Prop}{g:En→List Rv→Option Rv}(hc:ce X (.type T) r)(ho:cB K r g)(hg:Gl X x)(hm:X.mg x=none)(hv:bootBuiltins x=some (.type T))(ha:PA X (a::es) (fA K fs))(hn:x≠"__name__")(hdb:(x==("__debug__":Str))=false)
    (he:starEach (a::es) X.env=(false,eval a X.env)::starEach es X.env)(hpl:(backTo pos (starEach es X.env)).any (·.1)=false):PE X (.Call (.Name x p) (a::es) [] pos) (fE K (aN g fs)):=(sO hc hg hm hv ha hn hdb he hpl).mono fun _ _ _ h=>pQ ho h
end
end L2
namespace L2
open PySem PySem.Spec PyProof.Rows
mutual
theorem DA.reads{X:Cx}{pins:List (Addr × Obj)}{σ:L2.St}{H:Hp}{s:Shared}(I:au X pins σ H s):∀{d:PyData} {v:V} {u:Value},d.canLay0=true→DA X.K H d v→bF v u→∃as,Reads s.heap u d as
  | .none,_,_,_,q,r=>by
    simp only [DA] at q;subst q;cases r;exact⟨_,.none⟩
  | .bool b,_,_,_,q,r=>by
    simp only [DA] at q;subst q;cases r;exact⟨_,.bool b⟩
  | .int i,_,_,_,q,r=>by
    simp only [DA] at q;subst q;obtain⟨t,rfl⟩:=r;exact⟨_,.int i t⟩
  | .str x,_,_,_,q,r=>by
    simp only [DA] at q;subst q;obtain⟨t,rfl⟩:=r;exact⟨_,.str x t⟩
  | .tuple ds,_,_,c,q,r=>by
    simp only [DA] at q
    obtain⟨a,xs,e,hs,rr⟩:=q
    subst e;cases r
    obtain⟨its,rv,⟨o,ho,hc,n,hd⟩,hz⟩:=I.tuple hs
    obtain⟨as,q⟩:=az.reads I (by simpa [PyData.canLay0] using c) rr rv
    exact⟨_,.tuple ho hc hd q⟩
  | .list ds,_,_,c,q,r=>by
    simp only [DA] at q
    obtain⟨a,xs,e,hs,rr⟩:=q
    subst e;cases r
    obtain⟨its,rv,ht,hz⟩:=I.list hs
    obtain⟨o,ho,hc,n,hd⟩:=ht.isList
    obtain⟨as,q⟩:=az.reads I (by simpa [PyData.canLay0] using c) rr rv
    exact⟨_,.list ho hc hd q⟩
  | .dict _,_,_,c,_,_=>by simp [PyData.canLay0] at c
theorem az.reads{X:Cx}{pins:List (Addr × Obj)}{σ:L2.St}{H:Hp}{s:Shared}(I:au X pins σ H s):∀{ds:List PyData} {xs:List V} {us:List Value},PyData.canLayAll0 ds=true→az X.K H ds xs→aE xs us→∃as,ReadsAll s.heap us ds as
  | [],_,_,_,q,r=>by
    simp only [az] at q;subst q;cases r;exact⟨_,.nil⟩
  | d::ds,_,_,c,q,r=>by
    simp only [az] at q
    simp only [PyData.canLayAll0,Bool.and_eq_true] at c
    obtain⟨x,rr,e,a,b⟩:=q
    subst e
    cases r with
    | cons p p'=>
      obtain⟨as,q1⟩:=DA.reads I c.1 a p
      obtain⟨bs,q2⟩:=az.reads I c.2 b p'
      exact⟨_,.cons q1 q2⟩
end
def fB(e:En):Rv→Option PyData
  | .d x=>some x
  | .l xs=>some (.list xs)
  | .s i=>match e[i]? with
    | some (some (.l xs))=>some (.list xs)
    | _=>none
theorem i_{K:PySem.W.Frag}{σ:L2.St}{H0 F H:Hp}{e:En}{r:Rv}{v:V}{d:PyData}(R:aW K F H σ e)(h:cf K σ H0 F H e r v)(q:fB e r=some d):DA K H d v:=by
  cases r with
  | d x=>cases q;exact DA.mono R.sm h
  | l xs=>
    cases q
    obtain⟨l,vs,rfl,h1,h2,h3,h4,_⟩:=h
    exact dD.mpr ⟨l,vs,rfl,.inl (.inl h3),az.mono R.sm h4⟩
  | s i=>
    obtain⟨h1,ys,h2⟩:=h
    simp only [fB,h2] at q
    cases q
    obtain⟨l,vs,e1,e2,e3,e4⟩:=R.own i _ h2
    rw [h1] at e1;cases e1
    exact dD.mpr ⟨l,vs,rfl,.inl (.inl e3),az.mono R.sm e4⟩
section
variable{X:Cx}{K:PySem.W.Frag}
def cR:Rv→Option Int
  | .d (.int i)=>some i
  | _=>none
theorem cw{σ:L2.St}{H0 F H:Hp}{e:En}{r:Rv}{v:V}{i:Int}(h:cf K σ H0 F H e r v)(q:cR r=some i):v=.int i:=by
  unfold cR at q
  split at q
  · cases q;exact ck.mp (show DA K F (.int _) v from h)
  · cases q
theorem lP{σ:L2.St}{H0 F H:Hp}{e:En}{i:Int}:cf K σ H0 F H e (.d (.int i)) (.int i):=(ck (K:=K) (F:=F)).mpr rfl
def gI(C:Int→Int→Bool)(f:Int→Int→PyData):En→Rv→Rv→Option Rv:=fun _ x y=>(cR x).bind fun i=>(cR y).bind fun j=>if C i j=true then some (.d (f i j)) else none
theorem ph{C:Int→Int→Prop}{c:Int→Int→Bool}{g:Int→Int→V}{f:Int→Int→PyData}(hc:∀i j,c i j=true→C i j)(hf:∀F i j,DA K F (f i j) (g i j)):fY K (rI C g) (gI c f):=by
  intro σ H0 F H e x y z v u Q R A B hg q
  unfold gI at hg
  obtain⟨i,h1,hg⟩:=Option.bind_eq_some_iff.mp hg
  obtain⟨j,h2,hg⟩:=Option.bind_eq_some_iff.mp hg
  split at hg
  case isFalse=>cases hg
  case isTrue hh=>
  cases hg
  exact⟨i,j,cw A h1,cw B h2,hc i j hh,q F H _ (dO.refl _ _ _ _) R (hf F i j)⟩
theorem iP{g:Int→Int→V}{f:Int→Int→PyData}(hf:∀F i j,DA K F (f i j) (g i j)):fY K (sT g) (gI (fun _ _=>true) f):=by
  intro σ H0 F H e x y z v u Q R A B hg q
  obtain⟨i,j,h1,h2,h3,h4⟩:=ph (K:=K) (C:=fun _ _=>True) (c:=fun _ _=>true) (g:=g) (f:=f) (fun _ _ _=>trivial) hf σ H0 F H e x y z v u Q R A B hg q
  exact⟨i,j,h1,h2,h4⟩
def wH(g g':En→Rv→Rv→Option Rv):En→Rv→Rv→Option Rv:=fun e x y=>(g e x y).or (g' e x y)
theorem fY.or{r r':R2}{g g':En→Rv→Rv→Option Rv}(h:fY K r g)(h':fY K r' g'):fY K (fun x y H Q=>r x y H Q∨r' x y H Q) (wH g g'):=by
  intro σ H0 F H e x y z v u Q R A B hg q
  unfold wH at hg
  cases e1:g e x y with
  | some w=>
    rw [e1] at hg
    cases hg
    exact .inl (h σ H0 F H e x y _ v u Q R A B e1 q)
  | none=>
    rw [e1] at hg
    exact .inr (h' σ H0 F H e x y _ v u Q R A B hg q)
def uq:=gI (fun _ _=>true) fun i j=>.int (i+j)
def jN:=gI (fun _ _=>true) fun i j=>.int (i - j)
def gD(i:Int):Bool:=decide (-(2 ^ 64) < i)&&decide (i < 2 ^ 64)
def BX(n:Nat)(i:Int):Bool:=decide (i.natAbs < 2 ^ n)
theorem f_{n:Nat}{i:Int}:BX n i=true↔ Bt n i:=by unfold BX Bt;exact decide_eq_true_iff
def iN(i j:Int):Bool:=gD i || gD j || (BX 4000 i&&BX 4000 j)
def uG:=gI iN fun i j=>.int (i*j)
def fH:=gI (fun _ j=>j != 0&&BX 8000 j) fun i j=>.int (i.fdiv j)
def bg:=gI (fun _ j=>j != 0) fun i j=>.int (i.fmod j)
def vE(i j:Int):Bool:=decide (0≤j)&&decide (j≤1000000)&&gD i
def qk:=gI vE fun i j=>.int (i ^ j.toNat)
theorem iV{i:Int}(h:gD i=true): -(2 ^ 64) < i∧i < 2 ^ 64:=by
  unfold gD at h
  rw [Bool.and_eq_true,decide_eq_true_iff,decide_eq_true_iff] at h
  exact h
theorem xZ{i j:Int}(h:vE i j=true):zp i j:=by
  unfold vE at h
  rw [Bool.and_eq_true,Bool.and_eq_true,decide_eq_true_iff,decide_eq_true_iff] at h
  have:=iV h.2
  exact⟨h.1.1,h.1.2,by lia⟩
def qT(i j:Int):Prop:=wK i j∨yG i j
theorem xK:fm X (binaryOp .Mult) (rI qT fun i j=>.int (i*j)):=by
  intro pins s σ H x y v u Q I rx ry h
  obtain⟨i,j,e1,e2,h1,q⟩:=h
  rcases h1 with h1 | h1
  · exact An pins s σ H x y v u Q I rx ry ⟨i,j,e1,e2,h1,q⟩
  · exact xM pins s σ H x y v u Q I rx ry ⟨i,j,e1,e2,h1,q⟩
theorem xw{i j:Int}(h:iN i j=true):qT i j:=by
  unfold iN at h
  rw [Bool.or_eq_true,Bool.or_eq_true,Bool.and_eq_true] at h
  rcases h with (h | h) | h
  · exact .inl (.inl (iV h))
  · exact .inl (.inr (iV h))
  · exact .inr ⟨f_.mp h.1,f_.mp h.2⟩
theorem zY:fY K (rI qT fun i j=>.int (i*j)) uG:=ph (fun _ _ h=>xw h) fun _ _ _=>ck.mpr rfl
theorem C2:fY K (sT fun i j=>.int (i - j)) jN:=iP fun _ _ _=>ck.mpr rfl
theorem zD:fY K (rI yF fun i j=>.int (i.fdiv j)) fH:=ph (fun i j h=>by
  rw [Bool.and_eq_true] at h
  exact⟨by simpa using h.1,f_.mp h.2⟩) fun _ _ _=>ck.mpr rfl
theorem Co:fY K (rI (fun _ j=>j≠0) fun i j=>.int (i.fmod j)) bg:=ph (fun i j h=>by simpa using h) fun _ _ _=>ck.mpr rfl
theorem CF:fY K (rI zp fun i j=>.int (i ^ j.toNat)) qk:=ph (fun _ _ h=>xZ h) fun _ _ _=>ck.mpr rfl
def oQ:En→Rv→Rv→Option Rv:=fun e x y=>match cx e x,cx e y with
  | some (false,xs),some (false,ys)=>if xs.length+ys.length≤1000000 then some (.d (.tuple (xs++ys))) else none
  | _,_=>none
theorem zz:fY K (vK K) oQ:=by
  intro σ H0 F H e x y z v u Q R A B hg q
  unfold oQ at hg
  match h1:cx e x,h2:cx e y,hg with
  | some (false,xs),some (false,ys),hg=>
    obtain⟨p,vs,rfl,d1,s1⟩:=bT R A h1
    obtain⟨p',us,rfl,d2,s2⟩:=bT R B h2
    dsimp only at hg
    split at hg
    case isFalse=>cases hg
    case isTrue hl=>
    cases hg
    have l1:=d1.len
    have l2:=d2.len
    have sl:sizeLine=16777216:=sizeLine_eq
    refine⟨p,p',vs,us,rfl,rfl,s1,s2,by lia,fun t H' sm hT=>?_⟩
    obtain⟨F',R',X',hF⟩:=R.growT sm hT
    exact q F' H' _ X' R' (bX.mpr ⟨t,_,rfl,hF,(d1.append d2).mono X'.sf⟩)
def sD(e:En):Rv→Option (List PyData)
  | .l xs=>some xs
  | .s i=>match e[i]? with
    | some (some (.l xs))=>some xs
    | _=>none
  | _=>none
theorem nF{σ:L2.St}{H0 F H:Hp}{e:En}{r:Rv}{v:V}(R:aW K F H σ e)(h:cf K σ H0 F H e r v){xs:List PyData}(q:sD e r=some xs):∃p vs,v=.ref p∧F p=none∧H p=some (.lst vs)∧az K F xs vs:=by
  cases r with
  | d x=>cases q
  | l ys=>
    cases q
    obtain⟨l,vs,e1,h1,h2,h3,h4,_⟩:=h
    exact⟨l,vs,e1,h2,h3,h4⟩
  | s i=>
    obtain⟨h1,ys,h2⟩:=h
    simp only [sD,h2] at q
    cases q
    obtain⟨l,vs,e1,e2,e3,e4⟩:=R.own i _ h2
    rw [h1] at e1;cases e1
    exact⟨l,vs,rfl,e2,e3,e4⟩
def rj:En→Rv→Rv→Option Rv:=fun e x y=>(sD e x).bind fun xs=>(sD e y).bind fun ys=>if xs.length+ys.length≤1000000 then some (.l (xs++ys)) else none
theorem zy:fY K AW rj:=by
  intro σ H0 F H e x y z v u Q R A B hg q
  unfold rj at hg
  obtain⟨xs,h1,hg⟩:=Option.bind_eq_some_iff.mp hg
  obtain⟨ys,h2,hg⟩:=Option.bind_eq_some_iff.mp hg
  split at hg
  case isFalse=>cases hg
  case isTrue hl=>
  cases hg
  obtain⟨p,vs,rfl,f1,s1,d1⟩:=nF R A h1
  obtain⟨p',us,rfl,f2,s2,d2⟩:=nF R B h2
  have l1:=d1.len
  have l2:=d2.len
  have sl:sizeLine=16777216:=sizeLine_eq
  refine⟨p,p',vs,us,rfl,rfl,s1,s2,by lia,fun t ht=>?_⟩
  obtain⟨R3,X3,hF,no⟩:=R.newL (vs:=vs++us) ht
  exact q _ _ _ X3 R3 ⟨t,_,rfl,ht,hF,ay,d1.append d2,no⟩
def c9:En→Rv→Rv→Option Rv:=wH uq (wH oQ rj)
def ze(K:PySem.W.Frag):R2:=fun x y H Q=>sT (fun i j=>.int (i+j)) x y H Q∨(vK K x y H Q∨AW x y H Q)
theorem xF:fm X (binaryOp .Add) (ze X.K):=Ae.or (xG.or Af)
theorem BQ:fY K (ze K) c9:=fY.or (iP fun _ _ _=>ck.mpr rfl) (fY.or zz zy)
def uI:En→Rv→Rv→Option Rv:=fun e x y=>match cx e x,cR y with
  | some (false,[d]),some k=>if 0≤k∧k≤100000 then some (.d (.tuple (List.replicate k.toNat d))) else none
  | _,_=>none
theorem az.rep{F:Hp}{d:PyData}{v:V}(h:DA K F d v):∀n,az K F (List.replicate n d) (List.replicate n v)
  | 0=>az.nil
  | n+1=>az.cons h (az.rep h n)
theorem A4:fY K (vM K) uI:=by
  intro σ H0 F H e x y z v u Q R A B hg q
  unfold uI at hg
  match h1:cx e x,h2:cR y,hg with
  | some (false,[d]),some k,hg=>
    obtain⟨p,vs,rfl,d1,s1⟩:=bT R A h1
    dsimp only at hg
    split at hg
    case isFalse=>cases hg
    case isTrue hl=>
    cases hg
    have hd:=d1
    simp only [az] at hd
    obtain⟨w,r,e1,hw,e2⟩:=hd
    subst e2 e1
    refine⟨p,k,w,rfl,cw B h2,s1,hl.1,hl.2,fun t H' sm hT=>?_⟩
    obtain⟨F',R',X',hF⟩:=R.growT sm hT
    exact q F' H' _ X' R' (bX.mpr ⟨t,_,rfl,hF,(az.rep hw _).mono X'.sf⟩)
def uH:En→Rv→Rv→Option Rv:=fun e x y=>(sD e x).bind fun xs=>(cR y).bind fun k=>if -100000≤k∧k≤100000∧xs.length*k.toNat≤1000000 then some (.l (List.replicate k.toNat xs).flatten) else none
theorem az.reps{F:Hp}{ds:List PyData}{vs:List V}(h:az K F ds vs):∀n,az K F (List.replicate n ds).flatten (List.replicate n vs).flatten
  | 0=>az.nil
  | n+1=>by simpa [List.replicate_succ] using az.append h (az.reps h n)
theorem A0:fY K AZ uH:=by
  intro σ H0 F H e x y z v u Q R A B hg q
  unfold uH at hg
  obtain⟨xs,h1,hg⟩:=Option.bind_eq_some_iff.mp hg
  obtain⟨k,h2,hg⟩:=Option.bind_eq_some_iff.mp hg
  split at hg
  case isFalse=>cases hg
  case isTrue hl=>
  cases hg
  obtain⟨p,vs,rfl,f1,s1,d1⟩:=nF R A h1
  have l1:=d1.len
  have sl:sizeLine=16777216:=sizeLine_eq
  refine⟨p,k,vs,rfl,cw B h2,s1,by lia,by lia,by rw [←l1];lia,fun t ht=>?_⟩
  obtain⟨R3,X3,hF,no⟩:=R.newL (vs:=(List.replicate k.toNat vs).flatten) ht
  exact q _ _ _ X3 R3 ⟨t,_,rfl,ht,hF,ay,az.reps d1 _,no⟩
def iF:En→Rv→Rv→Option Rv:=wH uG (wH uI uH)
def zg(K:PySem.W.Frag):R2:=fun x y H Q=>rI qT (fun i j=>.int (i*j)) x y H Q∨(vM K x y H Q∨AZ x y H Q)
theorem xJ:fm X (binaryOp .Mult) (zg X.K):=xK.or (xN.or Aq)
theorem Cp:fY K (zg K) iF:=fY.or zY (fY.or A4 A0)
def wG:=gI (fun _ _=>true) fun i j=>.bool (decide (i < j))
def ET:=gI (fun _ _=>true) fun i j=>.bool (decide (i≤j))
def zH:=gI (fun _ _=>true) fun i j=>.bool (decide (j < i))
def zG:=gI (fun _ _=>true) fun i j=>.bool (decide (j≤i))
theorem DX:fY K (sT fun i j=>.bl (decide (i < j))) wG:=iP fun _ _ _=>cM.mpr rfl
theorem DN:fY K (sT fun i j=>.bl (decide (j < i))) zH:=iP fun _ _ _=>cM.mpr rfl
theorem DM:fY K (sT fun i j=>.bl (decide (j≤i))) zG:=iP fun _ _ _=>cM.mpr rfl
def AX(K:PySem.W.Frag)(neg:Bool):R2:=fun x y H Q=>∃a b,DA K H a x∧DA K H b y∧SeqAt.shaped a=true∧SeqAt.shaped b=true∧Q (.bl (if neg then !PyData.eqv a b else PyData.eqv a b)) H
theorem Ag{k:Nat}(hr:bW k X.A):fm X (compareOp .Eq) (AX X.K false):=by
  intro pins s σ H x y v u Q I rx ry h
  obtain⟨a,b,ha,hb,s1,s2,q⟩:=h
  obtain⟨as,ra⟩:=DA.reads I (SeqAt.canLay_of_shaped s1) ha rx
  obtain⟨bs,rb⟩:=DA.reads I (SeqAt.canLay_of_shaped s2) hb ry
  exact SeqAt.compareEq_shaped ra rb s1 s2 hr.units ⟨.bl _,H,I,rfl,q⟩
theorem Ao{k:Nat}(hr:bW k X.A):fm X (compareOp .NotEq) (AX X.K true):=by
  intro pins s σ H x y v u Q I rx ry h
  obtain⟨a,b,ha,hb,s1,s2,q⟩:=h
  obtain⟨as,ra⟩:=DA.reads I (SeqAt.canLay_of_shaped s1) ha rx
  obtain⟨bs,rb⟩:=DA.reads I (SeqAt.canLay_of_shaped s2) hb ry
  exact SeqAt.compareNe_shaped ra rb s1 s2 hr.units ⟨.bl _,H,I,rfl,q⟩
def c_(neg:Bool):En→Rv→Rv→Option Rv:=fun e x y=>(fB e x).bind fun a=>(fB e y).bind fun b=>if (SeqAt.shaped a&&SeqAt.shaped b)=true then some (.d (.bool (if neg then !PyData.eqv a b else PyData.eqv a b))) else none
theorem yP{neg:Bool}:fY K (AX K neg) (c_ neg):=by
  intro σ H0 F H e x y z v u Q R A B hg q
  unfold c_ at hg
  obtain⟨a,h1,hg⟩:=Option.bind_eq_some_iff.mp hg
  obtain⟨b,h2,hg⟩:=Option.bind_eq_some_iff.mp hg
  split at hg
  case isFalse=>cases hg
  case isTrue hl=>
  cases hg
  rw [Bool.and_eq_true] at hl
  exact⟨a,b,i_ R A h1,i_ R B h2,hl.1,hl.2,q F H _ (dO.refl _ _ _ _) R dj⟩
def AY(K:PySem.W.Frag)(neg:Bool):R2:=fun x y H Q=>∃a xs,DA K H a x∧(DA K H (.list xs) y∨DA K H (.tuple xs) y)∧a.canLay0=true∧a.depth≤60∧PyData.canLayAll0 xs=true∧Q (.bl (if neg then !(xs.any fun y=>PyData.eqv y a) else xs.any fun y=>PyData.eqv y a)) H
theorem Aj{k:Nat}(hr:bW k X.A):fm X (compareOp .In) (AY X.K false):=by
  intro pins s σ H x y v u Q I rx ry h
  obtain⟨a,xs,ha,hb,s1,s2,s3,q⟩:=h
  obtain⟨as,ra⟩:=DA.reads I s1 ha rx
  have hu:=hr.units
  rcases hb with hb | hb
  · obtain⟨bs,rb⟩:=DA.reads I (by simpa [PyData.canLay0] using s3) hb ry
    exact PySem.SeqAt.in_list_reads rb ra s3 s1 (by lia) ⟨.bl _,H,I,rfl,q⟩
  · obtain⟨bs,rb⟩:=DA.reads I (by simpa [PyData.canLay0] using s3) hb ry
    exact PySem.SeqAt.in_tuple_reads rb ra s3 s1 (by lia) ⟨.bl _,H,I,rfl,q⟩
theorem sM{k:Nat}(hr:bW k X.A):fm X (compareOp .NotIn) (AY X.K true):=by
  intro pins s σ H x y v u Q I rx ry h
  obtain⟨a,xs,ha,hb,s1,s2,s3,q⟩:=h
  obtain⟨as,ra⟩:=DA.reads I s1 ha rx
  have hu:=hr.units
  rcases hb with hb | hb
  · obtain⟨bs,rb⟩:=DA.reads I (by simpa [PyData.canLay0] using s3) hb ry
    exact PySem.SeqAt.notIn_list_reads rb ra s3 s1 (by lia) ⟨.bl _,H,I,rfl,q⟩
  · obtain⟨bs,rb⟩:=DA.reads I (by simpa [PyData.canLay0] using s3) hb ry
    exact PySem.SeqAt.notIn_tuple_reads rb ra s3 s1 (by lia) ⟨.bl _,H,I,rfl,q⟩
def jF(neg:Bool):En→Rv→Rv→Option Rv:=fun e x y=>(fB e x).bind fun a=>(cx e y).bind fun p=>if (a.canLay0&&decide (a.depth≤60)&&PyData.canLayAll0 p.2)=true then some (.d (.bool (if neg then !(p.2.any fun y=>PyData.eqv y a) else p.2.any fun y=>PyData.eqv y a))) else none
theorem B_{neg:Bool}:fY K (AY K neg) (jF neg):=by
  intro σ H0 F H e x y z v u Q R A B hg q
  unfold jF at hg
  obtain⟨a,h1,hg⟩:=Option.bind_eq_some_iff.mp hg
  obtain⟨⟨b,xs⟩,h2,hg⟩:=Option.bind_eq_some_iff.mp hg
  split at hg
  case isFalse=>cases hg
  case isTrue hl=>
  cases hg
  rw [Bool.and_eq_true,Bool.and_eq_true,decide_eq_true_iff] at hl
  obtain⟨p,vs,rfl,d1,s1⟩:=bT R B h2
  refine⟨a,xs,i_ R A h1,?_,hl.1.1,hl.1.2,hl.2,q F H _ (dO.refl _ _ _ _) R dj⟩
  cases b with
  | true=>exact .inl (dD.mpr ⟨p,vs,rfl,s1,d1.mono R.sm⟩)
  | false=>exact .inr (bX.mpr ⟨p,vs,rfl,s1,d1.mono R.sm⟩)
def nE:PyData→Bool
  | .none=>true
  | _=>false
theorem r_{F:Hp}{d:PyData}{v:V}(h:DA K F d v):decide (v=.non)=nE d:=by
  cases d with
  | none=>rw [h8.mp h];rfl
  | bool b=>rw [cM.mp h];rfl
  | int b=>rw [ck.mp h];rfl
  | str b=>rw [qe.mp h];rfl
  | tuple b=>obtain⟨a,_,e,_⟩:=bX.mp h;rw [e];rfl
  | list b=>obtain⟨a,_,e,_⟩:=dD.mp h;rw [e];rfl
  | dict b=>simp only [DA] at h;obtain⟨a,m,rfl,_⟩:=h;rfl
def zJ(neg:Bool):En→Rv→Rv→Option Rv:=fun e x y=>(fB e x).bind fun a=>match y with
  | .d .none=>some (.d (.bool (if neg then !nE a else nE a)))
  | _=>none
def zI(neg:Bool):En→Rv→Rv→Option Rv:=fun e x y=>(ff x).bind fun a=>(ff y).bind fun b=>some (.d (.bool (if neg then !(a==b) else a==b)))
theorem Cb:fY K (fun x y H Q=>y=.non∧Q (.bl (decide (x=.non))) H) (zJ false):=by
  intro σ H0 F H e x y z v u Q R A B hg q
  unfold zJ at hg
  obtain⟨a,h1,hg⟩:=Option.bind_eq_some_iff.mp hg
  split at hg
  · cases hg
    refine⟨h8.mp (show DA K F .none u from B),?_⟩
    rw [r_ (i_ R A h1)]
    exact q F H _ (dO.refl _ _ _ _) R dj
  · cases hg
theorem Ca:fY K (fun x y H Q=>∃b c,x=.bl b∧y=.bl c∧Q (.bl (b==c)) H) (zI false):=by
  intro σ H0 F H e x y z v u Q R A B hg q
  unfold zI at hg
  obtain⟨a,h1,hg⟩:=Option.bind_eq_some_iff.mp hg
  obtain⟨b,h2,hg⟩:=Option.bind_eq_some_iff.mp hg
  cases hg
  exact⟨a,b,eF A h1,eF B h2,q F H _ (dO.refl _ _ _ _) R dj⟩
def xg:En→Rv→Rv→Option Rv:=wH (zJ false) (zI false)
def CP:R2:=fun x y H Q=>(y=.non∧Q (.bl (decide (x=.non))) H)∨∃b c,x=.bl b∧y=.bl c∧Q (.bl (b==c)) H
theorem Ak:fm X (compareOp .Is) CP:=Am.or Al
theorem DS:fY K CP xg:=fY.or Cb Ca
def cC:En→Rv→Rv→Option Rv:=fun e x y=>(cx e x).bind fun p=>(cR y).bind fun i=>(atI p.2 i).map .d
def CQ(K:PySem.W.Frag):R2:=fun x y H Q=>CS K x y H Q∨CT K x y H Q
theorem DT:wM X (CQ X.K):=xm.or zQ
theorem az.atI{F:Hp}{ds:List PyData}{vs:List V}(h:az K F ds vs){i:Int}{d:PyData}(q:atI ds i=some d):∃v,L2.atI vs i=some v∧DA K F d v:=by
  unfold L2.atI at q ⊢
  obtain⟨j,h1,h2⟩:=Option.bind_eq_some_iff.mp q
  obtain⟨v,h3,h4⟩:=h.get h2
  exact⟨v,by rw [←h.len,h1];exact h3,h4⟩
theorem DU:fY K (CQ K) cC:=by
  intro σ H0 F H e x y z v u Q R A B hg q
  unfold cC at hg
  obtain⟨⟨b,xs⟩,h1,hg⟩:=Option.bind_eq_some_iff.mp hg
  obtain⟨i,h2,hg⟩:=Option.bind_eq_some_iff.mp hg
  obtain⟨d,h3,hg⟩:=Option.map_eq_some_iff.mp hg
  cases hg
  obtain⟨p,vs,rfl,d1,s1⟩:=bT R A h1
  obtain⟨w,h4,h5⟩:=d1.atI h3
  have fin:=q F H w (dO.refl _ _ _ _) R h5
  cases b with
  | true=>exact .inl ⟨p,vs,i,w,rfl,cw B h2,s1,h4,fin⟩
  | false=>exact .inr ⟨p,vs,i,w,rfl,cw B h2,s1,h4,fin⟩
end
end L2
namespace HT
open PySem PySem.Spec PyProof.Rows
section
variable{prog:Program}{w:World}{A:Around}{E:Value→Shared→Prop}{s:Shared}
theorem getItem_tuple_all{t sl:Addr}{items:Array Value}{vl vu:Value}{lo hi:Option Int}{Q:Value→Shared→Prop}(ht:IsTup s.heap t items)(hs:s.heap.IsSliceOf sl vl vu .none)(pl:IsPart vl lo)(pu:IsPart vu hi)
    (hw:sIx items.size 0 lo=0∧sIx items.size items.size hi=items.size)
    (h:Q (.ref t) s):wpAny (model prog w) A (getItem (.ref t) (.ref sl)) Q E s:=by
  obtain⟨os,hos,hcs,hds⟩:=id hs
  have hTs:s.TypeIs (.ref sl) "slice":=⟨os,hos,hcs⟩
  unfold getItem
  try with_reducible refine wpAny_holding ?_
  first | refine wpAny_bind (wpAny_pure ?_) | skip
  refine wpAny_bind (wpAny_sequenceKey ht.typeIs (by decide) ?_)
  refine wpAny_bind (wpAny_callSpecial?_slot (name:=Str.ofString "__getitem__") ht.typeIs PyProof.Rows.slot_tuple_getitem
    (wpAny_call_entry PyProof.Rows.slot_tuple_getitem ht.typeIs entry_tuple_getitem ?_ (args_tuple_getitem _ _)))
  show wpAny _ _ (Builtin.Tuple.tupleItemsOf (.ref t) >>= _) _ _ s
  refine wpAny_bind (tupleItemsOf_ ht ?_)
  refine wpAny_bind (wpAny_typeOf hTs ?_)
  rw [if_pos (by decide)]
  refine wpAny_bind (fX hs pl pu ?_)
  have hno:(((sIx items.size 0 lo:Nat):Int)==0&&(1:Int)==1&&(sIx items.size items.size hi - sIx items.size 0 lo)==items.size)=true:=by
    rw [hw.1,hw.2];simp
  show wpAny _ _ (if (((sIx items.size 0 lo:Nat):Int)==0&&(1:Int)==1&&(sIx items.size items.size hi - sIx items.size 0 lo)==items.size)=true then _ else _) _ _ s
  rw [if_pos hno]
  unfold Builtin.Tuple.tupleIsExact
  refine wpAny_bind (wpAny_bind (wpAny_typeOf ht.typeIs (wpAny_pure ?_)))
  rw [if_pos (by decide)]
  exact wpAny_bind (wpAny_rule (wpAny_pure ⟨_,rfl,wpAny_pure h⟩))
end
end HT
namespace L2
open PySem PySem.Spec PyProof.Rows
section
variable{X:Cx}{K:PySem.W.Frag}{a:Expr}{fa:FE}{lo hi:Option Expr}{pos p2:Pos}
def cutD(xs:List PyData)(lo hi:Option Int):List PyData:=(xs.drop (HT.sIx xs.length 0 lo)).take (HT.sIx xs.length xs.length hi - HT.sIx xs.length 0 lo)
def CW(K:PySem.W.Frag):V→Option Int→Option Int→Hp→VK→Prop:=fun x lo hi H Q=>∃a xs,x=.ref a∧cc K H a xs∧
  (HT.sIx xs.length 0 lo=0∧HT.sIx xs.length xs.length hi=xs.length)∧Q (.ref a) H
theorem yl:wO X (CW X.K):=by
  intro pins s σ H x v vl vu lo hi sl Q I rx hs pl pu h
  obtain⟨a,xs,rfl,hx,hw,q⟩:=h
  cases rx
  obtain⟨its,r,ht,hz⟩:=I.tuple hx
  have hlen:its.toArray.size=xs.length:=by rw [List.size_toArray];exact r.length.symm
  refine⟨"tuple",_,PyProof.Rows.slot_tuple_getitem.lookup,ht.typeIs,?_⟩
  exact HT.getItem_tuple_all ht hs pl pu (by rw [hlen];exact hw) ⟨.ref a,H,I,rfl,q⟩
def D4(K:PySem.W.Frag):V→Option Int→Option Int→Hp→VK→Prop:=fun x lo hi H Q=>CV K x lo hi H Q∨(CW K x lo hi H Q∨CU K x lo hi H Q)
theorem D5:wO X (D4 X.K):=Bc.or (yl.or yk)
abbrev FO:=En→Option (Option Int × En)
def fO(K:PySem.W.Frag)(f:FO):TO:=fun σ H Q=>∃F e o e',aW K F H σ e∧f e=some (o,e')∧∀F' H',dO σ F H e F' H' e'→aW K F' H' σ e'→Q o H'
theorem PO.mono{e:Option Expr}{t t':TO}(h:PO X e t)(m:∀σ H Q,t' σ H Q→t σ H Q):PO X e t':=fun pins s σ H Q I q=>h pins s σ H Q I (m σ H Q q)
def jk:FO:=fun e=>some (none,e)
def iy(f:FE):FO:=fun e=>(f e).bind fun p=>(cR p.1).map fun i=>(some i,p.2)
theorem ij:PO X none (fO K jk):=xW.mono fun σ H Q h=>by
  obtain⟨F,e,o,e',R,hf,q⟩:=h
  cases hf
  exact q F H (dO.refl _ _ _ _) R
theorem ik(h:PE X a (fE K fa)):PO X (some a) (fO K (iy fa)):=(xX h).mono fun σ H Q h=>by
  obtain⟨F,e,o,e',R,hf,q⟩:=h
  unfold iy at hf
  obtain⟨⟨x,e1⟩,h1,hf⟩:=Option.bind_eq_some_iff.mp hf
  obtain⟨i,h2,hf⟩:=Option.map_eq_some_iff.mp hf
  cases hf
  exact⟨F,e,x,_,R,h1,fun F1 H1 v X1 R1 A1=>⟨i,cw A1 h2,q F1 H1 X1 R1⟩⟩
def DL(e:En)(x:Rv)(lo hi:Option Int):Option Rv:=(cx e x).map fun p=>if p.1=true then .l (cutD p.2 lo hi) else .d (.tuple (cutD p.2 lo hi))
def wy(fa:FE)(fl fh:FO):FE:=fun e=>(fa e).bind fun p=>(fl p.2).bind fun l=>(fh l.2).bind fun h=>(DL h.2 p.1 l.1 h.1).map fun z=>(z,h.2)
theorem t_{F:Hp}{ds:List PyData}{vs:List V}(h:az K F ds vs)(lo hi:Option Int):az K F (cutD ds lo hi) (ma vs lo hi):=by
  unfold cutD ma
  rw [h.len]
  exact(h.drop _).take _
theorem wW{α:Type}{xs:List α}{lo hi:Option Int}(h:HT.sIx xs.length 0 lo=0∧HT.sIx xs.length xs.length hi=xs.length):(xs.drop (HT.sIx xs.length 0 lo)).take (HT.sIx xs.length xs.length hi - HT.sIx xs.length 0 lo)=xs:=by
  rw [h.1,h.2];simp
theorem vJ{fl fh:FO}(he:PE X a (fE X.K fa))(hl:PO X lo (fO X.K fl))(hh:PO X hi (fO X.K fh)):PE X (.Subscript a (.Slice lo hi none p2) pos) (fE X.K (wy fa fl fh)):=(vt D5 he hl hh).mono fun σ H Q h=>by
  obtain⟨F,e,z,e',R,hf,q⟩:=h
  unfold wy at hf
  obtain⟨⟨x,e1⟩,h1,hf⟩:=Option.bind_eq_some_iff.mp hf
  obtain⟨⟨l,e2⟩,h2,hf⟩:=Option.bind_eq_some_iff.mp hf
  obtain⟨⟨u,e3⟩,h3,hf⟩:=Option.bind_eq_some_iff.mp hf
  obtain⟨z',h4,hf⟩:=Option.map_eq_some_iff.mp hf
  cases hf
  refine⟨F,e,x,e1,R,h1,fun F1 H1 v X1 R1 A1=>⟨F1,e1,l,e2,R1,h2,fun F2 H2 X2 R2=>⟨F2,e2,u,_,R2,h3,fun F3 H3 X3 R3=>?_⟩⟩⟩
  have X12:=X1.trans X2
  have X13:=X12.trans X3
  have A3:=(A1.ext X2).ext X3
  unfold DL at h4
  obtain⟨⟨b,xs⟩,h5,h4⟩:=Option.map_eq_some_iff.mp h4
  obtain⟨p,vs,rfl,d1,s1⟩:=bT R3 A3 h5
  cases b with
  | true=>
    rw [if_pos rfl] at h4;cases h4
    refine .inr (.inr ⟨p,vs,rfl,s1,fun t ht=>?_⟩)
    obtain⟨R4,X4,hF,no⟩:=R3.newL (vs:=ma vs l u) ht
    exact q _ _ _ (X13.trans X4) R4 ⟨t,_,rfl,X13.dom _ ht,hF,ay,t_ d1 l u,no⟩
  | false=>
    rw [if_neg (by simp)] at h4;cases h4
    by_cases hw:HT.sIx vs.length 0 l=0∧HT.sIx vs.length vs.length u=vs.length
    · refine .inr (.inl ⟨p,vs,rfl,s1,hw,?_⟩)
      have e5:cutD xs l u=xs:=by unfold cutD;exact wW (by rw [d1.len];exact hw)
      rw [e5] at q
      obtain⟨F4,R4,X4,hF⟩:=R3.growT (ar.refl _) s1
      exact q _ _ _ (X13.trans X4) R4 (bX.mpr ⟨p,vs,rfl,hF,d1.mono X4.sf⟩)
    · refine .inl ⟨p,vs,rfl,s1,hw,fun t ht=>?_⟩
      obtain⟨R4,X4⟩:=R3.newT (vs:=ma vs l u) ht
      exact q _ _ _ (X13.trans X4) R4 (bX.mpr ⟨t,_,rfl,.inl (.inl ay),(t_ d1 l u).mono X4.sf⟩)
end
section
variable{X:Cx}{K:PySem.W.Frag}
theorem ip{σ:L2.St}{H0 F H:Hp}{e:En}{x:Rv}{vs:List V}(h:du K σ H0 F H e [x] vs):∃v,vs=[v]∧cf K σ H0 F H e x v:=by
  obtain⟨v,ws,rfl,h1,h2⟩:=h
  have h2':ws=[]:=h2
  subst h2'
  exact⟨v,rfl,h1⟩
theorem n_{σ:L2.St}{H0 F H:Hp}{e:En}{x y:Rv}{vs:List V}(h:du K σ H0 F H e [x,y] vs):∃v u,vs=[v,u]∧cf K σ H0 F H e x v∧cf K σ H0 F H e y u:=by
  obtain⟨v,ws,rfl,h1,h2⟩:=h
  obtain⟨u,rfl,h3⟩:=ip h2
  exact⟨v,u,rfl,h1,h3⟩
def g1(g:En→Rv→Option Rv):En→List Rv→Option Rv:=fun e xs=>match xs with
  | [x]=>g e x
  | _=>none
def g2(g:En→Rv→Rv→Option Rv):En→List Rv→Option Rv:=fun e xs=>match xs with
  | [x,y]=>g e x y
  | _=>none
theorem dQ{r:List V→Hp→VK→Prop}{g:En→Rv→Option Rv}(h:BN K (fun v H Q=>r [v] H Q) g):cB K r (g1 g):=by
  intro σ H0 F H e xs z vs Q R A hg q
  unfold g1 at hg
  match xs,hg with
  | [x],hg=>
    obtain⟨v,rfl,h1⟩:=ip A
    exact h σ H0 F H e x z v Q R h1 hg q
theorem qZ{r:List V→Hp→VK→Prop}{g:En→Rv→Rv→Option Rv}(h:fY K (fun v u H Q=>r [v,u] H Q) g):cB K r (g2 g):=by
  intro σ H0 F H e xs z vs Q R A hg q
  unfold g2 at hg
  match xs,hg with
  | [x,y],hg=>
    obtain⟨v,u,rfl,h1,h2⟩:=n_ A
    exact h σ H0 F H e x y z v u Q R h1 h2 hg q
def fK:En→Rv→Option Rv:=fun e x=>(cx e x).map fun p=>.d (.int p.2.length)
theorem Cg:cB K (fun xs H Q=>∃p ys,xs=[.ref p]∧(dP K H p ys∨cc K H p ys)∧Q (.int ys.length) H) (g1 fK):=dQ fun σ H0 F H e x z v Q R A hg q=>by
  obtain⟨⟨b,xs⟩,h5,h4⟩:=Option.map_eq_some_iff.mp hg
  obtain⟨p,vs,rfl,d1,s1⟩:=bT R A h5
  cases h4
  refine⟨p,vs,rfl,?_,?_⟩
  · cases b with
    | true=>exact .inl s1
    | false=>exact .inr s1
  · rw [←d1.len]
    exact q F H _ (dO.refl _ _ _ _) R lP
def sk:En→Rv→Option Rv:=fun _ x=>(cR x).map fun i=>.d (.int (if i < 0 then -i else i))
theorem BP:cB K (fun xs H Q=>∃i,xs=[.int i]∧Q (.int (if i < 0 then -i else i)) H) (g1 sk):=dQ fun σ H0 F H e x z v Q R A hg q=>by
  obtain⟨i,h5,h4⟩:=Option.map_eq_some_iff.mp hg
  cases h4
  exact⟨i,by rw [cw A h5],q F H _ (dO.refl _ _ _ _) R lP⟩
def su:En→Rv→Option Rv:=fun _ x=>match x with
  | .d (.int i)=>some (.d (.int i))
  | .d (.bool k)=>some (.d (.int (if k then 1 else 0)))
  | _=>none
theorem B':cB K (fun xs H Q=>(∃i,xs=[.int i]∧Q (.int i) H)∨∃k,xs=[.bl k]∧Q (.int (if k then 1 else 0)) H) (g1 su):=dQ fun σ H0 F H e x z v Q R A hg q=>by
  unfold su at hg
  split at hg
  · cases hg
    exact .inl ⟨_,by rw [ck.mp (show DA K F (.int _) v from A)],q F H _ (dO.refl _ _ _ _) R lP⟩
  · cases hg
    exact .inr ⟨_,by rw [cM.mp (show DA K F (.bool _) v from A)],q F H _ (dO.refl _ _ _ _) R lP⟩
  · cases hg
def uF:=gI (fun _ _=>true) fun i j=>.int (if j < i then j else i)
def sv:=gI (fun _ _=>true) fun i j=>.int (if j > i then j else i)
theorem Cn:cB K (fun xs H Q=>∃i j,xs=[.int i,.int j]∧Q (.int (if j < i then j else i)) H) (g2 uF):=qZ fun σ H0 F H e x y z v u Q R A B hg q=>by
  obtain⟨i,j,h1,h2,h3⟩:=iP (K:=K) (g:=fun i j=>.int (if j < i then j else i)) (fun _ _ _=>ck.mpr rfl) σ H0 F H e x y z v u Q R A B hg q
  exact⟨i,j,by rw [h1,h2],h3⟩
theorem Cm:cB K (fun xs H Q=>∃i j,xs=[.int i,.int j]∧Q (.int (if j > i then j else i)) H) (g2 sv):=qZ fun σ H0 F H e x y z v u Q R A B hg q=>by
  obtain⟨i,j,h1,h2,h3⟩:=iP (K:=K) (g:=fun i j=>.int (if j > i then j else i)) (fun _ _ _=>ck.mpr rfl) σ H0 F H e x y z v u Q R A B hg q
  exact⟨i,j,by rw [h1,h2],h3⟩
def dc:En→Rv→Option Rv:=fun e x=>(cx e x).map fun p=>.d (.tuple p.2)
theorem yx:cB K (fun xs H Q=>∃p ys,xs=[.ref p]∧((dP K H p ys∧∀l,H l=none→Q (.ref l) (aM H l (.tup ys)))∨(cc K H p ys∧Q (.ref p) H))) (g1 dc):=dQ fun σ H0 F H e x z v Q R A hg q=>by
  obtain⟨⟨b,xs⟩,h5,h4⟩:=Option.map_eq_some_iff.mp hg
  obtain⟨p,vs,rfl,d1,s1⟩:=bT R A h5
  cases h4
  refine⟨p,vs,rfl,?_⟩
  cases b with
  | true=>
    refine .inl ⟨s1,fun t ht=>?_⟩
    obtain⟨R4,X4⟩:=R.newT (vs:=vs) ht
    exact q _ _ _ X4 R4 (bX.mpr ⟨t,_,rfl,.inl (.inl ay),d1.mono X4.sf⟩)
  | false=>
    obtain⟨F4,R4,X4,hF⟩:=R.growT (ar.refl _) s1
    exact .inr ⟨s1,q _ _ _ X4 R4 (bX.mpr ⟨p,vs,rfl,hF,d1.mono X4.sf⟩)⟩
def rA:En→Rv→Option Rv:=fun e x=>(cx e x).map fun p=>.l p.2
theorem zX:cB K (fun xs H Q=>∃p ys,xs=[.ref p]∧(dP K H p ys∨cc K H p ys)∧∀l,H l=none→Q (.ref l) (aM H l (.lst ys))) (g1 rA):=dQ fun σ H0 F H e x z v Q R A hg q=>by
  obtain⟨⟨b,xs⟩,h5,h4⟩:=Option.map_eq_some_iff.mp hg
  obtain⟨p,vs,rfl,d1,s1⟩:=bT R A h5
  cases h4
  refine⟨p,vs,rfl,?_,fun t ht=>?_⟩
  · cases b with
    | true=>exact .inl s1
    | false=>exact .inr s1
  · obtain⟨R4,X4,hF,no⟩:=R.newL (vs:=vs) ht
    exact q _ _ _ X4 R4 ⟨t,_,rfl,ht,hF,ay,d1,no⟩
def kc:List PyData→Option (List Int)
  | []=>some []
  | .int i::r=>(kc r).map (i::·)
  | _=>none
theorem jg:∀{ds:List PyData} {ns:List Int},kc ds=some ns→ds=ns.map .int
  | [],_,h=>by cases h;rfl
  | .int i::r,_,h=>by
    obtain⟨ns,h1,rfl⟩:=Option.map_eq_some_iff.mp h
    rw [jg h1];rfl
theorem jP:∀(ns:List Int),kc (ns.map .int)=some ns
  | []=>rfl
  | i::r=>by simp [kc,jP r]
def jH:List PyData→Option (List Bool)
  | []=>some []
  | .bool i::r=>(jH r).map (i::·)
  | _=>none
theorem jI:∀{ds:List PyData} {ns:List Bool},jH ds=some ns→ds=ns.map .bool
  | [],_,h=>by cases h;rfl
  | .bool i::r,_,h=>by
    obtain⟨ns,h1,rfl⟩:=Option.map_eq_some_iff.mp h
    rw [jI h1];rfl
def fL(g:List PyData→Option PyData):En→Rv→Option Rv:=fun e x=>match cx e x with
  | some (true,xs)=>(g xs).map .d
  | _=>none
theorem wa{r:List V→Hp→VK→Prop}{g:List PyData→Option PyData}(h:∀(F H:Hp) (p:Addr) (xs:List PyData) (vs:List V) (d:PyData) (Q:VK),az K F xs vs→dP K H p vs→g xs=some d→(∀v,(∀F,DA K F d v)→Q v H)→r [.ref p] H Q):cB K r (g1 (fL g)):=dQ fun σ H0 F H e x z v Q R A hg q=>by
  unfold fL at hg
  split at hg
  case h_2=>cases hg
  case h_1 xs h5=>
  obtain⟨p,vs,rfl,d1,s1⟩:=bT R A h5
  obtain⟨d,h6,hg⟩:=Option.map_eq_some_iff.mp hg
  cases hg
  exact h F H p xs vs d Q d1 s1 h6 fun v hv=>q F H v (dO.refl _ _ _ _) R (hv F)
def oP:List PyData→Option PyData:=fun xs=>(jH xs).map fun ns=>.bool (ns.all id)
def mD:List PyData→Option PyData:=fun xs=>(jH xs).map fun ns=>.bool (ns.any id)
theorem BR:cB K (fun xs H Q=>∃(l:Addr) (bs:List Bool),xs=[.ref l]∧dP K H l (bs.map V.bl)∧Q (.bl (bs.all id)) H) (g1 (fL oP)):=wa fun F H p xs vs d Q d1 s1 hg q=>by
  obtain⟨ns,h1,h2⟩:=Option.map_eq_some_iff.mp hg
  cases h2
  rw [jI h1] at d1
  rw [az.bools.mp d1] at s1
  exact⟨p,ns,rfl,s1,q _ fun _=>cM.mpr rfl⟩
theorem BS:cB K (fun xs H Q=>∃(l:Addr) (bs:List Bool),xs=[.ref l]∧dP K H l (bs.map V.bl)∧Q (.bl (bs.any id)) H) (g1 (fL mD)):=wa fun F H p xs vs d Q d1 s1 hg q=>by
  obtain⟨ns,h1,h2⟩:=Option.map_eq_some_iff.mp hg
  cases h2
  rw [jI h1] at d1
  rw [az.bools.mp d1] at s1
  exact⟨p,ns,rfl,s1,q _ fun _=>cM.mpr rfl⟩
def qm:En→Rv→Option Rv:=fun e x=>match cx e x with
  | some (false,xs)=>(kc xs).bind fun ns=>if ns.length < 64 then some (.l ((cW ns).map .int)) else none
  | _=>none
def vO(K:PySem.W.Frag):List V→Hp→VK→Prop:=fun xs H Q=>∃(a:Addr) (ns:List Int),xs=[.ref a]∧cc K H a (ns.map V.int)∧ns.length < 64∧∀(l:Addr) (H':Hp),ar H H'→H l=none→H' l=some (.lst ((cW ns).map V.int))→Q (.ref l) H'
theorem p_:ce X (.builtin "sorted") (vO X.K):=by
  intro pins s σ H xs us Q I rv h
  obtain⟨a,ns,e1,e2,e3,q⟩:=h
  exact j5 pins s σ H xs us Q I rv ⟨a,ns,e1,e2,e3,fun l ns' H' sm hn hl hp hs=>q l H' sm hn (by rw [←lZ hp hs];exact hl)⟩
theorem ym:cB K (vO K) (g1 qm):=dQ fun σ H0 F H e x z v Q R A hg q=>by
  unfold qm at hg
  split at hg
  case h_2=>cases hg
  case h_1 xs h5=>
  obtain⟨p,vs,rfl,d1,s1⟩:=bT R A h5
  obtain⟨ns,h6,hg⟩:=Option.bind_eq_some_iff.mp hg
  split at hg
  case isFalse=>cases hg
  case isTrue hl=>
  cases hg
  rw [jg h6] at d1
  have s1':cc K H p vs:=s1
  rw [az.ints.mp d1] at s1'
  refine⟨p,ns,rfl,s1',hl,fun l H' sm hn hl'=>?_⟩
  obtain⟨R4,X4⟩:=R.same sm
  exact q F H' _ X4 R4 ⟨l,_,rfl,hn,R.freeF hn,hl',az.ints.mpr rfl,fun z=>R.ownH l ((R.sameOwn sm l).mp z) hn⟩
mutual
def c8:PyData→Bool
  | .tuple ds=>bY ds
  | .list _=>false
  | .dict _=>false
  | _=>true
def bY:List PyData→Bool
  | []=>true
  | d::r=>c8 d&&bY r
end
mutual
def iO:PyData→Bool
  | .list _=>false
  | .tuple ds=>jj ds
  | _=>true
def jj:List PyData→Bool
  | []=>true
  | d::r=>iO d&&jj r
end
theorem lN{h:Heap}:∀{m:List (Int × Int)} {es:List DictEntry} {vs:List (kZ × Value)} {P:Program} {w:World},KV (m.map fun p=>((Sum.inl p.1:kZ),V.int p.2)) vs→Pairs (nG P w) es vs→
    ReadsAll h (es.map (·.key)) (m.map fun p=>PyData.int p.1) []∧ReadsAll h (es.map (·.val)) (m.map fun p=>PyData.int p.2) []
  | [],es,vs,P,w,r,q=>by
    cases r
    cases q
    exact⟨.nil,.nil⟩
  | p::m,es,vs,P,w,r,q=>by
    rw [List.map_cons] at r
    cases r with
    | @cons a b as bs h1 t=>
      cases q with
      | @cons e kv es' kvs' h2 h3 h4=>
        obtain⟨z1,z2⟩:=h1
        obtain⟨c1,c2⟩:=lN t h4
        obtain⟨tk,z2⟩:=z2
        have k1:uV (Sum.inl p.1) e.key=true:=by
          have:b.1=Sum.inl p.1:=z1.symm
          rw [←this];exact h2
        rcases bw k1 with ⟨i,t',e1,e2⟩ | ⟨x,t',e1,e2⟩
        · cases e1
          refine⟨?_,?_⟩
          · simp only [List.map_cons,e2]
            exact ReadsAll.cons (as:=[]) (bs:=[]) (.int p.1 t') c1
          · simp only [List.map_cons,h3,z2]
            exact ReadsAll.cons (as:=[]) (bs:=[]) (.int p.2 tk) c2
        · cases e1
mutual
theorem DA.readsR{X:Cx}{pins:List (Addr × Obj)}{σ:L2.St}{H:Hp}{s:Shared}(I:au X pins σ H s):∀{d:PyData} {v:V} {u:Value},DA X.K H d v→bF v u→∃as,Reads s.heap u d as∧(iO d=true→sysModules∉as)
  | .none,_,_,q,r=>by
    simp only [DA] at q;subst q;cases r;exact⟨_,.none,fun _=>by simp⟩
  | .bool b,_,_,q,r=>by
    simp only [DA] at q;subst q;cases r;exact⟨_,.bool b,fun _=>by simp⟩
  | .int i,_,_,q,r=>by
    simp only [DA] at q;subst q;obtain⟨t,rfl⟩:=r;exact⟨_,.int i t,fun _=>by simp⟩
  | .str x,_,_,q,r=>by
    simp only [DA] at q;subst q;obtain⟨t,rfl⟩:=r;exact⟨_,.str x t,fun _=>by simp⟩
  | .tuple ds,_,_,q,r=>by
    simp only [DA] at q
    obtain⟨a,xs,e,hs,rr⟩:=q
    subst e;cases r
    obtain⟨its,rv,⟨o,ho,hc,n,hd⟩,hz⟩:=I.tuple hs
    obtain⟨as,q,z⟩:=az.readsR I rr rv
    exact⟨_,.tuple ho hc hd q,fun c=>z (by simpa [iO] using c)⟩
  | .list ds,_,_,q,r=>by
    simp only [DA] at q
    obtain⟨a,xs,e,hs,rr⟩:=q
    subst e;cases r
    obtain⟨its,rv,ht,hz⟩:=I.list hs
    obtain⟨o,ho,hc,n,hd⟩:=ht.isList
    obtain⟨as,q,z⟩:=az.readsR I rr rv
    exact⟨_,.list ho hc hd q,fun c=>by simp [iO] at c⟩
  | .dict kvs,_,_,q,r=>by
    simp only [DA] at q
    obtain⟨a,m,e,hs,rfl⟩:=q
    subst e;cases r
    obtain⟨_,hS,vs,kv,o,es,ep,ho,hx,hd,_,hp,_⟩:=(show eu X.prog X.w H s.heap a (.dK (m.map fun p=>(Sum.inl p.1,V.int p.2))) from I.hok a _ hs)
    obtain⟨c1,c2⟩:=lN (h:=s.heap) kv hp
    refine⟨_,Reads.dict (as:=[]) (bs:=[]) ho hx.1 hd ?_ ?_,fun _=>?_⟩
    · rw [List.map_map];exact c1
    · rw [List.map_map];exact c2
    · have:a≠sysModules:=by simpa using hS
      simpa using this.symm
theorem az.readsR{X:Cx}{pins:List (Addr × Obj)}{σ:L2.St}{H:Hp}{s:Shared}(I:au X pins σ H s):∀{ds:List PyData} {xs:List V} {us:List Value},az X.K H ds xs→aE xs us→∃as,ReadsAll s.heap us ds as∧(jj ds=true→sysModules∉as)
  | [],_,_,q,r=>by
    simp only [az] at q;subst q;cases r;exact⟨_,.nil,fun _=>by simp⟩
  | d::ds,_,_,q,r=>by
    simp only [az] at q
    obtain⟨x,rr,e,a,b⟩:=q
    subst e
    cases r with
    | cons p p'=>
      obtain⟨as,q1,z1⟩:=DA.readsR I a p
      obtain⟨bs,q2,z2⟩:=az.readsR I b p'
      refine⟨_,.cons q1 q2,fun c=>?_⟩
      simp only [jj,Bool.and_eq_true] at c
      intro z
      rcases List.mem_append.mp z with z | z
      · exact z1 c.1 z
      · exact z2 c.2 z
end
def jA(d:PyData):Bool:=(c8 d || (!d.hasDict || iO d))&&d.showable&&decide (d.depth≤60)&&decide (d.shown.length≤sizeLine)
def ka:En→Rv→Option Rv:=fun _ x=>match x with
  | .d d=>if jA d=true then some (.d (.str d.shown)) else none
  | _=>none
def vN(K:PySem.W.Frag):List V→Hp→VK→Prop:=fun xs H Q=>∃x d,xs=[x]∧DA K H d x∧(d.hasDict=true→iO d=true)∧d.showable=true∧d.depth≤60∧d.shown.length≤sizeLine∧Q (.str d.shown) H
mutual
theorem j_:∀(d:PyData),c8 d=true→d.hasDict=false
  | .none,_=>rfl
  | .bool _,_=>rfl
  | .int _,_=>rfl
  | .str _,_=>rfl
  | .tuple ds,h=>by simp only [PyData.hasDict];exact jb ds (by simpa [c8] using h)
  | .list ds,h=>by simp [c8] at h
  | .dict _,h=>by simp [c8] at h
theorem jb:∀(ds:List PyData),bY ds=true→PyData.hasDictAll ds=false
  | [],_=>rfl
  | d::r,h=>by
    simp only [bY,Bool.and_eq_true] at h
    simp only [PyData.hasDictAll,j_ d h.1,jb r h.2,Bool.or_self]
end
theorem p9{X:Cx}{k:Nat}(hr:bW k X.A):ce X (.builtin "repr") (vN X.K):=by
  intro pins s σ H xs us Q I r h
  obtain⟨x,d,rfl,ha,hdl,hsh,hdp,hsz,q⟩:=h
  obtain⟨u,rfl,ru⟩:∃u,us=[u]∧bF x u:=by
    cases r with
    | cons p p'=>cases p';exact⟨_,rfl,p⟩
  have hun:=hr.un
  obtain⟨as,rd,hm⟩:=DA.readsR I ha ru
  have fin:∀a,u=.ref a→wpAny (model X.prog X.w) X.A (call (.builtin "repr") [u]) (EP X pins σ Q) X.xe s:=fun a e=>by
    subst e
    exact repr_of_reads' rd hsh (fun z=>hm (hdl z)) hr.gd (by lia) (fun _ _ e=>e) (fun h' u tk hk=>⟨.str _,H,I.kept hk,⟨_,rfl⟩,q⟩) hsz
  cases d with
  | none=>simp only [DA] at ha;subst ha;cases ru;exact P.repr_of_none ⟨.str _,H,I.tok _,⟨_,rfl⟩,q⟩
  | bool b=>simp only [DA] at ha;subst ha;cases ru;exact P.repr_of_bool ⟨.str _,H,I.tok _,⟨_,rfl⟩,q⟩
  | int i=>
    simp only [DA] at ha;subst ha;obtain⟨t,rfl⟩:=ru
    simp only [PyData.showable,decide_eq_true_eq] at hsh
    exact P.repr_of_int hsh ⟨.str _,H,I.tok _,⟨_,rfl⟩,q⟩
  | str y=>simp only [DA] at ha;subst ha;obtain⟨t,rfl⟩:=ru;exact P.repr_of_str ⟨.str _,H,I.tok _,⟨_,rfl⟩,q⟩ hsz
  | list ds=>obtain⟨a,_,e,_⟩:=dD.mp ha;subst e;exact fin a ru
  | dict ds=>simp only [DA] at ha;obtain⟨a,_,e,_⟩:=ha;subst e;exact fin a ru
  | tuple ds=>obtain⟨a,_,e,_⟩:=bX.mp ha;subst e;exact fin a ru
theorem A7:cB K (vN K) (g1 ka):=dQ fun σ H0 F H e x z v Q R A hg q=>by
  unfold ka at hg
  split at hg
  case h_2=>cases hg
  case h_1 d=>
  split at hg
  case isFalse=>cases hg
  case isTrue hl=>
  cases hg
  unfold jA at hl
  rw [Bool.and_eq_true,Bool.and_eq_true,Bool.and_eq_true,decide_eq_true_iff,decide_eq_true_iff] at hl
  refine⟨v,d,rfl,DA.mono R.sm A,fun z=>?_,hl.1.1.2,hl.1.2,hl.2,q F H _ (dO.refl _ _ _ _) R ((qe (K:=K) (F:=F)).mpr rfl)⟩
  have c:=hl.1.1.1
  cases hf:c8 d with
  | true=>rw [j_ d hf] at z;cases z
  | false=>rw [hf,z] at c;simpa using c
end
end L2
namespace L2
open PySem PySem.Spec PyProof.Rows
section
variable{K:PySem.W.Frag}{σ:L2.St}{H0 F H F' H':Hp}{e e':En}
theorem aW.upd1(R:aW K F H σ e){σ':L2.St}(i:Nat)(hl:σ'.length=e'.length)(hσ:∀j,j≠i→σ'[j]?=σ[j]?)(he:∀j,j≠i→e'[j]?=e[j]?)(sF:ar F F')(sm:ar F' H')(hf:∀j a,j≠i→Fp σ e H j a→F' a=none)
    (hh:∀j a o,j≠i→Fp σ e H j a→H a=some o→H' a=some o)(hd:∀x,e'[i]?=some (some (.d x))→∃v,σ'[i]?=some (some v)∧DA K F' x v)
    (ho:∀xs,e'[i]?=some (some (.l xs))→∃l vs,σ'[i]?=some (some (.ref l))∧F' l=none∧H' l=some (.lst vs)∧az K F' xs vs)
    (hn:∀xss,e'[i]?=some (some (.n xss))→∃(l:Addr) (bs:List Addr),σ'[i]?=some (some (.ref l))∧F' l=none∧H' l=some (.lst (bs.map V.ref))∧bs.length=xss.length∧bs.Nodup∧l∉bs∧
      ∀(k:Nat) (b:Addr) (ys:List PyData),bs[k]?=some b→xss[k]?=some ys→F' b=none∧∃us,H' b=some (.lst us)∧az K F' ys us)
    (hi:∀a j,j≠i→Fp σ' e' H' i a→¬Fp σ e H j a):aW K F' H' σ' e'∧∀j a,j≠i→(Fp σ' e' H' j a↔ Fp σ e H j a):=by
  have fs:∀j a,j≠i→(Fp σ' e' H' j a↔ Fp σ e H j a):=by
    intro j a hj
    have key:∀xss l,e[j]?=some (some (.n xss))→σ[j]?=some (some (.ref l))→H' l=H l:=fun xss l h1 h2=>by
      obtain⟨l',bs,g1,g2,g3,_⟩:=R.nst j xss h1
      rw [h2] at g1;cases g1
      rw [g3]
      exact hh j l _ hj (.inr ⟨xss,l,bs,h1,h2,g3,.inl rfl⟩) g3
    unfold Fp
    rw [he j hj,hσ j hj]
    constructor
    · rintro(h1 | ⟨xss,l,bs,h1,h2,h3,h4⟩)
      · exact .inl h1
      · exact .inr ⟨xss,l,bs,h1,h2,by rw [←key xss l h1 h2];exact h3,h4⟩
    · rintro(h1 | ⟨xss,l,bs,h1,h2,h3,h4⟩)
      · exact .inl h1
      · exact .inr ⟨xss,l,bs,h1,h2,by rw [key xss l h1 h2];exact h3,h4⟩
  refine⟨⟨sm,hl,fun j x q=>?_,fun j xs q=>?_,fun j xss q=>?_,fun j k a q1 q2=>?_⟩,fs⟩
  · by_cases z:j=i
    · subst z;exact hd x q
    · rw [he j z] at q
      obtain⟨v,h1,h2⟩:=R.dat j x q
      exact⟨v,by rw [hσ j z];exact h1,DA.mono sF h2⟩
  · by_cases z:j=i
    · subst z;exact ho xs q
    · rw [he j z] at q
      obtain⟨l,vs,h1,h2,h3,h4⟩:=R.own j xs q
      have o:Fp σ e H j l:=.inl ⟨xs,q,h1⟩
      exact⟨l,vs,by rw [hσ j z];exact h1,hf j l z o,hh j l _ z o h3,h4.mono sF⟩
  · by_cases z:j=i
    · subst z;exact hn xss q
    · rw [he j z] at q
      obtain⟨l,bs,h1,h2,h3,h4,h5,h6,h7⟩:=R.nst j xss q
      have o:Fp σ e H j l:=.inr ⟨xss,l,bs,q,h1,h3,.inl rfl⟩
      refine⟨l,bs,by rw [hσ j z];exact h1,hf j l z o,hh j l _ z o h3,h4,h5,h6,fun k b ys g1 g2=>?_⟩
      obtain⟨c1,us,c2,c3⟩:=h7 k b ys g1 g2
      have ob:Fp σ e H j b:=.inr ⟨xss,l,bs,q,h1,h3,.inr (List.mem_of_getElem? g1)⟩
      exact⟨hf j b z ob,us,hh j b _ z ob c2,c3.mono sF⟩
  · by_cases zj:j=i
    · subst zj
      by_cases zk:k=j
      · exact zk.symm
      · exact absurd ((fs k a zk).mp q2) (hi a k zk q1)
    · by_cases zk:k=i
      · subst zk
        exact absurd ((fs j a zj).mp q1) (hi a j zj q2)
      · exact R.fp j k a ((fs j a zj).mp q1) ((fs k a zk).mp q2)
theorem aW.putL(R:aW K F H σ e){i:Nat}{xs ys:List PyData}{l:Addr}{vs:List V}(hi:e[i]?=some (some (.l xs)))(hl:σ[i]?=some (some (.ref l)))(hd:az K F ys vs):
    aW K F (aM H l (.lst vs)) σ (e.set i (some (.l ys)))∧dO σ F H e F (aM H l (.lst vs)) (e.set i (some (.l ys))):=by
  obtain⟨l',vs',h1,h2,h3,h4⟩:=R.own i xs hi
  rw [hl] at h1;cases h1
  have hlt:i < e.length:=(List.getElem?_eq_some_iff.mp hi).1
  have fi:Fp σ e H i l:=.inl ⟨xs,hi,hl⟩
  have gi:(e.set i (some (Sv.l ys)))[i]?=some (some (.l ys)):=List.getElem?_set_self hlt
  obtain⟨R',fs⟩:=R.upd1 (F':=F) (H':=aM H l (.lst vs)) (e':=e.set i (some (.l ys))) i (by rw [List.length_set];exact R.len) (fun _ _=>rfl) (fun j hj=>List.getElem?_set_ne (Ne.symm hj)) (ar.refl F)
    (fun b o q=>by
      have z:b≠l:=fun z=>by rw [z,h2] at q;cases q
      rw [aC z];exact R.sm b o q)
    (fun j a _ q=>(R.fpAt q).1)
    (fun j a o hj q ha=>by
      have z:a≠l:=fun z=>hj (R.fp j i a q (by rw [z];exact fi))
      rw [aC z];exact ha)
    (fun x q=>by rw [gi] at q;cases q) (fun zs q=>by rw [gi] at q;cases q;exact⟨l,vs,hl,h2,ay,hd⟩) (fun xss q=>by rw [gi] at q;cases q)
    (fun a j hj q q2=>by
      rcases q with ⟨zs,_,q⟩ | ⟨xss,_,_,q,_⟩
      · rw [hl] at q;cases q
        exact hj (R.fp j i _ q2 fi)
      · rw [gi] at q;cases q)
  refine⟨R',⟨ar.refl _,fun a q=>?_,fun _ _ q _ _=>q,fun a ws q=>?_,fun a o q n=>?_,fun j=>?_,fun a ⟨j,q⟩=>?_⟩⟩
  · by_cases z:a=l
    · rw [z,ay] at q;cases q
    · rw [aC z] at q;exact q
  · by_cases z:a=l
    · rw [z];exact⟨vs,ay⟩
    · rw [aC z];exact⟨ws,q⟩
  · have z:a≠l:=fun z=>n ⟨i,by rw [z];exact fi⟩
    rw [aC z];exact q
  · by_cases z:j=i
    · subst z;rw [gi];exact⟨fun _=>⟨xs,hi⟩,fun _=>⟨ys,rfl⟩⟩
    · rw [List.getElem?_set_ne (Ne.symm z)]
  · by_cases z:j=i
    · subst z
      rcases q with ⟨zs,_,q⟩ | ⟨xss,_,_,q,_⟩
      · rw [hl] at q;cases q;exact .inl ⟨j,fi⟩
      · rw [gi] at q;cases q
    · exact .inl ⟨j,(fs j a z).mp q⟩
theorem aW.setD(R:aW K F H σ e)(i:Nat){x:PyData}{v:V}(h:DA K F x v):aW K F H (σ.set i (some v)) (e.set i (some (.d x)))∧∀a,dy (σ.set i (some v)) (e.set i (some (.d x))) H a→dy σ e H a:=by
  have gi:∀s,(e.set i (some (Sv.d x)))[i]?=some (some s)→s=.d x∧i < e.length:=fun s q=>by
    have hlt:i < e.length:=by have:=(List.getElem?_eq_some_iff.mp q).1;simpa using this
    rw [List.getElem?_set_self hlt] at q
    exact⟨(Option.some.inj (Option.some.inj q)).symm,hlt⟩
  have nofp:∀a,¬Fp (σ.set i (some v)) (e.set i (some (.d x))) H i a:=fun a q=>by
    rcases q with ⟨zs,q,_⟩ | ⟨xss,_,_,q,_⟩
    · cases (gi _ q).1
    · cases (gi _ q).1
  obtain⟨R',fs⟩:=R.upd1 (F':=F) (H':=H) (σ':=σ.set i (some v)) (e':=e.set i (some (.d x))) i (by rw [List.length_set,List.length_set];exact R.len) (fun j hj=>List.getElem?_set_ne (Ne.symm hj)) (fun j hj=>List.getElem?_set_ne (Ne.symm hj)) (ar.refl F) R.sm
    (fun j a _ q=>(R.fpAt q).1) (fun j a o _ _ ha=>ha)
    (fun y q=>by
      obtain⟨z,hlt⟩:=gi _ q
      cases z
      exact⟨v,List.getElem?_set_self (by rw [R.len];exact hlt),h⟩)
    (fun zs q=>by cases (gi _ q).1) (fun xss q=>by cases (gi _ q).1) (fun a j hj q=>absurd q (nofp a))
  refine⟨R',fun a ⟨j,q⟩=>?_⟩
  by_cases z:j=i
  · subst z;exact absurd q (nofp a)
  · exact⟨j,(fs j a z).mp q⟩
theorem aW.setL(R:aW K F H σ e)(i:Nat){xs:List PyData}{l:Addr}{vs:List V}(h1:F l=none)(h2:H l=some (.lst vs))(h3:az K F xs vs)(h4:¬dy σ e H l):aW K F H (σ.set i (some (.ref l))) (e.set i (some (.l xs)))∧∀a,dy (σ.set i (some (.ref l))) (e.set i (some (.l xs))) H a→dy σ e H a∨a=l:=by
  have gi:∀s,(e.set i (some (Sv.l xs)))[i]?=some (some s)→s=.l xs∧i < e.length:=fun s q=>by
    have hlt:i < e.length:=by have:=(List.getElem?_eq_some_iff.mp q).1;simpa using this
    rw [List.getElem?_set_self hlt] at q
    exact⟨(Option.some.inj (Option.some.inj q)).symm,hlt⟩
  have onefp:∀a,Fp (σ.set i (some (.ref l))) (e.set i (some (.l xs))) H i a→a=l:=fun a q=>by
    rcases q with ⟨zs,q,q2⟩ | ⟨xss,_,_,q,_⟩
    · obtain⟨_,hlt⟩:=gi _ q
      rw [List.getElem?_set_self (by rw [R.len];exact hlt)] at q2
      cases q2;rfl
    · cases (gi _ q).1
  obtain⟨R',fs⟩:=R.upd1 (F':=F) (H':=H) (σ':=σ.set i (some (.ref l))) (e':=e.set i (some (.l xs))) i (by rw [List.length_set,List.length_set];exact R.len) (fun j hj=>List.getElem?_set_ne (Ne.symm hj)) (fun j hj=>List.getElem?_set_ne (Ne.symm hj)) (ar.refl F) R.sm
    (fun j a _ q=>(R.fpAt q).1) (fun j a o _ _ ha=>ha) (fun y q=>by cases (gi _ q).1)
    (fun zs q=>by
      obtain⟨z,hlt⟩:=gi _ q
      cases z
      exact⟨l,vs,List.getElem?_set_self (by rw [R.len];exact hlt),h1,h2,h3⟩)
    (fun xss q=>by cases (gi _ q).1) (fun a j hj q q2=>h4 ⟨j,by rw [onefp a q] at q2;exact q2⟩)
  refine⟨R',fun a ⟨j,q⟩=>?_⟩
  by_cases z:j=i
  · subst z;exact .inr (onefp a q)
  · exact .inl ⟨j,(fs j a z).mp q⟩
end
section
variable{X:Cx}{K:PySem.W.Frag}{o a:Expr}{es:List Expr}{fo:FE}{fs:FA}{name:Str}{apos cpos:Pos}{id:String}
def qU(K:PySem.W.Frag)(r:V→List V→Hp→VK→Prop)(g:List PyData→List PyData→Option (PyData × List PyData)):Prop:=
  ∀(F H:Hp) (l:Addr) (xs ys ds:List PyData) (z:PyData) (vs us:List V) (Q:VK),F l=none→ar F H→H l=some (.lst vs)→az K F xs vs→az K F ds us→g xs ds=some (z,ys)→
    (∀w ws,DA K F z w→az K F ys ws→Q w (aM H l (.lst ws)))→r (.ref l) us H Q
def dw(g:List PyData→List PyData→Option (PyData × List PyData))(fo:FE)(fs:FA):FE:=fun e=>(fo e).bind fun p=>match p.1 with
  | .s i=>(fs p.2).bind fun q=>(ja q.1).bind fun ds=>match q.2[i]? with
    | some (some (.l xs))=>(g xs ds).map fun z=>(.d z.1,q.2.set i (some (.l z.2)))
    | _=>none
  | _=>none
theorem wu{r:V→List V→Hp→VK→Prop}{g:List PyData→List PyData→Option (PyData × List PyData)}(hm:qU K r g){σ:L2.St}{H:Hp}{Q:VK}(h:fE K (dw g fo fs) σ H Q):Ey K "list" r (fE K fo) (fA K fs) σ H Q:=by
  obtain⟨F,e,z,e',R,hf,q⟩:=h
  unfold dw at hf
  obtain⟨⟨x,e1⟩,h1,hf⟩:=Option.bind_eq_some_iff.mp hf
  match x,h1,hf with
  | .s i,h1,hf=>
  dsimp only at hf
  obtain⟨⟨rs,e2⟩,h2,hf⟩:=Option.bind_eq_some_iff.mp hf
  obtain⟨ds,h3,hf⟩:=Option.bind_eq_some_iff.mp hf
  refine⟨F,e,_,e1,R,h1,fun F1 H1 v X1 R1 A1=>?_⟩
  obtain⟨g1,zs,g2⟩:=A1
  obtain⟨l,vs,c1,c2,c3,c4⟩:=R1.own i zs g2
  rw [g1] at c1;cases c1
  refine⟨.inl ⟨rfl,vs,.inl (.inl c3)⟩,F1,e1,rs,e2,R1,h2,fun F2 H2 us X2 R2 A2=>?_⟩
  match h4:e2[i]?,hf with
  | some (some (.l xs)),hf=>
  dsimp only at hf
  obtain⟨⟨zd,ys⟩,h5,hf⟩:=Option.map_eq_some_iff.mp hf
  cases hf
  obtain⟨F3,R3,s3,d3,f3⟩:=du.frozen R2 A2 h3
  obtain⟨l',vs',k1,k2,k3,k4⟩:=R3.own i xs h4
  rw [g1] at k1;cases k1
  refine hm F3 H2 l xs ys ds zd vs' us Q k2 R3.sm k3 k4 d3 h5 fun w ws hw hws=>?_
  obtain⟨R4,X4⟩:=R3.putL h4 g1 hws
  exact q _ _ _ ((X1.trans (X2.frz s3 f3)).trans X4) R4 hw
theorem zc{r:V→List V→Hp→VK→Prop}{g:List PyData→List PyData→Option (PyData × List PyData)}(slot:Slot "list" name id)(hty:typeOf (.builtin id)=pure (.type "method_descriptor"))(hm:Ej X id r)(hf:qU X.K r g)(ho:PE X o (fE X.K fo))(ha:PA X (a::es) (fA X.K fs))
    (hbase:attributeBase o name X.env (eval o X.env)=eval o X.env)
    (hfew:((backTo cpos (starEach (a::es) X.env)).all (fun x=> !x.1)&&(backToKw cpos (keywordEach [] X.env)).all (fun x=>x.1.isSome)
      &&decide ((a::es).length+([]:List Keyword).length+(if ([]:List Keyword).isEmpty then 0 else 1) < 30))=true)
    (hline:(apos.endLine==cpos.line)=true)(hs:starEach (a::es) X.env=(false,eval a X.env)::starEach es X.env)(hplain:(backTo cpos (starEach es X.env)).any (·.1)=false):
    PE X (.Call (.Attribute o name apos) (a::es) [] cpos) (fE X.K (dw g fo fs)):=(Cz PySem.F.plainAttrs_list slot hty hm ho ha hbase hfew hline hs hplain).mono fun _ _ _ h=>wu hf h
def bZ:List PyData→List PyData→Option (PyData × List PyData):=fun xs ds=>match ds with
  | [d]=>if xs.length < 1000000 then some (.none,xs++[d]) else none
  | _=>none
theorem tI:qU K rL bZ:=by
  intro F H l xs ys ds z vs us Q hF sm hl d1 d2 hg q
  unfold bZ at hg
  match ds,hg,d2 with
  | [d],hg,d2=>
    simp only [az] at d2
    obtain⟨w,r,rfl,hw,rfl⟩:=d2
    dsimp only at hg
    split at hg
    case isFalse=>cases hg
    case isTrue hlt=>
    cases hg
    have:=d1.len
    have sl:sizeLine=16777216:=sizeLine_eq
    exact⟨l,vs,w,rfl,rfl,hl,by lia,q _ _ (h8.mpr rfl) (d1.append (az.one hw))⟩
def Ck:List PyData→List PyData→Option (PyData × List PyData):=fun xs ds=>match ds with
  | []=>(xs[xs.length - 1]?).map fun d=>(d,xs.dropLast)
  | _=>none
def iM:List PyData→List PyData→Option (PyData × List PyData):=fun xs ds=>match ds with
  | [.int i]=>if 0≤i∧i < 1000000000 then(xs[i.toNat]?).map fun d=>(d,xs.eraseIdx i.toNat) else none
  | _=>none
theorem xY:qU K vL iM:=by
  intro F H l xs ys ds z vs us Q hF sm hl d1 d2 hg q
  unfold iM at hg
  match ds,hg,d2 with
  | [.int i],hg,d2=>
    simp only [az,DA] at d2
    obtain⟨w,r,rfl,rfl,rfl⟩:=d2
    dsimp only at hg
    split at hg
    case isFalse=>cases hg
    case isTrue hlt=>
    obtain⟨d,h1,h2⟩:=Option.map_eq_some_iff.mp hg
    cases h2
    obtain⟨v,g1,g2⟩:=d1.get h1
    have hlt2:i.toNat < vs.length:=(List.getElem?_eq_some_iff.mp g1).1
    exact⟨l,vs,i,i.toNat,v,rfl,rfl,hl,by lia,by lia,seqIndex_of hlt.1 (by lia),g1,q _ _ g2 (d1.erase _)⟩
end
end L2
namespace L2
open PySem PySem.Spec PyProof.Rows
inductive Fl where
  | nx (e:En)
  | bk (e:En)
  | ct (e:En)
  | rt (r:Rv) (e:En)
abbrev FS:=En→Option Fl
structure dn (W:List Nat) (σ:L2.St) (F H:Hp) (e:En) (σ':L2.St) (F' H':Hp) (e':En):Prop where
  sf:ar F F'
  dom:∀a,H' a=none→H a=none
  fr:∀a vs,F a=none→H a=some (.lst vs)→¬dy σ e H a→F' a=none
  lst:∀a vs,H a=some (.lst vs)→∃vs',H' a=some (.lst vs')
  tmp:∀a o,H a=some o→¬dy σ e H a→H' a=some o
  own:∀a,dy σ' e' H' a→dy σ e H a∨H a=none
  wr:∀j,j∉W→σ'[j]?=σ[j]?
section
variable{K:PySem.W.Frag}{W W1 W2:List Nat}{σ σ1 σ2 σ':L2.St}{H0 F H F1 H1 F2 H2 F' H':Hp}{e e1 e2 e':En}
theorem dn.refl:dn W σ F H e σ F H e:=⟨ar.refl _,fun _ h=>h,fun _ _ h _ _=>h,fun _ vs h=>⟨vs,h⟩,fun _ _ h _=>h,fun _ h=>.inl h,fun _ _=>rfl⟩
theorem dO.s(x:dO σ F H e F' H' e'):dn W σ F H e σ F' H' e':=⟨x.sf,x.dom,x.fr,x.lst,x.tmp,x.ow,fun _ _=>rfl⟩
theorem dn.trans(x:dn W σ F H e σ1 F1 H1 e1)(y:dn W σ1 F1 H1 e1 σ2 F2 H2 e2):dn W σ F H e σ2 F2 H2 e2:=
  ⟨x.sf.trans y.sf,fun a h=>x.dom a (y.dom a h),fun a vs h n no=>let ⟨vs',q⟩:=x.lst a vs n;y.fr a vs' (x.fr a vs h n no) q (fun z=>(x.own a z).elim no fun z=>by rw [n] at z;cases z),fun a vs h=>let ⟨vs',q⟩:=x.lst a vs h;y.lst a vs' q,
    fun a o h n=>y.tmp a o (x.tmp a o h n) (fun z=>(x.own a z).elim n fun z=>by rw [h] at z;cases z),
    fun a h=>(y.own a h).elim (x.own a) (fun z=>.inr (x.dom a z)),
    fun j h=>(y.wr j h).trans (x.wr j h)⟩
theorem dn.mono(x:dn W1 σ F H e σ' F' H' e')(h:∀j,j∈W1→j∈W):dn W σ F H e σ' F' H' e':=⟨x.sf,x.dom,x.fr,x.lst,x.tmp,x.own,fun j n=>x.wr j fun z=>n (h j z)⟩
end
def lh(K:PySem.W.Frag)(W:List Nat)(σ:L2.St)(F H:Hp)(e:En)(D:pT):Fl→Prop
  | .nx e'=>∀F' H' σ',dn W σ F H e σ' F' H' e'→aW K F' H' σ' e'→D.nx σ' H'
  | .bk e'=>∀F' H' σ',dn W σ F H e σ' F' H' e'→aW K F' H' σ' e'→D.bk σ' H'
  | .ct e'=>∀F' H' σ',dn W σ F H e σ' F' H' e'→aW K F' H' σ' e'→D.ct σ' H'
  | .rt r e'=>∀F' H' σ' v,dn W σ F H e σ' F' H' e'→aW K F' H' σ' e'→cf K σ' H F' H' e' r v→D.rt v H'
def fS(K:PySem.W.Frag)(f:FS)(W:List Nat):TS:=fun D σ H=>∃F e fl,aW K F H σ e∧f e=some fl∧lh K W σ F H e D fl
theorem PS.mono{X:Cx}{st:Stmt}{t t':TS}(h:PS X st t)(m:∀D σ H,t' D σ H→t D σ H):PS X st t':=fun pins s σ H D I q=>h pins s σ H D I (m D σ H q)
theorem ko.mono{X:Cx}{st:List Stmt}{t t':TS}(h:ko X st t)(m:∀D σ H,t' D σ H→t D σ H):ko X st t':=fun pins s σ H D I q=>h pins s σ H D I (m D σ H q)
theorem lh.later{K:PySem.W.Frag}{W W1 W2:List Nat}{σ σ1:L2.St}{F H F1 H1:Hp}{e e1:En}{D:pT}{fl:Fl}(h:lh K W σ F H e D fl)(x:dn W1 σ F H e σ1 F1 H1 e1)(h1:∀j,j∈W1→j∈W)(h2:∀j,j∈W2→j∈W):lh K W2 σ1 F1 H1 e1 D fl:=by
  cases fl with
  | nx e'=>exact fun F' H' σ' y R=>h F' H' σ' ((x.mono h1).trans (y.mono h2)) R
  | bk e'=>exact fun F' H' σ' y R=>h F' H' σ' ((x.mono h1).trans (y.mono h2)) R
  | ct e'=>exact fun F' H' σ' y R=>h F' H' σ' ((x.mono h1).trans (y.mono h2)) R
  | rt r e'=>exact fun F' H' σ' v y R A=>h F' H' σ' v ((x.mono h1).trans (y.mono h2)) R (A.weak x.dom)
section
variable{X:Cx}{K:PySem.W.Frag}{W W1 W2:List Nat}{st:Stmt}{d9:List Stmt}{f g:FS}{a b:Expr}{fa:FE}{ft:FT}{pos:Pos}
def et:FS:=fun e=>some (.nx e)
def aF(f g:FS):FS:=fun e=>(f e).bind fun fl=>match fl with
  | .nx e1=>g e1
  | fl=>some fl
theorem a9:ko X [] (fS K et []):=x5.mono fun D σ H h=>by
  obtain⟨F,e,fl,R,hf,q⟩:=h
  cases hf
  exact q F H σ dn.refl R
theorem ah(h1:PS X st (fS K f W1))(h2:ko X d9 (fS K g W2)):ko X (st::d9) (fS K (aF f g) (W1++W2)):=(vG h1 h2).mono fun D σ H h=>by
  obtain⟨F,e,fl,R,hf,q⟩:=h
  unfold aF at hf
  obtain⟨fl1,h1,hf⟩:=Option.bind_eq_some_iff.mp hf
  have s1:∀j,j∈W1→j∈W1++W2:=fun j h=>List.mem_append.mpr (.inl h)
  have s2:∀j,j∈W2→j∈W1++W2:=fun j h=>List.mem_append.mpr (.inr h)
  refine⟨F,e,fl1,R,h1,?_⟩
  cases fl1 with
  | nx e1=>exact fun F' H' σ' x R'=>⟨F',e1,fl,R',hf,q.later x s1 s2⟩
  | bk e1=>cases hf;exact fun F' H' σ' x R'=>q F' H' σ' (x.mono s1) R'
  | ct e1=>cases hf;exact fun F' H' σ' x R'=>q F' H' σ' (x.mono s1) R'
  | rt r e1=>cases hf;exact fun F' H' σ' v x R' A=>q F' H' σ' v (x.mono s1) R' A
theorem ao(h1:PS X st (fS K f W)):ko X [st] (fS K f W):=x6 h1
def gJ(fa:FE):FS:=fun e=>(fa e).map fun p=>.nx p.2
theorem eD(he:PE X a (fE K fa))(hs:swapsWith a none pos.line X.env=pure false):PS X (.Expr a pos) (fS K (gJ fa) []):=(x4 he hs).mono fun D σ H h=>by
  obtain⟨F,e,fl,R,hf,q⟩:=h
  obtain⟨⟨x,e1⟩,h1,hf⟩:=Option.map_eq_some_iff.mp hf
  cases hf
  exact⟨F,e,x,e1,R,h1,fun F1 H1 v X1 R1 A1=>q F1 H1 σ X1.s R1⟩
def bE(fa:FE):FS:=fun e=>(fa e).map fun p=>.rt p.1 p.2
theorem ax(he:PE X a (fE K fa)):PS X (.Return (some a) pos) (fS K (bE fa) []):=(AJ he).mono fun D σ H h=>by
  obtain⟨F,e,fl,R,hf,q⟩:=h
  obtain⟨⟨x,e1⟩,h1,hf⟩:=Option.map_eq_some_iff.mp hf
  cases hf
  exact⟨F,e,x,e1,R,h1,fun F1 H1 v X1 R1 A1=>q F1 H1 σ v X1.s R1 A1⟩
def iY(ft:FT)(f g:FS):FS:=fun e=>(ft e).bind fun p=>if p.1=true then f p.2 else g p.2
theorem cI{c:Expr}{bs cs:List Stmt}(hc:PT X c (fT K ft))(ha:ko X bs (fS K f W1))(hb:ko X cs (fS K g W2)):PS X (.If c bs cs pos) (fS K (iY ft f g) (W1++W2)):=(CG hc ha hb).mono fun D σ H h=>by
  obtain⟨F,e,fl,R,hf,q⟩:=h
  unfold iY at hf
  obtain⟨⟨x,e1⟩,h1,hf⟩:=Option.bind_eq_some_iff.mp hf
  refine⟨F,e,x,e1,R,h1,fun F1 H1 X1 R1=>?_⟩
  cases x with
  | true=>exact⟨F1,e1,fl,R1,hf,q.later (W1:=[]) X1.s (fun j h=>by cases h) fun j h=>List.mem_append.mpr (.inl h)⟩
  | false=>exact⟨F1,e1,fl,R1,hf,q.later (W1:=[]) X1.s (fun j h=>by cases h) fun j h=>List.mem_append.mpr (.inr h)⟩
def ya(i:Nat)(r:Rv)(e:En):Option En:=match r with
  | .d x=>some (e.set i (some (.d x)))
  | .l xs=>some (e.set i (some (.l xs)))
  | .s _=>none
theorem qG{σ:L2.St}{H F H1 F1:Hp}{e e1 e2:En}{i:Nat}{r:Rv}{v:V}(R:aW K F H σ e)(X1:dO σ F H e F1 H1 e1)(R1:aW K F1 H1 σ e1)(A1:cf K σ H F1 H1 e1 r v)(h:ya i r e1=some e2):
    dn [i] σ F H e (σ.set i (some v)) F1 H1 e2∧aW K F1 H1 (σ.set i (some v)) e2:=by
  have wr:∀j,j∉[i]→(σ.set i (some v))[j]?=σ[j]?:=fun j n=>List.getElem?_set_ne (fun z=>n (by simp [z]))
  cases r with
  | d x=>
    cases h
    obtain⟨R2,o2⟩:=R1.setD i A1
    exact⟨⟨X1.sf,X1.dom,X1.fr,X1.lst,X1.tmp,fun a h=>X1.ow a (o2 a h),wr⟩,R2⟩
  | l xs=>
    cases h
    obtain⟨l,vs,rfl,h1,h2,h3,h4,h5⟩:=A1
    obtain⟨R2,o2⟩:=R1.setL i h2 h3 h4 h5
    refine⟨⟨X1.sf,X1.dom,X1.fr,X1.lst,X1.tmp,fun a h=>?_,wr⟩,R2⟩
    rcases o2 a h with z | z
    · exact X1.ow a z
    · exact .inr (by rw [z];exact h1)
  | s j=>cases h
def bj(i:Nat)(fa:FE):FS:=fun e=>(fa e).bind fun p=>(ya i p.1 p.2).map .nx
theorem aB{i:Nat}{x:Str}{pos':Pos}(hN:X.N.Nodup)(hi:X.N[i]?=some x)(hx:By X.env.scope x)(he:PE X a (fE K fa))(hs:swapsWith a (some (.Name x pos')) pos.line X.env=pure false)(hf:X.fn x=true∨X.env.scope.names.lookup x=some .local):
    PS X (.Assign [.Name x pos'] a pos) (fS K (bj i fa) [i]):=(AK hN hi hx he hs hf).mono fun D σ H h=>by
  obtain⟨F,e,fl,R,hf,q⟩:=h
  unfold bj at hf
  obtain⟨⟨r,e1⟩,h1,hf⟩:=Option.bind_eq_some_iff.mp hf
  obtain⟨e2,h2,hf⟩:=Option.map_eq_some_iff.mp hf
  cases hf
  refine⟨F,e,r,e1,R,h1,fun F1 H1 v X1 R1 A1=>?_⟩
  obtain⟨x,R2⟩:=qG R X1 R1 A1 h2
  exact q F1 H1 _ x R2
abbrev FG:=PyData→En→Option En
def fG(K:PySem.W.Frag)(g:FG)(W:List Nat):TG:=fun v σ H Q=>∃F e x e',aW K F H σ e∧DA K F x v∧g x e=some e'∧∀σ',dn W σ F H e σ' F H e'→aW K F H σ' e'→Q σ' H
abbrev yH:=List PyData→En→Option En
def Dq(K:PySem.W.Frag)(g:yH)(W:List Nat):wF:=fun vs σ H Q=>∃F e xs e',aW K F H σ e∧az K F xs vs∧g xs e=some e'∧∀σ',dn W σ F H e σ' F H e'→aW K F H σ' e'→Q σ' H
theorem PG.mono{tg:Expr}{t t':TG}(h:PG X tg t)(m:∀v σ H Q,t' v σ H Q→t v σ H Q):PG X tg t':=fun pins s σ H v u Q I r q=>h pins s σ H v u Q I r (m v σ H Q q)
theorem tu.mono{tg:List Expr}{t t':wF}(h:tu X tg t)(m:∀v σ H Q,t' v σ H Q→t v σ H Q):tu X tg t':=fun pins s σ H v u Q I r q=>h pins s σ H v u Q I r (m v σ H Q q)
def aj(i:Nat):FG:=fun x e=>some (e.set i (some (.d x)))
def cG:yH:=fun xs e=>match xs with
  | []=>some e
  | _=>none
def aL(g:FG)(gs:yH):yH:=fun xs e=>match xs with
  | x::r=>(g x e).bind fun e1=>gs r e1
  | _=>none
def de(gs:yH):FG:=fun x e=>match x with
  | .tuple xs=>gs xs e
  | _=>none
theorem aI{i:Nat}{x:Str}(hN:X.N.Nodup)(hi:X.N[i]?=some x)(hx:By X.env.scope x)(hf:X.fn x=true∨X.env.scope.names.lookup x=some .local):PG X (.Name x pos) (fG K (aj i) [i]):=(xR hN hi hx hf).mono fun v σ H Q h=>by
  obtain⟨F,e,x,e',R,hx,hg,q⟩:=h
  cases hg
  obtain⟨R2,o2⟩:=R.setD i hx
  exact q _ ⟨ar.refl _,fun _ h=>h,fun _ _ h _ _=>h,fun _ vs h=>⟨vs,h⟩,fun _ _ h _=>h,fun a h=>.inl (o2 a h),fun j n=>List.getElem?_set_ne (fun z=>n (by simp [z]))⟩ R2
theorem jo:tu X [] (Dq K cG []):=xT.mono fun v σ H Q h=>by
  obtain⟨F,e,x,e',R,hx,hg,q⟩:=h
  unfold cG at hg
  split at hg
  · cases hg
    simp only [az] at hx
    exact⟨hx,q σ dn.refl R⟩
  · cases hg
theorem cH{es:List Expr}{g1:FG}{gs:yH}(h1:PG X a (fG K g1 W1))(h2:tu X es (Dq K gs W2))
    (hs:(assignEach (a::es) X.env).map (·.2)=assign a X.env::(assignEach es X.env).map (·.2)):tu X (a::es) (Dq K (aL g1 gs) (W1++W2)):=(vx h1 h2 hs).mono fun v σ H Q h=>by
  obtain⟨F,e,xs,e',R,hx,hg,q⟩:=h
  unfold aL at hg
  match xs,hg,hx with
  | x::r,hg,hx=>
    simp only [az] at hx
    obtain⟨w,ws,e1,hw,hr⟩:=hx
    dsimp only at hg
    obtain⟨e1',h3,h4⟩:=Option.bind_eq_some_iff.mp hg
    refine⟨w,ws,e1,F,e,x,e1',R,hw,h3,fun σ1 x1 R1=>⟨F,e1',r,e',R1,hr,h4,fun σ2 x2 R2=>?_⟩⟩
    exact q σ2 ((x1.mono fun j h=>List.mem_append.mpr (.inl h)).trans (x2.mono fun j h=>List.mem_append.mpr (.inr h))) R2
theorem lL{es:List Expr}{k n:Nat}{gs:yH}(hK:X.K=K)(hc:X.calm=true)(h:tu X es (Dq K gs W))(hl:∀xs e e',gs xs e=some e'→xs.length=n)(hn:(assignEach es X.env).length=n)(hst:(assignEach es X.env).findIdx? (·.1)=none):PG X (.Tuple es k pos) (fG K (de gs) W):=(xS hK hc h hn hst).mono fun v σ H Q h=>by
  obtain⟨F,e,x,e',R,hx,hg,q⟩:=h
  unfold de at hg
  match x,hg,hx with
  | .tuple xs,hg,hx=>
    obtain⟨p,vs,e1,e2,e3⟩:=bX.mp hx
    exact⟨p,vs,e1,R.sm.tup e2,by rw [←e3.len];exact hl xs e e' hg,F,e,xs,e',R,e3,hg,q⟩
theorem lu(xs:List PyData)(e e':En)(h:cG xs e=some e'):xs.length=0:=by
  unfold cG at h
  split at h
  · rfl
  · cases h
theorem dU{g:FG}{gs:yH}{n:Nat}(hl:∀xs e e',gs xs e=some e'→xs.length=n)(xs:List PyData)(e e':En)(h:aL g gs xs e=some e'):xs.length=n+1:=by
  unfold aL at h
  match xs,h with
  | x::r,h=>
    obtain⟨e1,h3,h4⟩:=Option.bind_eq_some_iff.mp h
    simp [hl r e1 e' h4]
def vV(fa:FE)(g:FG):FS:=fun e=>(fa e).bind fun p=>match p.1 with
  | .d x=>(g x p.2).map .nx
  | _=>none
theorem AS{tg:Expr}{g:FG}(he:PE X a (fE K fa))(hg:PG X tg (fG K g W))(hs:swapsWithSole [tg] a pos.line X.env=pure false)(hw:swappedStores [tg] a X.env=pure none)
    (h1:(assignEach [tg] X.env).map (·.2)=[assign tg X.env]):PS X (.Assign [tg] a pos) (fS K (vV fa g) W):=(AG he hg hs hw h1).mono fun D σ H h=>by
  obtain⟨F,e,fl,R,hf,q⟩:=h
  unfold vV at hf
  obtain⟨⟨r,e1⟩,h1,hf⟩:=Option.bind_eq_some_iff.mp hf
  match r,h1,hf with
  | .d x,h1,hf=>
    obtain⟨e2,h2,hf⟩:=Option.map_eq_some_iff.mp hf
    cases hf
    exact⟨F,e,_,e1,R,h1,fun F1 H1 v X1 R1 A1=>⟨F1,e1,x,e2,R1,A1,h2,fun σ' x2 R2=>q F1 H1 σ' (X1.s.trans x2) R2⟩⟩
def vX(i j:Nat)(fs:FA):FS:=fun e=>(fs e).bind fun p=>match p.1 with
  | [.d x,.d y]=>some (.nx ((p.2.set i (some (.d x))).set j (some (.d y))))
  | _=>none
theorem AU{i j:Nat}{x y:Str}{fs:FA}{px py pt:Pos}{kt k2 pt2}(hc:X.calm=true)(hN:X.N.Nodup)(hi:X.N[i]?=some x)(hj:X.N[j]?=some y)(hij:i≠j)
    (hx:X.env.scope.names.lookup x=some .local)(hy:X.env.scope.names.lookup y=some .local)(ha:PA X [a,b] (fA K fs))
    (hw:swappedStores [.Tuple [.Name x px,.Name y py] kt pt] (.Tuple [a,b] k2 pt2) X.env=pure (some [x,y]))
    (hs:swapsWithSole [.Tuple [.Name x px,.Name y py] kt pt] (.Tuple [a,b] k2 pt2) pos.line X.env=pure false):
    PS X (.Assign [.Tuple [.Name x px,.Name y py] kt pt] (.Tuple [a,b] k2 pt2) pos) (fS K (vX i j fs) [i,j]):=(AI hc hN hi hj hij hx hy ha hw hs).mono fun D σ H h=>by
  obtain⟨F,e,fl,R,hf,q⟩:=h
  unfold vX at hf
  obtain⟨⟨rs,e1⟩,h1,hf⟩:=Option.bind_eq_some_iff.mp hf
  refine⟨F,e,rs,e1,R,h1,fun F1 H1 vs X1 R1 A1=>?_⟩
  match rs,hf,A1 with
  | [.d x,.d y],hf,A1=>
    cases hf
    obtain⟨v,u,rfl,a1,a2⟩:=n_ A1
    obtain⟨R2,o2⟩:=R1.setD i a1
    obtain⟨R3,o3⟩:=R2.setD j a2
    refine⟨v,u,rfl,q F1 H1 _ ⟨X1.sf,X1.dom,X1.fr,X1.lst,X1.tmp,fun a h=>X1.ow a (o2 a (o3 a h)),fun m n=>?_⟩ R3⟩
    rw [List.getElem?_set_ne (fun z=>n (by simp [z])),List.getElem?_set_ne (fun z=>n (by simp [z]))]
def qg:Rv→Option PyData
  | .d x=>some x
  | .l xs=>some (.list xs)
  | .s _=>none
theorem sd{r:Rv}{d:PyData}(h:qg r=some d):ja [r]=some [d]:=by
  cases r with
  | d x=>cases h;rfl
  | l xs=>cases h;rfl
  | s i=>cases h
def gH(ft:FT)(f:FS):Nat→FS
  | 0,_=>none
  | n+1,e=>(ft e).bind fun p=>if p.1=true then(f p.2).bind fun fl=>match fl with
      | .nx e1=>gH ft f n e1
      | .ct e1=>gH ft f n e1
      | .bk e1=>some (.nx e1)
      | .rt r e1=>some (.rt r e1)
    else some (.nx p.2)
def iU(n:Nat)(ft:FT)(f:FS):FS:=gH ft f n
theorem lM{n:Nat}{c:Expr}{body:List Stmt}(hp:PassesOwn (model X.prog X.w) X.A X.env X.xe)(hc:PT X c (fT K ft))(hb:ko X body (fS K f W)):PS X (.While c body [] pos) (fS K (iU n ft f) W):=(vF hp hc hb).mono fun D σ H h=>by
  refine⟨fun m σ H=>∃F e fl,aW K F H σ e∧gH ft f m e=some fl∧lh K W σ F H e D fl,⟨n,h⟩,?_⟩
  rintro m σ H ⟨F,e,fl,R,hf,q⟩
  cases m with
  | zero=>cases hf
  | succ m=>
    unfold gH at hf
    obtain⟨⟨x,e1⟩,h1,hf⟩:=Option.bind_eq_some_iff.mp hf
    refine⟨F,e,x,e1,R,h1,fun F1 H1 X1 R1=>?_⟩
    have sub:∀j,j∈([]:List Nat)→j∈W:=fun j h=>by cases h
    cases x with
    | false=>
      rw [if_neg (by simp)] at hf
      cases hf
      exact Ce (q F1 H1 σ X1.s R1)
    | true=>
      rw [if_pos rfl] at hf
      refine Cf ?_
      obtain⟨fl1,h2,hf⟩:=Option.bind_eq_some_iff.mp hf
      have q1:lh K W σ F1 H1 e1 D fl:=q.later (W1:=[]) X1.s sub fun j h=>h
      refine⟨fun σ' H'=>∃F' e',aW K F' H' σ' e'∧gH ft f m e'=some fl∧lh K W σ' F' H' e' D fl,fun σ' H' ⟨F',e',r1,r2,r3⟩=>⟨m,Nat.lt_succ_self m,F',e',fl,r1,r2,r3⟩,F1,e1,fl1,R1,h2,?_⟩
      cases fl1 with
      | nx e2=>exact fun F2 H2 σ2 x R2=>⟨F2,e2,R2,hf,q1.later x (fun j h=>h) fun j h=>h⟩
      | ct e2=>exact fun F2 H2 σ2 x R2=>⟨F2,e2,R2,hf,q1.later x (fun j h=>h) fun j h=>h⟩
      | bk e2=>cases hf;exact fun F2 H2 σ2 x R2=>q1 F2 H2 σ2 x R2
      | rt r e2=>cases hf;exact fun F2 H2 σ2 v x R2 A=>q1 F2 H2 σ2 v x R2 A
end
end L2
namespace L2
open PySem PySem.Spec PyProof.Rows
theorem PI.mono{X:Cx}{tg iter:Expr}{t t':TI}(h:PI X tg iter t)(m:∀σ H R,t' σ H R→t σ H R):PI X tg iter t':=fun pins s σ H R I q=>h pins s σ H R I (m σ H R q)
theorem PI.or{X:Cx}{tg iter:Expr}{t t':TI}(h:PI X tg iter t)(h':PI X tg iter t'):PI X tg iter (fun σ H R=>t σ H R∨t' σ H R):=fun pins s σ H R I q=>by
  rcases q with q | q
  · exact h pins s σ H R I q
  · exact h' pins s σ H R I q
abbrev fq:=List (Nat × List PyData)
def tG(K:PySem.W.Frag)(σ:L2.St)(F H:Hp)(own:fq):Prop:=∀p∈own,∃l vs,σ[p.1]?=some (some (.ref l))∧H l=some (.lst vs)∧az K F p.2 vs
def pU(K:PySem.W.Frag)(σ:L2.St)(J:It)(items:List PyData)(own:fq)(F0:Hp):Prop:=∀F H,ar F0 F→ar F H→tG K σ F H own→
  (∀i,i < items.length→J.go i H)∧(∀i,items.length≤i→J.stop i H)∧∀i d x H',items[i]?=some d→J.yld i H x H'→∃F',ar H H'∧ar F F'∧ar F' H'∧(∀a,F a=none→H a≠none→F' a=none)∧DA K F' d x
abbrev FI:=En→Option (List PyData × fq × En)
def keeps(own:fq)(e:En):Prop:=∀p∈own,e[p.1]?=some (some (.l p.2))
def fI(K:PySem.W.Frag)(f:FI):TI:=fun σ H R=>∃F e items own e',aW K F H σ e∧f e=some (items,own,e')∧∀J F' H',dO σ F H e F' H' e'→aW K F' H' σ e'→keeps own e'→pU K σ J items own F'→R J H'
section
variable{K:PySem.W.Frag}{σ:L2.St}{H0 F H F' H':Hp}{e e':En}
theorem aW.held(R:aW K F H σ e){own:fq}(h:keeps own e):tG K σ F H own:=fun p hp=>by
  obtain⟨l,vs,h1,h2,h3,h4⟩:=R.own p.1 p.2 (h p hp)
  exact⟨l,vs,h1,h3,h4⟩
theorem aW.step(R:aW K F H σ e)(s:ar H H')(sF:ar F F')(sm:ar F' H')(fz:∀a,F a=none→H a≠none→F' a=none):aW K F' H' σ e∧dO σ F H e F' H' e:=by
  obtain⟨R',o'⟩:=R.keep sF sm (fun a ⟨i,h⟩=>by
    obtain⟨h1,vs,h2⟩:=R.fpAt h
    exact fz a h1 (by rw [h2];simp)) fun a o _ h=>s a o h
  exact⟨R',⟨sF,fun a h=>s.free h,fun a vs h1 h2 _=>fz a h1 (by rw [h2];simp),fun a vs h=>⟨vs,s _ _ h⟩,fun a o h _=>s a o h,fun _=>Iff.rfl,fun a h=>.inl ((o' a).mp h)⟩⟩
inductive tD (K:PySem.W.Frag) (σ:L2.St) (F:Hp) (p:Addr):Bool→List PyData→fq→Prop
  | tup {xs vs}:cc K F p vs→az K F xs vs→tD K σ F p false xs []
  | lst {xs vs}:dP K F p vs→az K F xs vs→tD K σ F p true xs []
  | own {i xs}:σ[i]?=some (some (.ref p))→tD K σ F p true xs [(i,xs)]
theorem tD.at{p:Addr}{b:Bool}{xs:List PyData}{own:fq}{F0:Hp}(h:tD K σ F0 p b xs own)(s0:ar F0 F)(s1:ar F H){own':fq}(hh:tG K σ F H own')(hs:∀q∈own,q∈own'):∃vs,az K F xs vs∧(if b=true then dP K H p vs else cc K H p vs):=by
  cases h with
  | tup h1 h2=>exact⟨_,h2.mono s0,(s0.trans s1).tup h1⟩
  | lst h1 h2=>exact⟨_,h2.mono s0,(s0.trans s1).seq h1⟩
  | @own i xs h1=>
    obtain⟨l,vs,g1,g2,g3⟩:=hh (i,xs) (hs (i,xs) (by simp))
    dsimp only at g1 g3
    rw [h1] at g1;cases g1
    exact⟨vs,g3,.inl (.inl g2)⟩
def yq(e:En):Rv→Option (Bool × List PyData × fq)
  | .d (.tuple xs)=>some (false,xs,[])
  | .d (.list xs)=>some (true,xs,[])
  | .l xs=>some (true,xs,[])
  | .s i=>match e[i]? with
    | some (some (.l xs))=>some (true,xs,[(i,xs)])
    | _=>none
  | _=>none
theorem kT{r:Rv}{v:V}{b:Bool}{xs:List PyData}{own:fq}(R:aW K F H σ e)(A:cf K σ H0 F H e r v)(h:yq e r=some (b,xs,own)):
    ∃F' p,aW K F' H σ e∧ar F F'∧(∀a,F a=none→H0 a≠none→F' a=none)∧v=.ref p∧tD K σ F' p b xs own∧keeps own e:=by
  cases r with
  | d x=>
    cases x with
    | tuple ds=>
      cases h
      obtain⟨a,ys,e1,e2,e3⟩:=bX.mp A
      exact⟨F,a,R,ar.refl _,fun _ h _=>h,e1,.tup e2 e3,fun p hp=>by cases hp⟩
    | list ds=>
      cases h
      obtain⟨a,ys,e1,e2,e3⟩:=dD.mp A
      exact⟨F,a,R,ar.refl _,fun _ h _=>h,e1,.lst e2 e3,fun p hp=>by cases hp⟩
    | _=>cases h
  | l ys=>
    cases h
    obtain⟨F',R',s',d',f'⟩:=A.frozen R
    obtain⟨a,ys,e1,e2,e3⟩:=dD.mp d'
    exact⟨F',a,R',s',f',e1,.lst e2 e3,fun p hp=>by cases hp⟩
  | s i=>
    obtain⟨h1,ys,h2⟩:=A
    simp only [yq,h2] at h
    cases h
    obtain⟨l,vs,e1,e2,e3,e4⟩:=R.own i _ h2
    rw [h1] at e1;cases e1
    exact⟨F,l,R,ar.refl _,fun _ h _=>h,rfl,.own h1,fun p hp=>by simp only [List.mem_singleton] at hp;subst hp;exact h2⟩
theorem sC{p:Addr}{xs:List PyData}{own:fq}{F0:Hp}(h:tD K σ F0 p true xs own):pU K σ (Dx K p) xs own F0:=by
  intro F H s0 s1 hh
  obtain⟨vs,d,q⟩:=h.at s0 s1 hh fun _ h=>h
  have q:dP K H p vs:=q
  refine⟨fun i hi=>⟨vs,vs[i]'(by rw [←d.len];exact hi),q,List.getElem?_eq_getElem _⟩,fun i hi=>⟨vs,q,by rw [←d.len];exact hi⟩,fun i x v H' hx hy=>?_⟩
  obtain⟨rfl,hy⟩:=hy
  obtain⟨w,g1,g2⟩:=d.get hx
  have e:=hy vs q
  rw [g1] at e;cases e
  exact⟨F,ar.refl _,ar.refl _,s1,fun _ h _=>h,g2⟩
theorem uT{p:Addr}{xs:List PyData}{own:fq}{F0:Hp}(h:tD K σ F0 p false xs own):pU K σ (Dy K p) xs own F0:=by
  intro F H s0 s1 hh
  obtain⟨vs,d,q⟩:=h.at s0 s1 hh fun _ h=>h
  have q:cc K H p vs:=q
  refine⟨fun i hi=>⟨vs,vs[i]'(by rw [←d.len];exact hi),q,List.getElem?_eq_getElem _⟩,fun i hi=>⟨vs,q,by rw [←d.len];exact hi⟩,fun i x v H' hx hy=>?_⟩
  obtain⟨rfl,hy⟩:=hy
  obtain⟨w,g1,g2⟩:=d.get hx
  have e:=hy vs q
  rw [g1] at e;cases e
  exact⟨F,ar.refl _,ar.refl _,s1,fun _ h _=>h,g2⟩
theorem lF{p:Addr}{x y:V}{a b:PyData}(s1:ar F H)(hp:H p=none)(hx:DA K F a x)(hy:DA K F b y):∃F',ar H (aM H p (.tup [x,y]))∧ar F F'∧ar F' (aM H p (.tup [x,y]))∧(∀c,F c=none→H c≠none→F' c=none)∧DA K F' (.tuple [a,b]) (.ref p):=by
  have hF:F p=none:=s1.free hp
  have sF:ar F (aM F p (.tup [x,y])):=ar.new hF
  refine⟨aM F p (.tup [x,y]),ar.new hp,sF,fun b o q=>?_,fun c h n=>?_,bX.mpr ⟨p,_,rfl,.inl (.inl ay),.cons (DA.mono sF hx) (.one (DA.mono sF hy))⟩⟩
  · by_cases z:b=p
    · subst z;rw [ay] at q ⊢;exact q
    · rw [aC z] at q ⊢;exact s1 _ _ q
  · have z:c≠p:=fun z=>n (by rw [z];exact hp)
    rw [aC z];exact h
def fD:Nat→List PyData→List PyData
  | _,[]=>[]
  | n,x::r=>.tuple [.int n,x]::fD (n+1) r
theorem h9:∀{xs:List PyData} {n i:Nat},(fD n xs)[i]?=(xs[i]?).map fun x=>.tuple [.int ((n+i:Nat):Int),x]
  | [],n,i=>by simp [fD]
  | x::r,n,0=>by simp [fD]
  | x::r,n,i+1=>by
    simp only [fD,List.getElem?_cons_succ]
    rw [h9 (xs:=r) (n:=n+1) (i:=i)]
    congr 1
    funext y
    rw [show n+1+i=n+(i+1) by lia]
theorem h_:∀(xs:List PyData) (n:Nat),(fD n xs).length=xs.length
  | [],_=>rfl
  | x::r,n=>by simp [fD,h_ r (n+1)]
theorem qr{p:Addr}{xs:List PyData}{own:fq}{F0:Hp}(h:tD K σ F0 p true xs own):pU K σ (zr K p) (fD 0 xs) own F0:=by
  intro F H s0 s1 hh
  obtain⟨vs,d,q⟩:=h.at s0 s1 hh fun _ h=>h
  have q:dP K H p vs:=q
  rw [h_]
  refine⟨fun i hi=>⟨vs,vs[i]'(by rw [←d.len];exact hi),q,List.getElem?_eq_getElem _⟩,fun i hi=>⟨vs,q,by rw [←d.len];exact hi⟩,fun i x v H' hx hy=>?_⟩
  obtain⟨t,y,rfl,ht,rfl,hy⟩:=hy
  rw [h9] at hx
  obtain⟨x',hx2,rfl⟩:=Option.map_eq_some_iff.mp hx
  obtain⟨w,g1,g2⟩:=d.get hx2
  have e:=hy vs q
  rw [g1] at e;cases e
  exact lF s1 ht (ck.mpr (by simp)) g2
theorem qs{p:Addr}{xs:List PyData}{own:fq}{F0:Hp}(h:tD K σ F0 p false xs own):pU K σ (zt K p) (fD 0 xs) own F0:=by
  intro F H s0 s1 hh
  obtain⟨vs,d,q⟩:=h.at s0 s1 hh fun _ h=>h
  have q:cc K H p vs:=q
  rw [h_]
  refine⟨fun i hi=>⟨vs,vs[i]'(by rw [←d.len];exact hi),q,List.getElem?_eq_getElem _⟩,fun i hi=>⟨vs,q,by rw [←d.len];exact hi⟩,fun i x v H' hx hy=>?_⟩
  obtain⟨t,y,rfl,ht,rfl,hy⟩:=hy
  rw [h9] at hx
  obtain⟨x',hx2,rfl⟩:=Option.map_eq_some_iff.mp hx
  obtain⟨w,g1,g2⟩:=d.get hx2
  have e:=hy vs q
  rw [g1] at e;cases e
  exact lF s1 ht (ck.mpr (by simp)) g2
def dN:List PyData→List PyData→List PyData
  | x::r,y::s=>.tuple [x,y]::dN r s
  | _,_=>[]
theorem l7:∀{xs ys:List PyData} {i:Nat} {d:PyData},(dN xs ys)[i]?=some d→∃x y,xs[i]?=some x∧ys[i]?=some y∧d=.tuple [x,y]
  | [],ys,i,d,h=>by simp [dN] at h
  | x::r,[],i,d,h=>by simp [dN] at h
  | x::r,y::s,0,d,h=>by
    simp only [dN,List.getElem?_cons_zero] at h
    cases h;exact⟨x,y,rfl,rfl,rfl⟩
  | x::r,y::s,i+1,d,h=>by
    simp only [dN,List.getElem?_cons_succ] at h
    obtain⟨a,b,h1,h2,h3⟩:=l7 h
    exact⟨a,b,by simpa using h1,by simpa using h2,h3⟩
theorem zipD_len:∀(xs ys:List PyData),(dN xs ys).length=min xs.length ys.length
  | [],ys=>by simp [dN]
  | x::r,[]=>by simp [dN]
  | x::r,y::s=>by simp [dN,zipD_len r s]
theorem uU{P Q:Hp→Addr→List V→Prop}{J:It}{l1 l2:Addr}{b1 b2:Bool}{xs ys:List PyData}{own1 own2:fq}{F0:Hp}(h1:tD K σ F0 l1 b1 xs own1)(h2:tD K σ F0 l2 b2 ys own2)
    (hP:∀H vs,(if b1=true then dP K H l1 vs else cc K H l1 vs)→P H l1 vs)(hQ:∀H vs,(if b2=true then dP K H l2 vs else cc K H l2 vs)→Q H l2 vs)
    (go:∀i H vs us x y,P H l1 vs→Q H l2 us→vs[i]?=some x→us[i]?=some y→J.go i H)(stop:∀i H vs us,P H l1 vs→Q H l2 us→(vs.length≤i∨us.length≤i)→J.stop i H)
    (yld:∀i H v H',J.yld i H v H'→∃p x y,v=.ref p∧H p=none∧H'=aM H p (.tup [x,y])∧∀xs ys,P H l1 xs→Q H l2 ys→xs[i]?=some x∧ys[i]?=some y):
    pU K σ J (dN xs ys) (own1++own2) F0:=by
  intro F H s0 s1 hh
  obtain⟨vs,d1,q1⟩:=h1.at s0 s1 hh fun _ h=>List.mem_append.mpr (.inl h)
  obtain⟨us,d2,q2⟩:=h2.at s0 s1 hh fun _ h=>List.mem_append.mpr (.inr h)
  have q1:=hP H vs q1
  have q2:=hQ H us q2
  have l1':=d1.len
  have l2':=d2.len
  rw [zipD_len]
  refine⟨fun i hi=>go i H vs us (vs[i]'(by lia)) (us[i]'(by lia)) q1 q2 (List.getElem?_eq_getElem _) (List.getElem?_eq_getElem _),fun i hi=>stop i H vs us q1 q2 (by lia),fun i x v H' hx hy=>?_⟩
  obtain⟨t,a,b,rfl,ht,rfl,hy3⟩:=yld i H v H' hy
  obtain⟨x',y',hx2,hy',rfl⟩:=l7 hx
  obtain⟨w,g1,g2⟩:=d1.get hx2
  obtain⟨w',g3,g4⟩:=d2.get hy'
  obtain⟨e1,e2⟩:=hy3 vs us q1 q2
  rw [g1] at e1;cases e1
  rw [g3] at e2;cases e2
  exact lF s1 ht g2 g4
def bv(lo:Int)(n:Nat):List PyData:=(List.range n).map fun(i:Nat)=>.int (lo+(i:Int))
theorem qt{lo:Int}{n:Nat}{F0:Hp}:pU K σ (Dl lo n) (bv lo n) [] F0:=by
  intro F H s0 s1 hh
  unfold bv
  rw [List.length_map,List.length_range]
  refine⟨fun i hi=>hi,fun i hi=>hi,fun i x v H' hx hy=>?_⟩
  obtain⟨rfl,rfl⟩:=hy
  rw [List.getElem?_map] at hx
  obtain⟨k,h1,rfl⟩:=Option.map_eq_some_iff.mp hx
  have h2:=(List.getElem?_eq_some_iff.mp h1).2
  simp at h2
  subst h2
  exact⟨F,ar.refl _,ar.refl _,s1,fun _ h _=>h,ck.mpr rfl⟩
end
inductive Dw (K:PySem.W.Frag) (own:fq) (σ0:L2.St) (F1:Hp) (P:En→Prop) (G:L2.St→Hp→Hp→En→Prop) (σ:L2.St) (H:Hp):Prop
  | mk {F:Hp} {e:En} (R:aW K F H σ e) (kp:keeps own e) (hσ:∀p∈own,σ[p.1]?=σ0[p.1]?) (sF:ar F1 F) (hf:P e) (q:G σ F H e):Dw K own σ0 F1 P G σ H
section
variable{X:Cx}{K:PySem.W.Frag}{tg a b:Expr}{es:List Expr}{fa:FE}{fs:FA}{pos p tp:Pos}{k0:Nat}
def gu(fa:FE):FI:=fun e=>(fa e).bind fun p=>(yq p.2 p.1).map fun s=>(s.2.1,s.2.2,p.2)
theorem ek(hK:X.K=K)(h:PE X a (fE K fa)):PI X tg a (fI K (gu fa)):=((vA (tg:=tg) hK h).or (xV (tg:=tg) hK h)).mono fun σ H R hh=>by
  obtain⟨F,e,items,own,e',R0,hf,q⟩:=hh
  unfold gu at hf
  obtain⟨⟨r,e1⟩,h1,hf⟩:=Option.bind_eq_some_iff.mp hf
  obtain⟨⟨b,xs,ow⟩,h2,hf⟩:=Option.map_eq_some_iff.mp hf
  cases hf
  cases b with
  | true=>
    refine .inl ⟨F,e,r,e1,R0,h1,fun F1 H1 v X1 R1 A1=>?_⟩
    obtain⟨F2,p,R2,s2,f2,rfl,sc,kp⟩:=kT R1 A1 h2
    obtain⟨vs,_,c⟩:=sc.at (ar.refl _) R2.sm (R2.held kp) fun _ h=>h
    exact⟨p,rfl,⟨vs,c⟩,q _ F2 H1 (X1.frz s2 f2) R2 kp (sC sc)⟩
  | false=>
    refine .inr ⟨F,e,r,e1,R0,h1,fun F1 H1 v X1 R1 A1=>?_⟩
    obtain⟨F2,p,R2,s2,f2,rfl,sc,kp⟩:=kT R1 A1 h2
    obtain⟨vs,_,c⟩:=sc.at (ar.refl _) R2.sm (R2.held kp) fun _ h=>h
    exact⟨p,rfl,⟨vs,c⟩,q _ F2 H1 (X1.frz s2 f2) R2 kp (uT sc)⟩
def uR(fs:FA):FI:=fun e=>(fs e).bind fun p=>match p.1 with
  | [r]=>(yq p.2 r).map fun s=>(fD 0 s.2.1,s.2.2,p.2)
  | _=>none
theorem ye(hK:X.K=K)(hg:Gl X "enumerate")(hm:X.mg "enumerate"=none)(ha:PA X [a] (fA K fs))(hs:starEach [a] X.env=[(false,eval a X.env)]):PI X (.Tuple es k0 tp) (.Call (.Name "enumerate" p) [a] [] pos) (fI K (uR fs)):=((vy (es:=es) (k0:=k0) (tp:=tp) hK hg hm ha hs).or (vz (es:=es) (k0:=k0) (tp:=tp) hK hg hm ha hs)).mono fun σ H R hh=>by
  obtain⟨F,e,items,own,e',R0,hf,q⟩:=hh
  unfold uR at hf
  obtain⟨⟨rs,e1⟩,h1,hf⟩:=Option.bind_eq_some_iff.mp hf
  match rs,h1,hf with
  | [r],h1,hf=>
  obtain⟨⟨b,xs,ow⟩,h2,hf⟩:=Option.map_eq_some_iff.mp hf
  cases hf
  cases b with
  | true=>
    refine .inl ⟨F,e,_,e1,R0,h1,fun F1 H1 vs X1 R1 A1=>?_⟩
    obtain⟨v,rfl,A2⟩:=ip A1
    obtain⟨F2,p,R2,s2,f2,rfl,sc,kp⟩:=kT R1 A2 h2
    obtain⟨vs,_,c⟩:=sc.at (ar.refl _) R2.sm (R2.held kp) fun _ h=>h
    exact⟨p,rfl,⟨vs,c⟩,q _ F2 H1 (X1.frz s2 f2) R2 kp (qr sc)⟩
  | false=>
    refine .inr ⟨F,e,_,e1,R0,h1,fun F1 H1 vs X1 R1 A1=>?_⟩
    obtain⟨v,rfl,A2⟩:=ip A1
    obtain⟨F2,p,R2,s2,f2,rfl,sc,kp⟩:=kT R1 A2 h2
    obtain⟨vs,_,c⟩:=sc.at (ar.refl _) R2.sm (R2.held kp) fun _ h=>h
    exact⟨p,rfl,⟨vs,c⟩,q _ F2 H1 (X1.frz s2 f2) R2 kp (qs sc)⟩
def vQ(j:Int):Bool:=decide (-1000000≤j)&&decide (j≤1000000)
theorem vR{j:Int}(h:vQ j=true): -1000000≤j∧j≤1000000:=by
  unfold vQ at h
  rw [Bool.and_eq_true,decide_eq_true_iff,decide_eq_true_iff] at h
  exact h
def df(fs:FA):FI:=fun e=>(fs e).bind fun p=>match p.1 with
  | [r]=>(cR r).bind fun j=>if vQ j=true then some (bv 0 j.toNat,[],p.2) else none
  | _=>none
theorem dM(hg:Gl X "range")(hm:X.mg "range"=none)(ha:PA X [a] (fA K fs))(hs:starEach [a] X.env=[(false,eval a X.env)]):PI X tg (.Call (.Name "range" p) [a] [] pos) (fI K (df fs)):=(sP hg hm ha hs).mono fun σ H R hh=>by
  obtain⟨F,e,items,own,e',R0,hf,q⟩:=hh
  unfold df at hf
  obtain⟨⟨rs,e1⟩,h1,hf⟩:=Option.bind_eq_some_iff.mp hf
  match rs,h1,hf with
  | [r],h1,hf=>
  obtain⟨j,h2,hf⟩:=Option.bind_eq_some_iff.mp hf
  split at hf
  case isFalse=>cases hf
  case isTrue hj=>
  cases hf
  refine⟨F,e,_,e1,R0,h1,fun F1 H1 vs X1 R1 A1=>?_⟩
  obtain⟨v,rfl,A2⟩:=ip A1
  have:=vR hj
  exact⟨j,by rw [cw A2 h2],by lia,by lia,q _ F1 H1 X1 R1 (fun _ h=>by cases h) qt⟩
open Classical in
noncomputable def iD(own:fq)(g:FG)(f:FS):List PyData→FS
  | [],e=>some (.nx e)
  | x::r,e=>(g x e).bind fun e1=>(f e1).bind fun fl=>match fl with
    | .nx e2=>if keeps own e2 then iD own g f r e2 else none
    | .ct e2=>if keeps own e2 then iD own g f r e2 else none
    | .bk e2=>some (.nx e2)
    | .rt v e2=>some (.rt v e2)
noncomputable def d_(W:List Nat)(fi:FI)(g:FG)(f:FS):FS:=fun e=>(fi e).bind fun p=>if (p.2.1.all fun q=> !W.contains q.1)=true then iD p.2.1 g f p.1 p.2.2 else none
theorem el{W1 W2:List Nat}{iter:Expr}{body:List Stmt}{fi:FI}{g:FG}{f:FS}(hp:PassesOwn (model X.prog X.w) X.A X.env X.xe)(hc:X.calm=true)(hi:PI X tg iter (fI K fi))(hg:PG X tg (fG K g W1))(hb:ko X body (fS K f W2))(hs:∀x,foldedSetIterable iter X.env x=pure x):
    PS X (.For tg iter body [] pos) (fS K (d_ (W1++W2) fi g f) (W1++W2)):=(AH hp hc hi hg hb hs).mono fun D σ0 H0 hh=>by
  obtain⟨F0,e0,fl,R0,hf,q0⟩:=hh
  unfold d_ at hf
  obtain⟨⟨items,own,e1⟩,h1,hf⟩:=Option.bind_eq_some_iff.mp hf
  dsimp only at hf
  split at hf
  case isFalse=>cases hf
  case isTrue hW=>
  have hW':∀p∈own,p.1∉W1++W2:=fun p hp=>by
    have:=List.all_eq_true.mp hW p hp
    simpa using this
  refine⟨F0,e0,items,own,e1,R0,h1,fun J F1 H1 X1 R1 kp ok=>?_⟩
  have s1:∀j,j∈W1→j∈W1++W2:=fun j h=>List.mem_append.mpr (.inl h)
  have s2:∀j,j∈W2→j∈W1++W2:=fun j h=>List.mem_append.mpr (.inr h)
  have q1:lh K (W1++W2) σ0 F1 H1 e1 D fl:=q0.later (W1:=[]) X1.s (fun j h=>by cases h) fun j h=>h
  refine⟨fun i m σ H=>m=items.length - i∧i≤items.length∧Dw K own σ0 F1 (fun e=>iD own g f (items.drop i) e=some fl) (fun σ F H e=>lh K (W1++W2) σ F H e D fl) σ H,
    ⟨items.length,by simp,Nat.zero_le _,.mk R1 kp (fun _ _=>rfl) (ar.refl _) hf q1⟩,?_⟩
  rintro i m σ H ⟨rfl,hi,⟨R,kp,hσ,sF,hf,q⟩⟩
  rename_i F e
  have held:tG K σ0 F H own:=fun p hp=>by
    obtain⟨l,vs,g1,g2⟩:=R.held kp p hp
    exact⟨l,vs,by rw [←hσ p hp];exact g1,g2⟩
  obtain⟨go,stop,yld⟩:=ok F H sF R.sm held
  by_cases hlt:i < items.length
  · have hd:items.drop i=items[i]::items.drop (i+1):=List.drop_eq_getElem_cons hlt
    rw [hd] at hf
    unfold iD at hf
    obtain⟨e2,h2,hf⟩:=Option.bind_eq_some_iff.mp hf
    obtain⟨fl2,h3,hf⟩:=Option.bind_eq_some_iff.mp hf
    refine .inr ⟨go i hlt,Dw K own σ0 F1 (fun e=>iD own g f (items.drop (i+1)) e=some fl) (fun σ F H e=>lh K (W1++W2) σ F H e D fl),
      fun σ' H' r=>⟨items.length - (i+1),by lia,rfl,hlt,r⟩,fun x H' hy=>?_⟩
    obtain⟨F',sH,sF',sm',fz,hx⟩:=yld i items[i] x H' (List.getElem?_eq_getElem hlt) hy
    obtain⟨R',X'⟩:=R.step sH sF' sm' fz
    refine⟨F',e,items[i],e2,R',hx,h2,fun σ2 x2 R2=>⟨F',e2,fl2,R2,h3,?_⟩⟩
    have q2:lh K (W1++W2) σ2 F' H' e2 D fl:=(q.later (W1:=[]) (W2:=W1++W2) X'.s (fun j h=>by cases h) fun j h=>h).later x2 s1 fun j h=>h
    have w2:∀p∈own,σ2[p.1]?=σ0[p.1]?:=fun p hp=>(x2.wr p.1 fun z=>hW' p hp (s1 _ z)).trans (hσ p hp)
    cases fl2 with
    | nx e3=>
      intro F3 H3 σ3 x3 R3
      dsimp only at hf
      split at hf
      case isFalse=>cases hf
      case isTrue kp3=>
      exact .mk R3 kp3 (fun p hp=>(x3.wr p.1 fun z=>hW' p hp (s2 _ z)).trans (w2 p hp)) (sF.trans (sF'.trans x3.sf)) hf (q2.later x3 s2 fun j h=>h)
    | ct e3=>
      intro F3 H3 σ3 x3 R3
      dsimp only at hf
      split at hf
      case isFalse=>cases hf
      case isTrue kp3=>
      exact .mk R3 kp3 (fun p hp=>(x3.wr p.1 fun z=>hW' p hp (s2 _ z)).trans (w2 p hp)) (sF.trans (sF'.trans x3.sf)) hf (q2.later x3 s2 fun j h=>h)
    | bk e3=>
      cases hf
      exact fun F3 H3 σ3 x3 R3=>q2 F3 H3 σ3 (x3.mono s2) R3
    | rt r e3=>
      cases hf
      exact fun F3 H3 σ3 v x3 R3 A3=>q2 F3 H3 σ3 v (x3.mono s2) R3 A3
  · have hd:items.drop i=[]:=List.drop_eq_nil_of_le (by lia)
    rw [hd] at hf
    cases hf
    exact .inl ⟨stop i (by lia),q F H σ dn.refl R⟩
end
end L2
namespace L2
open PySem PySem.Spec PyProof.Rows
def wJ:Option (Option Sv)→Bool
  | some (some (.l _))=>true
  | _=>false
theorem xj{s:Option (Option Sv)}:wJ s=true↔ ∃xs,s=some (some (.l xs)):=by
  unfold wJ
  split
  · simp
  · rename_i h
    constructor
    · intro z;cases z
    · rintro⟨xs,rfl⟩;exact absurd rfl (h xs)
def l5(pos:Nat→Option Nat)(ei e:En):En:=e.mapIdx fun i s=>match s with
  | some (.l xs)=>match pos i with
    | some k=>(ei[k]?).join
    | none=>some (.l xs)
  | s=>s
theorem bV{pos:Nat→Option Nat}{ei e:En}{i:Nat}:(l5 pos ei e)[i]?=(e[i]?).map fun s=>match s with
  | some (.l xs)=>match pos i with
    | some k=>(ei[k]?).join
    | none=>some (.l xs)
  | s=>s:=by unfold l5;rw [List.getElem?_mapIdx]
structure ov (σ:L2.St) (e:En) (σi:L2.St) (ei:En) (pos:Nat→Option Nat):Prop where
  a:∀(i k:Nat) (xs:List PyData),e[i]?=some (some (.l xs))→pos i=some k→σi[k]?=σ[i]?
  b:∀(k:Nat) (ys:List PyData),ei[k]?=some (some (.l ys))→∃(i:Nat) (xs:List PyData),e[i]?=some (some (.l xs))∧pos i=some k∧σi[k]?=σ[i]?
section
variable{K:PySem.W.Frag}{σ σi σi':L2.St}{F H F' H':Hp}{e ei ei':En}{pos:Nat→Option Nat}
def BC(e:En):Prop:=∀(i:Nat) (xss:List (List PyData)),e[i]?≠some (some (.n xss))
theorem ov.own(s:ov σ e σi ei pos)(hn:BC ei){a:Addr}{H H':Hp}(h:dy σi ei H a):∃(i k:Nat) (xs:List PyData),e[i]?=some (some (.l xs))∧pos i=some k∧σ[i]?=some (some (.ref a)):=by
  obtain⟨k,⟨ys,h1,h2⟩ | ⟨xss,_,_,h1,_⟩⟩:=h
  · obtain⟨i,xs,g1,g2,g3⟩:=s.b k ys h1
    exact⟨i,k,xs,g1,g2,by rw [←g3];exact h2⟩
  · exact absurd h1 (hn k xss)
theorem pO(R:aW K F H σ e)(s:ov σ e σi ei pos)(hnn:BC ei)(sf:ar F F')(dom:∀a,H' a=none→H a=none)(fr:∀a vs,F a=none→H a=some (.lst vs)→¬dy σi ei H a→F' a=none)(lst:∀a vs,H a=some (.lst vs)→∃vs',H' a=some (.lst vs'))
    (tmp:∀a o,H a=some o→¬dy σi ei H a→H' a=some o)(R':aW K F' H' σi' ei')(hσ:∀(i k:Nat) (xs:List PyData),e[i]?=some (some (.l xs))→pos i=some k→σi'[k]?=σi[k]?)(hsh:∀(i k:Nat) (xs:List PyData),e[i]?=some (some (.l xs))→pos i=some k→∃ys,ei'[k]?=some (some (.l ys))):
    aW K F' H' σ (l5 pos ei' e)∧dO σ F H e F' H' (l5 pos ei' e)∧∀a,dy σ (l5 pos ei' e) H' a→dy σ e H a:=by
  have shp:∀i:Nat,(∃xs,(l5 pos ei' e)[i]?=some (some (.l xs)))↔ (∃xs,e[i]?=some (some (.l xs))):=by
    intro i
    rw [bV]
    match h:e[i]? with
    | none=>simp
    | some none=>simp
    | some (some (.d x))=>simp
    | some (some (.n x))=>simp
    | some (some (.l xs))=>
      simp only [Option.map_some]
      constructor
      · intro _;exact⟨xs,rfl⟩
      · intro _
        match hp:pos i with
        | none=>exact⟨xs,rfl⟩
        | some k=>
          obtain⟨ys,g⟩:=hsh i k xs h hp
          exact⟨ys,by show some ((ei'[k]?).join)=_;rw [g];rfl⟩
  have oth:∀(i:Nat) (s:Sv),(∀xs,s≠.l xs)→((l5 pos ei' e)[i]?=some (some s)↔ e[i]?=some (some s)):=by
    intro i s hs
    constructor
    · intro h
      rw [bV] at h
      match h1:e[i]?,h with
      | some (some (.d y)),h=>exact h
      | some (some (.n y)),h=>exact h
      | some (some (.l ys)),h=>
        simp only [Option.map_some,Option.some.injEq] at h
        match hp:pos i,h with
        | none,h=>cases h;exact absurd rfl (hs _)
        | some k,h=>
          obtain⟨zs,g⟩:=hsh i k ys h1 hp
          change (ei'[k]?).join=_ at h
          rw [g] at h;cases h;exact absurd rfl (hs _)
      | some none,h=>simp at h
      | none,h=>simp at h
    · intro h
      rw [bV,h]
      cases s with
      | d y=>rfl
      | n y=>rfl
      | l y=>exact absurd rfl (hs y)
  have out:∀i a,Fp σ e H i a→(∀k xs,e[i]?=some (some (.l xs))→pos i≠some k)→¬dy σi ei H a:=by
    intro i a hi hp z
    obtain⟨j,k,ws,d1,d2,d3⟩:=s.own hnn (H':=H') z
    have:i=j:=R.fp i j a hi (.inl ⟨ws,d1,d3⟩)
    subst this
    exact hp k ws d1 d2
  have keep:∀i a o,Fp σ e H i a→(∀k xs,e[i]?=some (some (.l xs))→pos i≠some k)→H a=some o→H' a=some o:=fun i a o hi hp ha=>tmp a o ha (out i a hi hp)
  have sown:∀a,dy σi ei H a→dy σ e H a:=fun a z=>by
    obtain⟨j,k,ws,d1,d2,d3⟩:=s.own hnn (H':=H') z
    exact⟨j,.inl ⟨ws,d1,d3⟩⟩
  have fs:∀i a,Fp σ (l5 pos ei' e) H' i a↔ Fp σ e H i a:=by
    intro i a
    have key:∀xss l,e[i]?=some (some (.n xss))→σ[i]?=some (some (.ref l))→H' l=H l:=fun xss l h1 h2=>by
      obtain⟨l',bs,g1,g2,g3,_⟩:=R.nst i xss h1
      rw [h2] at g1;cases g1
      rw [g3]
      exact keep i l _ (.inr ⟨xss,l,bs,h1,h2,g3,.inl rfl⟩) (fun k xs z=>by rw [h1] at z;cases z) g3
    constructor
    · rintro(⟨xs,h1,h2⟩ | ⟨xss,l,bs,h1,h2,h3,h4⟩)
      · obtain⟨ys,h⟩:=(shp i).mp ⟨xs,h1⟩
        exact .inl ⟨ys,h,h2⟩
      · have h1':=(oth i (.n xss) (fun _ z=>nomatch z)).mp h1
        exact .inr ⟨xss,l,bs,h1',h2,by rw [←key xss l h1' h2];exact h3,h4⟩
    · rintro(⟨xs,h1,h2⟩ | ⟨xss,l,bs,h1,h2,h3,h4⟩)
      · obtain⟨ys,h⟩:=(shp i).mpr ⟨xs,h1⟩
        exact .inl ⟨ys,h,h2⟩
      · exact .inr ⟨xss,l,bs,(oth i (.n xss) (fun _ z=>nomatch z)).mpr h1,h2,by rw [key xss l h1 h2];exact h3,h4⟩
  refine⟨⟨R'.sm,?_,fun i x h=>?_,fun i xs h=>?_,fun i xss h=>?_,fun i j a h1 h2=>R.fp i j a ((fs i a).mp h1) ((fs j a).mp h2)⟩,⟨sf,dom,fun a vs h1 h2 n=>fr a vs h1 h2 fun z=>n (sown a z),lst,fun a o h n=>tmp a o h fun z=>n (sown a z),shp,fun a ⟨i,h⟩=>.inl ⟨i,(fs i a).mp h⟩⟩,fun a ⟨i,h⟩=>⟨i,(fs i a).mp h⟩⟩
  · unfold l5;rw [List.length_mapIdx];exact R.len
  · obtain⟨v,g1,g2⟩:=R.dat i x ((oth i (.d x) (fun _ z=>nomatch z)).mp h)
    exact⟨v,g1,DA.mono sf g2⟩
  · obtain⟨ys,h1⟩:=(shp i).mp ⟨xs,h⟩
    obtain⟨l,vs,g1,g2,g3,g4⟩:=R.own i ys h1
    rw [bV,h1] at h
    simp only [Option.map_some,Option.some.injEq] at h
    match hp:pos i,h with
    | none,h=>
      cases h
      have np:∀k xs,e[i]?=some (some (Sv.l xs))→pos i≠some k:=fun k xs _ z=>by rw [hp] at z;cases z
      have fi:Fp σ e H i l:=.inl ⟨_,h1,g1⟩
      exact⟨l,vs,g1,fr l vs g2 g3 (out i l fi np),keep i l _ fi np g3,g4.mono sf⟩
    | some k,h=>
      obtain⟨zs,c1⟩:=hsh i k ys h1 hp
      change (ei'[k]?).join=_ at h
      rw [c1] at h;cases h
      obtain⟨l',vs',d1,d2,d3,d4⟩:=R'.own k _ c1
      rw [hσ i k ys h1 hp,s.a i k ys h1 hp] at d1
      exact⟨l',vs',d1,d2,d3,d4⟩
  · have h1:=(oth i (.n xss) (fun _ z=>nomatch z)).mp h
    obtain⟨l,bs,g1,g2,g3,g4,g5,g6,g7⟩:=R.nst i xss h1
    have np:∀k xs,e[i]?=some (some (Sv.l xs))→pos i≠some k:=fun k xs z=>by rw [h1] at z;cases z
    have fi:Fp σ e H i l:=.inr ⟨xss,l,bs,h1,g1,g3,.inl rfl⟩
    refine⟨l,bs,g1,fr l _ g2 g3 (out i l fi np),keep i l _ fi np g3,g4,g5,g6,fun k b ys q1 q2=>?_⟩
    obtain⟨c1,us,c2,c3⟩:=g7 k b ys q1 q2
    have fb:Fp σ e H i b:=.inr ⟨xss,l,bs,h1,g1,g3,.inr (List.mem_of_getElem? q1)⟩
    exact⟨fr b _ c1 c2 (out i b fb np),us,keep i b _ fb np c2,c3.mono sf⟩
end
def cX(e:En):List Rv→Option (List Sv)
  | []=>some []
  | .d x::r=>(cX e r).map (.d x::·)
  | .l xs::r=>(cX e r).map (.d (.list xs)::·)
  | .s i::r=>match e[i]? with
    | some (some (.l xs))=>(cX e r).map (.l xs::·)
    | _=>none
def aD:List Rv→List Nat
  | []=>[]
  | .s i::r=>i::aD r
  | .d _::r=>aD r
  | .l _::r=>aD r
def iQ(rs:List Rv)(i:Nat):Option Nat:=rs.findIdx? fun r=>match r with
  | .s j=>j==i
  | _=>false
def noS:Rv→Prop
  | .s _=>False
  | _=>True
abbrev FM:=List Sv→Option (Rv × List Sv)
def cD(K:PySem.W.Frag)(n:Nat)(m:FM):Sp:=fun vs H Q _=>vs.length=n∧∃F as r as',aW K F H (vs.map some) (as.map some)∧BC (as.map some)∧m as=some (r,as')∧noS r∧
  ∀F' H' v,dO (vs.map some) F H (as.map some) F' H' (as'.map some)→aW K F' H' (vs.map some) (as'.map some)→cf K (vs.map some) H F' H' (as'.map some) r v→Q v H'
def br:List Rv→List Sv→Bool
  | [],[]=>true
  | .s _::r,.l _::s=>br r s
  | .d _::r,_::s=>br r s
  | .l _::r,_::s=>br r s
  | _,_=>false
def z9:Rv→Bool
  | .s _=>false
  | _=>true
def eW:List Rv→List Sv→En→En
  | .s i::r,.l ys::s,e=>eW r s (e.set i (some (.l ys)))
  | .d _::r,_::s,e=>eW r s e
  | .l _::r,_::s,e=>eW r s e
  | _,_,e=>e
def dt(n:Nat)(m:FM)(fs:FA):FE:=fun e=>(fs e).bind fun p=>(cX p.2 p.1).bind fun as=>(m as).bind fun z=>if p.1.length=n∧(aD p.1).Nodup∧br p.1 z.2=true∧z9 z.1=true then some (z.1,eW p.1 z.2 p.2) else none
theorem gy:∀{rs:List Rv} {as:List Sv},br rs as=true→∀(k i:Nat),rs[k]?=some (.s i)→∃ys,as[k]?=some (.l ys)
  | [],[],_,k,i,h=>by simp at h
  | .s j::r,.l ys::s,h,k,i,hk=>by
    cases k with
    | zero=>exact⟨ys,rfl⟩
    | succ k=>simpa using gy (rs:=r) (as:=s) (by simpa [br] using h) k i (by simpa using hk)
  | .d x::r,y::s,h,k,i,hk=>by
    cases k with
    | zero=>simp at hk
    | succ k=>simpa using gy (rs:=r) (as:=s) (by simpa [br] using h) k i (by simpa using hk)
  | .l x::r,y::s,h,k,i,hk=>by
    cases k with
    | zero=>simp at hk
    | succ k=>simpa using gy (rs:=r) (as:=s) (by simpa [br] using h) k i (by simpa using hk)
  | .s _::_,.d _::_,h,_,_,_=>by simp [br] at h
  | .s _::_,[],h,_,_,_=>by simp [br] at h
  | .d _::_,[],h,_,_,_=>by simp [br] at h
  | .l _::_,[],h,_,_,_=>by simp [br] at h
theorem jQ{r0:Rv}{rs:List Rv}{i:Nat}:iQ (r0::rs) i=if (match r0 with | .s j=>j==i | _=>false)=true then some 0 else(iQ rs i).map (· +1):=by
  unfold iQ;rw [List.findIdx?_cons]
theorem jR{rs:List Rv}{i k:Nat}(h:iQ rs i=some k):rs[k]?=some (.s i):=by
  unfold iQ at h
  rw [List.findIdx?_eq_some_iff_getElem] at h
  obtain⟨hk,h1,_⟩:=h
  rw [List.getElem?_eq_getElem hk]
  split at h1
  · rename_i heq
    rw [heq]
    have:=eq_of_beq h1
    rw [this]
  · cases h1
theorem eI:∀{rs:List Rv} {i:Nat},i∈aD rs↔ Rv.s i∈rs
  | [],i=>by simp [aD]
  | .s j::r,i=>by simp [aD,eI (rs:=r)]
  | .d x::r,i=>by simp [aD,eI (rs:=r)]
  | .l x::r,i=>by simp [aD,eI (rs:=r)]
theorem eT:∀{rs:List Rv} {i k j:Nat},(aD rs).Nodup→rs[k]?=some (.s i)→rs[j]?=some (.s i)→k=j
  | [],i,k,j,_,h,_=>by simp at h
  | .s m::r,i,k,j,hn,h1,h2=>by
    simp only [aD,List.nodup_cons] at hn
    cases k with
    | zero=>
      simp at h1;subst h1
      cases j with
      | zero=>rfl
      | succ j=>exact absurd (eI.mpr (List.mem_of_getElem? (by simpa using h2))) hn.1
    | succ k=>
      cases j with
      | zero=>
        simp at h2;subst h2
        exact absurd (eI.mpr (List.mem_of_getElem? (by simpa using h1))) hn.1
      | succ j=>
        have:=eT (rs:=r) (i:=i) (k:=k) (j:=j) hn.2 (by simpa using h1) (by simpa using h2)
        lia
  | .d x::r,i,k,j,hn,h1,h2=>by
    cases k with
    | zero=>simp at h1
    | succ k=>
      cases j with
      | zero=>simp at h2
      | succ j=>
        have:=eT (rs:=r) (i:=i) (k:=k) (j:=j) (by simpa [aD] using hn) (by simpa using h1) (by simpa using h2)
        lia
  | .l x::r,i,k,j,hn,h1,h2=>by
    cases k with
    | zero=>simp at h1
    | succ k=>
      cases j with
      | zero=>simp at h2
      | succ j=>
        have:=eT (rs:=r) (i:=i) (k:=k) (j:=j) (by simpa [aD] using hn) (by simpa using h1) (by simpa using h2)
        lia
theorem vD{rs:List Rv}{i:Nat}(h:i∉aD rs):iQ rs i=none:=by
  unfold iQ
  rw [List.findIdx?_eq_none_iff]
  intro r hr
  cases r with
  | d x=>rfl
  | l x=>rfl
  | s j=>
    have:j≠i:=fun z=>h (by rw [←z];exact eI.mpr hr)
    simpa using this
theorem kM:∀{rs:List Rv} {as:List Sv} {e:En},(aD rs).Nodup→br rs as=true→(∀j∈aD rs,∃xs,e[j]?=some (some (.l xs)))→eW rs as e=l5 (iQ rs) (as.map some) e
  | [],[],e,_,_,_=>by
    refine List.ext_getElem? fun i=>?_
    rw [bV]
    have:iQ [] i=none:=rfl
    rw [this]
    simp only [eW]
    match e[i]? with
    | none=>rfl
    | some none=>rfl
    | some (some (.d x))=>rfl
    | some (some (.l x))=>rfl
    | some (some (.n x))=>rfl
  | .d x::r,y::s,e,hn,hl,hs=>by
    rw [show eW (.d x::r) (y::s) e=eW r s e from rfl,kM (by simpa [aD] using hn) (by simpa [br] using hl) (fun j hj=>hs j (by simpa [aD] using hj))]
    refine List.ext_getElem? fun i=>?_
    rw [bV,bV,jQ]
    cases iQ r i<;>simp
  | .l x::r,y::s,e,hn,hl,hs=>by
    rw [show eW (.l x::r) (y::s) e=eW r s e from rfl,kM (by simpa [aD] using hn) (by simpa [br] using hl) (fun j hj=>hs j (by simpa [aD] using hj))]
    refine List.ext_getElem? fun i=>?_
    rw [bV,bV,jQ]
    cases iQ r i<;>simp
  | .s k::r,.l ys::s,e,hn,hl,hs=>by
    simp only [aD,List.nodup_cons] at hn
    obtain⟨xs,hk⟩:=hs k (by simp [aD])
    have hlt:k < e.length:=(List.getElem?_eq_some_iff.mp hk).1
    rw [show eW (.s k::r) (.l ys::s) e=eW r s (e.set k (some (.l ys))) from rfl,kM hn.2 (by simpa [br] using hl) (fun j hj=>by
      have z:k≠j:=fun z=>hn.1 (by rw [z];exact hj)
      rw [List.getElem?_set_ne z]
      exact hs j (by simp [aD,hj]))]
    refine List.ext_getElem? fun i=>?_
    rw [bV,bV,jQ]
    by_cases z:k=i
    · subst z
      rw [List.getElem?_set_self hlt,hk,vD hn.1]
      simp
    · rw [List.getElem?_set_ne z]
      have:((match (Rv.s k) with | .s j=>j==i | _=>false)=true)=False:=by simp [z]
      simp only [this,if_false]
      cases iQ r i<;>simp
  | .s _::_,.d _::_,_,_,h,_=>by simp [br] at h
  | .s _::_,.n _::_,_,_,h,_=>by simp [br] at h
  | .s _::_,[],_,_,h,_=>by simp [br] at h
  | .d _::_,[],_,_,h,_=>by simp [br] at h
  | .l _::_,[],_,_,h,_=>by simp [br] at h
  | [],_::_,_,_,h,_=>by simp [br] at h
theorem ez{e:En}:∀{rs:List Rv} {as:List Sv},cX e rs=some as→∀j∈aD rs,∃xs,e[j]?=some (some (.l xs))
  | [],_,_,j,h=>by simp [aD] at h
  | .d x::rs,as,q,j,h=>by
    obtain⟨as',q1,rfl⟩:=Option.map_eq_some_iff.mp q
    exact ez q1 j (by simpa [aD] using h)
  | .l x::rs,as,q,j,h=>by
    obtain⟨as',q1,rfl⟩:=Option.map_eq_some_iff.mp q
    exact ez q1 j (by simpa [aD] using h)
  | .s k::rs,as,q,j,h=>by
    unfold cX at q
    match he:e[k]?,q with
    | some (some (.l xs)),q=>
      obtain⟨as',q1,rfl⟩:=Option.map_eq_some_iff.mp q
      simp only [aD,List.mem_cons] at h
      rcases h with rfl | h
      · exact⟨xs,he⟩
      · exact ez q1 j h
theorem iZ{e:En}:∀{rs:List Rv} {as:List Sv} {k i:Nat},cX e rs=some as→rs[k]?=some (.s i)→∃xs,as[k]?=some (.l xs)
  | [],_,k,i,_,h=>by simp at h
  | .d x::rs,as,k,i,q,h=>by
    obtain⟨as',q1,rfl⟩:=Option.map_eq_some_iff.mp q
    cases k with
    | zero=>simp at h
    | succ k=>simpa using iZ (k:=k) (i:=i) q1 (by simpa using h)
  | .l x::rs,as,k,i,q,h=>by
    obtain⟨as',q1,rfl⟩:=Option.map_eq_some_iff.mp q
    cases k with
    | zero=>simp at h
    | succ k=>simpa using iZ (k:=k) (i:=i) q1 (by simpa using h)
  | .s j::rs,as,k,i,q,h=>by
    unfold cX at q
    match he:e[j]?,q with
    | some (some (.l xs)),q=>
      obtain⟨as',q1,rfl⟩:=Option.map_eq_some_iff.mp q
      cases k with
      | zero=>exact⟨xs,rfl⟩
      | succ k=>simpa using iZ (k:=k) (i:=i) q1 (by simpa using h)
section
variable{X:Cx}{K:PySem.W.Frag}{σ:L2.St}{H0 H:Hp}{e:En}
theorem kD:∀{rs:List Rv} {vs:List V} {as:List Sv} {F:Hp},aW K F H σ e→du K σ H0 F H e rs vs→cX e rs=some as→
    ∃F',aW K F' H σ e∧ar F F'∧(∀a,F a=none→H0 a≠none→F' a=none)∧vs.length=as.length∧rs.length=as.length∧
      (∀(k:Nat) (x:PyData),as[k]?=some (.d x)→∃v,vs[k]?=some v∧DA K F' x v)∧∀(k:Nat) (xs:List PyData),as[k]?=some (.l xs)→∃i,rs[k]?=some (.s i)∧e[i]?=some (some (.l xs))∧∃v,vs[k]?=some v∧σ[i]?=some (some v)
  | [],vs,as,F,R,h,q=>by
    cases q
    have h':vs=[]:=h
    subst h'
    exact⟨F,R,ar.refl _,fun _ h _=>h,rfl,rfl,fun k x h=>by simp at h,fun k x h=>by simp at h⟩
  | .d x::rs,_,as,F,R,h,q=>by
    obtain⟨v,ws,rfl,h1,h2⟩:=h
    obtain⟨as',q1,rfl⟩:=Option.map_eq_some_iff.mp q
    obtain⟨F',R',s',f',l1,l2,d',o'⟩:=kD R h2 q1
    refine⟨F',R',s',f',by simp [l1],by simp [l2],fun k y hk=>?_,fun k ys hk=>?_⟩
    · cases k with
      | zero=>simp at hk;subst hk;exact⟨v,rfl,DA.mono s' h1⟩
      | succ k=>simpa using d' k y (by simpa using hk)
    · cases k with
      | zero=>simp at hk
      | succ k=>simpa using o' k ys (by simpa using hk)
  | .l xs::rs,_,as,F,R,h,q=>by
    obtain⟨v,ws,rfl,h1,h2⟩:=h
    obtain⟨as',q1,rfl⟩:=Option.map_eq_some_iff.mp q
    obtain⟨F',R',s',f',l1,l2,d',o'⟩:=kD R h2 q1
    have key:∃F2,aW K F2 H σ e∧ar F' F2∧(∀a,F' a=none→H0 a≠none→F2 a=none)∧DA K F2 (.list xs) v:=by
      obtain⟨l,us,rfl,g1,g2,g3,g4,g5⟩:=h1
      cases hl:F' l with
      | none=>
        have h1':cf K σ H0 F' H e (.l xs) (.ref l):=⟨l,us,rfl,g1,hl,g3,az.mono s' g4,g5⟩
        obtain⟨F2,R2,s2,d2,f2⟩:=h1'.frozen R'
        exact⟨F2,R2,s2,f2,d2⟩
      | some o=>
        have:=R'.sm _ _ hl
        rw [g3] at this;cases this
        exact⟨F',R',ar.refl _,fun _ h _=>h,dD.mpr ⟨l,us,rfl,.inl (.inl hl),az.mono s' g4⟩⟩
    obtain⟨F2,R2,s2,f2,d2⟩:=key
    refine⟨F2,R2,s'.trans s2,fun a ha hn=>f2 a (f' a ha hn) hn,by simp [l1],by simp [l2],fun k y hk=>?_,fun k ys hk=>?_⟩
    · cases k with
      | zero=>simp at hk;subst hk;exact⟨v,rfl,d2⟩
      | succ k=>
        obtain⟨u,c1,c2⟩:=d' k y (by simpa using hk)
        exact⟨u,by simpa using c1,DA.mono s2 c2⟩
    · cases k with
      | zero=>simp at hk
      | succ k=>simpa using o' k ys (by simpa using hk)
  | .s i::rs,_,as,F,R,h,q=>by
    obtain⟨v,ws,rfl,h1,h2⟩:=h
    unfold cX at q
    match he:e[i]?,q with
    | some (some (.l xs)),q=>
      obtain⟨as',q1,rfl⟩:=Option.map_eq_some_iff.mp q
      obtain⟨F',R',s',f',l1,l2,d',o'⟩:=kD R h2 q1
      refine⟨F',R',s',f',by simp [l1],by simp [l2],fun k y hk=>?_,fun k ys hk=>?_⟩
      · cases k with
        | zero=>simp at hk
        | succ k=>simpa using d' k y (by simpa using hk)
      · cases k with
        | zero=>simp at hk;subst hk;exact⟨i,rfl,he,v,rfl,h1.1⟩
        | succ k=>simpa using o' k ys (by simpa using hk)
theorem eC{α:Type}{l:List α}{k:Nat}{x:α}:(l.map some)[k]?=some (some x)↔ l[k]?=some x:=by
  rw [List.getElem?_map]
  cases l[k]?<;>simp
theorem cf.noS{σ':L2.St}{e':En}{F H:Hp}{r:Rv}{v:V}(h:cf K σ' H0 F H e' r v)(n:L2.noS r)(ho:∀a,dy σ e H a→H0 a≠none):cf K σ H0 F H e r v:=by
  cases r with
  | d x=>exact h
  | l xs=>
    obtain⟨l,vs,e1,h1,h2,h3,h4,_⟩:=h
    exact⟨l,vs,e1,h1,h2,h3,h4,fun z=>ho l z h1⟩
  | s i=>exact absurd n (by simp [L2.noS])
theorem fZ:∀{rs:List Rv} {as:List Sv},cX e rs=some as→BC (as.map some)
  | [],_,q=>by cases q;intro i xss h;simp at h
  | .d x::rs,as,q=>by
    obtain⟨as',q1,rfl⟩:=Option.map_eq_some_iff.mp q
    have ih:=fZ q1
    intro i xss h
    cases i with
    | zero=>simp at h
    | succ i=>exact ih i xss (by simpa using h)
  | .l x::rs,as,q=>by
    obtain⟨as',q1,rfl⟩:=Option.map_eq_some_iff.mp q
    have ih:=fZ q1
    intro i xss h
    cases i with
    | zero=>simp at h
    | succ i=>exact ih i xss (by simpa using h)
  | .s j::rs,as,q=>by
    unfold cX at q
    match he:e[j]?,q with
    | some (some (.l xs)),q=>
      obtain⟨as',q1,rfl⟩:=Option.map_eq_some_iff.mp q
      have ih:=fZ q1
      intro i xss h
      cases i with
      | zero=>simp at h
      | succ i=>exact ih i xss (by simpa using h)
theorem Bs{n:Nat}{m:FM}{fs:FA}{Q:VK}{E:XK}(h:fE K (dt n m fs) σ H Q):we (cD K n m) [] E (fA K fs) σ H Q:=by
  obtain⟨F,e,z,e',R,hf,q⟩:=h
  unfold dt at hf
  obtain⟨⟨rs,e1⟩,h1,hf⟩:=Option.bind_eq_some_iff.mp hf
  obtain⟨as,h2,hf⟩:=Option.bind_eq_some_iff.mp hf
  obtain⟨⟨r,as'⟩,h3,hf⟩:=Option.bind_eq_some_iff.mp hf
  split at hf
  case isFalse=>cases hf
  case isTrue hc=>
  obtain⟨c1,c2,c3,c4⟩:=hc
  cases hf
  refine⟨F,e,rs,e1,R,h1,fun F1 H1 vs X1 R1 A1=>?_⟩
  obtain⟨F2,R2,s2,f2,l1,l2,d2,o2⟩:=kD R1 A1 h2
  have X2:=X1.frz s2 f2
  rw [List.append_nil]
  have hn:L2.noS r:=by
    cases r with
    | d x=>trivial
    | l x=>trivial
    | s i=>cases c4
  have nN:=fZ h2
  have RA:aW K F2 H1 (vs.map some) (as.map some):=by
    refine⟨R2.sm,by simp [l1],fun k x hk=>?_,fun k xs hk=>?_,fun k xss hk=>absurd hk (nN k xss),fun k j l f1 f2=>?_⟩
    · obtain⟨v,g1,g2⟩:=d2 k x (eC.mp hk)
      exact⟨v,eC.mpr g1,g2⟩
    · obtain⟨i,g1,g2,v,g3,g4⟩:=o2 k xs (eC.mp hk)
      obtain⟨l,us,k1,k2,k3,k4⟩:=R2.own i xs g2
      rw [g4] at k1;cases k1
      exact⟨l,us,eC.mpr g3,k2,k3,k4⟩
    · obtain⟨xs,g1,g3⟩:=f1.resolve_right fun⟨xss,_,_,z,_⟩=>nN k xss z
      obtain⟨ys,g2,g4⟩:=f2.resolve_right fun⟨xss,_,_,z,_⟩=>nN j xss z
      obtain⟨i1,a1,a2,v1,a3,a4⟩:=o2 k xs (eC.mp g1)
      obtain⟨i2,b1,b2,v2,b3,b4⟩:=o2 j ys (eC.mp g2)
      have e1:=eC.mp g3
      have e2:=eC.mp g4
      rw [a3] at e1;cases e1
      rw [b3] at e2;cases e2
      have:i1=i2:=R2.inj i1 i2 xs ys l a2 b2 a4 b4
      subst this
      exact eT c2 a1 b1
  have sub:ov σ e1 (vs.map some) (as.map some) (iQ rs):=by
    refine⟨fun i k xs g1 g2=>?_,fun k ys g1=>?_⟩
    · have g3:=jR g2
      obtain⟨zs,hs⟩:=iZ h2 g3
      obtain⟨i',a1,a2,v,a3,a4⟩:=o2 k zs hs
      rw [g3] at a1;cases a1
      rw [eC.mpr a3,a4]
    · obtain⟨i,a1,a2,v,a3,a4⟩:=o2 k ys (eC.mp g1)
      refine⟨i,ys,a2,?_,by rw [eC.mpr a3,a4]⟩
      cases hp:iQ rs i with
      | none=>
        unfold iQ at hp
        rw [List.findIdx?_eq_none_iff] at hp
        have:=hp _ (List.mem_of_getElem? a1)
        simp at this
      | some j=>rw [eT c2 (jR hp) a1]
  refine⟨by rw [l1,←l2];exact c1,F2,as,r,as',RA,nN,h3,hn,fun F' H' v X3 R3 A3=>?_⟩
  obtain⟨R4,X4,o4⟩:=pO R2 sub nN X3.sf X3.dom X3.fr X3.lst X3.tmp R3 (fun _ _ _ _ _=>rfl) fun i k xs g1 g2=>by
    obtain⟨ys,g3⟩:=gy c3 k i (jR g2)
    exact⟨ys,eC.mpr g3⟩
  have hb:=kM (e:=e1) c2 c3 (ez h2)
  rw [←hb] at R4 X4 o4
  exact q F' H' v (X2.trans X4) R4 ((A3.noS hn fun a z=>R2.ownH a (o4 a z)).weak X2.dom)
theorem ba{x:Str}{st:Stmt}{f:Addr}{fd:FuncData}{ps:List Str}{k n:Nat}{m:FM}{a:Expr}{es:List Expr}{fs:FA}{p pos:Pos}(h:bD X.K X.mg x st f fd ps)(G:aJ X.prog X.w X.K X.mg X.base cy k f fd ps (cD K n m))(hr:bW k X.A)(ha:PA X (a::es) (fA K fs))
    (hg:Gl X x)(hdb:(x==("__debug__":Str))=false)(he:starEach (a::es) X.env=(false,eval a X.env)::starEach es X.env)(hpl:(backTo pos (starEach es X.env)).any (·.1)=false):
    PE X (.Call (.Name x p) (a::es) [] pos) (fE K (dt n m fs)):=(D1 h G hr ha hg hdb he hpl).mono fun _ _ _ h=>Bs h
def ti:List Sv→En→Option (List Sv)
  | [],_=>some []
  | .d x::r,e=>(ti r e.tail).map (.d x::·)
  | .l _::r,e=>match e.head? with
    | some (some (.l ys))=>(ti r e.tail).map (.l ys::·)
    | _=>none
  | .n _::_,_=>none
def wX(n:Nat)(e:En):Rv→Option Rv
  | .s i=>if n≤i then match e[i]? with
      | some (some (.l xs))=>some (.l xs)
      | _=>none
    else none
  | r=>some r
def o8(W:List Nat)(as:List Sv):Bool:=W.all fun j=>match as[j]? with
  | some (.l _)=>false
  | _=>true
def iL(n k:Nat)(W:List Nat)(f:FS):FM:=fun as=>if as.length=n∧o8 W as=true then(f (as.map some++List.replicate k none)).bind fun fl=>match fl with
    | .rt r e=>(wX n e r).bind fun r'=>(ti as e).map fun as'=>(r',as')
    | .nx e=>(ti as e).map fun as'=>(.d .none,as')
    | _=>none
  else none
theorem kU:∀{as as':List Sv} {e:En},ti as e=some as'→as'.length=as.length∧(∀(j:Nat) (x:PyData),as'[j]?=some (.d x)↔ as[j]?=some (.d x))∧(∀(j:Nat) (ys:List PyData),as'[j]?=some (.l ys)→(∃xs,as[j]?=some (.l xs))∧e[j]?=some (some (.l ys)))∧∀(j:Nat) (xs:List PyData),as[j]?=some (.l xs)→∃ys,as'[j]?=some (.l ys)
  | [],_,e,h=>by cases h;simp
  | .d x::r,_,e,h=>by
    obtain⟨s,h1,rfl⟩:=Option.map_eq_some_iff.mp h
    obtain⟨g1,g2,g3,g4⟩:=kU h1
    refine⟨by simp [g1],fun j y=>?_,fun j ys hj=>?_,fun j xs hj=>?_⟩
    · cases j with
      | zero=>simp
      | succ j=>simpa using g2 j y
    · cases j with
      | zero=>simp at hj
      | succ j=>
        obtain⟨c1,c2⟩:=g3 j ys (by simpa using hj)
        refine⟨by simpa using c1,?_⟩
        rw [List.getElem?_tail] at c2
        exact c2
    · cases j with
      | zero=>simp at hj
      | succ j=>simpa using g4 j xs (by simpa using hj)
  | .l xs::r,_,e,h=>by
    unfold ti at h
    match he:e.head?,h with
    | some (some (.l ys)),h=>
      obtain⟨s,h1,rfl⟩:=Option.map_eq_some_iff.mp h
      obtain⟨g1,g2,g3,g4⟩:=kU h1
      refine⟨by simp [g1],fun j y=>?_,fun j zs hj=>?_,fun j zs hj=>?_⟩
      · cases j with
        | zero=>simp
        | succ j=>simpa using g2 j y
      · cases j with
        | zero=>
          simp at hj;subst hj
          exact⟨⟨xs,rfl⟩,by rw [List.head?_eq_getElem?] at he;exact he⟩
        | succ j=>
          obtain⟨c1,c2⟩:=g3 j zs (by simpa using hj)
          refine⟨by simpa using c1,?_⟩
          rw [List.getElem?_tail] at c2
          exact c2
      · cases j with
        | zero=>exact⟨ys,rfl⟩
        | succ j=>simpa using g4 j zs (by simpa using hj)
  | .n x::r,_,e,h=>by simp [ti] at h
end
end L2
namespace L2
open PySem PySem.Spec PyProof.Rows
theorem dS{α:Type}{l:List (Option α)}{k i:Nat}{x:α}(h:(l++List.replicate k none)[i]?=some (some x)):l[i]?=some (some x):=by
  rw [List.getElem?_append] at h
  split at h
  · exact h
  · rw [List.getElem?_replicate] at h
    split at h<;>simp at h
theorem dX{α:Type}{l:List (Option α)}{k i:Nat}{x:α}(h:l[i]?=some (some x)):(l++List.replicate k none)[i]?=some (some x):=by
  have hi:i < l.length:=(List.getElem?_eq_some_iff.mp h).1
  rw [List.getElem?_append_left hi];exact h
section
variable{K:PySem.W.Frag}{F H:Hp}{σ:L2.St}{e:En}{k:Nat}
theorem ny{i:Nat}{a:Addr}:Fp (σ++List.replicate k none) (e++List.replicate k none) H i a↔ Fp σ e H i a:=by
  constructor
  · rintro(⟨xs,h1,h2⟩ | ⟨xss,l,bs,h1,h2,h3⟩)
    · exact .inl ⟨xs,dS h1,dS h2⟩
    · exact .inr ⟨xss,l,bs,dS h1,dS h2,h3⟩
  · rintro(⟨xs,h1,h2⟩ | ⟨xss,l,bs,h1,h2,h3⟩)
    · exact .inl ⟨xs,dX h1,dX h2⟩
    · exact .inr ⟨xss,l,bs,dX h1,dX h2,h3⟩
theorem nO{a:Addr}:dy (σ++List.replicate k none) (e++List.replicate k none) H a↔ dy σ e H a:=⟨fun⟨i,h⟩=>⟨i,ny.mp h⟩,fun⟨i,h⟩=>⟨i,ny.mpr h⟩⟩
theorem aW.pad(R:aW K F H σ e):aW K F H (σ++List.replicate k none) (e++List.replicate k none):=by
  refine⟨R.sm,by simp [R.len],fun i x h=>?_,fun i xs h=>?_,fun i xss h=>?_,fun i j a h1 h2=>R.fp i j a (ny.mp h1) (ny.mp h2)⟩
  · obtain⟨v,g1,g2⟩:=R.dat i x (dS h)
    exact⟨v,dX g1,g2⟩
  · obtain⟨l,vs,g1,g2⟩:=R.own i xs (dS h)
    exact⟨l,vs,dX g1,g2⟩
  · obtain⟨l,bs,g1,g2⟩:=R.nst i xss (dS h)
    exact⟨l,bs,dX g1,g2⟩
end
theorem oj:∀{as as':List Sv} {e:En},ti as e=some as'→BC (as'.map some)
  | [],_,e,h=>by cases h;intro i xss z;simp at z
  | .d x::r,_,e,h=>by
    obtain⟨s,h1,rfl⟩:=Option.map_eq_some_iff.mp h
    have ih:=oj h1
    intro i xss z
    cases i with
    | zero=>simp at z
    | succ i=>exact ih i xss (by simpa using z)
  | .l xs::r,_,e,h=>by
    unfold ti at h
    match he:e.head?,h with
    | some (some (.l ys)),h=>
      obtain⟨s,h1,rfl⟩:=Option.map_eq_some_iff.mp h
      have ih:=oj h1
      intro i xss z
      cases i with
      | zero=>simp at z
      | succ i=>exact ih i xss (by simpa using z)
  | .n x::r,_,e,h=>by simp [ti] at h
theorem o_{W:List Nat}{as:List Sv}(h:o8 W as=true){j:Nat}{xs:List PyData}(hj:as[j]?=some (.l xs)):j∉W:=fun z=>by
  unfold o8 at h
  have:=List.all_eq_true.mp h j z
  rw [hj] at this
  cases this
section
variable{P:Program}{w:World}{K:PySem.W.Frag}{mg:Str→Option Value}{base:Heap}
theorem bD.fn{x:Str}{st:Stmt}{f:Addr}{fd:FuncData}{N ps:List Str}{k n k0:Nat}{W:List Nat}{fb:FS}(h:bD K mg x st f fd ps)(S:aA N ps (ap st))(hn:ps.length=n)(hN:N.length=n+k0)
    (hb:∀(cdv:Value) (A:Around) (outer:List Env) (s:Shared) (H:Hp) (E:XK),bW k (A.deeper (envOfC x (ap st) s.heap.objs.size f cdv))→ko (qd cy P w K mg base N x (ap st) f cdv A outer s H E).nox (cA st) (fS K fb W)):
    aJ P w K mg base cy (k+1) f fd ps (cD K n (iL n k0 W fb)):=by
  refine h.F.ok S (fun vs H Q E q=>?_) fun cdv A outer s H vs Q E hr hsp=>⟨_,hb cdv A outer s H E hr,?_⟩
  · rw [hn];exact q.1
  · obtain⟨hl,F,as,r,as',R,nN,hm,nr,q⟩:=hsp
    unfold iL at hm
    split at hm
    case isFalse=>cases hm
    case isTrue hc=>
    obtain⟨la,nl⟩:=hc
    obtain⟨fl,h1,hm⟩:=Option.bind_eq_some_iff.mp hm
    have hst:gL N vs=vs.map some++List.replicate k0 none:=by unfold gL;rw [hN,hl];congr 2;lia
    rw [hst]
    have key:∀{as':List Sv} {e':En},ti as e'=some as'→∀F' H' σ',dn W (vs.map some++List.replicate k0 none) F H (as.map some++List.replicate k0 none) σ' F' H' e'→aW K F' H' σ' e'→
        dO (vs.map some) F H (as.map some) F' H' (as'.map some)∧aW K F' H' (vs.map some) (as'.map some)∧∀a,dy (vs.map some) (as'.map some) H' a→dy (vs.map some) (as.map some) H a:=by
      intro as' e' hu F' H' σ' X' R'
      obtain⟨u1,u2,u3,u4⟩:=kU hu
      have uN:=oj hu
      have ow:∀a,dy (vs.map some) (as'.map some) H' a→dy (vs.map some) (as.map some) H a:=by
        rintro a ⟨j,⟨ys,c1,c2⟩ | ⟨xss,_,_,z,_⟩⟩
        · obtain⟨⟨xs,c3⟩,_⟩:=u3 j ys (eC.mp c1)
          exact⟨j,.inl ⟨xs,eC.mpr c3,c2⟩⟩
        · exact absurd z (uN j xss)
      have sg:∀(j:Nat) (xs:List PyData),as[j]?=some (.l xs)→σ'[j]?=(vs.map some)[j]?:=fun j xs hj=>by
        rw [X'.wr j (o_ nl hj)]
        have hj2:j < (vs.map some).length:=by rw [List.length_map,hl,←la];exact(List.getElem?_eq_some_iff.mp hj).1
        rw [List.getElem?_append_left hj2]
      refine⟨⟨X'.sf,X'.dom,fun a vs h1 h2 hn=>X'.fr a vs h1 h2 fun z=>hn (nO.mp z),X'.lst,fun a o ha hn=>X'.tmp a o ha fun z=>hn (nO.mp z),fun j=>?_,fun a z=>.inl (ow a z)⟩,⟨R'.sm,?_,fun j y hj=>?_,fun j ys hj=>?_,fun j xss hj=>absurd hj (uN j xss),fun j i l f1 f2=>?_⟩,ow⟩
      · constructor
        · rintro⟨ys,hj⟩
          obtain⟨⟨xs,c⟩,_⟩:=u3 j ys (eC.mp hj)
          exact⟨xs,eC.mpr c⟩
        · rintro⟨xs,hj⟩
          obtain⟨ys,c⟩:=u4 j xs (eC.mp hj)
          exact⟨ys,eC.mpr c⟩
      · simp [u1,hl,la]
      · obtain⟨v,c1,c2⟩:=R.dat j y (eC.mpr ((u2 j y).mp (eC.mp hj)))
        exact⟨v,c1,DA.mono X'.sf c2⟩
      · obtain⟨⟨xs,c1⟩,c2⟩:=u3 j ys (eC.mp hj)
        obtain⟨l,us,d1,d2⟩:=R'.own j ys c2
        exact⟨l,us,by rw [←sg j xs c1];exact d1,d2⟩
      · obtain⟨xs,g1,g3⟩:=f1.resolve_right fun⟨xss,_,_,z,_⟩=>uN j xss z
        obtain⟨ys,g2,g4⟩:=f2.resolve_right fun⟨xss,_,_,z,_⟩=>uN i xss z
        obtain⟨⟨zs,c1⟩,c2⟩:=u3 j xs (eC.mp g1)
        obtain⟨⟨ws,c3⟩,c4⟩:=u3 i ys (eC.mp g2)
        exact R'.inj j i xs ys l c2 c4 (by rw [sg j zs c1];exact g3) (by rw [sg i ws c3];exact g4)
    refine⟨F,as.map some++List.replicate k0 none,fl,R.pad,h1,?_⟩
    cases fl with
    | bk e'=>cases hm
    | ct e'=>cases hm
    | nx e'=>
      obtain⟨as2,h2,hm⟩:=Option.map_eq_some_iff.mp hm
      cases hm
      intro F' H' σ' X' R'
      obtain⟨X2,R2,_⟩:=key h2 F' H' σ' X' R'
      exact q F' H' .non X2 R2 ((h8 (K:=K) (F:=F')).mpr rfl)
    | rt r0 e'=>
      obtain⟨r1,h2,hm⟩:=Option.bind_eq_some_iff.mp hm
      obtain⟨as2,h3,hm⟩:=Option.map_eq_some_iff.mp hm
      cases hm
      intro F' H' σ' v X' R' A'
      obtain⟨X2,R2,ow2⟩:=key h3 F' H' σ' X' R'
      have noo:∀l,H l=none→¬dy (vs.map some) (as'.map some) H' l:=fun l hl z=>R.ownH l (ow2 l z) hl
      refine q F' H' v X2 R2 ?_
      cases r0 with
      | d y=>cases h2;exact A'
      | l ys=>
        cases h2
        obtain⟨l,us,d0,d1,d2,d3,d4,_⟩:=A'
        exact⟨l,us,d0,d1,d2,d3,d4,noo l d1⟩
      | s i=>
        simp only [wX] at h2
        split at h2
        case isFalse=>cases h2
        case isTrue hi=>
        obtain⟨a1,xs,a2⟩:=A'
        rw [a2] at h2
        cases h2
        obtain⟨l,us,d1,d2,d3,d4⟩:=R'.own i _ a2
        rw [a1] at d1;cases d1
        suffices hl0:H l=none from⟨l,us,rfl,hl0,d2,d3,d4,noo l hl0⟩
        rcases X'.own l ⟨i,.inl ⟨_,a2,a1⟩⟩ with z | z
        · obtain⟨j,zf⟩:=nO.mp z
          obtain⟨ys,z1,z2⟩:=zf.resolve_right fun⟨xss,_,_,z,_⟩=>nN j xss z
          have z1':=eC.mp z1
          obtain⟨u1,u2,u3,u4⟩:=kU h3
          obtain⟨ws,w1⟩:=u4 j ys z1'
          obtain⟨_,w2⟩:=u3 j ws w1
          have hj2:j < vs.length:=by rw [hl,←la];exact(List.getElem?_eq_some_iff.mp z1').1
          have e3:σ'[j]?=some (some (.ref l)):=by
            rw [X'.wr j (o_ nl z1'),List.getElem?_append_left (by simpa using hj2)]
            exact z2
          have:=R'.inj i j _ ws l a2 w2 a1 e3
          lia
        · exact z
end
def Ci:Option Sv→Option Sv
  | some (.n _)=>none
  | s=>s
def oZ(cp:List (Nat × Str))(nT:Nat)(e:En):En:=cp.map (fun p=>Ci (e[p.1]?).join)++List.replicate nT none
def lK(cp:List (Nat × Str))(i:Nat):Option Nat:=cp.findIdx? fun p=>p.1==i
def ey(g:FG)(ft:FT)(fe:FE):List PyData→En→List PyData→Option (List PyData × En)
  | [],e,acc=>some (acc,e)
  | x::r,e,acc=>(g x e).bind fun e1=>(ft e1).bind fun b=>if b.1=true then(fe b.2).bind fun v=>(qg v.1).bind fun d=>if acc.length < 1000000 then ey g ft fe r v.2 (acc++[d]) else none else ey g ft fe r b.2 acc
def m9(cp:List (Nat × Str))(ei e:En):Bool:=cp.all fun p=> !wJ e[p.1]? || wJ ei[(lK cp p.1).getD 0]?
def bO(cp:List (Nat × Str))(nT:Nat)(fi:FI)(g:FG)(ft:FT)(fe:FE):FE:=fun e=>(fi e).bind fun p=>if (p.2.1.all fun q=> !(cp.any fun c=>c.1==q.1))=true then(ey g ft fe p.1 (oZ cp nT p.2.2) []).bind fun z=>if m9 cp z.2 p.2.2=true then some (.l z.1,l5 (lK cp) z.2 p.2.2) else none else none
section
variable{K:PySem.W.Frag}{F H:Hp}{σ:L2.St}{e:En}{cp:List (Nat × Str)}{nT:Nat}
theorem fQ{i k:Nat}(h:lK cp i=some k):∃s,cp[k]?=some (i,s):=by
  unfold lK at h
  rw [List.findIdx?_eq_some_iff_getElem] at h
  obtain⟨hk,h1,_⟩:=h
  refine⟨cp[k].2,?_⟩
  rw [List.getElem?_eq_getElem hk]
  have:=eq_of_beq h1
  rw [←this]
theorem ic{k:Nat}{x:Sv}(h:(oZ cp nT e)[k]?=some (some x)):∃i s,cp[k]?=some (i,s)∧e[i]?=some (some x):=by
  unfold oZ at h
  have h:=dS h
  rw [List.getElem?_map] at h
  obtain⟨p,h1,h2⟩:=Option.map_eq_some_iff.mp h
  refine⟨p.1,p.2,h1,?_⟩
  cases q:e[p.1]? with
  | none=>rw [q] at h2;cases h2
  | some y=>
    rw [q] at h2
    match y,h2 with
    | some (.d z),h2=>exact congrArg some h2
    | some (.l z),h2=>exact congrArg some h2
    | some (.n z),h2=>cases h2
    | none,h2=>cases h2
theorem jf:BC (oZ cp nT e):=by
  intro k xss h
  unfold oZ at h
  have h:=dS h
  rw [List.getElem?_map] at h
  obtain⟨p,h1,h2⟩:=Option.map_eq_some_iff.mp h
  match (e[p.1]?).join,h2 with
  | some (.d z),h2=>cases h2
  | some (.l z),h2=>cases h2
  | some (.n z),h2=>cases h2
  | none,h2=>cases h2
theorem kS{k i:Nat}{s:Str}{v:V}(h:cp[k]?=some (i,s))(hv:σ[i]?=some (some v)):(dq cp nT σ)[k]?=some (some v):=by
  unfold dq
  refine dX ?_
  rw [List.getElem?_map,h]
  simp [hv]
theorem lX{k i:Nat}{s:Str}{v:V}(h:cp[k]?=some (i,s))(hv:(dq cp nT σ)[k]?=some (some v)):σ[i]?=some (some v):=by
  unfold dq at hv
  have hv:=dS hv
  rw [List.getElem?_map,h] at hv
  simp only [Option.map_some,Option.some.injEq] at hv
  cases q:σ[i]? with
  | none=>rw [q] at hv;cases hv
  | some y=>rw [q] at hv;exact congrArg some hv
theorem nj:∀{cp:List (Nat × Str)} {k j i:Nat} {s t:Str},(cp.map (·.1)).Nodup→cp[k]?=some (i,s)→cp[j]?=some (i,t)→k=j
  | [],k,j,i,s,t,_,h,_=>by simp at h
  | p::r,k,j,i,s,t,hn,h1,h2=>by
    simp only [List.map_cons,List.nodup_cons] at hn
    cases k with
    | zero=>
      simp at h1;subst h1
      cases j with
      | zero=>rfl
      | succ j=>
        have hm:(i,t)∈r:=List.mem_of_getElem? (i:=j) (by simpa using h2)
        exact absurd (List.mem_map.mpr ⟨(i,t),hm,rfl⟩) hn.1
    | succ k=>
      cases j with
      | zero=>
        simp at h2;subst h2
        have hm:(i,s)∈r:=List.mem_of_getElem? (i:=k) (by simpa using h1)
        exact absurd (List.mem_map.mpr ⟨(i,s),hm,rfl⟩) hn.1
      | succ j=>
        have:=nj (cp:=r) (k:=k) (j:=j) hn.2 (by simpa using h1) (by simpa using h2)
        lia
theorem aW.inn(R:aW K F H σ e)(hn:(cp.map (·.1)).Nodup):aW K F H (dq cp nT σ) (oZ cp nT e)∧ov σ e (dq cp nT σ) (oZ cp nT e) (lK cp):=by
  refine⟨⟨R.sm,by simp [dq,oZ],fun k x h=>?_,fun k xs h=>?_,fun k xss h=>absurd h (jf k xss),fun k j l f1 f2=>?_⟩,⟨fun i k xs h1 h2=>?_,fun k ys h=>?_⟩⟩
  · obtain⟨i,s,h1,h2⟩:=ic h
    obtain⟨v,g1,g2⟩:=R.dat i x h2
    exact⟨v,kS h1 g1,g2⟩
  · obtain⟨i,s,h1,h2⟩:=ic h
    obtain⟨l,vs,g1,g2⟩:=R.own i xs h2
    exact⟨l,vs,kS h1 g1,g2⟩
  · obtain⟨xs,h1,h3⟩:=f1.resolve_right fun⟨xss,_,_,z,_⟩=>jf k xss z
    obtain⟨ys,h2,h4⟩:=f2.resolve_right fun⟨xss,_,_,z,_⟩=>jf j xss z
    obtain⟨i,s,a1,a2⟩:=ic h1
    obtain⟨i',s',b1,b2⟩:=ic h2
    have:i=i':=R.inj i i' xs ys l a2 b2 (lX a1 h3) (lX b1 h4)
    subst this
    exact nj hn a1 b1
  · obtain⟨s,g⟩:=fQ h2
    obtain⟨l,vs,g1,_⟩:=R.own i xs h1
    rw [g1];exact kS g g1
  · obtain⟨i,s,h1,h2⟩:=ic h
    obtain⟨l,vs,g1,_⟩:=R.own i ys h2
    refine⟨i,ys,h2,?_,by rw [g1];exact kS h1 g1⟩
    cases hp:lK cp i with
    | none=>
      unfold lK at hp
      rw [List.findIdx?_eq_none_iff] at hp
      have:=hp _ (List.mem_of_getElem? h1)
      simp at this
    | some j=>
      obtain⟨t,g⟩:=fQ hp
      rw [nj hn g h1]
theorem aW.putT(R:aW K F H σ e){l:Addr}{ws:List V}(h1:F l=none)(h2:¬dy σ e H l):aW K F (aM H l (.lst ws)) σ e∧∀a,dy σ e (aM H l (.lst ws)) a↔ dy σ e H a:=
  R.keep (ar.refl F) (fun b o q=>by
    have z:b≠l:=fun z=>by rw [z,h1] at q;cases q
    rw [aC z];exact R.sm b o q) (fun a ⟨i,h⟩=>(R.fpAt h).1) fun a o ha q=>by
      have z:a≠l:=fun z=>h2 (by rw [←z];exact ha)
      rw [aC z];exact q
theorem dn.putT{W:List Nat}{σ':L2.St}{F' H':Hp}{e':En}(x:dn W σ F H e σ' F' H' e'){l:Addr}{o:HO}(h:H l=none)(ho:∀a,dy σ' e' (aM H' l o) a↔ dy σ' e' H' a):dn W σ F H e σ' F' (aM H' l o) e':=by
  refine⟨x.sf,fun a q=>?_,x.fr,fun a vs q=>?_,fun a u q n=>?_,fun a q=>x.own a ((ho a).mp q),x.wr⟩
  · by_cases z:a=l
    · rw [z];exact h
    · rw [aC z] at q;exact x.dom a q
  · have z:a≠l:=fun z=>by rw [z,h] at q;cases q
    rw [aC z];exact x.lst a vs q
  · have z:a≠l:=fun z=>by rw [z,h] at q;cases q
    rw [aC z];exact x.tmp a u q n
inductive CI (K:PySem.W.Frag) (W:List Nat) (σ0:L2.St) (F1 H1:Hp) (e0:En) (l:Addr) (P:Hp→En→List PyData→Prop) (σ':L2.St) (H':Hp):Prop
  | mk {F':Hp} {ei:En} {acc:List PyData} {vs:List V} (R:aW K F' H' σ' ei) (X:dn W σ0 F1 H1 e0 σ' F' H' ei) (fl:F' l=none) (no:¬dy σ' ei H' l) (hl:H' l=some (.lst vs)) (da:az K F' acc vs) (hc:P F' ei acc):CI K W σ0 F1 H1 e0 l P σ' H'
theorem jD{Q:VK}{fi:FI}{g:FG}{W:List Nat}{ft:FT}{fe:FE}(hn:(cp.map (·.1)).Nodup)(hW:∀j∈W,cp.length≤j)(h:fE K (bO cp nT fi g ft fe) σ H Q):l3 cp nT (fI K fi) (fG K g W) (fT K ft) (fE K fe) σ H Q:=by
  obtain⟨F0,e0,z,e',R0,hf,q⟩:=h
  unfold bO at hf
  obtain⟨⟨items,own,e1⟩,h1,hf⟩:=Option.bind_eq_some_iff.mp hf
  dsimp only at hf
  split at hf
  case isFalse=>cases hf
  case isTrue hO=>
  obtain⟨⟨out,eo⟩,h2,hf⟩:=Option.bind_eq_some_iff.mp hf
  dsimp only at hf
  split at hf
  case isFalse=>cases hf
  case isTrue hB=>
  cases hf
  refine⟨⟨F0,e0,items,own,e1,R0,h1,fun J F1 H1 X1 R1 kp ok=>?_⟩⟩
  intro l hl
  obtain⟨Ri,sub⟩:=R1.inn (nT:=nT) hn
  have hFl:F1 l=none:=R1.freeF hl
  let Iv:Nat→L2.St→Hp→Prop:=fun i=>CI K W (dq cp nT σ) F1 H1 (oZ cp nT e1) l fun _ ei acc=>ey g ft fe (items.drop i) ei acc=some (out,eo)
  have notown:∀p∈own,∀a,σ[p.1]?=some (some (.ref a))→¬dy (dq cp nT σ) (oZ cp nT e1) H1 a:=by
    rintro p hp a ha ⟨k,zf⟩
    obtain⟨xs,c1,c2⟩:=zf.resolve_right fun⟨xss,_,_,z,_⟩=>jf k xss z
    obtain⟨i,s,d1,d2⟩:=ic c1
    have e2:=lX d1 c2
    have:p.1=i:=R1.inj p.1 i p.2 xs a (kp p hp) d2 ha e2
    have hh:=List.all_eq_true.mp hO p hp
    simp only [Bool.not_eq_true',List.any_eq_false,beq_iff_eq] at hh
    exact hh (i,s) (List.mem_of_getElem? d1) this.symm
  refine⟨fun i m σ' H'=>m=items.length - i∧i≤items.length∧Iv i σ' H',⟨items.length,by simp,Nat.zero_le _,.mk (Ri.putT hFl (fun z=>(Ri.ownH l z) hl)).1 (dn.refl.putT hl (Ri.putT hFl (fun z=>(Ri.ownH l z) hl)).2) hFl (fun z=>(Ri.ownH l (((Ri.putT hFl (fun z=>(Ri.ownH l z) hl)).2 l).mp z)) hl) ay az.nil h2⟩,?_⟩
  rintro i m σ' H' ⟨rfl,hi,⟨R',X',fl,no,hl',da,hc⟩⟩
  rename_i F' ei acc vs
  have held:tG K σ F' H' own:=fun p hp=>by
    obtain⟨a,us,c1,c2,c3,c4⟩:=R1.own p.1 p.2 (kp p hp)
    exact⟨a,us,c1,X'.tmp a _ c3 (notown p hp a c1),c4.mono X'.sf⟩
  obtain⟨go,stop,yld⟩:=ok F' H' X'.sf R'.sm held
  by_cases hlt:i < items.length
  · have hd:items.drop i=items[i]::items.drop (i+1):=List.drop_eq_getElem_cons hlt
    rw [hd] at hc
    unfold ey at hc
    obtain⟨e2,c2,hc⟩:=Option.bind_eq_some_iff.mp hc
    obtain⟨⟨b,e3⟩,c3,hc⟩:=Option.bind_eq_some_iff.mp hc
    refine .inr ⟨go i hlt,Iv (i+1),fun σ2 H2 r=>⟨items.length - (i+1),by lia,rfl,hlt,r⟩,fun x H2 hy=>?_⟩
    obtain⟨F2,sH,sF2,sm2,fz,hx⟩:=yld i items[i] x H2 (List.getElem?_eq_getElem hlt) hy
    obtain⟨R2,X2⟩:=R'.step sH sF2 sm2 fz
    refine⟨F2,ei,items[i],e2,R2,hx,c2,fun σ3 X3 R3=>⟨F2,e2,b,e3,R3,c3,fun F4 H4 X4 R4=>?_⟩⟩
    have hlH2:H2 l=some (.lst vs):=sH _ _ hl'
    have no2:¬dy σ' ei H2 l:=fun z=>by
      rcases X2.ow l z with z | z
      · exact no z
      · rw [hl'] at z;cases z
    have no3:¬dy σ3 e2 H2 l:=fun z=>by
      rcases X3.own l z with z | z
      · exact no2 z
      · rw [hlH2] at z;cases z
    have fl2:F2 l=none:=fz l fl (by rw [hl'];simp)
    have hlH4:H4 l=some (.lst vs):=X4.tmp l _ hlH2 no3
    have fl4:F4 l=none:=X4.fr l vs fl2 hlH2 no3
    have no4:¬dy σ3 e3 H4 l:=fun z=>by
      rcases X4.ow l z with z | z
      · exact no3 z
      · rw [hlH2] at z;cases z
    have E4:dn W (dq cp nT σ) F1 H1 (oZ cp nT e1) σ3 F4 H4 e3:=((X'.trans X2.s).trans X3).trans X4.s
    cases b with
    | false=>
      rw [if_neg (by simp)] at hc
      exact Ce (.mk R4 E4 fl4 no4 hlH4 (da.mono (sF2.trans X4.sf)) hc)
    | true=>
      rw [if_pos rfl] at hc
      obtain⟨⟨r,e5⟩,c5,hc⟩:=Option.bind_eq_some_iff.mp hc
      obtain⟨d,c6,hc⟩:=Option.bind_eq_some_iff.mp hc
      split at hc
      case isFalse=>cases hc
      case isTrue hlen=>
      refine Cf ⟨F4,e3,r,e5,R4,c5,fun F5 H5 v X5 R5 A5=>?_⟩
      have hlH5:H5 l=some (.lst vs):=X5.tmp l _ hlH4 no4
      have fl5:F5 l=none:=X5.fr l vs fl4 hlH4 no4
      have no5:¬dy σ3 e5 H5 l:=fun z=>by
        rcases X5.ow l z with z | z
        · exact no4 z
        · rw [hlH4] at z;cases z
      obtain⟨F6,R6,s6,d6,f6⟩:=du.frozen R5 (rs:=[r]) (vs:=[v]) ⟨v,[],rfl,A5,rfl⟩ (sd c6)
      have fl6:F6 l=none:=f6 l fl5 (by rw [hlH4];simp)
      have X6:=X5.frz s6 f6
      have ll:=da.len
      have sl:sizeLine=16777216:=sizeLine_eq
      have dv:DA K F6 d v:=by
        simp only [az] at d6
        obtain⟨v',r',e',hv,_⟩:=d6
        cases e';exact hv
      obtain⟨R7,o7⟩:=R6.putT (ws:=vs++[v]) fl6 no5
      exact⟨vs,hlH5,by lia,.mk R7 ((E4.trans X6.s).putT hl o7) fl6 (fun z=>no5 ((o7 l).mp z)) ay ((da.mono (sF2.trans (X4.sf.trans (X5.sf.trans s6)))).append (az.one dv)) hc⟩
  · have hd:items.drop i=[]:=List.drop_eq_nil_of_le (by lia)
    rw [hd] at hc
    cases hc
    refine .inl ⟨stop i (by lia),?_⟩
    obtain⟨R9,X9,o9⟩:=pO R1 sub jf X'.sf X'.dom X'.fr X'.lst X'.tmp R' (fun i k xs g1 g2=>X'.wr k fun z=>by
      obtain⟨s,g⟩:=fQ g2
      have:=(List.getElem?_eq_some_iff.mp g).1
      have:=hW k z
      lia) fun i k xs g1 g2=>by
        obtain⟨s,g⟩:=fQ g2
        unfold m9 at hB
        have hb:=List.all_eq_true.mp hB _ (List.mem_of_getElem? g)
        simp only [g1,g2,Option.getD_some,wJ,Bool.not_true,Bool.false_or] at hb
        exact xj.mp hb
    exact q F' H' (.ref l) (X1.trans X9) R9 ⟨l,vs,rfl,X1.dom l hl,fl,hl',da,fun z=>R1.ownH l (o9 l z) hl⟩
end
end L2
namespace L2
open PySem PySem.Spec PyProof.Rows
section
variable{X:Cx}{K:PySem.W.Frag}{a b:Expr}{es:List Expr}{fa fb:FE}{fs:FA}{pos p p2 p3:Pos}{lo hi:Option Expr}
def xh:En→Rv→Option Rv:=fun _ x=>(cR x).map fun i=>.d (.int (-i))
theorem Cq:BN K (rU fun i=>.int (-i)) xh:=by
  intro σ H0 F H e x z v Q R A hg q
  obtain⟨i,h5,h4⟩:=Option.map_eq_some_iff.mp hg
  cases h4
  exact⟨i,cw A h5,q F H _ (dO.refl _ _ _ _) R lP⟩
theorem CJ(ha:PE X a (fE K fa)):PE X (.UnaryOp .USub a pos) (fE K (rX xh fa)):=CM Br Cq ha
theorem cV(hK:X.K=K)(ha:PE X a (fE K fa))(hb:PE X b (fE K fb)):PE X (.BinOp a .Add b pos) (fE K (av c9 fa fb)):=mN (hK ▸ xF) BQ ha hb
theorem vH(ha:PE X a (fE K fa))(hb:PE X b (fE K fb)):PE X (.BinOp a .Sub b pos) (fE K (av jN fa fb)):=mN Ar C2 ha hb
theorem kd(hK:X.K=K)(ha:PE X a (fE K fa))(hb:PE X b (fE K fb)):PE X (.BinOp a .Mult b pos) (fE K (av iF fa fb)):=mN (hK ▸ xJ) Cp ha hb
theorem iR(ha:PE X a (fE K fa))(hb:PE X b (fE K fb)):PE X (.BinOp a .FloorDiv b pos) (fE K (av fH fa fb)):=mN vo zD ha hb
theorem a7(ha:PE X a (fE K fa))(hb:PE X b (fE K fb)):PE X (.BinOp a .Mod b pos) (fE K (av bg fa fb)):=mN xI Co ha hb
theorem zb(ha:PE X a (fE K fa))(hb:PE X b (fE K fb)):PE X (.BinOp a .Pow b pos) (fE K (av qk fa fb)):=mN Ap CF ha hb
theorem aT(hK:X.K=K)(ha:PE X a (fE K fa))(hb:PE X b (fE K fb))(hs:mY b):PE X (.Subscript a b pos) (fE K (av cC fa fb)):=CK (hK ▸ DT) DU ha hb hs
theorem ii{fl fh:FO}(hK:X.K=K)(he:PE X a (fE K fa))(hl:PO X lo (fO K fl))(hh:PO X hi (fO K fh)):PE X (.Subscript a (.Slice lo hi none p2) pos) (fE K (wy fa fl fh)):=by subst hK;exact vJ he hl hh
structure kX (X:Cx) (K:PySem.W.Frag) (op:CmpOp) (g:En→Rv→Rv→Option Rv):Prop where
  ex:∃r,fm X (compareOp op) r∧fY K r g
theorem tW:kX X K .Lt wG:=⟨_,Cv,DX⟩
theorem BZ:kX X K .Gt zH:=⟨_,Cu,DN⟩
theorem zx:kX X K .GtE zG:=⟨_,Ct,DM⟩
theorem p8{k:Nat}(hK:X.K=K)(hr:bW k X.A):kX X K .Eq (c_ false):=⟨_,hK ▸ Ag hr,yP⟩
theorem wU{k:Nat}(hK:X.K=K)(hr:bW k X.A):kX X K .NotEq (c_ true):=⟨_,hK ▸ Ao hr,yP⟩
theorem tV{k:Nat}(hK:X.K=K)(hr:bW k X.A):kX X K .In (jF false):=⟨_,hK ▸ Aj hr,B_⟩
theorem i8{k:Nat}(hK:X.K=K)(hr:bW k X.A):kX X K .NotIn (jF true):=⟨_,hK ▸ sM hr,B_⟩
theorem wR:kX X K .Is xg:=⟨_,Ak,DS⟩
theorem hJ{op:CmpOp}{g:En→Rv→Rv→Option Rv}(h:kX X K op g)(ha:PE X a (fE K fa))(hb:PE X b (fE K fb))(hm:behindInMarks op b=false):PE X (.Compare a [op] [b] pos) (fE K (av g fa fb)):=by
  obtain⟨r,h1,h2⟩:=h.ex;exact AQ h1 h2 ha hb hm
theorem bh{op:CmpOp}{g:En→Rv→Rv→Option Rv}(h:kX X K op g)(ha:PE X a (fE K fa))(hb:PE X b (fE K fb))(hm:behindInMarks op b=false):PT X (.Compare a [op] [b] pos) (fT K (aH (av g fa fb))):=by
  obtain⟨r,h1,h2⟩:=h.ex;exact AV h1 h2 ha hb hm
structure jG (X:Cx) (K:PySem.W.Frag) (x:Str) (g:En→List Rv→Option Rv):Prop where
  ex:(∃id r,ce X (.builtin id) r∧cB K r g∧bootBuiltins x=some (.builtin id))∨∃T r,ce X (.type T) r∧cB K r g∧bootBuiltins x=some (.type T)
theorem a'{x:Str}{g:En→List Rv→Option Rv}(h:jG X K x g)(hg:Gl X x)(hm:X.mg x=none)(ha:PA X (a::es) (fA K fs))(hn:x≠"__name__")(hdb:(x==("__debug__":Str))=false)
    (he:starEach (a::es) X.env=(false,eval a X.env)::starEach es X.env)(hpl:(backTo pos (starEach es X.env)).any (·.1)=false):PE X (.Call (.Name x p) (a::es) [] pos) (fE K (aN g fs)):=by
  rcases h.ex with ⟨id,r,h1,h2,h3⟩ | ⟨T,r,h1,h2,h3⟩
  · exact vI h1 h2 hg hm h3 ha hn hdb he hpl
  · exact sS h1 h2 hg hm h3 ha hn hdb he hpl
theorem b_len(hK:X.K=K):jG X K "len" (g1 fK):=⟨.inl ⟨_,_,hK ▸ m_,Cg,PySem.boot_len⟩⟩
theorem b_abs:jG X K "abs" (g1 sk):=⟨.inl ⟨_,_,tX,BP,PyProof.Rows.boot_abs⟩⟩
theorem b_min(hc:X.calm=true):jG X K "min" (g2 uF):=⟨.inl ⟨_,_,r9 hc,Cn,PyProof.Rows.boot_min⟩⟩
theorem b_max(hc:X.calm=true):jG X K "max" (g2 sv):=⟨.inl ⟨_,_,r8 hc,Cm,PyProof.Rows.boot_max⟩⟩
theorem b_int:jG X K "int" (g1 su):=⟨.inr ⟨_,_,r6,B',PyProof.Rows.boot_int⟩⟩
theorem b_tuple(hK:X.K=K):jG X K "tuple" (g1 dc):=⟨.inr ⟨_,_,hK ▸ l_,yx,PyProof.Rows.boot_tuple⟩⟩
theorem b_list(hK:X.K=K):jG X K "list" (g1 rA):=⟨.inr ⟨_,_,hK ▸ ng,zX,PyProof.Rows.boot_list⟩⟩
theorem b_all{k:Nat}(hK:X.K=K)(hr:bW k X.A):jG X K "all" (g1 (fL oP)):=⟨.inl ⟨_,_,tY hr hK,BR,tS⟩⟩
theorem b_any{k:Nat}(hK:X.K=K)(hr:bW k X.A):jG X K "any" (g1 (fL mD)):=⟨.inl ⟨_,_,tZ hr hK,BS,tT⟩⟩
theorem b_sorted(hK:X.K=K):jG X K "sorted" (g1 qm):=⟨.inl ⟨_,_,hK ▸ p_,ym,PyProof.Rows.boot_sorted⟩⟩
theorem b_repr{k:Nat}(hK:X.K=K)(hr:bW k X.A):jG X K "repr" (g1 ka):=⟨.inl ⟨_,_,hK ▸ p9 hr,A7,PyProof.Rows.boot_repr⟩⟩
def kW(fs:FA):FE:=fun e=>(fs e).bind fun p=>match p.1 with
  | [r]=>(cR r).bind fun j=>if 0≤j∧j≤100000 then some (.l ((jq j.toNat).map .int),p.2) else none
  | _=>none
theorem pz(hc:X.calm=true)(hgl:Gl X "list")(hml:X.mg "list"=none)(hg:Gl X "range")(hm:X.mg "range"=none)(ha:PA X [a] (fA K fs))(hs:starEach [a] X.env=[(false,eval a X.env)])
    (he:starEach [.Call (.Name "range" p2) [a] [] p3] X.env=[(false,eval (.Call (.Name "range" p2) [a] [] p3) X.env)]):PE X (.Call (.Name "list" p) [.Call (.Name "range" p2) [a] [] p3] [] pos) (fE K (kW fs)):=(nQ hc hgl hml hg hm ha hs he).mono fun σ H Q h=>by
  obtain⟨F,e,z,e',R,hf,q⟩:=h
  unfold kW at hf
  obtain⟨⟨rs,e1⟩,h1,hf⟩:=Option.bind_eq_some_iff.mp hf
  match rs,h1,hf with
  | [r],h1,hf=>
  obtain⟨j,h2,hf⟩:=Option.bind_eq_some_iff.mp hf
  split at hf
  case isFalse=>cases hf
  case isTrue hj=>
  cases hf
  refine⟨F,e,_,e1,R,h1,fun F1 H1 vs X1 R1 A1=>?_⟩
  obtain⟨v,rfl,A2⟩:=ip A1
  refine⟨j,by rw [cw A2 h2],hj.1,hj.2,fun t ht=>?_⟩
  obtain⟨R3,X3,hF,no⟩:=R1.newL (vs:=(jq j.toNat).map V.int) ht
  exact q _ _ _ (X1.trans X3) R3 ⟨t,_,rfl,X1.dom _ ht,hF,ay,az.ints.mpr rfl,no⟩
abbrev cJ:FT:=fun e=>some (true,e)
theorem pV.mono{ifs:List Expr}{t t':TT}(h:pV X ifs t)(m:∀σ H Q,t' σ H Q→t σ H Q):pV X ifs t':=fun pins s σ H Q I q=>h pins s σ H Q I (m σ H Q q)
theorem io:pV X [] (fT K cJ):=x9.mono fun σ H Q h=>by
  obtain⟨F,e,b,e',R,hf,q⟩:=h
  cases hf
  exact q F H (dO.refl _ _ _ _) R
theorem kR{c:Expr}{ft:FT}(h:PT X c (fT K ft)):pV X [c] (fT K ft):=x_ h
theorem jS{elt iter tg:Expr}{ifs:List Expr}{scope:Scope}{fi:FI}{g:FG}{ft:FT}{fe:FE}{W:List Nat}(sc0:Scope)(N0:List Str)(cp:List (Nat × Str))(tgN:List Str)
    (hc:X.calm=true)(hsc:X.env.scope=sc0)(hN0:X.N=N0)(hi:PI X tg iter (fI K fi))
    (hg:∀C s0 H0 fp,PG (aG X scope cp tgN C s0 H0 fp) tg (fG K g W))
    (ht:∀C s0 H0 fp,pV (aG X scope cp tgN C s0 H0 fp) ifs (fT K ft))
    (he:∀C s0 H0 fp,PE (aG X scope cp tgN C s0 H0 fp) elt (fE K fe))
    (hk:scope.kind=.function)(hcell:∀y∈scope.names,y.2≠.cell)(hnames:∀y∈scope.names,y.2=.local→scope.names.lookup y.1=some .local)
    (hfr:∀y∈scope.names,y.2=.free→scope.names.lookup y.1=some .free∧sc0.names.lookup y.1=some .cell)
    (hcp:∀p∈cp,N0[p.1]?=some p.2)(hcq:∀p∈cp,sc0.names.lookup p.2=some .cell∧scope.names.lookup p.2=some .free)(hnd:(cp.map (·.1)).Nodup)(hW:∀j∈W,cp.length≤j)
    (hs:∀x,foldedSetIterable iter X.env x=pure x):
    PE X (.ListComp elt [⟨tg,iter,ifs,0⟩] scope pos) (fE K (bO cp tgN.length fi g ft fe)):=(xQ sc0 N0 cp tgN hc hsc hN0 hi hg ht he hk hcell hnames hfr hcp hcq hs).mono fun _ _ _ h=>jD hnd hW h
theorem mL{ix:Nat}{nm:Str}{posn poss:Pos}{elt iter tg:Expr}{ifs:List Expr}{scope:Scope}{fi:FI}{g:FG}{ft:FT}{fe:FE}{W:List Nat}(sc0:Scope)(N0:List Str)(cp:List (Nat × Str))(tgN:List Str)
    (hc:X.calm=true)(hsc:X.env.scope=sc0)(hN0:X.N=N0)(hi:PI X tg iter (fI K fi))
    (hg:∀C s0 H0 fp,PG (aG X scope cp tgN C s0 H0 fp) tg (fG K g W))
    (ht:∀C s0 H0 fp,pV (aG X scope cp tgN C s0 H0 fp) ifs (fT K ft))
    (he:∀C s0 H0 fp,PE (aG X scope cp tgN C s0 H0 fp) elt (fE K fe))
    (hk:scope.kind=.function)(hcell:∀y∈scope.names,y.2≠.cell)(hnames:∀y∈scope.names,y.2=.local→scope.names.lookup y.1=some .local)
    (hfr:∀y∈scope.names,y.2=.free→scope.names.lookup y.1=some .free∧sc0.names.lookup y.1=some .cell)
    (hcp:∀p∈cp,N0[p.1]?=some p.2)(hcq:∀p∈cp,sc0.names.lookup p.2=some .cell∧scope.names.lookup p.2=some .free)(hnd:(cp.map (·.1)).Nodup)(hW:∀j∈W,cp.length≤j)
    (hNd:X.N.Nodup)(hix:X.N[ix]?=some nm)(hlc:X.env.scope.names.lookup nm=some .local)(hsw:swapsWith (.ListComp elt [⟨tg,iter,ifs,0⟩] scope pos) (some (.Name nm posn)) poss.line X.env=pure true)
    (hs:∀x,foldedSetIterable iter X.env x=pure x):
    PS X (.Assign [.Name nm posn] (.ListComp elt [⟨tg,iter,ifs,0⟩] scope pos) poss) (fS K (bj ix (bO cp tgN.length fi g ft fe)) [ix]):=(qF sc0 N0 cp tgN hc hsc hN0 hi hg ht he hk hcell hnames hfr hcp hcq hNd hix hlc hsw hs).mono fun D σ H h=>by
  obtain⟨F,e,fl,R,hf,q⟩:=h
  unfold bj at hf
  obtain⟨⟨r,e1⟩,h1,hf⟩:=Option.bind_eq_some_iff.mp hf
  obtain⟨e2,h2,hf⟩:=Option.map_eq_some_iff.mp hf
  cases hf
  refine jD hnd hW ⟨F,e,r,e1,R,h1,fun F1 H1 v X1 R1 A1=>?_⟩
  obtain⟨x,R2⟩:=qG R X1 R1 A1 h2
  exact q F1 H1 _ x R2
variable{o:Expr}{fo:FE}{apos cpos:Pos}
theorem dg(hK:X.K=K)(ho:PE X o (fE K fo))(ha:PA X (a::es) (fA K fs))(hbase:attributeBase o "append" X.env (eval o X.env)=eval o X.env)
    (hfew:((backTo cpos (starEach (a::es) X.env)).all (fun x=> !x.1)&&(backToKw cpos (keywordEach [] X.env)).all (fun x=>x.1.isSome)
      &&decide ((a::es).length+([]:List Keyword).length+(if ([]:List Keyword).isEmpty then 0 else 1) < 30))=true)
    (hline:(apos.endLine==cpos.line)=true)(hs:starEach (a::es) X.env=(false,eval a X.env)::starEach es X.env)(hplain:(backTo cpos (starEach es X.env)).any (·.1)=false):
    PE X (.Call (.Attribute o "append" apos) (a::es) [] cpos) (fE K (dw bZ fo fs)):=by
  subst hK;exact zc PySem.F.slot_list_append PySem.F.type_list_append fN tI ho ha hbase hfew hline hs hplain
theorem rJ(hK:X.K=K)(ho:PE X o (fE K fo))(ha:PA X (a::es) (fA K fs))(hbase:attributeBase o "pop" X.env (eval o X.env)=eval o X.env)
    (hfew:((backTo cpos (starEach (a::es) X.env)).all (fun x=> !x.1)&&(backToKw cpos (keywordEach [] X.env)).all (fun x=>x.1.isSome)
      &&decide ((a::es).length+([]:List Keyword).length+(if ([]:List Keyword).isEmpty then 0 else 1) < 30))=true)
    (hline:(apos.endLine==cpos.line)=true)(hs:starEach (a::es) X.env=(false,eval a X.env)::starEach es X.env)(hplain:(backTo cpos (starEach es X.env)).any (·.1)=false):
    PE X (.Call (.Attribute o "pop" apos) (a::es) [] cpos) (fE K (dw iM fo fs)):=by
  subst hK;exact zc PySem.F.slot_list_pop PySem.F.type_list_pop vb xY ho ha hbase hfew hline hs hplain
end
end L2
namespace L2
open PySem PySem.Spec PyProof.Rows
theorem qM{K:PySem.W.Frag}{H:Hp}{a:Addr}{ns:List Int}{m:FM}{as':List Sv}{Q:VK}{E:XK}(hS:dP K H a (ns.map V.int))(hm:m [.d (.list (ns.map .int))]=some (.d (.bool true),as'))(q:∀H',Q (.bl true) H'):cD K 1 m [.ref a] H Q E:=by
  refine⟨rfl,H,[.d (.list (ns.map .int))],_,as',?_,?_,hm,trivial,fun F' H' v X' R' A'=>?_⟩
  · refine⟨ar.refl _,rfl,fun i x h=>?_,fun i xs h=>?_,fun i xss h=>?_,fun i j l f1 _=>?_⟩
    · match i,h with
      | 0,h=>
        simp at h;subst h
        exact⟨.ref a,rfl,dD.mpr ⟨a,_,rfl,hS,az.ints.mpr rfl⟩⟩
      | i+1,h=>simp at h
    · match i,h with
      | 0,h=>simp at h
      | i+1,h=>simp at h
    · match i,h with
      | 0,h=>simp at h
      | i+1,h=>simp at h
    · rcases f1 with ⟨_,h,_⟩ | ⟨_,_,_,h,_⟩
      · match i,h with
        | 0,h=>simp at h
        | i+1,h=>simp at h
      · match i,h with
        | 0,h=>simp at h
        | i+1,h=>simp at h
  · intro i xss h
    match i,h with
    | 0,h=>simp at h
    | i+1,h=>simp at h
  · rw [cM.mp (show DA K F' (.bool true) v from A')];exact q H'
end L2
namespace L2
open PySem PySem.Spec PyProof.Rows
section
variable{K:PySem.W.Frag}{σ:L2.St}{H0 F H F' H':Hp}{e e':En}
end
section
variable{X:Cx}{K:PySem.W.Frag}{a b:Expr}{es:List Expr}{fa fb:FE}{fs:FA}{pos p p2 p3 pos':Pos}{x:Str}{i:Nat}
def nC(k:Int):En→Option Int:=fun _=>some k
end
end L2
namespace L2
open PySem PySem.Spec PyProof.Rows
theorem jM{C:Int→Int→Bool}{f:Int→Int→PyData}{e:En}{i j:Int}(h:C i j=true):gI C f e (.d (.int i)) (.d (.int j))=some (.d (f i j)):=by simp [gI,cR,h]
theorem oO{e:En}{i j:Int}:c9 e (.d (.int i)) (.d (.int j))=some (.d (.int (i+j))):=rfl
theorem lj{e:En}{i j:Int}:jN e (.d (.int i)) (.d (.int j))=some (.d (.int (i - j))):=rfl
theorem gS{e:En}{i j:Int}(h:iN i j=true):iF e (.d (.int i)) (.d (.int j))=some (.d (.int (i*j))):=by
  unfold iF wH uG;rw [jM h];rfl
theorem vd{i j:Int}(h1: -(2 ^ 64) < i)(h2:i < 2 ^ 64):iN i j=true:=by
  have:gD i=true:=by unfold gD;rw [decide_eq_true h1,decide_eq_true h2];rfl
  unfold iN;rw [this];simp
theorem nH{i j:Int}(h1: -(2 ^ 64) < j)(h2:j < 2 ^ 64):iN i j=true:=by
  have:gD j=true:=by unfold gD;rw [decide_eq_true h1,decide_eq_true h2];rfl
  unfold iN;rw [this];simp
theorem vc{i j:Int}(h1:Bt 4000 i)(h2:Bt 4000 j):iN i j=true:=by unfold iN;rw [f_.mpr h1,f_.mpr h2];simp
theorem aP{e:En}{i j:Int}(h:0 < j):bg e (.d (.int i)) (.d (.int j))=some (.d (.int (i % j))):=by
  unfold bg;rw [jM (by simp;lia)]
  rw [Int.fmod_eq_emod_of_nonneg i (by lia)]
theorem fJ{e:En}{i j:Int}(h:0 < j)(h2:Bt 8000 j):fH e (.d (.int i)) (.d (.int j))=some (.d (.int (i / j))):=by
  unfold fH;rw [jM (by simp [f_.mpr h2];lia)]
  rw [Int.fdiv_eq_ediv_of_nonneg i (by lia)]
theorem kP{e:En}{i j:Int}{neg:Bool}:c_ neg e (.d (.int i)) (.d (.int j))=some (.d (.bool (if neg then !(i==j) else i==j))):=by
  unfold c_;simp [fB,SeqAt.shaped,PyData.canLay0,PyData.depth,PyData.eqv]
theorem rB{e:En}{i j:Int}:wG e (.d (.int i)) (.d (.int j))=some (.d (.bool (decide (i < j)))):=rfl
theorem rp{e:En}{i j:Int}:ET e (.d (.int i)) (.d (.int j))=some (.d (.bool (decide (i≤j)))):=rfl
theorem ro{e:En}{i j:Int}:zH e (.d (.int i)) (.d (.int j))=some (.d (.bool (decide (j < i)))):=rfl
theorem rm{e:En}{i j:Int}:zG e (.d (.int i)) (.d (.int j))=some (.d (.bool (decide (j≤i)))):=rfl
theorem oT{e:En}{i j:Int}:g2 uF e [.d (.int i),.d (.int j)]=some (.d (.int (min i j))):=by
  show some (Rv.d (.int (if j < i then j else i)))=_
  congr 3
  split<;>lia
theorem oS{e:En}{i j:Int}:g2 sv e [.d (.int i),.d (.int j)]=some (.d (.int (max i j))):=by
  show some (Rv.d (.int (if j > i then j else i)))=_
  congr 3
  split<;>lia
theorem oU{e:En}{i:Int}:xh e (.d (.int i))=some (.d (.int (-i))):=rfl
theorem mE{e:En}{b:Bool}:g1 su e [.d (.bool b)]=some (.d (.int (if b then 1 else 0))):=rfl
theorem oM{e:En}{i:Int}:g1 sk e [.d (.int i)]=some (.d (.int i.natAbs)):=by
  show some (Rv.d (.int (if i < 0 then -i else i)))=_
  congr 3
  split<;>lia
theorem k_{j:Int}(h1:0 < j)(h2:j < 2 ^ 64):Bt 8000 j:=Bt.mono (m:=64) (by unfold Bt;lia) (by decide)
theorem iA{α:Type}{xs:List α}{i:Int}(h0:0≤i)(h:i < xs.length):atI xs i=xs[i.toNat]?:=by
  unfold atI Bz
  rw [if_pos h0,if_pos h];rfl
theorem oR{e:En}{i:Nat}{xs:List PyData}{neg:Bool}(h:e[i]?=some (some (.l xs)))(hs:SeqAt.shaped (.list xs)=true):c_ neg e (.s i) (.l [])=some (.d (.bool (if neg then !xs.isEmpty else xs.isEmpty))):=by
  unfold c_
  simp only [fB,h,Option.bind_some,hs]
  have h0:SeqAt.shaped (.list [])=true:=by simp [SeqAt.shaped,PyData.canLay0,PyData.canLayAll0,PyData.depth,PyData.depthAll]
  rw [h0]
  cases xs<;>simp [PyData.eqv,PyData.eqvAll]
theorem kf(ns:List Int):SeqAt.shaped (.list (ns.map .int))=true∧SeqAt.shaped (.tuple (ns.map .int))=true:=by
  have h1:PyData.canLayAll0 (ns.map PyData.int)=true:=by
    induction ns with
    | nil=>rfl
    | cons n r ih=>simp [PyData.canLayAll0,PyData.canLay0,ih]
  have h2:PyData.depthAll (ns.map PyData.int)=0:=by
    clear h1
    induction ns with
    | nil=>rfl
    | cons n r ih=>simp [PyData.depthAll,PyData.depth,ih]
  constructor<;>simp [SeqAt.shaped,PyData.canLay0,PyData.depth,h1,h2]
theorem cv{own:fq}{g:FG}{f:FS}(P:Nat→En→Prop):∀(items:List PyData) (k:Nat) (e:En),(∀i x e,items[i]?=some x→P (k+i) e→∃e1 e2,g x e=some e1∧f e1=some (.nx e2)∧keeps own e2∧P (k+i+1) e2)→P k e→∃e',iD own g f items e=some (.nx e')∧P (k+items.length) e'
  | [],k,e,_,h=>⟨e,rfl,h⟩
  | x::r,k,e,hs,h=>by
    obtain⟨e1,e2,h1,h2,h3,h4⟩:=hs 0 x e rfl h
    obtain⟨e',h5,h6⟩:=cv P r (k+1) e2 (fun i y e hy hp=>by
      have:=hs (i+1) y e (by simpa using hy) (by rw [show k+(i+1)=k+1+i by lia];exact hp)
      rw [show k+(i+1)+1=k+1+i+1 by lia] at this
      exact this) h4
    refine⟨e',?_,by rw [List.length_cons,show k+(r.length+1)=k+1+r.length by lia];exact h6⟩
    unfold iD
    simp only [h1,h2,Option.bind_some,if_pos h3]
    exact h5
theorem aS{e:En}:keeps [] e:=fun _ h=>by cases h
theorem cN{W:List Nat}{fi:FI}{g:FG}{f:FS}{e e1:En}{items:List PyData}(h:fi e=some (items,[],e1)):d_ W fi g f e=iD [] g f items e1:=by
  unfold d_;rw [h];rfl
theorem gC{lo:Int}{n i:Nat}{x:PyData}(h:(bv lo n)[i]?=some x):x=.int (lo+i)∧i < n:=by
  unfold bv at h
  rw [List.getElem?_map] at h
  obtain⟨k,h1,rfl⟩:=Option.map_eq_some_iff.mp h
  obtain⟨h2,h3⟩:=List.getElem?_eq_some_iff.mp h1
  simp at h2 h3
  subst h3
  exact⟨rfl,h2⟩
theorem eS{lo:Int}{n:Nat}:(bv lo n).length=n:=by simp [bv]
theorem dH{fs:FA}{e e1:En}{n:Int}(h:fs e=some ([.d (.int n)],e1))(h1: -1000000≤n)(h2:n≤1000000):df fs e=some (bv 0 n.toNat,[],e1):=by
  unfold df;rw [h]
  have:vQ n=true:=by unfold vQ;rw [decide_eq_true h1,decide_eq_true h2];rfl
  simp [cR,this]
theorem iX{ft:FT}{f:FS}(P:En→Prop)(μ:En→Nat)(hs:∀e,P e→(∃e1,ft e=some (false,e1)∧True)∨∃e1 e2,ft e=some (true,e1)∧f e1=some (.nx e2)∧P e2∧μ e2 < μ e):
    ∀(n:Nat) (e:En),P e→μ e < n→∃e0 e',gH ft f n e=some (.nx e')∧P e0∧ft e0=some (false,e'):=by
  intro n
  induction n with
  | zero=>intro e _ h;lia
  | succ n ih=>
    intro e hp hm
    rcases hs e hp with ⟨e1,h1,_⟩ | ⟨e1,e2,h1,h2,h3,h4⟩
    · exact⟨e,e1,by unfold gH;rw [h1];rfl,hp,h1⟩
    · obtain⟨e0,e',g1,g2⟩:=ih e2 h3 (by lia)
      exact⟨e0,e',by unfold gH;rw [h1];simp only [Option.bind_some,if_true,h2];exact g1,g2⟩
theorem cz{cs:En}{ft:FT}{fe:FE}{b:PyData→Bool}{y:PyData→PyData}:∀(items:List PyData) (t:Option Sv) (acc:List PyData),(∀x∈items,ft (cs++[some (.d x)])=some (b x,cs++[some (.d x)]))→(∀x∈items,b x=true→fe (cs++[some (.d x)])=some (.d (y x),cs++[some (.d x)]))→
    acc.length+items.length≤1000000→∃t',ey (aj cs.length) ft fe items (cs++[t]) acc=some (acc++(items.filter b).map y,cs++[t'])
  | [],t,acc,_,_,_=>⟨t,by simp [ey]⟩
  | x::r,t,acc,h1,h2,hl=>by
    have hg:aj cs.length x (cs++[t])=some (cs++[some (.d x)]):=by simp [aj]
    have h1x:=h1 x (by simp)
    unfold ey
    rw [hg]
    simp only [Option.bind_some,h1x]
    cases hb:b x with
    | true=>
      simp only [if_true,h2 x (by simp) hb,Option.bind_some,qg]
      rw [if_pos (by simp at hl;lia)]
      obtain⟨t',ih⟩:=cz (b:=b) (y:=y) r (some (.d x)) (acc++[y x]) (fun z hz=>h1 z (by simp [hz])) (fun z hz=>h2 z (by simp [hz])) (by simp at hl ⊢;lia)
      exact⟨t',by rw [ih];simp [hb]⟩
    | false=>
      simp only [Bool.false_eq_true,if_false]
      obtain⟨t',ih⟩:=cz (b:=b) (y:=y) r (some (.d x)) acc (fun z hz=>h1 z (by simp [hz])) (fun z hz=>h2 z (by simp [hz])) (by simp at hl;lia)
      exact⟨t',by rw [ih];simp [hb]⟩
theorem gv{fa:FE}{e e1:En}{xs:List PyData}(h:fa e=some (.d (.tuple xs),e1)):gu fa e=some (xs,[],e1):=by
  unfold gu;rw [h];rfl
theorem uS{fa:FE}{e e1:En}{xs:List PyData}(h:fa e=some (.l xs,e1)):gu fa e=some (xs,[],e1):=by
  unfold gu;rw [h];rfl
theorem cK{cp:List (Nat × Str)}{nT:Nat}{fi:FI}{g:FG}{ft:FT}{fe:FE}{e e1 cs:En}{t t':En}{items out:List PyData}(h1:fi e=some (items,[],e1))(hc:oZ cp nT e1=cs++t)(hl:cs.length=cp.length)(h3:ey g ft fe items (oZ cp nT e1) []=some (out,cs++t')):bO cp nT fi g ft fe e=some (.l out,e1):=by
  have key:∀i x,e1[i]?=some (some (.l x))→∀k,lK cp i=some k→(cs++t')[k]?=some (some (.l x)):=by
    intro i x hi k hk
    obtain⟨s,hs⟩:=fQ hk
    have hk2:k < cp.length:=(List.getElem?_eq_some_iff.mp hs).1
    have:(oZ cp nT e1)[k]?=some (some (.l x)):=by
      unfold oZ
      rw [List.getElem?_append_left (by simpa using hk2),List.getElem?_map,hs]
      simp [hi,Ci]
    rw [hc,List.getElem?_append_left (by lia)] at this
    rw [List.getElem?_append_left (by lia)]
    exact this
  unfold bO
  rw [h1]
  simp only [Option.bind_some,List.all_nil,if_true,h3]
  have hb:m9 cp (cs++t') e1=true:=by
    unfold m9
    rw [List.all_eq_true]
    intro p hp
    match hi:e1[p.1]? with
    | none=>simp [wJ]
    | some none=>simp [wJ]
    | some (some (.d x))=>simp [wJ]
    | some (some (.n x))=>simp [wJ]
    | some (some (.l x))=>
      cases hq:lK cp p.1 with
      | none=>
        unfold lK at hq
        rw [List.findIdx?_eq_none_iff] at hq
        have:=hq p hp
        simp at this
      | some k=>simp [key p.1 x hi k hq,wJ]
  rw [if_pos hb]
  congr 2
  refine List.ext_getElem? fun i=>?_
  rw [bV]
  match hi:e1[i]? with
  | none=>rfl
  | some none=>rfl
  | some (some (.d x))=>rfl
  | some (some (.n x))=>rfl
  | some (some (.l x))=>
    cases hp:lK cp i with
    | none=>simp [hp]
    | some k=>simp [hp,key i x hi k hp]
theorem k8{α:Type}{xs:List α}{i:Int}(h0:0≤i)(h1:i < xs.length):∃x∈xs,atI xs i=some x:=by
  rw [iA h0 h1]
  exact⟨xs[i.toNat]'(by lia),List.getElem_mem _,List.getElem?_eq_getElem _⟩
theorem yZ{e:En}{xs:List PyData}{i:Int}:cC e (.l xs) (.d (.int i))=(atI xs i).map .d:=rfl
theorem uB{e:En}{xs:List PyData}{i:Int}:cC e (.d (.tuple xs)) (.d (.int i))=(atI xs i).map .d:=rfl
theorem uA{e:En}{xs:List PyData}{i:Int}:cC e (.d (.list xs)) (.d (.int i))=(atI xs i).map .d:=rfl
theorem y0{e:En}{j:Nat}{xs:List PyData}{i:Int}(h:e[j]?=some (some (.l xs))):cC e (.s j) (.d (.int i))=(atI xs i).map .d:=by
  simp [cC,cx,h,cR]
theorem uE{e:En}{xs:List PyData}:g1 fK e [.d (.tuple xs)]=some (.d (.int xs.length)):=rfl
theorem rq{e:En}{xs:List PyData}:g1 fK e [.d (.list xs)]=some (.d (.int xs.length)):=rfl
theorem uC{e:En}{xs:List PyData}:g1 fK e [.l xs]=some (.d (.int xs.length)):=rfl
theorem uD{e:En}{j:Nat}{xs:List PyData}(h:e[j]?=some (some (.l xs))):g1 fK e [.s j]=some (.d (.int xs.length)):=by
  simp [g1,fK,cx,h]
theorem oX{e:En}{j:Nat}{xs:List PyData}(h:e[j]?=some (some (.l xs))):g1 dc e [.s j]=some (.d (.tuple xs)):=by
  simp [g1,dc,cx,h]
theorem oW{e:En}{xs:List PyData}:g1 dc e [.l xs]=some (.d (.tuple xs)):=rfl
theorem mF{e:En}{xs:List PyData}:g1 dc e [.d (.list xs)]=some (.d (.tuple xs)):=rfl
theorem oY{e:En}{xs:List PyData}:g1 dc e [.d (.tuple xs)]=some (.d (.tuple xs)):=rfl
theorem y3{e:En}{xs:List PyData}{lo hi:Option Int}:DL e (.d (.tuple xs)) lo hi=some (.d (.tuple (cutD xs lo hi))):=rfl
theorem uu{e:En}{xs ys:List PyData}(h:xs.length+ys.length≤1000000):c9 e (.d (.tuple xs)) (.d (.tuple ys))=some (.d (.tuple (xs++ys))):=by
  simp [c9,wH,uq,gI,cR,oQ,cx,h]
theorem zK{e:En}{i j:Int}(h:j≠0):bg e (.d (.int i)) (.d (.int j))=some (.d (.int (i.fmod j))):=by
  unfold bg;rw [jM (by simpa using h)]
theorem xf{e:En}{i j:Int}(h:j≠0)(h2:Bt 8000 j):fH e (.d (.int i)) (.d (.int j))=some (.d (.int (i.fdiv j))):=by
  unfold fH;rw [jM (by simp [f_.mpr h2,h])]
theorem jc{e:En}{i j:Int}(h:vE i j=true):qk e (.d (.int i)) (.d (.int j))=some (.d (.int (i ^ j.toNat))):=by
  unfold qk;rw [jM h]
theorem jn:vE 10 18=true:=by decide
theorem b_{f g:FS}{e e1:En}(h:f e=some (.nx e1)):aF f g e=g e1:=by unfold aF;rw [h];rfl
theorem CZ{ft:FT}{f g:FS}{e e1:En}(h:ft e=some (true,e1)):iY ft f g e=f e1:=by unfold iY;rw [h];rfl
theorem CY{ft:FT}{f g:FS}{e e1:En}(h:ft e=some (false,e1)):iY ft f g e=g e1:=by unfold iY;rw [h];rfl
def y6(i:Nat)(e:En):Nat:=match e[i]? with
  | some (some (.l xs))=>xs.length
  | _=>0
def ve(i:Nat)(e:En):Nat:=match e[i]? with
  | some (some (.d (.int k)))=>k.natAbs
  | _=>0
theorem rF{n m:Nat}(h:n < 2 ^ m)(hm:m≤4200):n < 2 ^ 4200:=Nat.lt_of_lt_of_le h (Nat.pow_le_pow_right (by decide) hm)
theorem p4{α:Type}{a:α}{r:List α}:atI (a::r) 0=some a:=by
  rw [iA (by decide) (by simp)];rfl
theorem p5{α:Type}{a b:α}{r:List α}:atI (a::b::r) 1=some b:=by
  rw [iA (by decide) (by simp;lia)];rfl
theorem tJ{α:Type}{a b c:α}{r:List α}:atI (a::b::c::r) 2=some c:=by
  rw [iA (by decide) (by simp;lia)];rfl
theorem tK{α:Type}{a b c d:α}{r:List α}:atI (a::b::c::d::r) 3=some d:=by
  rw [iA (by decide) (by simp;lia)];rfl
theorem dW{W:be}{k:Int}(h:eg W k):atI (W.ties.map cZ) k=some (cZ (W.tie k)):=by
  rw [iA h.1 (by rw [List.length_map];exact h.2),List.getElem?_map,h.get];rfl
theorem yN{a b c d:PyData}:cutD [a,b,c,d] none (some 2)=[a,b]:=rfl
theorem mx{a b c d:PyData}:cutD [a,b,c,d] (some 2) none=[c,d]:=rfl
theorem mw{a b c:PyData}:cutD [a,b,c] (some 1) none=[b,c]:=rfl
theorem oz(ns:List Int):PyData.canLayAll0 (ns.map PyData.int)=true:=by
  induction ns with
  | nil=>rfl
  | cons n r ih=>simp [PyData.canLayAll0,PyData.canLay0,ih]
theorem ox{x:Int}:∀(ns:List Int),((ns.map PyData.int).any fun y=>PyData.eqv y (.int x))=ns.contains x
  | []=>rfl
  | n::r=>by
    rw [List.map_cons,List.any_cons,ox r,List.contains_cons]
    show(n==x || _)=_
    rw [show(n==x)=(x==n) by rw [Bool.eq_iff_iff];simp;exact eq_comm]
theorem eN{e:En}{x:Int}{ns:List Int}{neg:Bool}:jF neg e (.d (.int x)) (.d (.tuple (ns.map .int)))=some (.d (.bool (if neg then !ns.contains x else ns.contains x))):=by
  unfold jF
  simp only [fB,cx,Option.bind_some,oz,ox]
  simp [PyData.canLay0,PyData.depth]
theorem kQ{e:En}{x a b:Int}{neg:Bool}:jF neg e (.d (.int x)) (.d (.tuple [.int a,.int b]))=some (.d (.bool (if neg then !(a==x || b==x) else(a==x || b==x)))):=by
  have h:=eN (e:=e) (x:=x) (ns:=[a,b]) (neg:=neg)
  simp only [List.map_cons,List.map_nil] at h
  rw [h]
  have:[a,b].contains x=(a==x || b==x):=by
    simp only [List.contains_cons,List.contains_nil,Bool.or_false]
    rw [show(x==a)=(a==x) by rw [Bool.eq_iff_iff];simp;exact eq_comm,show(x==b)=(b==x) by rw [Bool.eq_iff_iff];simp;exact eq_comm]
  rw [this]
theorem oF(W:be):aq W=.tuple [.int W.things,.tuple (W.ties.map cZ),.tuple (W.pat.map .int),.int W.asks]:=rfl
end L2
namespace L2
open PySem PySem.Spec PyProof.Rows
def Sh(n:Nat)(d:PyData):Prop:=d.canLay0=true∧d.depth≤n
theorem Sh.mono{n m:Nat}{d:PyData}(h:Sh n d)(l:n≤m):Sh m d:=⟨h.1,Nat.le_trans h.2 l⟩
theorem Sh.ok{n:Nat}{d:PyData}(h:Sh n d)(l:n≤64):SeqAt.shaped d=true:=by
  unfold SeqAt.shaped;rw [h.1,decide_eq_true (Nat.le_trans h.2 l)];rfl
theorem Sh.int{k:Int}:Sh 2 (.int k):=⟨by simp [PyData.canLay0],by simp [PyData.depth]⟩
theorem Sh.all{n:Nat}:∀{ds:List PyData},(∀d∈ds,Sh n d)→PyData.canLayAll0 ds=true∧PyData.depthAll ds≤n
  | [],_=>⟨rfl,by simp [PyData.depthAll]⟩
  | d::r,h=>by
    obtain⟨a1,a2⟩:=h d (by simp)
    obtain⟨b1,b2⟩:=Sh.all (ds:=r) fun x hx=>h x (by simp [hx])
    exact⟨by simp [PyData.canLayAll0,a1,b1],by simp only [PyData.depthAll];lia⟩
theorem Sh.tup{n:Nat}{ds:List PyData}(h:∀d∈ds,Sh n d):Sh (n+2) (.tuple ds):=by
  obtain⟨b1,b2⟩:=Sh.all h
  exact⟨by simp [PyData.canLay0,b1],by simp only [PyData.depth];lia⟩
theorem Sh.list{n:Nat}{ds:List PyData}(h:∀d∈ds,Sh n d):Sh (n+2) (.list ds):=by
  obtain⟨b1,b2⟩:=Sh.all h
  exact⟨by simp [PyData.canLay0,b1],by simp only [PyData.depth];lia⟩
theorem Sh.ints{ns:List Int}:Sh 4 (.tuple (ns.map .int)):=Sh.tup (n:=2) fun d hd=>by
  obtain⟨k,_,rfl⟩:=List.mem_map.mp hd
  exact Sh.int
theorem Sh.tie{t:kB}:Sh 6 (cZ t):=Sh.tup (n:=4) fun d hd=>by
  simp only [List.mem_cons,List.not_mem_nil,or_false] at hd
  rcases hd with rfl | rfl | rfl | rfl
  · exact Sh.int.mono (by decide)
  · exact Sh.int.mono (by decide)
  · exact Sh.ints (ns:=[t.top,t.bot])
  · exact Sh.int.mono (by decide)
theorem Sh.web{W:be}:Sh 10 (aq W):=Sh.tup (n:=8) fun d hd=>by
  simp only [List.mem_cons,List.not_mem_nil,or_false] at hd
  rcases hd with rfl | rfl | rfl | rfl
  · exact Sh.int.mono (by decide)
  · exact Sh.tup (n:=6) fun d hd=>by
      obtain⟨k,_,rfl⟩:=List.mem_map.mp hd
      exact Sh.tie
  · exact Sh.ints.mono (by decide)
  · exact Sh.int.mono (by decide)
mutual
theorem oI:∀{d:PyData},d.canLay0=true→c8 d=true→PyData.eqv d d=true
  | .none,_,_=>by simp [PyData.eqv]
  | .bool b,_,_=>by simp [PyData.eqv]
  | .int i,_,_=>by simp [PyData.eqv]
  | .str x,_,_=>by simp [PyData.eqv]
  | .tuple ds,h,f=>by
    simp only [PyData.eqv]
    exact j8 (by simpa [PyData.canLay0] using h) (by simpa [c8] using f)
  | .list ds,h,f=>by simp [c8] at f
  | .dict _,h,f=>by simp [c8] at f
theorem j8:∀{ds:List PyData},PyData.canLayAll0 ds=true→bY ds=true→PyData.eqvAll ds ds=true
  | [],_,_=>by simp [PyData.eqvAll]
  | d::r,h,f=>by
    simp only [PyData.canLayAll0,Bool.and_eq_true] at h
    simp only [bY,Bool.and_eq_true] at f
    simp only [PyData.eqvAll,oI h.1 f.1,j8 h.2 f.2,Bool.and_self]
end
theorem pe:∀(n:Nat) (l:List Int),l.Nodup→(∀k∈l,0≤k∧k < (n:Int))→l.length≤n
  | 0,l,_,h=>by
    cases l with
    | nil=>simp
    | cons a r=>have:=h a (by simp);lia
  | n+1,l,hd,h=>by
    have ih:=pe n (l.erase (n:Int)) (hd.erase _) fun k hk=>by
      obtain⟨h1,h2⟩:=hd.mem_erase_iff.mp hk
      have:=h k h2
      lia
    by_cases c:(n:Int)∈l
    · rw [List.length_erase_of_mem c] at ih;lia
    · rw [List.erase_of_not_mem c] at ih;lia
abbrev Std:=List Int × List Int
structure BL (W:be) (s:Std):Prop where
  inw:∀k∈s.1,eg W k
  nd:s.1.Nodup
  tk:s.2.length≤2*s.1.length
  th:∀t∈s.2,0≤t∧t < W.things
def nxt(W:be)(s:Std)(k:Int)(b:Bool):Std:=(be.askd s.1 k,W.took s.2 k b)
structure Nd where
  tie:Int
  yes:Int
  no:Int
def BH(W:be)(n:Nat)(S:Nat→Std)(i:Nat)(k:Int)(b:Bool)(l:Int):Prop:=l= -1∨(0≤l∧l < (n:Int)∧S l.toNat=nxt W (S i) k b)
structure DC (W:be) (n:Nat) (S:Nat→Std) (i:Nat) (x:Nd):Prop where
  tie:eg W x.tie
  st:BL W (S i)
  may:W.may (S i).1 (S i).2 x.tie=true
  yes:BH W n S i x.tie true x.yes
  no:BH W n S i x.tie false x.no
def DD(W:be)(T:List Nd)(S:Nat→Std):Prop:=∀(i:Nat) (x:Nd),T[i]?=some x→DC W T.length S i x
structure Wt where
  st:Std
  par:Int
  side:Int
structure EH (W:be) (T:List Nd) (S:Nat→Std) (ws:List Wt):Prop where
  tr:DD W T S
  wt:∀w∈ws,BL W w.st∧(w.par= -1∨∃(p:Nat) (x:Nd),w.par=(p:Int)∧T[p]?=some x∧((w.side=0∧w.st=L2.nxt W (S p) x.tie true)∨(w.side=1∧w.st=L2.nxt W (S p) x.tie false)))
  side:∀w∈ws,w.side=0∨w.side=1
end L2
namespace L2
open PySem PySem.Spec PyProof.Rows
theorem tj{cp:List (Nat × Str)}{nT:Nat}{fi:FI}{g:FG}{ft:FT}{fe:FE}{e e1 cs:En}{t t':En}{items out:List PyData}{own:fq}(h1:fi e=some (items,own,e1))(ho:(own.all fun q=> !(cp.any fun c=>c.1==q.1))=true)(hc:oZ cp nT e1=cs++t)(hl:cs.length=cp.length)(h3:ey g ft fe items (oZ cp nT e1) []=some (out,cs++t')):bO cp nT fi g ft fe e=some (.l out,e1):=by
  have key:=cK (cp:=cp) (nT:=nT) (fi:=fun _=>some (items,[],e1)) (g:=g) (ft:=ft) (fe:=fe) (e:=e) rfl hc hl h3
  unfold bO at key ⊢
  rw [h1]
  simp only [Option.bind_some,List.all_nil,if_true] at key
  simp only [Option.bind_some,ho,if_true]
  exact key
def nm(nums:List Int)(l:Int):Int:=(atI nums l).getD (-1)
structure Ek (order:List Int) (n:Nat) (nums:List Int):Prop where
  len:nums.length=n+1
  top:nums[n]?=some (-1)
  at':∀(j:Nat) (v:Int),j < n→nums[j]?=some v→v= -1∨∃p:Nat,v=(p:Int)∧order[p]?=some (j:Int)
def vf(T:List Nd)(w:Int):Nd:=T.getD w.toNat ⟨0,0,0⟩
theorem mz{α β:Type}{f:α→β}:∀{xs:List α} {i:Nat},(xs.map f).eraseIdx i=(xs.eraseIdx i).map f
  | [],_=>by simp
  | x::r,0=>by simp
  | x::r,i+1=>by simp [mz (xs:=r) (i:=i)]
end L2
namespace L2
open PySem PySem.Spec PyProof.Rows
structure ER (S:Nat→Std) (n:Nat) (ss:List Std):Prop where
  len:ss.length=n
  at':∀(j:Nat) (s:Std),ss[j]?=some s→s.1.length≤(S j).1.length∧s.2.length≤2*s.1.length∧(∀k∈s.1,0≤k∧k < 16)∧∀t∈s.2,0≤t∧t < 12
end L2
namespace L2
open PySem PySem.Spec PyProof.Rows
theorem hV(s:String):PyData.strOk (Str.ofString s)=true:=by
  rw [Str.ofString_eq_toList]
  unfold PyData.strOk
  simp only [List.size_toArray,List.length_map]
  rw [show(List.map Char.toNat s.toList).toArray.all (fun a=>decide (a < 1114112)) 0 s.toList.length=(List.map Char.toNat s.toList).all (fun a=>decide (a < 1114112)) by simp]
  rw [List.all_map,List.all_eq_true]
  intro c _
  show decide (c.toNat < 1114112)=true
  rw [decide_eq_true_eq]
  have:=c.valid
  unfold UInt32.isValidChar Nat.isValidChar at this
  show c.val.toNat < _
  lia
theorem ir{a b:Str}(h1:PyData.strOk a=true)(h2:PyData.strOk b=true):PyData.strOk (a++b)=true:=by
  unfold PyData.strOk at*
  rw [show(a++b).cps=a.cps++b.cps from rfl]
  simp only [Array.all_append,h1,h2,Bool.and_self]
theorem l0{sep:Str}(h:PyData.strOk sep=true):∀(ts:List Str),(∀t∈ts,PyData.strOk t=true)→PyData.strOk (Str.join sep ts)=true
  | [],_=>by show PyData.strOk Str.empty=true;simp [PyData.strOk,Str.empty]
  | [x],hx=>hx x (by simp)
  | x::y::r,hx=>ir (ir (hx x (by simp)) h) (l0 h (y::r) fun t ht=>hx t (by simp at ht ⊢;exact .inr ht))
theorem sW{ts:List Str}(h:∀t∈ts,PyData.strOk t=true):PyData.strOk (tupleText ts)=true:=by
  unfold tupleText
  exact ir (ir (hV _) (l0 (hV _) ts h)) (hV _)
structure Sz (n dep:Nat) (d:PyData):Prop where
  fl:c8 d=true
  sh:d.showable=true
  dp:d.depth≤dep
  ln:d.shown.length≤n
  so:PyData.strOk d.shown=true
theorem Sz.int{k:Int}(h0:0≤k)(h1:k < 16):Sz 2 2 (.int k):=by
  have:k=0∨k=1∨k=2∨k=3∨k=4∨k=5∨k=6∨k=7∨k=8∨k=9∨k=10∨k=11∨k=12∨k=13∨k=14∨k=15:=by lia
  rcases this with rfl | rfl | rfl | rfl | rfl | rfl | rfl | rfl | rfl | rfl | rfl | rfl | rfl | rfl | rfl | rfl<;>exact⟨rfl,by decide,by simp [PyData.depth],by decide,hV _⟩
theorem Sz.all{n dep:Nat}:∀{ds:List PyData},(∀d∈ds,Sz n dep d)→bY ds=true∧PyData.showableAll ds=true∧PyData.depthAll ds≤dep∧piled (PyData.shownAll ds)≤ds.length*(n+2)∧∀t∈PyData.shownAll ds,PyData.strOk t=true
  | [],_=>⟨rfl,rfl,by simp [PyData.depthAll],by simp [PyData.shownAll,piled],by simp [PyData.shownAll]⟩
  | d::r,h=>by
    obtain⟨a1,a2,a3,a4,a5⟩:=h d (by simp)
    obtain⟨b1,b2,b3,b4,b5⟩:=Sz.all (ds:=r) fun x hx=>h x (by simp [hx])
    refine⟨?_,?_,?_,?_,?_⟩
    · simp only [bY,a1,b1,Bool.and_self]
    · simp only [PyData.showableAll,a2,b2,Bool.and_self]
    · simp only [PyData.depthAll];lia
    · simp only [PyData.shownAll,lJ,List.length_cons,Nat.succ_mul];lia
    · intro t ht
      simp only [PyData.shownAll,List.mem_cons] at ht
      rcases ht with rfl | ht
      · exact a5
      · exact b5 t ht
theorem Sz.tup{n dep m:Nat}{ds:List PyData}(h:∀d∈ds,Sz n dep d)(hl:ds.length≤m):Sz (m*(n+2)+3) (dep+2) (.tuple ds):=by
  obtain⟨b1,b2,b3,b4,b5⟩:=Sz.all h
  refine⟨by simpa [c8] using b1,b2,by simp only [PyData.depth];lia,?_,by simp only [PyData.shown];exact sW b5⟩
  have h2:=mV (PyData.shownAll ds)
  have:=Nat.mul_le_mul_right (n+2) hl
  simp only [PyData.shown]
  lia
theorem Sz.ok{n dep:Nat}{d:PyData}(h:Sz n dep d)(h1:n≤16777216)(h2:dep≤60):jA d=true:=by
  have sl:sizeLine=16777216:=sizeLine_eq
  unfold jA
  rw [h.fl,h.sh,decide_eq_true (Nat.le_trans h.dp h2),decide_eq_true (show d.shown.length≤sizeLine by rw [sl];exact Nat.le_trans h.ln h1)]
  rfl
theorem Sz.ints{ns:List Int}{m:Nat}(hl:ns.length≤m)(h:∀r∈ns,0≤r∧r < 16):Sz (m*4+3) 4 (.tuple (ns.map .int)):=Sz.tup (n:=2) (dep:=2) (fun d hd=>by
  obtain⟨x,hx,rfl⟩:=List.mem_map.mp hd
  exact Sz.int (h x hx).1 (h x hx).2) (by rw [List.length_map];exact hl)
theorem xi{e:En}{d:PyData}(h:jA d=true):g1 ka e [.d d]=some (.d (.str d.shown)):=by
  simp [g1,ka,h]
theorem xc{e:En}{s:Str}(h:PyData.strOk s=true):c_ false e (.d (.str s)) (.d (.str s))=some (.d (.bool true)):=by
  simp [c_,fB,SeqAt.shaped,PyData.canLay0,PyData.depth,PyData.eqv,h]
theorem uv{e:En}{d:PyData}{n:Nat}(h:Sh n d)(hn:n≤64)(hf:c8 d=true):c_ true e (.d d) (.d d)=some (.d (.bool false)):=by
  unfold c_
  simp only [fB,Option.bind_some,h.ok hn,Bool.and_self,if_true,oI h.1 hf]
  rfl
theorem li{ns:List Int}:bY (ns.map PyData.int)=true:=by
  induction ns with
  | nil=>rfl
  | cons a r ih=>simp [bY,c8,ih]
theorem uj{W:be}:c8 (aq W)=true:=by
  have:bY (W.ties.map cZ)=true:=by
    induction W.ties with
    | nil=>rfl
    | cons a r ih=>simp [bY,c8,cZ,ih]
  simp [aq,c8,bY,this,li]
end L2
namespace L2
open PySem PySem.Spec PyProof.Rows
theorem rk{e:En}{i:Nat}{xs ys:List PyData}(h:e[i]?=some (some (.l xs)))(hl:xs.length+ys.length≤1000000):c9 e (.s i) (.l ys)=some (.l (xs++ys)):=by
  simp [c9,wH,uq,gI,cR,oQ,cx,rj,sD,h,hl]
def rn(T:List Nd)(ans:List Bool):Nat→Int→List (Int × Bool)
  | 0,_=>[]
  | f+1,at'=>if at' < 0 then [] else((vf T at').tie,ans.getD (vf T at').tie.toNat false)::rn T ans f (if ans.getD (vf T at').tie.toNat false=true then(vf T at').yes else(vf T at').no)
def rt(T:List Nd):Int:=if T.length=0 then -1 else 0
structure Eo (W:be) (T:List Nd) (S:Nat→Std) (ans:List Bool) (r:List (Int × Bool)) (a:Int):Prop where
  at':a= -1∨(0≤a∧a < (T.length:Int)∧r.length≤(S a.toNat).1.length)
  eq:r++rn T ans (17 - r.length) a=rn T ans 17 (rt T)
  len:r.length≤16
  inw:∀p∈r,eg W p.1
end L2
namespace L2
open PySem PySem.Spec PyProof.Rows
abbrev Fr:=Int × Int
def dF(f:Fr):PyData:=.tuple [.int f.1,.int f.2]
def tm(a b:Fr):Fr:=eh (a.1*b.1) (a.2*b.2)
def pl(a b:Fr):Fr:=eh (a.1*b.2+b.1*a.2) (a.2*b.2)
structure EN (M:Int) (f:Fr):Prop where
  pos:0 < f.2
  lo:0≤f.1
  hi:f.1≤f.2
  dv:f.2 ∣ M
structure Do (M i:Int) (f:Fr):Prop where
  pos:0 < f.2
  lo:0≤f.1
  hi:f.1≤i*f.2
  dv:f.2 ∣ M
def bp(W:be):List Int→Int
  | []=>1
  | k::r=>(W.tie k).bot*bp W r
def BW(W:be):Int:=bp W W.rng
def ch(W:be)(k:Int)(b:Bool):Fr:=if b then((W.tie k).top,(W.tie k).bot) else((W.tie k).bot - (W.tie k).top,(W.tie k).bot)
structure EQ (W:be) (S:Nat→Std) (n:Nat) (rs:List Fr):Prop where
  len:rs.length=n
  at':∀(j:Nat) (f:Fr),rs[j]?=some f→EN (bp W (S j).1) f
structure EI (W:be) (i:Nat) (ss:List Fr):Prop where
  len:ss.length=W.ties.length
  at':∀(j:Nat) (f:Fr),ss[j]?=some f→Do (BW W) (i:Int) f
end L2
namespace L2
open PySem PySem.Spec PyProof.Rows
def Bv(sc:Scope)(x:Str):Bool:=match sc.names.lookup x with
  | some .local=>true
  | some .cell=>true
  | some .free=>true
  | _=>false
theorem yC{sc:Scope}{x:Str}(h:Bv sc x=true):BO sc x:=by
  unfold Bv at h
  unfold BO
  split at h
  · rename_i e;exact .inl e
  · rename_i e;exact .inr (.inl e)
  · rename_i e;exact .inr (.inr e)
  · cases h
section
variable{X:Cx}{K:PySem.W.Frag}
theorem qw(i:Nat){x:Str}{pos:Pos}(hN:X.N[i]?=some x)(hv:Bv X.env.scope x=true)(hd:((x==("__debug__":Str)) || (x==("__classdict__":Str)))=false):PE X (.Name x pos) (fE K (af i)):=qv i hN (yC hv) (Bool.or_eq_false_iff.mp hd).1 (Bool.or_eq_false_iff.mp hd).2
end
end L2
namespace L2
open PySem PySem.Spec PyProof.Rows
section
variable{X:Cx}{tg a b c:Expr}{ta:TA}{p pos p2 pos2:Pos}
end
section
variable{K:PySem.W.Frag}{σ:L2.St}
end
section
variable{X:Cx}{K:PySem.W.Frag}{tg a b c:Expr}{fs:FA}{pos p p2 pos2:Pos}
end
end L2
namespace L2
open PySem PySem.Spec PyProof.Rows
end L2
namespace L2
open PySem PySem.Spec PyProof.Rows
section
variable(P:Program)(w:World)
end
section
variable{P:Program}{w:World}{H H':Hp}{h h':Heap}{a:Addr}{o:HO}
end
section
variable{P:Program}{w:World}{H:Hp}{h h':Heap}{x e:Addr}{o':HO}
end
section
variable{fs fs' ex ex':List Addr}{H H1 H2:Hp}{h h1 h2 h':Heap}{a x e:Addr}{o:HO}
end
end L2
namespace L2
open PySem PySem.Spec PyProof.Rows
section
variable{X:Cx}{pins:List (Addr × Obj)}{σ:List (Option V)}{H H':Hp}{s:Shared}{h':Heap}
end
end L2
namespace L2
open PySem PySem.Spec PyProof.Rows
section
variable{X:Cx}
variable{a b:Expr}{ta tb:TE}{pos:Pos}
variable{tA tB':TT}{d9:List Expr}
end
end L2
namespace L2
open PySem PySem.Spec PyProof.Rows
section
variable{X:Cx}{pins:List (Addr × Obj)}{σ:St}{H:Hp}{s:Shared}{a:Addr}{xs ys:List V}
end
section
variable{X:Cx}{pins:List (Addr × Obj)}{σ:St}{H:Hp}{s:Shared}{E:Value→Shared→Prop}
end
section
variable{X:Cx}{st:Stmt}{d9:List Stmt}{t u:TS}{e:Expr}{te:TE}{pos:Pos}
end
section
variable{X:Cx}{pos:Pos}
end
section
variable{X:Cx}{pos:Pos}
end
end L2
namespace L2
open PySem PySem.Spec PyProof.Rows
section
variable{X:Cx}{tg:Expr}
end
end L2
namespace L2
open PySem PySem.Spec PyProof.Rows
section
variable{X:Cx}{a b c:Expr}{ta tb tc:TE}{pos:Pos}
end
section
variable{X:Cx}{a b c:Expr}{ta tb tc:TE}{pos:Pos}
end
end L2
namespace L2
open PySem PySem.Spec PyProof.Rows
section
variable{prog:Program}{w:World}{A:Around}{E:Value→Shared→Prop}{s:Shared}{K:PySem.W.Frag}{x dx C f:Addr}{mA:Str→Option Value}{name:Str}{v:Value}
end
section
variable{P:Program}{w:World}{H H':Hp}{h h':Heap}{a C dx:Addr}{fs fs':List (Str × V)}
end
section
variable{X:Cx}{pins:List (Addr × Obj)}{σ:St}{H:Hp}{s:Shared}{a C dx:Addr}{fs:List (Str × V)}{f:Str}{v:V}{A:Around}{E:Value→Shared→Prop}
end
section
variable{X:Cx}{o e value:Expr}{f:Str}{pos pos' tpos:Pos}{ta tv:TE}
end
section
variable{X:Cx}{pins:List (Addr × Obj)}{σ:St}{H:Hp}{s:Shared}{A:Around}{E:Value→Shared→Prop}{Q:Value→Shared→Prop}{c:Value}{b:Bool}
end
end L2
namespace L2
open PySem PySem.Spec PyProof.Rows
section
variable{X:Cx}{e:Expr}{es:List Expr}{te:TE}{t:TA}{pos:Pos}
end
section
variable{X:Cx}{pins:List (Addr × Obj)}{σ:St}{H:Hp}{s s':Shared}
end
section
variable{X:Cx}{CX:rZ}{k:Nat}{f C:Addr}{fd:FuncData}{ps:List Str}{sp:Sp}{dvs:List V}{ds:List Value}{E:XK}{x m:Str}{p pos apos:Pos}{e o:Expr}{es:List Expr}{ta:TE}{t:TA}
end
section
variable{X:Cx}{CX:rZ}{k:Nat}{f C:Addr}{fd:FuncData}{ps ks:List Str}{sp:Sp}{E:XK}{x m:Str}{p pos apos kpos:Pos}{e o:Expr}{es:List Expr}{kws:List Keyword}{te ta:TE}{t tk:TA}{nm:Option Str}
variable{g:List Value→List Value→List Value}{gV:List V→List V→List V}
end
end L2
namespace L2
open PySem PySem.Spec PyProof.Rows
section
variable{X:Cx}{x:Str}{p pos:Pos}{e:Expr}{es:List Expr}{t:TA}{id T:String}{r:List V→Hp→VK→Prop}
end
end L2
namespace L2
open PySem PySem.Spec PyProof.Rows
section
variable{κ:Type}[DecidableEq κ]
end
section
variable{P:Program}{w:World}{H:Hp}{h:Heap}{a:Addr}
end
section
variable{X:Cx}{pins:List (Addr × Obj)}{σ:St}{H:Hp}{s:Shared}{a:Addr}{y v:V}{u r:Value}{o:Option V}{A:Around}{E:Value→Shared→Prop}
end
section
variable{X:Cx}{pins:List (Addr × Obj)}{σ:St}{H:Hp}{s:Shared}{a:Addr}{kvs:List (kZ × V)}{k:kZ}{u:Value}{A:Around}{E:Value→Shared→Prop}
end
section
variable{X:Cx}{o i e value:Expr}{pos pos' tpos:Pos}{td ty tv:TE}
end
section
variable{X:Cx}{pos:Pos}
end
section
variable{X:Cx}{pins:List (Addr × Obj)}{σ:St}{H:Hp}{s:Shared}{a:Addr}{y d:V}{u r:Value}{o:Option V}{A:Around}{E:Value→Shared→Prop}
end
section
variable{X:Cx}{o e f:Expr}{apos cpos:Pos}{td ty tx:TE}
end
section
variable{X:Cx}{pins:List (Addr × Obj)}{σ:St}{H:Hp}{s:Shared}{a:Addr}{kvs:List (kZ × V)}{A:Around}{E:Value→Shared→Prop}
end
section
variable{X:Cx}{pins:List (Addr × Obj)}{σ:St}{H:Hp}{s:Shared}{a:Addr}{y:V}{u:Value}{A:Around}{E:Value→Shared→Prop}
end
end L2
namespace Att
open PySem PySem.W PySem.Calls PyProof.Rows
section
variable{prog:Program}{w:World}{A:Around}{E:Value→Shared→Prop}{s:Shared}{K:Frag}
end
end Att
namespace L2
open PySem PySem.Spec PyProof.Rows
end L2
namespace L2
open PySem PySem.Spec PyProof.Rows
end L2
namespace L2
open PySem PySem.Spec PyProof.Rows
section
variable{P:Program}{w:World}{K:PySem.W.Frag}{mg:Str→Option Value}{base:Heap}
end
section
variable{X:Cx}
end
section
variable{κ:Type}[DecidableEq κ]
end
end L2
namespace L2
open PySem PySem.Spec PyProof.Rows
def Dj:PyData→String
  | .none=>"NoneType"
  | .bool _=>"bool"
  | .int _=>"int"
  | .str _=>"str"
  | .tuple _=>"tuple"
  | .list _=>"list"
  | .dict _=>"dict"
def Be(t T:String):Bool:=t==T || (t=="bool"&&T=="int")
def Cc(T:String)(d:PyData):Bool:=Be (Dj d) T
def ku(T:String):En→Rv→Option Rv:=fun _ r=>match r with
  | .d x=>some (.d (.bool (Cc T x)))
  | _=>some (.d (.bool (Cc T (.list []))))
section
variable{X:Cx}{K:PySem.W.Frag}{a:Expr}{fa:FE}{pos p p2:Pos}
def DE(K:PySem.W.Frag)(H:Hp):V→String→Prop
  | .non,t=>t="NoneType"
  | .bl _,t=>t="bool"
  | .int _,t=>t="int"
  | .str _,t=>t="str"
  | .ref a,t=>(t="tuple"∧∃xs,cc K H a xs)∨(t="list"∧∃xs,dP K H a xs)∨(t="dict"∧∃m,H a=some (.dK m))
  | _,_=>False
theorem t5{T:String}:ce X (.builtin "isinstance") (fun xs H Q=>∃x t b,xs=[x,.ty T]∧DE X.K H x t∧PySem.W.kitOne X.K (.type t) (.type T)=some b∧Q (.bl b) H):=by
  intro pins s σ H xs us Q I r h
  obtain⟨x,t,b,rfl,ht,hk,q⟩:=h
  obtain⟨u1,u2,rfl,r1,r2⟩:∃u1 u2,us=[u1,u2]∧bF x u1∧bF (.ty T) u2:=by
    cases r with
    | cons p q=>cases q with
      | cons p' q'=>cases q';exact⟨_,_,rfl,p,p'⟩
  cases r2
  have q':∀tk,EP X pins σ Q (.bool b) {s with toks:=tk}:=fun tk=>⟨.bl b,H,I.tok _,rfl,q⟩
  cases x with
  | non=>cases (show u1=Value.none from r1);cases (show t=_ from ht);exact PySem.W.kia_one PySem.W.kitx_none I.kIn True.intro hk (fun z=>nomatch z) q'
  | bl y=>cases (show u1=Value.bool y from r1);cases (show t=_ from ht);exact PySem.W.kia_one PySem.W.kitx_bool I.kIn True.intro hk (fun z=>nomatch z) q'
  | int i=>obtain⟨tt,rfl⟩:=r1;cases (show t=_ from ht);exact PySem.W.kia_one PySem.W.kitx_int I.kIn True.intro hk (fun z=>nomatch z) q'
  | str y=>obtain⟨tt,rfl⟩:=r1;cases (show t=_ from ht);exact PySem.W.kia_one PySem.W.kitx_str I.kIn True.intro hk (fun z=>nomatch z) q'
  | ref a=>
    cases (show u1=Value.ref a from r1)
    rcases ht with ⟨rfl,xs,hs⟩ | ⟨rfl,xs,hs⟩ | ⟨rfl,m,hs⟩
    · obtain⟨its,rv,pl,hz⟩:=I.tuple hs
      obtain⟨o,h1,h2⟩:=pl.typeIs
      exact PySem.W.kia_one PySem.W.kitx_tuple I.kIn ⟨o,h1,h2⟩ hk (fun z=>nomatch z) q'
    · obtain⟨its,rv,pl,hz⟩:=I.list hs
      obtain⟨o,h1,h2⟩:=pl.isList.typeIs
      exact PySem.W.kia_one PySem.W.kitx_list I.kIn ⟨o,h1,h2⟩ hk (fun z=>nomatch z) q'
    · obtain⟨_,_,vs,_,pp⟩:=(show eu X.prog X.w H s.heap a (.dK m) from I.hok a _ hs)
      obtain⟨o,es,ep,h1,h2,_⟩:=pp
      exact PySem.W.kia_one PySem.W.kitx_dict I.kIn ⟨o,h1,h2.1⟩ hk (fun z=>nomatch z) q'
  | _=>exact False.elim ht
theorem vw{x:Str}{T:String}(hg:Gl X x)(hm:X.mg x=none)(hv:bootBuiltins x=some (.type T))(hn:x≠"__name__")(hd:(x==("__debug__":Str))=false):PE X (.Name x pos) (tC (.ty T)):=fun pins s σ H Q I h=>
  gw I hg hm hv ⟨.ty T,H,I,rfl,h⟩ hn hd
theorem zV{t T:String}(ht:t∈["NoneType","bool","int","str","tuple","list","dict"])(hT:T∈["int","bool","tuple","str"]):PySem.W.kitOne K (.type t) (.type T)=some (Be t T):=by
  simp only [List.mem_cons,List.not_mem_nil,or_false] at ht hT
  rcases ht with rfl | rfl | rfl | rfl | rfl | rfl | rfl<;>rcases hT with rfl | rfl | rfl | rfl<;>rfl
theorem yy(d:PyData):Dj d∈["NoneType","bool","int","str","tuple","list","dict"]:=by cases d<;>simp [Dj]
theorem Bp{F H:Hp}{d:PyData}{v:V}(h:DA K F d v)(s:ar F H):DE K H v (Dj d):=by
  have h:=DA.mono s h
  cases d with
  | none=>rw [h8.mp h];rfl
  | bool b=>rw [cM.mp h];rfl
  | int b=>rw [ck.mp h];rfl
  | str b=>rw [qe.mp h];rfl
  | tuple ds=>obtain⟨a,xs,rfl,h1,_⟩:=bX.mp h;exact .inl ⟨rfl,xs,h1⟩
  | list ds=>obtain⟨a,xs,rfl,h1,_⟩:=dD.mp h;exact .inr (.inl ⟨rfl,xs,h1⟩)
  | dict m=>simp only [DA] at h;obtain⟨a,m,rfl,h1,_⟩:=h;exact .inr (.inr ⟨rfl,_,h1⟩)
theorem w_{f:FE}{σ:L2.St}{H:Hp}{Q Q':VK}(h:fE K f σ H Q)(m:∀v H1,Q v H1→Q' v H1):fE K f σ H Q':=by
  obtain⟨F,e,r,e',R,hf,q⟩:=h
  exact⟨F,e,r,e',R,hf,fun F' H' v x R' A=>m _ _ (q F' H' v x R' A)⟩
theorem Cd{T:String}:BN K (fun v H Q=>∃t,t∈["NoneType","bool","int","str","tuple","list","dict"]∧DE K H v t∧Q (.bl (Be t T)) H) (ku T):=by
  intro σ H0 F H e x z v Q R A hg q
  unfold ku at hg
  cases x with
  | d d=>
    cases hg
    exact⟨Dj d,yy d,Bp A R.sm,q F H _ (dO.refl _ _ _ _) R dj⟩
  | l xs=>
    cases hg
    obtain⟨l,vs,rfl,h1,h2,h3,h4⟩:=A
    exact⟨"list",by simp,.inr (.inl ⟨rfl,vs,dP.of h3⟩),q F H _ (dO.refl _ _ _ _) R dj⟩
  | s i=>
    cases hg
    obtain⟨h1,xs,h2⟩:=A
    obtain⟨l,vs,h3,h4,h5,h6⟩:=R.own i xs h2
    rw [h1] at h3;cases h3
    exact⟨"list",by simp,.inr (.inl ⟨rfl,vs,dP.of h5⟩),q F H _ (dO.refl _ _ _ _) R dj⟩
theorem mM{x:Str}{T:String}(hK:X.K=K)(hT:T∈["int","bool","tuple","str"])(hg:Gl X "isinstance")(hm:X.mg "isinstance"=none)(hgT:Gl X x)(hmT:X.mg x=none)(Er:bootBuiltins x=some (.type T))(hn:x≠"__name__")(hd:(x==("__debug__":Str))=false)
    (ha:PE X a (fE K fa))(he:starEach [a,.Name x p2] X.env=(false,eval a X.env)::starEach [.Name x p2] X.env)(hpl:(backTo pos (starEach [.Name x p2] X.env)).any (·.1)=false):
    PE X (.Call (.Name "isinstance" p) [a,.Name x p2] [] pos) (fE K (rX (ku T) fa)):=
  (pj (t5 (T:=T)) hg hm boot_isinstance (nP ha (nP (vw hgT hmT Er hn hd) vp) he) (by decide) (by decide) he hpl).mono fun σ H Q h=>by
    subst hK
    have h1:=wz (Cd (T:=T)) h
    refine w_ h1 fun v H1 ⟨t,ht,k,q⟩=>?_
    exact⟨v,t,_,rfl,k,zV ht hT,q⟩
end
end L2
namespace L2
open PySem PySem.Spec PyProof.Rows
section
variable{X:Cx}{K:PySem.W.Frag}
end
end L2
namespace L2
open PySem PySem.Spec PyProof.Rows
section
variable{X:Cx}{K:PySem.W.Frag}{σ:L2.St}{F H:Hp}{e:En}{pos p1 p2:Pos}
end
end L2
namespace L2
open PySem PySem.Spec PyProof.Rows
section
variable{X:Cx}{K:PySem.W.Frag}{a b c d:Expr}{ta tb tc td:TE}{fa fb fc fd:FE}{pos:Pos}
end
end L2
namespace L2
open PySem PySem.Spec PyProof.Rows
section
variable{X:Cx}{K:PySem.W.Frag}{a b:Expr}{es:List Expr}{fa fb:FE}{fs:FA}{pos p apos:Pos}
end
end L2
namespace L2
open PySem PySem.Spec PyProof.Rows
section
variable{X:Cx}{K:PySem.W.Frag}{a b:Expr}{fa fb:FE}{fs:FA}{pos p p2 p3:Pos}
end
end L2
namespace L2
open PySem PySem.Spec PyProof.Rows
def bq(W:be)(as:List Int):Int:=bp W (W.rng.filter fun k=> !as.contains k)
def wI(l:Nat):Int:=1000*(2 ^ (16 - l) - 1)
structure EF (W:be) (k:Int) (as:List Int) (y n:Fr):Prop where
  y:Do (bq W (be.askd as k)) (wI (as.length+1)) y
  n:Do (bq W (be.askd as k)) (wI (as.length+1)) n
  len:as.length≤15
  inw:eg W k
  new:k∉as
def lk(ws:List Fr)(l:Int):Fr:=if l= -1 then(0,1) else ws.getD l.toNat (0,1)
structure ES (W:be) (S:Nat→Std) (n:Nat) (ws:List Fr):Prop where
  len:ws.length=n
  at':∀(j:Nat) (f:Fr),ws[j]?=some f→Do (bq W (S j).1) (wI (S j).1.length) f
end L2
namespace L2
open PySem PySem.Spec PyProof.Rows
theorem gc{cs:En}{g:FG}{ft:FT}{fe:FE}{b:PyData→Bool}{y:PyData→PyData}{u:PyData→En}(n:Nat):∀(items:List PyData) (t:En) (acc:List PyData),t.length=n→(∀x∈items,∀t:En,t.length=n→g x (cs++t)=some (cs++u x))→(∀x∈items,(u x).length=n)→
    (∀x∈items,ft (cs++u x)=some (b x,cs++u x))→(∀x∈items,b x=true→fe (cs++u x)=some (.d (y x),cs++u x))→acc.length+items.length≤1000000→
    ∃t',t'.length=n∧ey g ft fe items (cs++t) acc=some (acc++(items.filter b).map y,cs++t')
  | [],t,acc,h,_,_,_,_,_=>⟨t,h,by simp [ey]⟩
  | x::r,t,acc,h,hg,hu,h1,h2,hl=>by
    have h1x:=h1 x (by simp)
    unfold ey
    rw [hg x (by simp) t h]
    simp only [Option.bind_some,h1x]
    cases hb:b x with
    | true=>
      simp only [if_true,h2 x (by simp) hb,Option.bind_some,qg]
      rw [if_pos (by simp at hl;lia)]
      obtain⟨t',e1,ih⟩:=gc (b:=b) (y:=y) (u:=u) n r (u x) (acc++[y x]) (hu x (by simp)) (fun z hz=>hg z (by simp [hz])) (fun z hz=>hu z (by simp [hz])) (fun z hz=>h1 z (by simp [hz])) (fun z hz=>h2 z (by simp [hz])) (by simp at hl ⊢;lia)
      exact⟨t',e1,by rw [ih];simp [hb]⟩
    | false=>
      simp only [Bool.false_eq_true,if_false]
      obtain⟨t',e1,ih⟩:=gc (b:=b) (y:=y) (u:=u) n r (u x) acc (hu x (by simp)) (fun z hz=>hg z (by simp [hz])) (fun z hz=>hu z (by simp [hz])) (fun z hz=>h1 z (by simp [hz])) (fun z hz=>h2 z (by simp [hz])) (by simp at hl;lia)
      exact⟨t',e1,by rw [ih];simp [hb]⟩
end L2
namespace L2
open PySem PySem.Spec PyProof.Rows
section
variable{X:Cx}{K:PySem.W.Frag}{a:Expr}{fa:FE}{pos p pos2 p2:Pos}
end
end L2
namespace L2
open PySem PySem.Spec PyProof.Rows
section
variable{X:Cx}{K:PySem.W.Frag}{a:Expr}{fa:FE}
end
end L2
namespace L2
open PySem PySem.Spec PyProof.Rows
abbrev Rn:=List (Int × Bool)
def xb(R:Rn):List Int:=R.map (·.1)
def yO(W:be)(R:Rn):List Int:=(R.filter (·.2)).flatMap fun r=>[(W.tie r.1).one,(W.tie r.1).other]
structure EO (W:be) (R:Rn) (asked taken:List Int):Prop where
  pa:asked.Perm (xb R)
  pt:taken.Perm (yO W R)
  inw:∀k∈xb R,eg W k
  nd:(xb R).Nodup
  nk:(yO W R).Nodup
  bd:∀t:Int,0≤t→t < W.things→W.many (xb R) t≤W.pat.getD t.toNat 0
  ak:(R.length:Int)≤W.asks
  sa:asked.Pairwise (· ≤·)
  st:taken.Pairwise (· ≤·)
theorem uw{e:En}{i:Nat}{x:Int}{ns:List Int}{neg:Bool}(h:e[i]?=some (some (.l (ns.map .int)))):jF neg e (.d (.int x)) (.s i)=some (.d (.bool (if neg then !ns.contains x else ns.contains x))):=by
  have:=eN (e:=e) (x:=x) (ns:=ns) (neg:=neg)
  unfold jF at this ⊢
  simp only [fB,cx,h,Option.bind_some] at this ⊢
  exact this
end L2
namespace L2
open PySem PySem.Spec PyProof.Rows
section
variable{prog:Program}{w:World}{A:Around}{R:Result→Shared→Prop}
end
def Bf(l:Addr)(wi:TI)(g:TG)(tc:TT)(te:TE)(σ:L2.St)(H:Hp)(N:L2.St→Hp→Prop):Prop:=
  wi σ H fun J H1=>∃W:Nat→Nat→L2.St→Hp→Prop,(∃m,W 0 m σ H1)∧∀i m σ' H',W i m σ' H'→
    (J.stop i H'∧N σ' H')∨(J.go i H'∧∃N2:L2.St→Hp→Prop,(∀σ2 H2,N2 σ2 H2→∃m',m' < m∧W (i+1) m' σ2 H2)∧
      ∀x H2,J.yld i H' x H2→g x σ' H2 fun σ2 H3=>tc σ2 H3 fun b H4=>if b=true then te σ2 H4 fun v H5=>∃ys,H5 l=some (.lst ys)∧ys.length < sizeLine∧N2 σ2 (aM H5 l (.lst (ys++[v]))) else N2 σ2 H4)
structure D7 (cp:List (Nat × Str)) (nT:Nat) (wi:TI) (g:TG) (tc:TT) (wi2:TI) (g2:TG) (tc2:TT) (te:TE) (σ:L2.St) (H:Hp) (Q:VK):Prop where
  go:wi σ H fun J H1=>∀l,H1 l=none→
  ∃W:Nat→Nat→L2.St→Hp→Prop,(∃m,W 0 m (dq cp nT σ) (aM H1 l (.lst [])))∧∀i m σ' H',W i m σ' H'→
    (J.stop i H'∧Q (.ref l) H')∨(J.go i H'∧∃N:L2.St→Hp→Prop,(∀σ2 H2,N σ2 H2→∃m',m' < m∧W (i+1) m' σ2 H2)∧
      ∀x H2,J.yld i H' x H2→g x σ' H2 fun σ2 H3=>tc σ2 H3 fun b H4=>if b=true then Bf l wi2 g2 tc2 te σ2 H4 N else N σ2 H4)
section
variable{K:PySem.W.Frag}{F H:Hp}{σ:L2.St}{e:En}{cp:List (Nat × Str)}{nT:Nat}
end
section
variable{X:Cx}{K:PySem.W.Frag}{pos:Pos}
end
section
variable{X:Cx}{K:PySem.W.Frag}{pos:Pos}
variable{o:Expr}{fo:FE}{apos cpos:Pos}
end
end L2
namespace L2
open PySem PySem.Spec PyProof.Rows
section
variable{X:Cx}{K:PySem.W.Frag}
def EW:List Int→Int
  | []=>0
  | x::r=>r.foldl max x
end
end L2
namespace L2
open PySem PySem.Spec PyProof.Rows
structure EJ (f:Fr):Prop where
  pos:0 < f.2
  cop:Int.gcd f.1 f.2=1
def bf:Nat→List (List Bool)
  | 0=>[[]]
  | n+1=>(bf n).map (· ++[true])++(bf n).map (· ++[false])
abbrev Pg:=List Int × Int
def EX(t:kB)(p:Pg):Bool:= !p.1.contains t.one&& !p.1.contains t.other
def DH(t:kB)(p:Pg):Pg:=(p.1++[t.one,t.other],p.2+t.worth)
def EZ(ps:List Pg)(t:kB):List Pg:=ps++(ps.filter (EX t)).map (DH t)
def EY(ts:List kB):List Pg:=ts.foldl EZ [([],0)]
structure Em (k:Nat) (ps:List Pg):Prop where
  ne:ps≠[]
  len:ps.length≤2 ^ k
  pt:∀p∈ps,p.1.length≤2*k∧0≤p.2∧p.2≤1000*(k:Int)
def Er(ts:List kB):Int:=EW ((EY ts).map (·.2))
end L2
namespace L2
open PySem PySem.Spec PyProof.Rows
end L2
namespace L2
open PySem PySem.Spec PyProof.Rows
section
variable{prog:Program}{w:World}{A:Around}{E:Value→Shared→Prop}{s:Shared}
end
section
variable{X:Cx}{a:Expr}{ta:TA}{p p2 pos pos2:Pos}
variable{K:PySem.W.Frag}{fs:FA}{p3:Pos}
end
end L2
namespace L2
open PySem PySem.Spec PyProof.Rows
def DR:PyData→Bool
  | .int _=>true
  | _=>false
theorem jJ{α:Type}(p:α→Bool):∀(ds:List α),jH (ds.map fun d=>PyData.bool (p d))=some (ds.map p)
  | []=>rfl
  | d::r=>by simp [jH,jJ p r]
theorem ur{α:Type}{e:En}(p:α→Bool)(ds:List α):g1 (fL oP) e [.l (ds.map fun d=>.bool (p d))]=some (.d (.bool (ds.all p))):=by
  simp [g1,fL,cx,oP,jJ p,List.all_map]
theorem ut{α:Type}{e:En}(p:α→Bool)(ds:List α):g1 (fL mD) e [.l (ds.map fun d=>.bool (p d))]=some (.d (.bool (ds.any p))):=by
  simp [g1,fL,cx,mD,jJ p,List.any_map]
theorem lb{α:Type}:∀(l:List α) (i:Nat) (h:i < l.length),(l[i]::l.eraseIdx i).Perm l
  | x::r,0,_=>.refl _
  | x::r,i+1,h=>(List.Perm.swap x _ _).trans ((lb r i (by simpa using h)).cons x)
  | [],_,h=>by simp at h
theorem jL{own:fq}{g:FG}{f:FS}{Z:Rv}(ok:PyData→Bool)(P Q:En→Prop):∀(items:List PyData) (e:En),(∀x∈items,∀e,P e→∃e1,g x e=some e1∧(ok x=true→∃e2,f e1=some (.nx e2)∧keeps own e2∧P e2)∧(ok x=false→∃e2,f e1=some (.rt Z e2)∧Q e2))→P e→
    (items.all ok=true→∃e',iD own g f items e=some (.nx e')∧P e')∧(items.all ok=false→∃e',iD own g f items e=some (.rt Z e')∧Q e')
  | [],e,_,h=>⟨fun _=>⟨e,rfl,h⟩,fun z=>by simp at z⟩
  | x::r,e,hs,h=>by
    obtain⟨e1,h1,h2,h3⟩:=hs x (by simp) e h
    rw [List.all_cons]
    cases c:ok x with
    | true=>
      obtain⟨e2,h4,h5,h6⟩:=h2 c
      have ih:=jL ok P Q r e2 (fun y hy=>hs y (by simp [hy])) h6
      rw [Bool.true_and]
      have e0:iD own g f (x::r) e=iD own g f r e2:=by
        simp only [iD,h1,h4,Option.bind_some]
        rw [if_pos h5]
      rw [e0]
      exact ih
    | false=>
      obtain⟨e2,h4,h5⟩:=h3 c
      refine⟨fun z=>by simp at z,fun _=>⟨e2,?_,h5⟩⟩
      simp only [iD,h1,h4,Option.bind_some]
end L2
namespace L2
open PySem PySem.Spec PyProof.Rows
mutual
def wt:PyData→Nat
  | .list xs=>wA xs+1
  | .tuple xs=>wA xs+1
  | .dict _=>1
  | .none=>1
  | .bool _=>1
  | .int _=>1
  | .str _=>1
def wA:List PyData→Nat
  | []=>0
  | x::r=>wt x+wA r
end
structure E5 (d:PyData) (k:Nat):Prop where
  lay:d.canLay0=true
  sh:d.showable=true
  dp:d.depth≤k
  ln:d.shown.length+2≤104*wt d
  so:PyData.strOk d.shown=true
def qJ(n:Int):PyData→Bool
  | .tuple ds=>(ds.length:Int)==n
  | _=>false
def ni:PyData→Bool
  | .tuple [.int t,.int b]=>decide (0≤t)&&(decide (t≤b)&&(decide (1≤b)&&(decide (b≤100)&&decide (Int.gcd t b=1))))
  | _=>false
end L2
namespace L2
open PySem PySem.Spec PyProof.Rows
section
variable{X:Cx}{K:PySem.W.Frag}
variable{a b:Expr}{fa fb:FE}{pos:Pos}
end
end L2
namespace L2
open PySem PySem.Spec PyProof.Rows
def tx(s:Str):List Nat:=s.cps.toList
end L2
namespace L2
open PySem PySem.Spec PyProof.Rows
end L2
namespace L2
open PySem PySem.Spec PyProof.Rows
end L2
namespace L2
open PySem PySem.Spec PyProof.Rows
section
variable{X:Cx}{K:PySem.W.Frag}{es:List Expr}{k0:Nat}{tp:Pos}{a b:Expr}{fs:FA}{p pos:Pos}
def mG(fs:FA):FI:=fun e=>(fs e).bind fun p=>match p.1 with
  | [.d (.tuple xs),.d (.tuple ys)]=>some (dN xs ys,[],p.2)
  | _=>none
theorem rK(hK:X.K=K)(hg:Gl X "zip")(hm:X.mg "zip"=none)(ha:PA X [a,b] (fA K fs))(hs:starEach [a,b] X.env=[(false,eval a X.env),(false,eval b X.env)])(hs2:starEach [b] X.env=[(false,eval b X.env)]):PI X (.Tuple es k0 tp) (.Call (.Name "zip" p) [a,b] [] pos) (fI K (mG fs)):=
    (AF (es:=es) (k0:=k0) (tp:=tp) hK hg hm ha hs hs2).mono fun σ H R hh=>by
  obtain⟨F,e,items,own,e',R0,hf,q⟩:=hh
  unfold mG at hf
  obtain⟨⟨rs,e1⟩,h1,hf⟩:=Option.bind_eq_some_iff.mp hf
  match rs,h1,hf with
  | [.d (.tuple xs),.d (.tuple ys)],h1,hf=>
  cases hf
  refine⟨F,e,_,e1,R0,h1,fun F1 H1 vs X1 R1 A1=>?_⟩
  obtain⟨v,u,rfl,a1,a2⟩:=n_ A1
  obtain⟨p1,vs,rfl,s1,d1⟩:=bX.mp (show DA K F1 (.tuple xs) v from a1)
  obtain⟨p2,us,rfl,s2,d2⟩:=bX.mp (show DA K F1 (.tuple ys) u from a2)
  exact⟨p1,p2,rfl,⟨vs,R1.sm.tup s1⟩,⟨us,R1.sm.tup s2⟩,q _ F1 H1 X1 R1 (fun z hz=>by cases hz) (uU (own1:=[]) (own2:=[]) (P:=cc K) (Q:=cc K) (.tup s1 d1) (.tup s2 d2) (fun _ _ h=>h) (fun _ _ h=>h) (fun i H vs us x y h1 h2 h3 h4=>⟨vs,us,x,y,h1,h2,h3,h4⟩) (fun i H vs us h1 h2 h3=>⟨vs,us,h1,h2,h3⟩) fun i H v H' h=>h)⟩
end
end L2
namespace L2
open PySem PySem.Spec PyProof.Rows
def EV(x:Nd)(b:Bool):Int:=if b=true then x.yes else x.no
def y8(T:List Nd)(i:Nat)(b:Bool):Int:=match T[i]? with
  | some x=>EV x b
  | none=> -1
def DF(T:List Nd):Prop:=∀(i j:Nat) (a b:Bool),y8 T i a=y8 T j b→y8 T i a≠ -1→i=j∧a=b
def Ee(w:Wt):Int × Int:=(w.par,w.side)
structure E8 (T:List Nd) (ws:List Wt):Prop where
  unq:DF T
  rng:∀i a,y8 T i a= -1∨(0 < y8 T i a∧y8 T i a < (T.length:Int))
  free:∀w∈ws,w.par= -1∨(0≤w.par∧w.par < (T.length:Int)∧y8 T w.par.toNat (w.side==0)= -1)
  dst:(ws.map Ee).Nodup
  side:∀w∈ws,w.side=0∨w.side=1
structure E_ (T:List Nd) (w0 ws order:List Int):Prop where
  nd:(order++ws).Nodup
  par:∀v∈order++ws,v=0∨∃u∈order,∃b,y8 T u.toNat b=v∧v≠ -1
  fst:(order=[]∧ws=w0)∨order[0]?=some 0
end L2
namespace L2
open PySem PySem.Spec PyProof.Rows
section
variable{prog:Program}{w:World}{A:Around}{E:Value→Shared→Prop}{s:Shared}
end
section
variable{X:Cx}{tg a:Expr}{ta:TA}{p pos:Pos}
end
section
variable{X:Cx}{K:PySem.W.Frag}{σ:L2.St}{tg a:Expr}{fs:FA}{p pos:Pos}
end
end L2
namespace L2
open PySem PySem.Spec PyProof.Rows
section
variable{X:Cx}{a k:Expr}{p2 pos:Pos}{fa fk:FE}{K:PySem.W.Frag}
section
variable{prog:Program}{w:World}{A:Around}{E:Value→Shared→Prop}{s:Shared}
end
end
end L2
namespace L2
open PySem PySem.Spec PyProof.Rows
section
variable{X:Cx}{a b:Expr}{ta:TA}{p p2 pos pos2:Pos}{K:PySem.W.Frag}{fs:FA}
end
section
variable{X:Cx}{o i e:Expr}{fo fi:FE}{tpos pos:Pos}{K:PySem.W.Frag}
end
end L2
namespace L2
open PySem PySem.Spec PyProof.Rows
section
variable{X:Cx}{K:PySem.W.Frag}
def CO(K:PySem.W.Frag)(neg:Bool):R2:=fun x y H Q=>∃a b xs,x=.ref a∧y=.ref b∧dP K H a xs∧dP K H b []∧Q (.bl (if neg then !xs.isEmpty else xs.isEmpty)) H
theorem Ai(hu:X.A.units < cLine):fm X (compareOp .Eq) (CO X.K false):=by
  intro pins s σ H x y v u Q I rx ry h
  exact Ah hu pins s σ H x y v u Q I rx ry h
def sr(neg:Bool):En→Rv→Rv→Option Rv:=fun e x y=>(cx e x).bind fun a=>(cx e y).bind fun b=>if a.1=true∧b.1=true∧b.2.isEmpty=true then some (.d (.bool (if neg then !a.2.isEmpty else a.2.isEmpty))) else none
theorem B1{neg:Bool}:fY K (CO K neg) (sr neg):=by
  intro σ H0 F H e x y z v u Q R A B hg q
  unfold sr at hg
  obtain⟨⟨b1,xs⟩,h1,hg⟩:=Option.bind_eq_some_iff.mp hg
  obtain⟨⟨b2,ys⟩,h2,hg⟩:=Option.bind_eq_some_iff.mp hg
  split at hg
  case isFalse=>cases hg
  case isTrue hl=>
  cases hg
  obtain⟨z1,z2,z3⟩:=hl
  dsimp only at z1 z2 z3
  subst z1 z2
  have z4:ys=[]:=List.isEmpty_iff.mp z3
  subst z4
  obtain⟨p,vs,rfl,d1,s1⟩:=bT R A h1
  obtain⟨p',vs',rfl,d2,s2⟩:=bT R B h2
  have e2:vs'=[]:=by simpa only [az] using d2
  subst e2
  rw [if_pos rfl] at s1 s2
  refine⟨p,p',vs,rfl,rfl,s1,s2,?_⟩
  have e1:vs.isEmpty=xs.isEmpty:=by
    have:=d1.len
    cases xs with
    | nil=>cases vs with
      | nil=>rfl
      | cons=>simp at this
    | cons=>cases vs with
      | nil=>simp at this
      | cons=>rfl
  rw [e1]
  exact q F H _ (dO.refl _ _ _ _) R dj
theorem BY{k:Nat}(hK:X.K=K)(hr:bW k X.A):kX X K .Eq (sr false):=⟨_,hK ▸ Ai hr.units0,B1⟩
theorem zF{e:En}{xs:List PyData}{neg:Bool}:sr neg e (.l xs) (.l [])=some (.d (.bool (if neg then !xs.isEmpty else xs.isEmpty))):=by
  simp [sr,cx]
end
end L2
namespace L2
open PySem PySem.Spec PyProof.Rows
section
open PySem.MeetsSeq2 PySem.AutoSeq1 PySem.SeqAt
end
section
variable{X:Cx}{K:PySem.W.Frag}{o a:Expr}{to te:TE}{name:Str}{apos cpos:Pos}{T id:String}{r:V→List V→Hp→VK→Prop}{fo fa:FE}
end
end L2
namespace L2
open PySem PySem.Spec PyProof.Rows
section
variable{X:Cx}{K:PySem.W.Frag}{o a:Expr}{apos cpos:Pos}{fo fa:FE}
end
end L2
namespace L2
open PySem PySem.Spec PyProof.Rows
section
variable{K:PySem.W.Frag}{F H:Hp}{σ:L2.St}{e:En}{cp:List (Nat × Str)}{nT:Nat}
end
section
variable{X:Cx}{K:PySem.W.Frag}{a b:Expr}{es:List Expr}{fa fb:FE}{fs:FA}{pos p p2 p3:Pos}{lo hi:Option Expr}
end
end L2
namespace L2
open PySem PySem.Spec PyProof.Rows
section
variable{X:Cx}{K:PySem.W.Frag}
end
end L2
namespace L2
open PySem PySem.Spec PyProof.Rows
section
variable{X:Cx}{K:PySem.W.Frag}{a b:Expr}{fa fb:FE}{pos:Pos}
end
end L2
namespace L2
open PySem PySem.Spec PyProof.Rows
section
variable{X:Cx}{K:PySem.W.Frag}
theorem j6{prog:Program}{w:World}{A:Around}{E:Value→Shared→Prop}{s:Shared}{t:Addr}{vs:List Value}{Q:List Value→Shared→Prop}(ht:s.heap.IsList t vs.toArray)
    (h:Q vs {s with heap:=(s.heap.push (seqObj "list" #[] 0)).update s.heap.objs.size (Obj.mapSeq (· ++vs.toArray))})(hsz:vs.length≤sizeLine):wpAny (model prog w) A (collect (.ref t)) Q E s:=by
  obtain⟨o,ho,hc,n,hd⟩:=id ht;unfold collect;refine wpAny_bind (wpAny_runValue (codeAny_builtin entry_proto_collect' ?_))
  show wpAny _ _ (do again (.builtin "list.__iadd__" ⟨[←newList [],.ref t],[]⟩)) _ _ s
  refine wpAny_bind (wpAny_newList (wpAny_pure ⟨Code.quiet_builtin _ (by decide+kernel),?_⟩));refine codeAny_builtin entry_list_iadd' ?_
  show wpAny _ _ (Builtin.List.listExtendWith (.ref s.heap.objs.size) (.ref t) (.ref s.heap.objs.size)) _ _ {s with heap:=s.heap.push (seqObj "list" #[] 0)}
  unfold Builtin.List.listExtendWith;have ho':(s.heap.push (seqObj "list" #[] 0)).get? t=some o:=Heap.get?_push_of_some _ ho
  refine wpAny_bind (wpAny_typeOf (T:="list") ⟨o,ho',hc⟩ ?_)
  rw [if_pos (by rw [show(Value.type "list"==Value.type "list")=true from rfl,Bool.or_true,Bool.true_or])]
  refine wpAny_bind (listItems_at ho' hd ?_);refine wpAny_bind (listItems_at (xs:=#[]) (n:=0) (Heap.get?_push_size _ rfl) rfl ?_)
  rw [if_neg (by simp)];refine wpAny_bind (listUpdate_at (xs:=#[]) (n:=0) (Heap.get?_push_size _ rfl) rfl ?_ (Nat.zero_le _) (by show(#[]++vs.toArray).size≤sizeLine+1;simp only [Array.size_append,List.size_toArray,List.length_nil];lia))
  refine wpAny_pure ?_
  show wpAny (model prog w) A (load s.heap.objs.size >>= fun o=>match o.data with | .seq xs _=>pure xs.toList | _=>unsupported "internal:collect") Q E {s with heap:=(s.heap.push (seqObj "list" #[] 0)).update s.heap.objs.size (Obj.mapSeq (· ++vs.toArray))}
  refine wpAny_bind (wpAny_load (get?_update_seq (Heap.get?_push_size _ rfl) _) ?_);show wpAny _ _ (pure ((#[]:Array Value)++vs.toArray).toList) Q E _;rw [show((#[]:Array Value)++vs.toArray).toList=vs by simp];exact wpAny_pure h
theorem qK{prog:Program}{w:World}{A:Around}{E:Value→Shared→Prop}{s:Shared}{t:Addr}{vs:List Value}{ns:List Int}{Q:Value→Shared→Prop}(ht:s.heap.IsList t vs.toArray)(hI:IntsAre vs ns)(h64:vs.length < 64)
    (h:∀(out:Array Value) (ns':List Int),IntsAre out.toList ns'→ns'.Perm ns→ns'.Pairwise (· ≤·)→Q (.ref (s.heap.objs.size+1)) {s with heap:=sortedAll s.heap vs out}):wpAny (model prog w) A (call (.builtin "sorted") [.ref t]) Q E s:=by
  refine Calls.call_function_entry kind_sorted plain_sorted entry_sorted (args_sorted1 _) ?_;unfold Builtin.«sorted»
  refine wpAny_bind (m:=checkCount "sorted" 1 1 _) (wpAny_pure ?_);refine wpAny_bind (j6 ht ?_ (Nat.le_trans (Nat.le_of_lt h64) (by decide)))
  have z:((s.heap.push (seqObj "list" #[] 0)).update s.heap.objs.size (Obj.mapSeq (· ++vs.toArray))).objs.size=s.heap.objs.size+1:=by rw [Heap.size_update,size_push']
  have o:(((s.heap.push (seqObj "list" #[] 0)).update s.heap.objs.size (Obj.mapSeq (· ++vs.toArray))).push (seqObj "list" vs.toArray 0)).get? (s.heap.objs.size+1)=some (seqObj "list" vs.toArray 0):=by rw [←z];exact Heap.get?_push_size _ rfl
  refine wpAny_bind (wpAny_newList ?_);show wpAny _ _ _ _ _ {s with heap:=((s.heap.push (seqObj "list" #[] 0)).update s.heap.objs.size (Obj.mapSeq (· ++vs.toArray))).push (seqObj "list" vs.toArray 0)}
  rw [z];refine wpAny_bind (wpAny_holding (wpAny_call_entry slot_list_sort ⟨_,o,rfl⟩ entry_list_sort (list_sort_tree o hI h64 fun out ns' b1 b2 b3=>⟨_,rfl,?_⟩) (args_list_sort _)))
  exact wpAny_pure ⟨_,rfl,h out ns' b1 b2 b3⟩
theorem nh:ce X (.builtin "sorted") (fun xs H Q=>∃(a:Addr) (ns:List Int),xs=[.ref a]∧dP X.K H a (ns.map V.int)∧ns.length < 64∧∀(l:Addr) (ns':List Int) (H':Hp),ar H H'→H l=none→H' l=some (.lst (ns'.map V.int))→ns'.Perm ns→ns'.Pairwise (· ≤·)→Q (.ref l) H'):=by
  intro pins s σ H xs us Q I r h
  obtain⟨a,ns,rfl,hs,h64,q⟩:=h
  obtain⟨u,rfl,ru⟩:=g_ r
  cases ru
  obtain⟨its,rv,p,hz⟩:=I.list hs
  have hl:=rv.length
  rw [List.length_map] at hl
  refine qK p.isList (iJ rv) (by lia) fun out ns' a1 a2 a3=>?_
  obtain⟨e,he⟩:=sortedAll_at s.heap its out
  have hf:H (s.heap.objs.size+1)=none:=I.hok.fresh (Nat.le_succ _)
  refine⟨.ref (s.heap.objs.size+1),aM H (s.heap.objs.size+1) (.lst (ns'.map V.int)),I.laid (t':=s.toks) (fun _ _=>sortedAll_old) (Nat.le_succ _) ⟨?_,out.toList,e,iu a1,?_⟩,rfl,q _ ns' _ (ar.new hf) hf ay a2 a3⟩
  · rw [List.length_map,a2.length_eq]
    exact Nat.le_trans (Nat.le_of_lt h64) (by decide)
  · simpa [seqObj] using he
def gr:En→Rv→Option Rv:=fun e x=>(cx e x).bind fun z=>(kc z.2).bind fun ns=>if ns.length < 64 then some (.l ((cW ns).map .int)) else none
def nY(K:PySem.W.Frag):List V→Hp→VK→Prop:=fun xs H Q=>∃(a:Addr) (ns:List Int),xs=[.ref a]∧(dP K H a (ns.map V.int)∨cc K H a (ns.map V.int))∧ns.length < 64∧∀(l:Addr) (H':Hp),ar H H'→H l=none→H' l=some (.lst ((cW ns).map V.int))→Q (.ref l) H'
theorem qa:ce X (.builtin "sorted") (nY X.K):=by
  intro pins s σ H xs us Q I rv h
  obtain⟨a,ns,e1,e2,e3,q⟩:=h
  rcases e2 with e2 | e2
  · exact nh pins s σ H xs us Q I rv ⟨a,ns,e1,e2,e3,fun l ns' H' sm hn hl hp hs=>q l H' sm hn (by rw [←lZ hp hs];exact hl)⟩
  · exact j5 pins s σ H xs us Q I rv ⟨a,ns,e1,e2,e3,fun l ns' H' sm hn hl hp hs=>q l H' sm hn (by rw [←lZ hp hs];exact hl)⟩
theorem yn:cB K (nY K) (g1 gr):=dQ fun σ H0 F H e x z v Q R A hg q=>by
  unfold gr at hg
  obtain⟨⟨b,ds⟩,h1,hg⟩:=Option.bind_eq_some_iff.mp hg
  obtain⟨ns,h6,hg⟩:=Option.bind_eq_some_iff.mp hg
  split at hg
  case isFalse=>cases hg
  case isTrue hl=>
  cases hg
  obtain⟨p,vs,rfl,d1,s1⟩:=bT R A h1
  have e1:ds=ns.map .int:=jg h6
  subst e1
  have e2:=az.ints.mp d1
  subst e2
  refine⟨p,ns,rfl,?_,hl,fun l H' sm hn hl'=>?_⟩
  · cases b with
    | true=>exact .inl s1
    | false=>exact .inr s1
  obtain⟨R4,X4⟩:=R.same sm
  exact q F H' _ X4 R4 ⟨l,_,rfl,hn,R.freeF hn,hl',az.ints.mpr rfl,fun z=>R.ownH l ((R.sameOwn sm l).mp z) hn⟩
theorem uJ{e:En}{i:Nat}{ns:List Int}(hi:e[i]?=some (some (.l (ns.map .int))))(h:ns.length < 64):g1 gr e [.s i]=some (.l ((cW ns).map .int)):=by
  simp [g1,gr,cx,hi,jP,h]
end
end L2
namespace L2
open PySem PySem.Spec PyProof.Rows
structure Sw (b:Bool) (n dep:Nat) (d:PyData):Prop where
  dl:bif b then iO d=true else d.hasDict=false
  sh:d.showable=true
  dp:d.depth≤dep
  ln:d.shown.length+2≤n
  so:PyData.strOk d.shown=true
end L2
namespace L2
open PySem PySem.Spec PyProof.Rows
def sR:List Fr→Int
  | []=>1
  | f::r=>f.2*sR r
theorem rH:∀{ws:List Fr},(∀f∈ws,0 < f.2)→0 < sR ws
  | [],_=>by decide
  | f::r,h=>Int.mul_pos (h f (by simp)) (rH fun g hg=>h g (by simp [hg]))
theorem nR:∀{ws:List Fr} {f:Fr},f∈ws→f.2 ∣ sR ws
  | [],f,h=>by cases h
  | g::r,f,h=>by
    rcases List.mem_cons.mp h with rfl | h
    · exact⟨sR r,rfl⟩
    · exact Int.dvd_trans (nR h) ⟨g.2,by rw [sR,Int.mul_comm]⟩
structure S1 (n:Nat) (f:Fr):Prop where
  low:EJ f
  lo:0≤f.1
  hi:f.1≤f.2
  bt:Bt n f.2
def EU(e:Int)(t:kB):Bool:=t.one==e || t.other==e
structure Fb (b f g:Fr):Prop where
  pf:0 < f.2
  pg:0 < g.2
  eq:g.1*(f.2*b.1)=g.2*(f.1*b.2)
end L2
namespace L2
open PySem PySem.Spec PyProof.Rows
end L2
namespace L2
open PySem PySem.Spec PyProof.Rows
end L2
namespace L2
open PySem PySem.Spec PyProof.Rows
structure E9 (O:be) (ss ws:List Std):Prop where
  len:ss.length=ws.length
  at':∀j,(ss.getD j ([],[])).1=(ws.getD j ([],[])).1∧(ss.getD j ([],[])).2.length≤2*(ss.getD j ([],[])).1.length∧∀k∈(ss.getD j ([],[])).1,eg O k
structure E7 (O:be) (T:List Nd):Prop where
  tie:∀(i:Nat) (x:Nd),T[i]?=some x→eg O x.tie
  lk:∀(i:Nat) (x:Nd),T[i]?=some x→(-1≤x.yes∧x.yes < (T.length:Int))∧(-1≤x.no∧x.no < (T.length:Int))
end L2
namespace L2
open PySem PySem.Spec PyProof.Rows
section
variable{K:PySem.W.Frag}
variable{X:Cx}{σ:L2.St}{H0 H:Hp}{e:En}
end
end L2
namespace L2
open PySem PySem.Spec PyProof.Rows
section
variable{X:Cx}{a b:Expr}{ta:TA}{p p2 pos pos2:Pos}
end
end L2
namespace L2
open PySem PySem.Spec PyProof.Rows
section
variable{X:Cx}{K:PySem.W.Frag}{fs:FA}{a b:Expr}{p p2 pos pos2:Pos}
end
end L2
namespace L2
open PySem PySem.Spec PyProof.Rows
theorem aO:∀(names:List (Str × NameKind)) (n:Nat) (acc:List (Str × Addr)),cellsFrom n names acc=cellsFrom n names []++acc
  | [],_,_=>rfl
  | (x,k)::r,n,acc=>by
    unfold cellsFrom
    split
    · rw [aO r (n+1) ((x,n)::acc),aO r (n+1) [(x,n)],List.append_assoc];rfl
    · exact aO r n acc
theorem eA:∀(names:List (Str × NameKind)) (n:Nat) (x:Str) (c:Addr),(cellsFrom n names []).lookup x=some c→∃y∈names,y.1=x∧y.2=.cell
  | [],_,_,_,h=>by simp [cellsFrom] at h
  | (z,k)::r,n,x,c,h=>by
    unfold cellsFrom at h
    split at h
    · rename_i hk
      rw [aO,List.lookup_append] at h
      cases q:(cellsFrom (n+1) r []).lookup x with
      | some d=>
        obtain⟨y,hy,e⟩:=eA r _ x d q
        exact⟨y,List.mem_cons_of_mem _ hy,e⟩
      | none=>
        rw [q] at h
        have h':List.lookup x [(z,n)]=some c:=h
        rw [List.lookup_cons] at h'
        cases hx:x==z with
        | true=>exact⟨(z,k),List.mem_cons_self,(by simpa using hx:x=z).symm,by simpa using hk⟩
        | false=>rw [hx] at h';simp at h'
    · obtain⟨y,hy,e⟩:=eA r n x c h
      exact⟨y,List.mem_cons_of_mem _ hy,e⟩
theorem dR:∀(names:List (Str × NameKind)) (n:Nat) (x:Str),(∃y∈names,y.1=x∧y.2=.cell)→∃c,(cellsFrom n names []).lookup x=some c
  | [],_,_,⟨_,h,_⟩=>by cases h
  | (z,k)::r,n,x,⟨y,hy,e1,e2⟩=>by
    unfold cellsFrom
    split
    · rename_i hk
      rw [aO,List.lookup_append]
      cases q:(cellsFrom (n+1) r []).lookup x with
      | some d=>exact⟨d,rfl⟩
      | none=>
        rcases List.mem_cons.mp hy with w | w
        · subst w;subst e1;exact⟨n,by simp [List.lookup_cons]⟩
        · obtain⟨c,hc⟩:=dR r (n+1) x ⟨y,w,e1,e2⟩
          rw [q] at hc;cases hc
    · rename_i hk
      rcases List.mem_cons.mp hy with w | w
      · subst w;exact absurd (by simpa using e2) hk
      · exact dR r n x ⟨y,w,e1,e2⟩
theorem jK{env:Env}:∀(names:List (Str × NameKind)) (cs:List (Str × Addr)) (x:Str),(¬∃y∈names,y.1=x∧y.2=.free)→cs.lookup x=none→(bM env names cs).lookup x=none
  | [],_,_,_,h=>h
  | (n,k)::r,cs,x,hn,hcs=>by
    refine jK r _ x (fun⟨y,hy,z⟩=>hn ⟨y,List.mem_cons_of_mem _ hy,z⟩) ?_
    by_cases hk:(k==NameKind.free)=true
    · rw [if_pos hk,List.lookup_cons]
      cases hx:x==n with
      | true=>exact absurd ⟨(n,k),List.mem_cons_self,(by simpa using hx:x=n).symm,by simpa using hk⟩ hn
      | false=>exact hcs
    · rw [if_neg hk];exact hcs
theorem iS{env:Env}:∀{names:List (Str × NameKind)} {x:Str},(names.map fun(n,k)=>if (k==NameKind.free&&env.scope.kind==.function&&env.kindOf n==some .cell) then(n,NameKind.cell) else(n,k)).lookup x=some .cell∨
    (names.map fun(n,k)=>if (k==NameKind.free&&env.scope.kind==.function&&env.kindOf n==some .cell) then(n,NameKind.cell) else(n,k)).lookup x=some .free→∃y∈names,y.1=x∧(y.2=.free∨y.2=.cell)
  | [],x,h=>by simp at h
  | (n,k)::r,x,h=>by
    have ih:=@iS env r x
    rw [List.map_cons] at h
    cases hx:x==n with
    | true=>
      have e1:x=n:=by simpa using hx
      subst e1
      refine⟨(x,k),List.mem_cons_self,rfl,?_⟩
      by_cases q:(k==NameKind.free&&env.scope.kind==.function&&env.kindOf x==some .cell)=true
      · simp only [Bool.and_eq_true,beq_iff_eq] at q;exact .inl q.1.1
      · simp only [q,Bool.false_eq_true,if_false,List.lookup_cons,beq_self_eq_true,Option.some.injEq] at h
        exact h.symm
    | false=>
      have e2:∀(l:List (Str × NameKind)),((if (k==NameKind.free&&env.scope.kind==.function&&env.kindOf n==some .cell)=true then(n,NameKind.cell) else(n,k))::l).lookup x=l.lookup x:=fun l=>by
        split<;>simp [List.lookup_cons,hx]
      simp only [e2] at h
      obtain⟨y,hy,z⟩:=ih h
      exact⟨y,List.mem_cons_of_mem _ hy,z⟩
theorem rG{M:Model}{A:Around}{E:Value→Shared→Prop}{s:Shared}{scope:Scope}{globals:Addr}{closure:List (Str × Addr)}{qual:Str}{func:Option Addr}{code:Value}{env:Env}{builtins:Addr}{Q:Env→Shared→Prop}
    (hQ:∀h',h'.Ns s.heap.objs.size (fun _=>none)→(∀b o,s.heap.get? b=some o→h'.get? b=some o)→
      (∀n c,(cellsFrom (s.heap.objs.size+1) scope.names []).lookup n=some c→h'.IsCell c none∧s.heap.objs.size+1≤c)→((cellsFrom (s.heap.objs.size+1) scope.names []).Pairwise fun x y=>x.2≠y.2)→
      Q (newEnv scope s.heap.objs.size globals (cellsFrom (s.heap.objs.size+1) scope.names closure) qual func code (some env) builtins) {s with heap:=h'}):
    wpAny M A (newFunctionEnv scope globals closure [] qual func code (some env) builtins) Q E s:=by
  simp only [newFunctionEnv,Option.isSome_some,if_true]
  refine wpAny_bind (wpAny_alloc ?_)
  refine wpAny_bind (wpAny_layCells _ (fun name kind cells=>by cases hkc:kind==NameKind.cell<;>simp [hkc]) _ _ _ _ ?_)
  have ok:=cellsFrom_ok scope.names (s.heap.push {cls:=.type "dict",data:=.dict #[]}) (s.heap.objs.size+1) [] ⟨fun _ _ hm=>(nomatch hm),List.Pairwise.nil⟩ (by rw [Heap.size_push];exact Nat.le_refl _)
  rw [Heap.size_push] at ok
  rw [show({s with heap:=s.heap.push {cls:=.type "dict",data:=.dict #[]}}:Shared).heap.objs.size=s.heap.objs.size+1 from Heap.size_push ..]
  refine wpAny_bind ?_
  rw [List.forIn_nil]
  refine wpAny_pure (wpAny_pure ?_)
  exact hQ _ ((Heap.Ns.new s.heap (.type "dict")).keeps (pushCells_keeps _ _)) (fun b o e=>pushCells_keeps _ _ b o (Heap.get?_push_of_some _ e)) (fun n c e=>ok.empty n c (mem_of_lookup e)) ok.apart
def aw(X:Cx)(scope:Scope)(cp:List (Nat × Str))(tgN:List Str)(C:Addr)(s0:Shared)(H0:Hp)(fp:List Addr):Cx where
  prog:=X.prog
  w:=X.w
  K:=X.K
  mg:=X.mg
  base:=X.base
  A:=X.A
  N:=cp.map (·.2)++tgN
  s₀:=s0
  H₀:=H0
  env:=compEnvC scope (cellsFrom (C+1) scope.names (bM X.env scope.names [])) C X.env
  outer:=X.stack
  stack:=X.stack
  ex:=fp
  fn:=fun x=>scope.names.lookup x==some .local || scope.names.lookup x==some .cell
  calm:=X.calm
  pn:=[]
  xe:=fun _ _=>False
theorem vq{X:Cx}{elt iter tg:Expr}{ifs:List Expr}{scope:Scope}{pos:Pos}{wi:TI}{g:TG}{tc:TT}{te:TE}(sc0:Scope)(N0:List Str)(cp:List (Nat × Str))(tgN:List Str)
    (hc:X.calm=true)(hsc:X.env.scope=sc0)(hN0:X.N=N0)(hi:PI X tg iter wi)
    (hg:∀C s0 H0 fp,PG (aw X scope cp tgN C s0 H0 fp) tg g)
    (ht:∀C s0 H0 fp,pV (aw X scope cp tgN C s0 H0 fp) ifs tc)
    (he:∀C s0 H0 fp,PE (aw X scope cp tgN C s0 H0 fp) elt te)
    (hk:scope.kind=.function)(hown:∀y∈scope.names,y.2=.cell→scope.names.lookup y.1=some .cell)(hnames:∀y∈scope.names,y.2=.local→scope.names.lookup y.1=some .local)
    (hfr:∀y∈scope.names,y.2=.free→scope.names.lookup y.1=some .free∧sc0.names.lookup y.1=some .cell)
    (hcp:∀p∈cp,N0[p.1]?=some p.2)(hcq:∀p∈cp,sc0.names.lookup p.2=some .cell∧scope.names.lookup p.2=some .free)
    (hs:∀x,foldedSetIterable iter X.env x=pure x:=by intro _;rfl):
    PE X (.ListComp elt [⟨tg,iter,ifs,0⟩] scope pos) (l3 cp tgN.length wi g tc te):=by
  intro pins s σ H Q I h
  have hkind:∀x,X.env.kindOf x=sc0.names.lookup x:=fun x=>by unfold Env.kindOf;rw [hsc]
  have hfree:∀y∈scope.names,y.2=.free→∃c,X.env.cells.lookup y.1=some c:=fun y hy e=>I.ok.has y.1 (.inl (by rw [hkind];exact(hfr y hy e).2))
  rw [eval_ListComp]
  refine wpAny_comprehension_free (use:=none) rfl hs (gb hfree) hk hnames (wpAny_mono (hi pins s σ H _ I h.go) (fun xv s₁ h₁=>wpAny_mono h₁ (fun itv s₂ h₂=>?_) fun _ _ e=>e) fun _ _ e=>e)
  obtain⟨it,fp,tn,J,H2,rfl,I2,T,st2,f2,hq⟩:=h₂
  refine wpAny_newObj_type ?_
  have hlF:H2 s₂.heap.objs.size=none:=I2.hok.fresh (Nat.le_refl _)
  have I3:au X pins σ (aM H2 s₂.heap.objs.size (.lst [])) {s₂ with heap:=s₂.heap.push {cls:=.type "list",data:=.seq ([]:List Value).toArray}}:=I2.lnew (t':=s₂.toks) .nil (Nat.zero_le _)
  obtain⟨W,⟨m0,w0⟩,turn⟩:=hq _ hlF
  have f3:∀b∈fp,eV X pins (aM H2 s₂.heap.objs.size (.lst [])) b:=fun b hb=>by
    obtain⟨f0,fr⟩:=f2 b hb
    obtain⟨o,ho,_⟩:=T.obj _ _ st2 b hb
    exact⟨by rw [aC (Nat.ne_of_lt (Heap.lt_size ho))];exact f0,fr⟩
  have st3:tn 0 (s₂.heap.push {cls:=.type "list",data:=.seq ([]:List Value).toArray}):=T.keep _ _ _ st2 fun b _ o e=>Heap.get?_push_of_some _ e
  generalize hD:s₂.heap.objs.size=D at*
  generalize hs3:({s₂ with heap:=s₂.heap.push {cls:=.type "list",data:=.seq ([]:List Value).toArray}}:Shared)=s₃ at*
  have hst3:tn 0 s₃.heap:=by rw [←hs3];exact st3
  refine rG (fun h₁ hns₁ old hownC apC=>?_)
  generalize hC:s₃.heap.objs.size=C at*
  have nC:∀b o,s₃.heap.get? b=some o→b≠C:=fun b o e=>by rw [←hC];exact Nat.ne_of_lt (Heap.lt_size e)
  have hHC:(aM H2 D (.lst [])) C=none:=I3.hok.fresh (by rw [hC];exact Nat.le_refl _)
  have clS:∀x c,(bM X.env scope.names []).lookup x=some c→X.env.cells.lookup x=some c:=fun x c e=>eK _ _ x c hfree (fun _ _ z=>by simp at z) e
  have clH:∀x,(∃y∈scope.names,y.1=x∧y.2=.free)→∃c,(bM X.env scope.names []).lookup x=some c:=fun x e=>gR _ _ x (.inl e)
  have clN:∀x,(¬∃y∈scope.names,y.1=x∧y.2=.free)→(bM X.env scope.names []).lookup x=none:=fun x q=>jK _ _ x q rfl
  have two:∀x c,(cellsFrom (C+1) scope.names (bM X.env scope.names [])).lookup x=some c→(cellsFrom (C+1) scope.names []).lookup x=some c∨(bM X.env scope.names []).lookup x=some c:=fun x c e=>by
    rw [aO,List.lookup_append] at e
    cases q:(cellsFrom (C+1) scope.names []).lookup x with
    | some d=>rw [q] at e;exact .inl e
    | none=>rw [q] at e;exact .inr e
  have ltC:∀x c,(bM X.env scope.names []).lookup x=some c→c < C:=fun x c e=>by
    obtain⟨v,o,ho,_⟩:=I3.cell x c (clS x c e)
    rw [←hC];exact Heap.lt_size ho
  have clF:∀x,(∃y∈scope.names,y.1=x∧y.2=.free)→(cellsFrom (C+1) scope.names (bM X.env scope.names [])).lookup x=(bM X.env scope.names []).lookup x:=fun x ⟨y,hy,e1,e2⟩=>by
    rw [aO,List.lookup_append]
    cases q:(cellsFrom (C+1) scope.names []).lookup x with
    | none=>rfl
    | some d=>
      exfalso
      obtain⟨z,hz,z1,z2⟩:=eA scope.names _ x d q
      have a1:=hown z hz z2
      have a2:=(hfr y hy e2).1
      rw [z1] at a1;rw [e1,a1] at a2;cases a2
  have hasC:∀x,(∃y∈scope.names,y.1=x∧(y.2=.free∨y.2=.cell))→∃c,(cellsFrom (C+1) scope.names (bM X.env scope.names [])).lookup x=some c:=fun x ⟨y,hy,e1,e2⟩=>by
    rcases e2 with e2 | e2
    · rw [clF x ⟨y,hy,e1,e2⟩];exact clH x ⟨y,hy,e1,e2⟩
    · rw [aO,List.lookup_append]
      obtain⟨c,hc⟩:=dR scope.names (C+1) x ⟨y,hy,e1,e2⟩
      exact⟨c,by rw [hc];rfl⟩
  have ok':(aw X scope cp tgN C s₃ (aM H2 D (.lst [])) fp).Ok:=by
    refine⟨I.ok.mod,hk,I.ok.glob,I.ok.blt,by rw [←hC];exact Nat.le_refl _,fun x y c e1 e2=>?_,fun x e=>hasC x (iS e),fun x c e1 e2=>?_,I.ok.hd,I.ok.frames,.inl rfl,fun b hb=>?_,fun b o e=>I3.bs b o e,?_,fun b o e hb=>?_,fun b hb z=>?_,I3.stack,fun b hb=>I3.stkFree b hb⟩
    · rcases two x c e1 with e1 | e1<;>rcases two y c e2 with e2 | e2
      · exact name_of_addr apC (mem_of_lookup e1) (mem_of_lookup e2)
      · exact(Nat.lt_irrefl _ (Nat.lt_trans (ltC y c e2) (hownC x c e1).2)).elim
      · exact(Nat.lt_irrefl _ (Nat.lt_trans (ltC x c e1) (hownC y c e2).2)).elim
      · exact I.ok.inj x y c (clS _ _ e1) (clS _ _ e2)
    · rcases two x c e2 with e2 | e2
      · show s₃.heap.objs.size≤c
        have:=(hownC x c e2).2
        lia
      · exfalso
        have e1':scope.names.lookup x=some .local∨scope.names.lookup x=some .cell:=by simpa [aw] using e1
        by_cases q:∃y∈scope.names,y.1=x∧y.2=.free
        · obtain⟨y,hy,y1,y2⟩:=q
          have z:=(hfr y hy y2).1
          rw [y1] at z
          rcases e1' with w | w<;>(rw [z] at w;cases w)
        · rw [clN x q] at e2;cases e2
    · obtain⟨f0,f1,f4,f5,f6,f7⟩:=f3 b hb
      obtain⟨o,ho,_⟩:=T.obj _ _ hst3 b hb
      exact⟨nC b o ho,fun x c e=>(two x c e).elim (fun e z=>absurd (hownC x c e).2 (by rw [z,←hC];exact Nat.not_le.mpr (Nat.lt_succ_of_lt (Heap.lt_size ho)))) (fun e=>f6 x c (clS x c e))⟩
    · exact Nat.le_trans I.ok.bsz I3.sz
    · obtain⟨f0,f1,f4,f5,f6,f7⟩:=f3 b hb
      rcases f5 with z | z
      · exact I.ok.noex b o e z
      · have:=(I.ok.bs b o e).1
        exact absurd (Nat.lt_of_lt_of_le (Heap.lt_size this) z) (Nat.lt_irrefl _)
    · obtain⟨f0,f1,f4,f5,f6,f7⟩:=f3 b hb
      rcases List.mem_cons.mp (I3.stkSub b z) with z | z
      · exact f1 z
      · exact f4 z
  have I4:au (aw X scope cp tgN C s₃ (aM H2 D (.lst [])) fp) [] (dq cp tgN.length σ) (aM H2 D (.lst [])) {s₃ with heap:=h₁}:=by
    refine⟨ok',rfl,I3.bare,Un.kept old,⟨_,hns₁,fun i x v e1 e2 e3=>?_⟩,fun x c e=>?_,hHC,fun x c e=>(two x c e).elim (fun e=>I3.hok.fresh (by rw [hC];have:=(hownC x c e).2;lia)) (fun e=>I3.freeC x c (clS x c e)),fun p hp=>by simp [aw] at hp,I3.hok.kept old,by simp [dq,aw]⟩
    · have hlt:i < cp.length:=by
        by_cases q:i < cp.length
        · exact q
        · exfalso
          unfold dq at e2
          rw [List.getElem?_append_right (by simp;lia)] at e2
          rw [List.getElem?_replicate] at e2
          split at e2<;>cases e2
      have e1':(cp.map (·.2))[i]?=some x:=by
        have e1'':(cp.map (·.2)++tgN)[i]?=some x:=e1
        rwa [List.getElem?_append_left (by simp;exact hlt)] at e1''
      have e2':(cp.map (fun p=>(σ[p.1]?).join))[i]?=some (some v):=by
        unfold dq at e2
        rwa [List.getElem?_append_left (by simp;exact hlt)] at e2
      rw [List.getElem?_map,List.getElem?_eq_getElem hlt] at e1' e2'
      have ex:(cp[i]).2=x:=by simpa using e1'
      have ev:(σ[(cp[i]).1]?).join=some v:=by simpa using e2'
      have ev':σ[(cp[i]).1]?=some (some v):=by
        cases q:σ[(cp[i]).1]? with
        | none=>rw [q] at ev;cases ev
        | some z=>rw [q] at ev;simp only [Option.join_some] at ev;rw [ev]
      have hN:=hcp cp[i] (List.getElem_mem hlt)
      rw [←hN0] at hN
      obtain⟨hcl,hcf⟩:=hcq cp[i] (List.getElem_mem hlt)
      rw [ex] at hN hcl hcf
      obtain⟨m,hn,hl⟩:=I3.loc
      obtain⟨u,r,l⟩:=hl _ x v hN ev' (.inr (.inl (by rw [hsc];exact hcl)))
      refine⟨u,r,.inr ?_⟩
      rcases l with ⟨k1,_⟩ | ⟨k1,c,hcc,o,ho,hd⟩
      · rw [hkind,hcl] at k1;cases k1
      · have e3':(relabel scope X.env).names.lookup x=some .local∨(relabel scope X.env).names.lookup x=some .cell∨(relabel scope X.env).names.lookup x=some .free:=e3
        have nl:(relabel scope X.env).names.lookup x=some .cell∨(relabel scope X.env).names.lookup x=some .free:=by
          rcases e3' with z | z | z
          · exact absurd z (bU hcf)
          · exact .inl z
          · exact .inr z
        have fr:∃y∈scope.names,y.1=x∧y.2=.free:=⟨(x,.free),mem_of_lookup hcf,rfl,rfl⟩
        obtain⟨c',hc'⟩:=clH x fr
        have:=clS x c' hc'
        rw [hcc] at this;cases this
        exact⟨nl,c,(clF x fr).trans hc',o,old c o ho,hd⟩
    · rcases two x c e with e | e
      · exact⟨none,(hownC x c e).1⟩
      · obtain⟨v,o,ho,hd⟩:=I3.cell x c (clS x c e)
        exact⟨v,o,old c o ho,hd⟩
  have hst4:tn 0 h₁:=T.keep _ _ _ hst3 fun b _ o e=>old b o e
  have loop:codeAny (model X.prog X.w) X.A (.compLoop (.ListComp elt [⟨tg,iter,ifs,0⟩] scope pos) 0 (.ref it) (.ref D) (compEnvC scope (cellsFrom (C+1) scope.names (bM X.env scope.names [])) C X.env))
      (compPost (model X.prog X.w) X.A X.xe none (EP X pins σ Q) (.ref D) C) {s₃ with heap:=h₁}:=by
    refine eB (fun n s'=>∃i σ' H',au (aw X scope cp tgN C s₃ (aM H2 D (.lst [])) fp) [] σ' H' s'∧tn i s'.heap∧(∀b∈fp,H' b=none)∧W i n σ' H') ?_ (n0:=m0) ⟨0,_,_,I4,hst4,fun b hb=>(f3 b hb).1,w0⟩
    rintro n s5 ⟨i,σ5,H5,I5,st5,fr5,w5⟩
    have stat:∀{H':Hp},(∀b∈fp,H' b=none)→∀b∈fp,eV (aw X scope cp tgN C s₃ (aM H2 D (.lst [])) fp) [] H' b:=fun hn b hb=>
      ⟨hn b hb,(ok'.exf b hb).1,ok'.exfs b hb,.inl hb,(ok'.exf b hb).2,fun p hp=>by simp [aw] at hp⟩
    rcases turn i n σ5 H5 w5 with ⟨stop,qn⟩ | ⟨go,N,hN,step⟩
    · refine bL (T.done (aw X scope cp tgN C s₃ (aM H2 D (.lst [])) fp) rfl rfl rfl hc i [] s5 σ5 H5 (fun _ _=>False) I5 (stat fr5) st5 stop) fun r s6 ⟨hr,I6⟩=>?_
      subst hr
      refine⟨fun _=>?_,fun v z=>by cases z⟩
      obtain⟨m,hn,_⟩:=I6.loc
      refine⟨m,hn,fun h' sb=>⟨.ref D,H5,?_,rfl,qn⟩⟩
      have ub:=I6.base
      have kp:∀b u,b≠C→s6.heap.get? b=some u→h'.get? b=some u:=fun b u ne e=>sb.extBut b u ne e
      have nit:∀b u,H5 b=some u→b≠C:=fun b u e z=>by
        have:=I6.free
        rw [z] at e
        rw [show H5 C=none from this] at e;cases e
      refine I3.call' (s':={s6 with heap:=h'}) (ch:=fp) I6.os ⟨fun b o e n hb hx=>kp b o (nC b o e) (ub.keep b o e n hb hx),fun b o e n hb hx=>?_,ub.free,fun b o e hx=>?_,ub.tups,ub.frzs,ub.tbls⟩ (fun b u e=>?_) I6.bare (fun b hb=>?_)
      · obtain⟨sl,q⟩:=ub.slot b o e n hb hx
        exact⟨sl,kp b _ (nC b o e) q⟩
      · obtain⟨o',q⟩:=ub.there b o e hx
        exact⟨o',kp b _ (nC b o e) q⟩
      · refine(I6.hok b u e).stay (fun c v hc q=>kp c v ?_ q) (fun _ q=>q) fun _ _ q=>q
        rcases hc with z | z
        · rw [z];exact nit b u e
        · exact nit c _ z
      · obtain⟨f0,f1,f4,f5,f6,f7⟩:=f3 b hb
        exact⟨f5,f1,f6,f7⟩
    · refine bL (T.item (aw X scope cp tgN C s₃ (aM H2 D (.lst [])) fp) rfl rfl rfl hc i [] s5 σ5 H5 (fun _ _=>False) I5 (stat fr5) st5 go) fun r s6 ⟨u,hr,h6⟩=>?_
      subst hr
      refine⟨fun z=>(by cases z),fun v z=>?_⟩
      cases z
      refine bL h6 fun _ s7 ⟨x,H7,I7,r7,y7,st7,fr7⟩=>?_
      have I7':=I7.pinned (stat fr7) (T.obj _ _ st7)
      have again:∀{σ8:L2.St} {H8:Hp} {s8:Shared},au (aw X scope cp tgN C s₃ (aM H2 D (.lst [])) fp) ([]++hG fp s7.heap) σ8 H8 s8→N σ8 H8→∃m,m < n∧∃i σ' H',au (aw X scope cp tgN C s₃ (aM H2 D (.lst [])) fp) [] σ' H' s8∧tn i s8.heap∧(∀b∈fp,H' b=none)∧W i m σ' H':=fun{σ8 H8 s8} I8 n8=>by
        obtain⟨m',hm,w8⟩:=hN σ8 H8 n8
        refine⟨m',hm,i+1,σ8,H8,I8.unpinned,T.keep _ _ _ st7 fun b hb o e=>(I8.pin (b,o) (List.mem_append_right _ (List.mem_append_right _ (bG hb e)))).1,fun b hb=>?_,w8⟩
        obtain⟨o,e,d⟩:=T.obj _ _ st7 b hb
        exact(I8.pin (b,o) (List.mem_append_right _ (List.mem_append_right _ (bG hb e)))).2.1
      refine bL (hg C s₃ (aM H2 D (.lst [])) fp _ s7 σ5 H7 x u _ I7' r7 (step x H7 y7)) fun _ s8 ⟨σ8,H8,I8,q8⟩=>?_
      refine bL (ht C s₃ (aM H2 D (.lst [])) fp _ s8 σ8 H8 _ I8 q8) fun ok s9 ⟨H9,I9,q9⟩=>?_
      cases ok with
      | false=>
        rw [if_neg Bool.false_ne_true] at q9 ⊢
        exact again I9 q9
      | true=>
        rw [if_pos rfl] at q9 ⊢
        refine bL (he C s₃ (aM H2 D (.lst [])) fp _ s9 σ8 H9 _ I9 q9) fun v s10 ⟨xv,H10,I10,r10,ys,hl,hz,n10⟩=>?_
        refine bL (fN _ s10 σ8 H10 (.ref D) [xv] (.ref D) [v] (fun _ H=>N σ8 H) I10 rfl (.cons r10 .nil) ⟨D,ys,xv,rfl,rfl,hl,hz,n10⟩) fun _ s11 ⟨_,H11,I11,_,q11⟩=>?_
        exact again I11 q11
  exact codeAny_compStart_list loop (T.self X.A 0 _ _ _ hst4 loop)
def wV(sc0 scope:Scope)(N0:List Str)(cp:List (Nat × Str))(W:List Nat):Bool:=
  (scope.names.all fun y=>(!(y.2==.local) || scope.names.lookup y.1==some .local)&&(!(y.2==.cell) || scope.names.lookup y.1==some .cell)&&(!(y.2==.free) || (scope.names.lookup y.1==some .free&&sc0.names.lookup y.1==some .cell)))&&
  (cp.all fun p=>N0[p.1]?==some p.2&&sc0.names.lookup p.2==some .cell&&scope.names.lookup p.2==some .free)&&decide ((cp.map (·.1)).Nodup)&&W.all fun j=>decide (cp.length≤j)
theorem yd{X:Cx}{K:PySem.W.Frag}{pos:Pos}{elt iter tg:Expr}{ifs:List Expr}{scope:Scope}{fi:FI}{g:FG}{ft:FT}{fe:FE}{W:List Nat}(cp:List (Nat × Str))(tgN:List Str)
    (hKx:X.K=K)(hc:X.calm=true)(hi:PI X tg iter (fI K fi))
    (hg:∀C s0 H0 fp,PG (aw X scope cp tgN C s0 H0 fp) tg (fG K g W))
    (ht:∀C s0 H0 fp,pV (aw X scope cp tgN C s0 H0 fp) ifs (fT K ft))
    (he:∀C s0 H0 fp,PE (aw X scope cp tgN C s0 H0 fp) elt (fE K fe))
    (hk:scope.kind=.function)(hch:wV X.env.scope scope X.N cp W=true)
    (hs:∀x,foldedSetIterable iter X.env x=pure x):
    PE X (.ListComp elt [⟨tg,iter,ifs,0⟩] scope pos) (fE K (bO cp tgN.length fi g ft fe)):=by
  subst hKx
  simp only [wV,Bool.and_eq_true,List.all_eq_true,decide_eq_true_eq] at hch
  obtain⟨⟨⟨h1,h2⟩,h3⟩,h4⟩:=hch
  refine(vq X.env.scope X.N cp tgN hc rfl rfl hi hg ht he hk (fun y hy e=>?_) (fun y hy e=>?_) (fun y hy e=>?_) (fun p hp=>?_) (fun p hp=>?_) hs).mono fun _ _ _ h=>jD h3 h4 h
  · have:=(h1 y hy).1.2;rw [e] at this;simpa using this
  · have:=(h1 y hy).1.1;rw [e] at this;simpa using this
  · have:=(h1 y hy).2;rw [e] at this;simpa using this
  · have:=(h2 p hp).1.1;simpa using this
  · have a:=(h2 p hp).1.2;have c:=(h2 p hp).2;exact⟨by simpa using a,by simpa using c⟩
end L2
namespace L2
open PySem PySem.Spec PyProof.Rows PySem.W
def qi(lt:Nat→Nat→Bool)(n:Nat){α:Type}:KasT α→(α→Prop)→Prop
  | .ret a,Q=>Q a
  | .ask i j k,Q=>i < n∧j < n∧qi lt n (k (lt i j)) Q
theorem fF{lt:Nat→Nat→Bool}{n:Nat}{α β:Type}{f:α→KasT β}{Q:β→Prop}:∀(t:KasT α),qi lt n t (fun a=>qi lt n (f a) Q)→qi lt n (t.bind f) Q
  | .ret _,h=>h
  | .ask i j k,h=>⟨h.1,h.2.1,fF (k (lt i j)) h.2.2⟩
theorem cF{lt:Nat→Nat→Bool}{n:Nat}{α:Type}{Q Q':α→Prop}(hq:∀a,Q a→Q' a):∀(t:KasT α),qi lt n t Q→qi lt n t Q'
  | .ret a,h=>hq a h
  | .ask i j k,h=>⟨h.1,h.2.1,cF hq (k (lt i j)) h.2.2⟩
theorem ue{lt:Nat→Nat→Bool}{n:Nat}{α:Type}{Q:α→Prop}{cmp:Nat→Nat→(Bool→Shared→Prop)→Shared→Prop}{s:Shared}(hc:∀i j C,i < n→j < n→C (lt i j) s→cmp i j C s):∀(t:KasT α),qi lt n t Q→t.kasWp cmp (fun a s'=>s'=s∧Q a) s
  | .ret _,h=>⟨rfl,h⟩
  | .ask i j k,h=>hc i j _ h.1 h.2.1 (ue hc (k (lt i j)) h.2.2)
structure wN (lt:Nat→Nat→Bool):Prop where
  irr:∀i,lt i i=false
  tr:∀{i j k},lt i j=false→lt j k=false→lt i k=false
  asy:∀{i j},lt i j=true→lt j i=false
abbrev gA(p:Array Nat)(i:Nat):Nat:=p.getD i 0
structure l8 (n:Nat) (p:Array Nat):Prop where
  sz:p.size=n
  pm:p.Perm (List.toArray (List.range n))
theorem l8.lt{n:Nat}{p:Array Nat}(h:l8 n p){i:Nat}(hi:i < n):gA p i < n:=by
  have hi':i < p.size:=by rw [h.sz];exact hi
  have e:gA p i=p[i]:=by simp [gA,Array.getD,hi']
  rw [e]
  have:=(h.pm.mem_iff (a:=p[i])).mp (Array.getElem_mem hi')
  simpa using this
def SA(lt:Nat→Nat→Bool)(p:Array Nat)(m:Nat):Prop:=∀i j,i < j→j < m→lt (gA p j) (gA p i)=false
def oq(lt:Nat→Nat→Bool)(p:Array Nat)(m:Nat):Prop:=∀i j,i < j→j < m→lt (gA p i) (gA p j)=false
def EA(lt:Nat→Nat→Bool)(p:Array Nat)(a b:Nat):Prop:=∀i j,a≤i→i < b→a≤j→j < b→lt (gA p i) (gA p j)=false
theorem oK{p q:Array Nat}{i j:Nat}(h:p[i]?=q[j]?):gA p i=gA q j:=by
  unfold gA
  rw [Array.getD_eq_getD_getElem?,Array.getD_eq_getD_getElem?,h]
theorem nA{p:Array Nat}{a b k:Nat}(hb:b≤p.size):gA (kas_rev p a b) k=if a≤k∧k < b then gA p (a+b - 1 - k) else gA p k:=by
  have h:=getElem?_mirror_all (xs:=p) (i:=a) hb k
  split
  · rename_i c;rw [if_pos c] at h;exact oK h
  · rename_i c;rw [if_neg c] at h;exact oK h
theorem l8.rev{n:Nat}{p:Array Nat}(h:l8 n p)(a b:Nat):l8 n (kas_rev p a b):=⟨by rw [kas_rev_size];exact h.sz,(mirror_perm _ _ _ _).trans h.pm⟩
section
variable{lt:Nat→Nat→Bool}{n:Nat}(O:wN lt)
include O
theorem SA.snoc{p:Array Nat}{m:Nat}(h:SA lt p m)(h1:1≤m)(hl:lt (gA p m) (gA p (m - 1))=false):SA lt p (m+1):=fun i j hij hj=>by
  by_cases e:j=m
  · subst e
    by_cases e2:i=j - 1
    · rw [e2];exact hl
    · exact O.tr hl (h i (j - 1) (by lia) (by lia))
  · exact h i j hij (by lia)
theorem oq.snoc{p:Array Nat}{m:Nat}(h:oq lt p m)(h1:1≤m)(hl:lt (gA p (m - 1)) (gA p m)=false):oq lt p (m+1):=fun i j hij hj=>by
  by_cases e:j=m
  · subst e
    by_cases e2:i=j - 1
    · rw [e2];exact hl
    · exact O.tr (h i (j - 1) (by lia) (by lia)) hl
  · exact h i j hij (by lia)
theorem qj{p:Array Nat}(hp:l8 n p){N:Nat}(hN:N≤n):∀(f m:Nat),1≤m→m+f=N→SA lt p m→qi lt n (kas_asc p f m) fun r=>m≤r∧r≤N∧SA lt p r∧(r < N→lt (gA p r) (gA p (r - 1))=true)
  | 0,m,h1,hm,hs=>⟨Nat.le_refl _,by lia,hs,fun h=>by lia⟩
  | f+1,m,h1,hm,hs=>by
    refine⟨hp.lt (by lia),hp.lt (by lia),?_⟩
    dsimp only
    by_cases c:lt (gA p m) (gA p (m - 1))=true
    · rw [if_pos c]
      exact⟨Nat.le_refl _,by lia,hs,fun _=>c⟩
    · rw [if_neg c]
      have c':lt (gA p m) (gA p (m - 1))=false:=by simpa using c
      exact cF (fun r ⟨a,b⟩=>⟨by lia,b⟩) _ (qj hp hN f (m+1) (by lia) (by lia) (SA.snoc O hs h1 c'))
theorem oq.rev{p:Array Nat}{a b m:Nat}(h:oq lt p m)(he:EA lt p a b)(hb:b≤m)(hm:m≤p.size):oq lt (kas_rev p a b) m:=fun i j hij hj=>by
  rw [nA (by lia),nA (by lia)]
  by_cases ci:a≤i∧i < b
  · rw [if_pos ci]
    by_cases cj:a≤j∧j < b
    · rw [if_pos cj];exact he _ _ (by lia) (by lia) (by lia) (by lia)
    · rw [if_neg cj];exact h _ _ (by lia) hj
  · rw [if_neg ci]
    by_cases cj:a≤j∧j < b
    · rw [if_pos cj];exact h _ _ (by lia) (by lia)
    · rw [if_neg cj];exact h _ _ hij hj
theorem kO{N:Nat}(hN:N≤n):∀(f:Nat) (p:Array Nat) (m q:Nat),l8 n p→q+1≤m→m+f=N→oq lt p m→EA lt p (m - (q+1)) m→
    qi lt n (kas_desc f p m q) fun r=>l8 n r.1∧m≤r.2.1∧r.2.1≤N∧oq lt r.1 r.2.1∧r.2.2+1≤r.2.1∧EA lt r.1 (r.2.1 - (r.2.2+1)) r.2.1
  | 0,p,m,q,hp,hq,hm,hd,he=>⟨hp,Nat.le_refl _,by show m≤N;lia,hd,hq,he⟩
  | f+1,p,m,q,hp,hq,hm,hd,he=>by
    have sz:=hp.sz
    refine⟨hp.lt (by lia),hp.lt (by lia),?_⟩
    dsimp only
    by_cases c:lt (gA p m) (gA p (m - 1))=true
    · rw [if_pos c]
      have d2:=oq.snoc O hd (by lia) (O.asy c)
      have e1:∀p':Array Nat,EA lt p' (m+1 - (0+1)) (m+1):=fun p' i j a b c d=>by
        obtain rfl:i=j:=by lia
        exact O.irr _
      split
      · exact cF (fun r ⟨a,b,c⟩=>⟨a,by lia,c⟩) _ (kO hN f _ (m+1) 0 (hp.rev _ _) (by lia) (by lia) (oq.rev O d2 he (by lia) (by lia)) (e1 _))
      · exact cF (fun r ⟨a,b,c⟩=>⟨a,by lia,c⟩) _ (kO hN f _ (m+1) 0 hp (by lia) (by lia) d2 (e1 _))
    · rw [if_neg c]
      have c':lt (gA p m) (gA p (m - 1))=false:=by simpa using c
      refine⟨hp.lt (by lia),hp.lt (by lia),?_⟩
      dsimp only
      by_cases d:lt (gA p (m - 1)) (gA p m)=true
      · rw [if_pos d];exact⟨hp,Nat.le_refl _,by show m≤N;lia,hd,hq,he⟩
      · rw [if_neg d]
        have d':lt (gA p (m - 1)) (gA p m)=false:=by simpa using d
        refine cF (fun r ⟨a,b,c⟩=>⟨a,by lia,c⟩) _ (kO hN f _ (m+1) (q+1) hp (by lia) (by lia) (oq.snoc O hd (by lia) d') fun i j a b c e=>?_)
        by_cases i1:i=m
        · subst i1
          by_cases j1:j=i
          · subst j1;exact O.irr _
          · exact O.tr c' (he _ _ (by lia) (by lia) (by lia) (by lia))
        · by_cases j1:j=m
          · subst j1;exact O.tr (he i (j - 1) (by lia) (by lia) (by lia) (by lia)) d'
          · exact he _ _ (by lia) (by lia) (by lia) (by lia)
abbrev Dv(lt:Nat→Nat→Bool)(n N:Nat)(r:Nat × Array Nat):Prop:=l8 n r.2∧1≤r.1∧r.1≤N∧SA lt r.2 r.1
theorem oJ{N m:Nat}(hN:N≤n){p:Array Nat}(hp:l8 n p)(h1:1≤m)(hm:m≤N)(hd:oq lt p m):qi lt n (kas_tail3 m N p) (Dv lt n N):=by
  have sz:=hp.sz
  refine fF _ (cF (fun r ⟨a,b,c,_⟩=>⟨hp.rev _ _,by show 1≤r;lia,b,c⟩) _ (qj O (hp.rev 0 m) hN (N - m) m h1 (by lia) fun i j hij hj=>?_))
  rw [nA (by lia),nA (by lia),if_pos (by lia),if_pos (by lia)]
  exact hd _ _ (by lia) (by lia)
theorem j9{N m:Nat}(hN:N≤n){p:Array Nat}(hp:l8 n p)(hm:m+1≤N)(hd:oq lt p (m+1)):qi lt n (kas_descPart m N p) (Dv lt n N):=by
  refine fF _ (cF (fun r ⟨a,b,c,d,e,f⟩=>?_) _ (kO O hN (N - (m+1)) p (m+1) 0 hp (by lia) (by lia) hd fun i j a b c d=>by
    obtain rfl:i=j:=by lia
    exact O.irr _))
  have:=a.sz
  split
  · exact oJ O hN (a.rev _ _) (by lia) c (oq.rev O d f (Nat.le_refl _) (by lia))
  · exact oJ O hN a (by lia) c d
theorem ug{p:Array Nat}(hp:l8 n p)(h1:1≤n):qi lt n (kas_count n p) (Dv lt n n):=by
  refine fF _ (cF (fun m ⟨a,b,c,d⟩=>?_) _ (qj O hp (Nat.le_refl n) (n - 1) 1 (Nat.le_refl _) (by lia) fun i j hij hj=>by lia))
  by_cases e:m=n
  · subst e
    rw [if_pos (by simp)]
    exact⟨hp,a,Nat.le_refl _,c⟩
  · rw [if_neg (by simpa using e)]
    have dl:=O.asy (d (by lia))
    have sz:=hp.sz
    split
    · refine⟨hp.lt (by lia),hp.lt (by lia),?_⟩
      dsimp only
      by_cases q:lt (gA p 0) (gA p (m - 1))=true
      · rw [if_pos q];exact⟨hp,a,b,c⟩
      · rw [if_neg q]
        have q':lt (gA p 0) (gA p (m - 1))=false:=by simpa using q
        have ea:EA lt p 0 m:=fun i j _ hi _ hj=>by
          have x1:lt (gA p i) (gA p 0)=false:=by
            by_cases z:i=0
            · rw [z];exact O.irr _
            · exact c 0 i (by lia) hi
          have x2:lt (gA p (m - 1)) (gA p j)=false:=by
            by_cases z:j=m - 1
            · rw [z];exact O.irr _
            · exact c j (m - 1) (by lia) (by lia)
          exact O.tr x1 (O.tr q' x2)
        have da:oq lt p (m+1):=oq.snoc O (fun i j hij hj=>ea i j (by lia) (by lia) (by lia) hj) a dl
        exact j9 O (Nat.le_refl n) (hp.rev 0 m) (by lia) (oq.rev O da ea (by lia) (by lia))
    · obtain rfl:m=1:=by lia
      exact j9 O (Nat.le_refl n) hp (by lia) (oq.snoc O (fun i j hij hj=>by lia) a dl)
theorem lc{p:Array Nat}(hp:l8 n p){k:Nat}(hk:k < n)(hs:SA lt p k):∀(f l r:Nat),l≤r→r≤k→r - l≤f→(∀i,i < l→lt (gA p k) (gA p i)=false)→(∀i,r≤i→i < k→lt (gA p k) (gA p i)=true)→
    qi lt n (kas_place p k f l r) fun x=>x≤k∧(∀i,i < x→lt (gA p k) (gA p i)=false)∧∀i,x≤i→i < k→lt (gA p k) (gA p i)=true
  | 0,l,r,h1,h2,h3,hl,hr=>⟨by lia,hl,fun i a b=>hr i (by lia) b⟩
  | f+1,l,r,h1,h2,h3,hl,hr=>by
    unfold kas_place
    split
    · exact⟨by lia,hl,fun i a b=>hr i (by lia) b⟩
    · refine⟨hp.lt hk,hp.lt (by lia),?_⟩
      dsimp only
      by_cases c:lt (gA p k) (gA p ((l+r) / 2))=true
      · rw [if_pos c]
        refine lc hp hk hs f l ((l+r) / 2) (by lia) (by lia) (by lia) hl fun i a b=>?_
        by_cases z:i=(l+r) / 2
        · rw [z];exact c
        · cases q:lt (gA p k) (gA p i) with
          | true=>rfl
          | false=>
            have:=O.tr q (hs ((l+r) / 2) i (by lia) b)
            rw [c] at this;cases this
      · rw [if_neg c]
        have c':lt (gA p k) (gA p ((l+r) / 2))=false:=by simpa using c
        refine lc hp hk hs f ((l+r) / 2+1) r (by lia) h2 (by lia) (fun i a=>?_) hr
        by_cases z:i=(l+r) / 2
        · rw [z];exact c'
        · exact O.tr c' (hs i ((l+r) / 2) (by lia) (by lia))
theorem uo{p:Array Nat}{k d i:Nat}(hk:k < p.size)(hd:d≤k):gA (bubble p k d) i=if i=k - d then gA p k else if k - d < i∧i≤k then gA p (i - 1) else gA p i:=by
  have h:=getElem?_bubble hk d hd i
  by_cases c:i=k - d
  · rw [if_pos c] at h ⊢;exact oK h
  · rw [if_neg c] at h ⊢
    by_cases c2:k - d < i∧i≤k
    · rw [if_pos c2] at h ⊢;exact oK h
    · rw [if_neg c2] at h ⊢;exact oK h
theorem uf:∀(f:Nat) (p:Array Nat) (k:Nat),l8 n p→k+f=n→SA lt p k→qi lt n (kas_bin f p k) fun p'=>l8 n p'∧SA lt p' n
  | 0,p,k,hp,hk,hs=>by
    obtain rfl:k=n:=by lia
    exact⟨hp,hs⟩
  | f+1,p,k,hp,hk,hs=>by
    have sz:=hp.sz
    refine fF _ (cF (fun l ⟨a,L,R⟩=>?_) _ (lc O hp (by lia) hs k 0 k (by lia) (Nat.le_refl _) (by lia) (fun i h=>by lia) (fun i h1 h2=>by lia)))
    refine uf f _ (k+1) ⟨by rw [bubble_size];exact sz,(bubble_perm _ _ _).trans hp.pm⟩ (by lia) fun i j hij hj=>?_
    rw [uo O (by lia) (by lia),uo O (by lia) (by lia)]
    have e:k - (k - l)=l:=by lia
    rw [e]
    by_cases j1:j=l
    · rw [if_pos j1,if_neg (by lia),if_neg (by lia)]
      exact L i (by lia)
    · rw [if_neg j1]
      by_cases j2:l < j∧j≤k
      · rw [if_pos j2]
        by_cases i1:i=l
        · rw [if_pos i1];exact O.asy (R (j - 1) (by lia) (by lia))
        · rw [if_neg i1]
          by_cases i2:l < i∧i≤k
          · rw [if_pos i2];exact hs _ _ (by lia) (by lia)
          · rw [if_neg i2];exact hs _ _ (by lia) (by lia)
      · rw [if_neg j2,if_neg (by lia),if_neg (by lia)]
        exact hs _ _ hij (by lia)
theorem w6(h1:1≤n):qi lt n (kas_sort n) fun p=>l8 n p∧SA lt p n:=by
  refine fF _ (cF (fun r ⟨a,b,c,d⟩=>?_) _ (ug O (p:=List.toArray (List.range n)) ⟨by simp,Array.Perm.refl _⟩ h1))
  split
  · refine uf O _ _ _ a (by lia) ?_
    rw [show max r.1 1=r.1 by lia]
    exact d
  · obtain e:r.1=n:=by lia
    rw [e] at d
    exact⟨a,d⟩
end
end L2
namespace L2
open PySem PySem.Spec PyProof.Rows PySem.W
section
variable{prog:Program}{w:World}{A:Around}{E:Value→Shared→Prop}{s:Shared}
theorem qz{a:Addr}{vs:List Value}{n:Nat}{P:PySem.Fin→Shared→Prop}(ho:s.heap.get? a=some (seqObj "list" vs.toArray n))(h64:vs.length < 64){κ:SortKind}{lt:Nat→Nat→Bool}(O:wN lt)
    (hk:2≤vs.length→∀h':Heap,(∀b o,b≠a→s.heap.get? b=some o→h'.get? b=some o)→∀Q:SortKind→Shared→Prop,Q κ {s with heap:=h'}→wpAny (model prog w) A (keyKind' vs.toArray) Q (fun _ _=>False) {s with heap:=h'})
    (hlt:∀h':Heap,(∀b o,b≠a→s.heap.get? b=some o→h'.get? b=some o)→∀i j (C:Bool→Shared→Prop),i < vs.length→j < vs.length→C (lt i j) {s with heap:=h'}→wpAny (model prog w) A (keyLt' κ (vs.getD i Value.none) (vs.getD j Value.none)) C (fun _ _=>False) {s with heap:=h'})
    (h:∀p:Array Nat,l8 vs.length p→SA lt p vs.length→P (.done (.ret .none)) {s with heap:=sortedHeap s.heap a vs (List.toArray (p.toList.map fun i=>vs.getD i Value.none))}):
    wpAny (model prog w) A (Builtin.«list.sort» ⟨[.ref a],[]⟩) P E s:=by
  rw [list_sort_plain]
  have ha:a < s.heap.objs.size:=Heap.lt_size ho
  refine wpAny_bind (listItems_at ho rfl ?_)
  refine wpAny_bind (listUpdate_at ho rfl ?_ (by rw [List.size_toArray,sizeLine_eq];lia) (Nat.zero_le _))
  obtain⟨e1,ho1⟩:∃e1,(s.heap.update a (Obj.mapSeq fun _=>#[])).get? a=some (seqObj "list" #[] e1):=⟨_,get?_update_seq ho (fun _=>#[])⟩
  refine wpAny_bind (seqEpoch_at ho1 rfl ?_)
  refine wpAny_bind (wpAny_newTuple ?_ (by show vs.length≤_;rw [sizeLine_eq];lia))
  refine wpAny_bind (wpAny_newList ?_ (Nat.zero_le _))
  refine wpAny_holding ?_
  have ho6:(((s.heap.update a (Obj.mapSeq fun _=>#[])).push (seqObj "tuple" vs.toArray 0)).push (seqObj "list" #[] 0)).get? a=some (seqObj "list" #[] e1):=by
    rw [Heap.get?_push_ne _ _ _ (by rw [size_push',Heap.size_update];exact Nat.ne_of_lt (Nat.lt_succ_of_lt ha)),Heap.get?_push_ne _ _ _ (by rw [Heap.size_update];exact Nat.ne_of_lt ha)]
    exact ho1
  have kp:∀b o,b≠a→s.heap.get? b=some o→(((s.heap.update a (Obj.mapSeq fun _=>#[])).push (seqObj "tuple" vs.toArray 0)).push (seqObj "list" #[] 0)).get? b=some o:=fun b o ne e=>
    Heap.get?_push_of_some _ (Heap.get?_push_of_some _ (by rw [Heap.get?_update_ne _ _ _ _ ne];exact e))
  show wpAny (model prog w) A _ P E {s with heap:=((s.heap.update a (Obj.mapSeq fun _=>#[])).push (seqObj "tuple" vs.toArray 0)).push (seqObj "list" #[] 0)}
  dsimp only
  by_cases h2:vs.toArray.size < 2
  · rw [if_pos h2,if_pos h2]
    refine wpAny_bind (wpAny_pure ?_)
    rw [StateT.run_pure]
    refine wpAny_bind (wpAny_pure ?_)
    dsimp only
    refine wpAny_bind (seqEpoch_at ho6 rfl ?_)
    refine wpAny_bind (listUpdate_at ho6 rfl ?_ (hsz2:=by rw [Array.size_map];show(vs.toArray.zip vs.toArray).size≤_;rw [show(vs.toArray.zip vs.toArray).size=vs.length by simp,sizeLine_eq];lia))
    simp only [bne_self_eq_false,Bool.false_eq_true,if_false]
    refine wpAny_pure ?_
    have q:=h (List.toArray (List.range vs.length)) ⟨by simp,Array.Perm.refl _⟩ (fun i j hij hj=>by simp at h2;lia)
    have e:(arrOf (SortSt.mk' general' (vs.toArray.zip vs.toArray) #[] 7 none)).map (·.2)=List.toArray ((List.toArray (List.range vs.length)).toList.map fun i=>vs.getD i Value.none):=by
      refine kat_snds (ks:=vs) rfl (p:=List.toArray (List.range vs.length)) ?_
      have e:=kas_range (vs.toArray.zip vs.toArray)
      rw [show(vs.toArray.zip vs.toArray).size=vs.length by simp] at e
      exact e.symm
    rw [e]
    exact q
  · have l2:2≤vs.length:=by simp at h2;lia
    rw [if_neg h2,if_neg h2]
    refine wpAny_bind (wpAny_mono (hk l2 _ kp (fun κ' s'=>κ'=κ∧s'={s with heap:=((s.heap.update a (Obj.mapSeq fun _=>#[])).push (seqObj "tuple" vs.toArray 0)).push (seqObj "list" #[] 0)}) ⟨rfl,rfl⟩) (fun κ' s0 hk=>?_) fun _ _ x=>x.elim)
    obtain⟨rfl,rfl⟩:=hk
    have ev:=ue (cmp:=kas_ask prog w A κ' vs) (s:={s with heap:=((s.heap.update a (Obj.mapSeq fun _=>#[])).push (seqObj "tuple" vs.toArray 0)).push (seqObj "list" #[] 0)}) (fun i j C hi hj hc=>hlt _ kp i j C hi hj hc) _ (w6 O (n:=vs.length) (by lia))
    refine wpAny_bind (wpAny_mono (kat_run (E:=E) (Q:=fun st' s'=>∃p:Array Nat,arrOf st'=p.map (kas_item (vs.toArray.zip vs.toArray))∧failedOf st'=none∧s'={s with heap:=((s.heap.update a (Obj.mapSeq fun _=>#[])).push (seqObj "tuple" vs.toArray 0)).push (seqObj "list" #[] 0)}∧l8 vs.length p∧SA lt p vs.length) (ks:=vs) rfl l2 h64 (fun p st' s' a1 a2 a3 a4=>⟨p,a2,a3,a4.1,a4.2⟩) ev) ?_ fun _ _ e=>e)
    rintro⟨⟨⟩,st'⟩ s' ⟨p,har,hf,rfl,hp,hs⟩
    dsimp only
    have hout:=kat_snds (ks:=vs) rfl har
    rw [hout]
    refine wpAny_bind (seqEpoch_at ho6 rfl ?_)
    refine wpAny_bind (listUpdate_at ho6 rfl ?_ (hsz2:=by rw [List.size_toArray,List.length_map,Array.length_toList,hp.sz,sizeLine_eq];lia))
    rw [hf]
    simp only [bne_self_eq_false,Bool.false_eq_true,if_false]
    exact wpAny_pure (h p hp hs)
theorem pN{t:Addr}{vs:List Value}{Q:Value→Shared→Prop}(ht:s.heap.IsList t vs.toArray)(h64:vs.length < 64){κ:SortKind}{lt:Nat→Nat→Bool}(O:wN lt)
    (hk:2≤vs.length→∀h':Heap,(∀b o,s.heap.get? b=some o→h'.get? b=some o)→∀Q:SortKind→Shared→Prop,Q κ {s with heap:=h'}→wpAny (model prog w) A.in1.in1 (keyKind' vs.toArray) Q (fun _ _=>False) {s with heap:=h'})
    (hlt:∀h':Heap,(∀b o,s.heap.get? b=some o→h'.get? b=some o)→∀i j (C:Bool→Shared→Prop),i < vs.length→j < vs.length→C (lt i j) {s with heap:=h'}→wpAny (model prog w) A.in1.in1 (keyLt' κ (vs.getD i Value.none) (vs.getD j Value.none)) C (fun _ _=>False) {s with heap:=h'})
    (h:∀p:Array Nat,l8 vs.length p→SA lt p vs.length→Q (.ref (s.heap.objs.size+1)) {s with heap:=sortedAll s.heap vs (List.toArray (p.toList.map fun i=>vs.getD i Value.none))}):wpAny (model prog w) A (call (.builtin "sorted") [.ref t]) Q E s:=by
  refine Calls.call_function_entry kind_sorted plain_sorted entry_sorted (args_sorted1 _) ?_;unfold Builtin.«sorted»
  refine wpAny_bind (m:=checkCount "sorted" 1 1 _) (wpAny_pure ?_);refine wpAny_bind (j6 ht ?_ (Nat.le_trans (Nat.le_of_lt h64) (by decide)))
  have z:((s.heap.push (seqObj "list" #[] 0)).update s.heap.objs.size (Obj.mapSeq (· ++vs.toArray))).objs.size=s.heap.objs.size+1:=by rw [Heap.size_update,size_push']
  have o:(((s.heap.push (seqObj "list" #[] 0)).update s.heap.objs.size (Obj.mapSeq (· ++vs.toArray))).push (seqObj "list" vs.toArray 0)).get? (s.heap.objs.size+1)=some (seqObj "list" vs.toArray 0):=by rw [←z];exact Heap.get?_push_size _ rfl
  have keep:∀b o,s.heap.get? b=some o→(((s.heap.push (seqObj "list" #[] 0)).update s.heap.objs.size (Obj.mapSeq (· ++vs.toArray))).push (seqObj "list" vs.toArray 0)).get? b=some o:=fun b o q=>by
    have hlt:b < s.heap.objs.size:=Heap.lt_size q
    rw [Heap.get?_push_ne _ _ _ (by rw [z];exact Nat.ne_of_lt (Nat.lt_succ_of_lt hlt)),Heap.get?_update_ne _ _ _ _ (Nat.ne_of_lt hlt),Heap.get?_push_ne _ _ _ (Nat.ne_of_lt hlt)]
    exact q
  have ne:∀b o,s.heap.get? b=some o→b≠s.heap.objs.size+1:=fun b o q=>Nat.ne_of_lt (Nat.lt_succ_of_lt (Heap.lt_size q))
  refine wpAny_bind (wpAny_newList ?_ (by rw [sizeLine_eq];lia));show wpAny _ _ _ _ _ {s with heap:=((s.heap.push (seqObj "list" #[] 0)).update s.heap.objs.size (Obj.mapSeq (· ++vs.toArray))).push (seqObj "list" vs.toArray 0)}
  rw [z];refine wpAny_bind (wpAny_holding (wpAny_call_entry slot_list_sort ⟨_,o,rfl⟩ entry_list_sort (qz (s:={s with heap:=((s.heap.push (seqObj "list" #[] 0)).update s.heap.objs.size (Obj.mapSeq (· ++vs.toArray))).push (seqObj "list" vs.toArray 0)}) o h64 O (fun l2 h' hh Q' hq=>hk l2 h' (fun b o e=>hh b o (ne b o e) (keep b o e)) Q' hq) (fun h' hh i j C hi hj hc=>hlt h' (fun b o e=>hh b o (ne b o e) (keep b o e)) i j C hi hj hc) fun p hp hs=>⟨_,rfl,?_⟩) (args_list_sort _)))
  exact wpAny_pure ⟨_,rfl,h p hp hs⟩
end
def y_(fin:Bool):List Int→List Int→Bool
  | a::r,b::t=>if a=b then y_ fin r t else decide (a < b)
  | _,_=>fin
theorem u_:∀(r t:List Int),y_ (decide (r.length < t.length)) r t=decide (r < t)
  | [],[]=>by simp [y_]
  | [],b::t=>by simp [y_]
  | a::r,[]=>by simp [y_]
  | a::r,b::t=>by
    unfold y_
    have e:decide ((a::r).length < (b::t).length)=decide (r.length < t.length):=by simp
    rw [e]
    by_cases c:a=b
    · rw [if_pos c,u_ r t]
      subst c
      simp [List.cons_lt_cons_iff]
    · rw [if_neg c]
      simp [List.cons_lt_cons_iff,c]
theorem uZ{prog:Program}{w:World}{A:Around}{fin:Bool}{Q:Bool→Shared→Prop}{s:Shared}:∀{xs ys:List Value} {r t:List Int} (i:Nat),IntsAre xs r→IntsAre ys t→Q (y_ fin r t) s→KatLex prog w A true fin Q (xs.zip ys) i s
  | [],_,_,_,i,h1,h2,h=>by cases h1;exact kat_nil h
  | _::_,[],_,_,i,h1,h2,h=>by cases h2;cases h1;exact kat_nil h
  | _,_,_,_,i,.cons a u h1,.cons b v h2,h=>by
    refine kat_cons (wpAny_eqBool_int ?_)
    unfold y_ at h
    by_cases c:a=b
    · rw [if_pos c] at h
      rw [beq_iff_eq.mpr c]
      exact kat_yes (uZ (i+1) h1 h2 h)
    · rw [if_neg c] at h
      rw [beq_false_of_ne c]
      refine kat_no ?_
      cases i with
      | zero=>exact oneLt_int h
      | succ j=>exact kat_one _ _ (wpAny_lt_int h)
def dk(rs:List (List Int)):List (List Int):=rs.mergeSort fun a b=>decide (a≤b)
theorem wc{rs rs':List (List Int)}(p:rs'.Perm rs)(h:rs'.Pairwise (· ≤·)):rs'=dk rs:=by
  have h2:=List.pairwise_mergeSort (le:=fun a b:List Int=>decide (a≤b)) (fun a b c h1 h2=>by simp only [decide_eq_true_eq] at*;exact List.le_trans h1 h2) (fun a b=>by simp only [Bool.or_eq_true,decide_eq_true_eq];exact List.le_total a b) rs
  exact List.Perm.eq_of_pairwise (le:=(· ≤·)) (fun a b _ _ h1 h2=>List.le_antisymm h1 h2) h (h2.imp fun h=>by simpa using h) (p.trans (List.mergeSort_perm rs _).symm)
theorem DY(rs:List (List Int)):wN fun i j=>decide (rs.getD i [] < rs.getD j []) where
  irr i:=decide_eq_false (List.lt_irrefl _)
  tr {i j k} h1 h2:=by
    simp only [decide_eq_false_iff_not,List.not_lt] at*
    exact List.le_trans h2 h1
  asy {i j} h:=by
    simp only [decide_eq_true_eq,decide_eq_false_iff_not] at*
    exact List.lt_asymm h
end L2
namespace L2
open PySem PySem.Spec PyProof.Rows PySem.W
section
variable{X:Cx}{K:PySem.W.Frag}
def BK(K:PySem.W.Frag)(H:Hp)(us:List V)(rs:List (List Int)):Prop:=us.length=rs.length∧∀(i:Nat) (r:List Int),rs[i]?=some r→∃p,us[i]?=some (.ref p)∧cc K H p (r.map V.int)
def tH(h:Heap)(v:Value)(r:List Int):Prop:=∃(a:Addr) (o:Obj) (xs:List Value) (n:Nat),v=.ref a∧h.get? a=some o∧o.cls=.type "tuple"∧o.data=.seq xs.toArray n∧IntsAre xs r
theorem tH.kept{h h':Heap}{v:Value}{r:List Int}(x:tH h v r)(k:∀b o,h.get? b=some o→h'.get? b=some o):tH h' v r:=
  let ⟨a,o,xs,n,e1,e2,e3⟩:=x;⟨a,o,xs,n,e1,k _ _ e2,e3⟩
theorem ly{h:Heap}:∀(vs:List Value) (rs:List (List Int)),vs.length=rs.length→(∀(i:Nat) (r:List Int),rs[i]?=some r→r≠[]∧∃v,vs[i]?=some v∧tH h v r)→∃fs,KatTups h vs fs∧fs.length=vs.length∧∀v∈fs,∃n t,v=Value.int n t
  | [],[],_,_=>⟨[],.nil,rfl,fun v hv=>by cases hv⟩
  | [],_::_,hl,_=>by simp at hl
  | _::_,[],hl,_=>by simp at hl
  | v::vs,r::rs,hl,hh=>by
    obtain⟨fs,t,l,hf⟩:=ly vs rs (by simpa using hl) fun i r hr=>hh (i+1) r (by simpa using hr)
    obtain⟨ne,v',hv,a,o,xs,n,e1,e2,e3,e4,e5⟩:=hh 0 r rfl
    have:v'=v:=by simpa using hv.symm
    subst this
    subst e1
    cases e5 with
    | nil=>exact absurd rfl ne
    | cons m t' h5=>
      refine⟨_::fs,KatTups.cons e2 e3 e4 (by rfl) t,by simp [l],fun v hv=>?_⟩
      rcases List.mem_cons.mp hv with rfl | hv
      · exact⟨_,_,rfl⟩
      · exact hf v hv
theorem gY:∀{vs:List Value} {ns:List Int},IntsAre vs ns→vs.length=ns.length
  | _,_,.nil=>rfl
  | _,_,.cons _ _ h=>by simp [gY h]
theorem lI{rs:List (List Int)}{p:Array Nat}{n:Nat}(hp:l8 n p)(hs:SA (fun i j=>decide (rs.getD i [] < rs.getD j [])) p n):(p.toList.map fun i=>rs.getD i []).Pairwise (· ≤·):=by
  rw [List.pairwise_iff_getElem]
  intro i j hi hj hij
  rw [List.length_map,Array.length_toList,hp.sz] at hi hj
  have:=hs i j hij hj
  simp only [decide_eq_false_iff_not,List.not_lt] at this
  have ei:gA p i=p[i]'(by rw [hp.sz];exact hi):=by simp [gA,Array.getD,hp.sz,hi]
  have ej:gA p j=p[j]'(by rw [hp.sz];exact hj):=by simp [gA,Array.getD,hp.sz,hj]
  rw [ei,ej] at this
  simpa using this
theorem lE{α:Type}(l:List α)(d:α):(List.range l.length).map (fun i=>l.getD i d)=l:=by
  refine List.ext_getElem? fun i=>?_
  rw [List.getElem?_map]
  by_cases h:i < l.length
  · rw [List.getElem?_range h];simp [h]
  · rw [List.getElem?_eq_none (by simp;lia),List.getElem?_eq_none (by lia)];rfl
theorem pD{rs:List (List Int)}{p:Array Nat}(hp:l8 rs.length p)(hs:SA (fun i j=>decide (rs.getD i [] < rs.getD j [])) p rs.length):(p.toList.map fun i=>rs.getD i [])=dk rs:=by
  refine wc ?_ (lI hp hs)
  have q:p.toList.Perm (List.range rs.length):=by simpa using Array.perm_iff_toList_perm.mp hp.pm
  have:=q.map fun i=>rs.getD i []
  rwa [lE] at this
theorem mX{us:List V}{vs:List Value}(h:aE us vs):∀(p:List Nat),(∀i∈p,i < us.length)→aE (p.map fun i=>us.getD i .non) (p.map fun i=>vs.getD i Value.none)
  | [],_=>.nil
  | i::p,hp=>by
    refine .cons ?_ (mX h p fun j hj=>hp j (List.mem_cons_of_mem _ hj))
    have hi:=hp i (by simp)
    obtain⟨u,h1,h2⟩:=h.get (i:=i) (x:=us[i]) (List.getElem?_eq_getElem hi)
    simp only [List.getD_eq_getElem?_getD,h1,List.getElem?_eq_getElem hi,Option.getD_some]
    exact h2
def nZ(K:PySem.W.Frag):List V→Hp→VK→Prop:=fun xs H Q=>∃(a:Addr) (us:List V) (rs:List (List Int)),xs=[.ref a]∧dP K H a us∧BK K H us rs∧(∀r∈rs,r≠[])∧rs.length < 64∧
  ∀(p:List Nat) (l:Addr) (H':Hp),(∀i∈p,i < rs.length)→(p.map fun i=>rs.getD i [])=dk rs→ar H H'→H l=none→H' l=some (.lst (p.map fun i=>us.getD i .non))→Q (.ref l) H'
theorem qb:ce X (.builtin "sorted") (nZ X.K):=by
  intro pins s σ H xs us0 Q I r h
  obtain⟨a,us,rs,rfl,hs,⟨ul,hr⟩,hne,h64,q⟩:=h
  obtain⟨u,rfl,ru⟩:=g_ r
  cases ru
  obtain⟨its,rv,p0,hz⟩:=I.list hs
  have hl:=rv.length
  have rows:∀(i:Nat) (r:List Int),rs[i]?=some r→r≠[]∧∃v,its[i]?=some v∧tH s.heap v r:=fun i r e=>by
    obtain⟨p,h1,h2⟩:=hr i r e
    obtain⟨v,h3,h4⟩:=rv.get h1
    obtain⟨xs,rx,⟨o,h5,h6,n,h7⟩,_⟩:=I.tuple h2
    exact⟨hne r (List.mem_of_getElem? e),v,h3,p,o,xs,n,h4,h5,h6,h7,iJ rx⟩
  refine pN p0.isList (by lia) (κ:=tuples' true) (DY rs) (fun l2 h' kp Q' hq=>?_) (fun h' kp i j C hi hj hc=>?_) fun p hp hss=>?_
  · obtain⟨fs,t,fl,hf⟩:=ly (h:=h') its rs (by lia) fun i r e=>let ⟨n,v,x,y⟩:=rows i r e;⟨n,v,x,y.kept kp⟩
    refine kat_kind (fs:=fs) (T:=.type "int") t (by lia) (fun v hv=>?_) rfl hq
    obtain⟨n,t,rfl⟩:=hf v hv
    exact Looks.of_pure rfl
  · have gi:rs[i]?=some rs[i]:=List.getElem?_eq_getElem (by lia)
    have gj:rs[j]?=some rs[j]:=List.getElem?_eq_getElem (by lia)
    obtain⟨-,v,h1,h2⟩:=rows i _ gi
    obtain⟨-,v2,h3,h4⟩:=rows j _ gj
    obtain⟨a1,o1,xs,n1,rfl,e2,e3,e4,e5⟩:=h2.kept kp
    obtain⟨a2,o2,ys,n2,rfl,f2,f3,f4,f5⟩:=h4.kept kp
    rw [List.getD_eq_getElem?_getD,List.getD_eq_getElem?_getD,h1,h3,Option.getD_some,Option.getD_some]
    refine kat_lt e2 e4 f2 f4 (uZ 0 e5 f5 ?_)
    rw [List.size_toArray,List.size_toArray,gY e5,gY f5,u_]
    have e:(decide (rs.getD i [] < rs.getD j []))=decide (rs[i] < rs[j]):=by
      rw [List.getD_eq_getElem?_getD,List.getD_eq_getElem?_getD,gi,gj];rfl
    rw [e] at hc
    exact hc
  · have hn:its.length=rs.length:=by lia
    rw [hn] at hp hss
    have hpl:∀i∈p.toList,i < rs.length:=fun i hi=>by
      have q:p.toList.Perm (List.range rs.length):=by simpa using Array.perm_iff_toList_perm.mp hp.pm
      simpa using q.mem_iff.mp hi
    obtain⟨e,he⟩:=sortedAll_at s.heap its (List.toArray (p.toList.map fun i=>its.getD i Value.none))
    have hf:H (s.heap.objs.size+1)=none:=I.hok.fresh (Nat.le_succ _)
    refine⟨.ref (s.heap.objs.size+1),aM H (s.heap.objs.size+1) (.lst (p.toList.map fun i=>us.getD i .non)),I.laid (t':=s.toks) (fun _ _=>sortedAll_old) (Nat.le_succ _) ⟨?_,p.toList.map (fun i=>its.getD i Value.none),e,mX rv _ (fun i hi=>by rw [ul];exact hpl i hi),?_⟩,rfl,q p.toList _ _ hpl (pD hp hss) (ar.new hf) hf ay⟩
    · rw [List.length_map,Array.length_toList,hp.sz]
      exact Nat.le_trans (Nat.le_of_lt h64) (by decide)
    · simpa [seqObj] using he
def di(r:List Int):PyData:=.tuple (r.map .int)
def pB:PyData→Option (List Int)
  | .tuple ds=>(kc ds).bind fun ns=>if ns.isEmpty then none else some ns
  | _=>none
def jU:List PyData→Option (List (List Int))
  | []=>some []
  | d::ds=>(pB d).bind fun r=>(jU ds).map fun rs=>r::rs
theorem vU{d:PyData}{r:List Int}(h:pB d=some r):d=di r∧r≠[]:=by
  unfold pB at h
  split at h
  · obtain⟨ns,h1,h2⟩:=Option.bind_eq_some_iff.mp h
    split at h2
    · cases h2
    · rename_i c
      cases h2
      exact⟨by rw [jg h1];rfl,fun z=>c (by rw [z];rfl)⟩
  · cases h
theorem mP:∀{ds:List PyData} {rs:List (List Int)},jU ds=some rs→ds=rs.map di∧∀r∈rs,r≠[]
  | [],rs,h=>by cases h;exact⟨rfl,fun r hr=>by cases hr⟩
  | d::ds,rs,h=>by
    unfold jU at h
    obtain⟨r,h1,h2⟩:=Option.bind_eq_some_iff.mp h
    obtain⟨rs',h3,rfl⟩:=Option.map_eq_some_iff.mp h2
    obtain⟨e1,e2⟩:=vU h1
    obtain⟨e3,e4⟩:=mP h3
    subst e1 e3
    exact⟨rfl,fun r' hr=>(List.mem_cons.mp hr).elim (fun z=>z ▸ e2) (e4 r')⟩
theorem lO:∀{rs:List (List Int)},(∀r∈rs,r≠[])→jU (rs.map di)=some rs
  | [],_=>rfl
  | r::rs,h=>by
    have ih:=lO fun r' hr=>h r' (List.mem_cons_of_mem r hr)
    have ne:=h r (by simp)
    have e:pB (di r)=some r:=by
      show((kc (r.map .int)).bind fun ns=>if ns.isEmpty then none else some ns)=some r
      rw [jP]
      cases r with
      | nil=>exact absurd rfl ne
      | cons a t=>rfl
    show((pB (di r)).bind fun r'=>(jU (rs.map di)).map fun rs'=>r'::rs')=_
    rw [e,ih];rfl
def lm:En→Rv→Option Rv:=fun e x=>(cx e x).bind fun z=>(jU z.2).bind fun rs=>if z.1=true∧rs.length < 64 then some (.l ((dk rs).map di)) else none
theorem oG{F:Hp}{ds:List PyData}{us:List V}(h:az K F ds us):∀(p:List Nat),(∀i∈p,i < ds.length)→az K F (p.map fun i=>ds.getD i .none) (p.map fun i=>us.getD i .non)
  | [],_=>az.nil
  | i::p,hp=>by
    have hi:=hp i (by simp)
    obtain⟨v,h1,h2⟩:=h.get (List.getElem?_eq_getElem hi)
    refine az.cons ?_ (oG h p fun j hj=>hp j (List.mem_cons_of_mem _ hj))
    simp only [List.getD_eq_getElem?_getD,h1,List.getElem?_eq_getElem hi,Option.getD_some]
    exact h2
theorem yo:cB K (nZ K) (g1 lm):=dQ fun σ H0 F H e x z v Q R A hg q=>by
  unfold lm at hg
  obtain⟨⟨b,ds⟩,h1,hg⟩:=Option.bind_eq_some_iff.mp hg
  obtain⟨rs,h6,hg⟩:=Option.bind_eq_some_iff.mp hg
  split at hg
  case isFalse=>cases hg
  case isTrue hl=>
  cases hg
  obtain⟨hb,hl⟩:=hl
  dsimp only at hb
  subst hb
  obtain⟨p,vs,rfl,d1,s1⟩:=bT R A h1
  rw [if_pos rfl] at s1
  obtain⟨e1,ne⟩:=mP h6
  dsimp only at e1
  subst e1
  have dl:=d1.len
  rw [List.length_map] at dl
  refine⟨p,vs,rs,rfl,s1,⟨dl.symm,fun i r hr=>?_⟩,ne,hl,fun pl l H' hpl hs sm hn hl'=>?_⟩
  · obtain⟨v,h1,h2⟩:=d1.get (i:=i) (d:=di r) (by rw [List.getElem?_map,hr];rfl)
    obtain⟨a,xs,rfl,h3,h4⟩:=bX.mp h2
    have:=az.ints.mp h4
    subst this
    exact⟨a,h1,R.sm.tup h3⟩
  · obtain⟨R4,X4⟩:=R.same sm
    have dp:=oG d1 pl (fun i hi=>by rw [List.length_map];exact hpl i hi)
    have e:(pl.map fun i=>(rs.map di).getD i .none)=(dk rs).map di:=by
      rw [←hs,List.map_map]
      refine List.map_congr_left fun i hi=>?_
      have il:=hpl i hi
      simp [List.getD_eq_getElem?_getD,il]
    rw [e] at dp
    exact q F H' _ X4 R4 ⟨l,_,rfl,hn,R.freeF hn,hl',dp,fun z=>R.ownH l ((R.sameOwn sm l).mp z) hn⟩
theorem uK{e:En}{i:Nat}{rs:List (List Int)}(hi:e[i]?=some (some (.l (rs.map di))))(hn:∀r∈rs,r≠[])(h:rs.length < 64):g1 lm e [.s i]=some (.l ((dk rs).map di)):=by
  simp [g1,lm,cx,hi,lO hn,h]
def cE:En→Rv→Option Rv:=fun e x=>match gr e x with
  | some z=>some z
  | none=>lm e x
theorem qc:ce X (.builtin "sorted") (fun xs H Q=>nY X.K xs H Q∨nZ X.K xs H Q):=fun pins s σ H xs us Q I rv h=>h.elim (qa pins s σ H xs us Q I rv) (qb pins s σ H xs us Q I rv)
theorem yp:cB K (fun xs H Q=>nY K xs H Q∨nZ K xs H Q) (g1 cE):=fun σ H0 F H e xs z vs Q R A hg q=>by
  match xs,A,hg with
  | [x],A,hg=>
    have hg':cE e x=some z:=hg
    unfold cE at hg'
    cases c:gr e x with
    | some y=>rw [c] at hg';exact .inl (yn σ H0 F H e [x] y vs Q R A c (fun F' H' w a b d=>q F' H' w a b (by cases hg';exact d)))
    | none=>rw [c] at hg';exact .inr (yo σ H0 F H e [x] z vs Q R A hg' q)
theorem m8(hK:X.K=K):jG X K "sorted" (g1 cE):=by
  subst hK
  exact⟨.inl ⟨_,_,qc,yp,PyProof.Rows.boot_sorted⟩⟩
theorem oV{e:En}{i:Nat}{r:List Int}{rs:List (List Int)}(hi:e[i]?=some (some (.l ((r::rs).map di))))(hn:∀x∈r::rs,x≠[])(h:(r::rs).length < 64):g1 cE e [.s i]=some (.l ((dk (r::rs)).map di)):=by
  have z:gr e (.s i)=none:=by
    have:cx e (.s i)=some (true,(r::rs).map di):=by simp [cx,hi]
    unfold gr
    rw [this]
    rfl
  show cE e (.s i)=_
  unfold cE
  rw [z]
  exact uK hi hn h
theorem lq{e:En}{i:Nat}{ns:List Int}(hi:e[i]?=some (some (.l (ns.map .int))))(h:ns.length < 64):g1 cE e [.s i]=some (.l ((cW ns).map .int)):=by
  have:=uJ hi h
  show cE e (.s i)=_
  unfold cE
  rw [show gr e (.s i)=_ from this]
theorem uL{e:En}{i:Nat}{rs:List (List Int)}(hi:e[i]?=some (some (.l (rs.map di))))(hn:∀x∈rs,x≠[])(h:rs.length < 64):g1 cE e [.s i]=some (.l ((dk rs).map di)):=by
  cases rs with
  | nil=>
    have:=lq (ns:=[]) hi (by decide)
    rw [this]
    have e1:dk []=[]:=by simp [dk]
    have e2:cW []=[]:=by simp [cW]
    rw [e1,e2];rfl
  | cons r rs=>exact oV hi hn h
end
end L2
namespace L2
open PySem PySem.Spec PyProof.Rows
section
variable{X:Cx}{K:PySem.W.Frag}
variable{o a:Expr}{es:List Expr}{fo:FE}{fs:FA}{apos cpos:Pos}
end
end L2
namespace L2
open PySem PySem.Spec PyProof.Rows
theorem pv{X:Cx}{ix:Nat}{nm:Str}{posn poss:Pos}{elt iter tg:Expr}{ifs:List Expr}{scope:Scope}{pos:Pos}{wi:TI}{g:TG}{tc:TT}{te:TE}(sc0:Scope)(N0:List Str)(cp:List (Nat × Str))(tgN:List Str)
    (hc:X.calm=true)(hsc:X.env.scope=sc0)(hN0:X.N=N0)(hi:PI X tg iter wi)
    (hg:∀C s0 H0 fp,PG (aw X scope cp tgN C s0 H0 fp) tg g)
    (ht:∀C s0 H0 fp,pV (aw X scope cp tgN C s0 H0 fp) ifs tc)
    (he:∀C s0 H0 fp,PE (aw X scope cp tgN C s0 H0 fp) elt te)
    (hk:scope.kind=.function)(hown:∀y∈scope.names,y.2=.cell→scope.names.lookup y.1=some .cell)(hnames:∀y∈scope.names,y.2=.local→scope.names.lookup y.1=some .local)
    (hfr:∀y∈scope.names,y.2=.free→scope.names.lookup y.1=some .free∧sc0.names.lookup y.1=some .cell)
    (hcp:∀p∈cp,N0[p.1]?=some p.2)(hcq:∀p∈cp,sc0.names.lookup p.2=some .cell∧scope.names.lookup p.2=some .free)
    (hNd:X.N.Nodup)(hix:X.N[ix]?=some nm)(hlc:X.env.scope.names.lookup nm=some .local)(hsw:swapsWith (.ListComp elt [⟨tg,iter,ifs,0⟩] scope pos) (some (.Name nm posn)) poss.line X.env=pure true)
    (hs:∀x,foldedSetIterable iter X.env x=pure x:=by intro _;rfl):
    PS X (.Assign [.Name nm posn] (.ListComp elt [⟨tg,iter,ifs,0⟩] scope pos) poss) (yr (l3 cp tgN.length wi g tc te) (rC ix)):=by
  intro pins s σ H D0 I h
  let Q:VK:=fun x H1=>D0.nx (σ.set ix (some x)) H1
  have h:l3 cp tgN.length wi g tc te σ H Q:=h
  have hkind:∀x,X.env.kindOf x=sc0.names.lookup x:=fun x=>by unfold Env.kindOf;rw [hsc]
  have hfree:∀y∈scope.names,y.2=.free→∃c,X.env.cells.lookup y.1=some c:=fun y hy e=>I.ok.has y.1 (.inl (by rw [hkind];exact(hfr y hy e).2))
  rw [exec_Assign_Name_used _ _ _ _ hsw]
  refine wpAny_bind (wpAny_standAt (wpAny_bind ?_))
  unfold evalThenUse
  refine wpAny_bind ?_
  refine wpAny_comprehension_free (use:=some (assign (.Name nm posn) X.env)) rfl hs (gb hfree) hk hnames (wpAny_mono (hi pins s σ H _ I h.go) (fun xv s₁ h₁=>wpAny_mono h₁ (fun itv s₂ h₂=>?_) fun _ _ e=>e) fun _ _ e=>e)
  obtain⟨it,fp,tn,J,H2,rfl,I2,T,st2,f2,hq⟩:=h₂
  refine wpAny_newObj_type ?_
  have hlF:H2 s₂.heap.objs.size=none:=I2.hok.fresh (Nat.le_refl _)
  have I3:au X pins σ (aM H2 s₂.heap.objs.size (.lst [])) {s₂ with heap:=s₂.heap.push {cls:=.type "list",data:=.seq ([]:List Value).toArray}}:=I2.lnew (t':=s₂.toks) .nil (Nat.zero_le _)
  obtain⟨W,⟨m0,w0⟩,turn⟩:=hq _ hlF
  have f3:∀b∈fp,eV X pins (aM H2 s₂.heap.objs.size (.lst [])) b:=fun b hb=>by
    obtain⟨f0,fr⟩:=f2 b hb
    obtain⟨o,ho,_⟩:=T.obj _ _ st2 b hb
    exact⟨by rw [aC (Nat.ne_of_lt (Heap.lt_size ho))];exact f0,fr⟩
  have st3:tn 0 (s₂.heap.push {cls:=.type "list",data:=.seq ([]:List Value).toArray}):=T.keep _ _ _ st2 fun b _ o e=>Heap.get?_push_of_some _ e
  generalize hD:s₂.heap.objs.size=D at*
  generalize hs3:({s₂ with heap:=s₂.heap.push {cls:=.type "list",data:=.seq ([]:List Value).toArray}}:Shared)=s₃ at*
  have hst3:tn 0 s₃.heap:=by rw [←hs3];exact st3
  refine rG (fun h₁ hns₁ old hownC apC=>?_)
  generalize hC:s₃.heap.objs.size=C at*
  have nC:∀b o,s₃.heap.get? b=some o→b≠C:=fun b o e=>by rw [←hC];exact Nat.ne_of_lt (Heap.lt_size e)
  have hHC:(aM H2 D (.lst [])) C=none:=I3.hok.fresh (by rw [hC];exact Nat.le_refl _)
  have clS:∀x c,(bM X.env scope.names []).lookup x=some c→X.env.cells.lookup x=some c:=fun x c e=>eK _ _ x c hfree (fun _ _ z=>by simp at z) e
  have clH:∀x,(∃y∈scope.names,y.1=x∧y.2=.free)→∃c,(bM X.env scope.names []).lookup x=some c:=fun x e=>gR _ _ x (.inl e)
  have clN:∀x,(¬∃y∈scope.names,y.1=x∧y.2=.free)→(bM X.env scope.names []).lookup x=none:=fun x q=>jK _ _ x q rfl
  have two:∀x c,(cellsFrom (C+1) scope.names (bM X.env scope.names [])).lookup x=some c→(cellsFrom (C+1) scope.names []).lookup x=some c∨(bM X.env scope.names []).lookup x=some c:=fun x c e=>by
    rw [aO,List.lookup_append] at e
    cases q:(cellsFrom (C+1) scope.names []).lookup x with
    | some d=>rw [q] at e;exact .inl e
    | none=>rw [q] at e;exact .inr e
  have ltC:∀x c,(bM X.env scope.names []).lookup x=some c→c < C:=fun x c e=>by
    obtain⟨v,o,ho,_⟩:=I3.cell x c (clS x c e)
    rw [←hC];exact Heap.lt_size ho
  have clF:∀x,(∃y∈scope.names,y.1=x∧y.2=.free)→(cellsFrom (C+1) scope.names (bM X.env scope.names [])).lookup x=(bM X.env scope.names []).lookup x:=fun x ⟨y,hy,e1,e2⟩=>by
    rw [aO,List.lookup_append]
    cases q:(cellsFrom (C+1) scope.names []).lookup x with
    | none=>rfl
    | some d=>
      exfalso
      obtain⟨z,hz,z1,z2⟩:=eA scope.names _ x d q
      have a1:=hown z hz z2
      have a2:=(hfr y hy e2).1
      rw [z1] at a1;rw [e1,a1] at a2;cases a2
  have hasC:∀x,(∃y∈scope.names,y.1=x∧(y.2=.free∨y.2=.cell))→∃c,(cellsFrom (C+1) scope.names (bM X.env scope.names [])).lookup x=some c:=fun x ⟨y,hy,e1,e2⟩=>by
    rcases e2 with e2 | e2
    · rw [clF x ⟨y,hy,e1,e2⟩];exact clH x ⟨y,hy,e1,e2⟩
    · rw [aO,List.lookup_append]
      obtain⟨c,hc⟩:=dR scope.names (C+1) x ⟨y,hy,e1,e2⟩
      exact⟨c,by rw [hc];rfl⟩
  have ok':(aw X scope cp tgN C s₃ (aM H2 D (.lst [])) fp).Ok:=by
    refine⟨I.ok.mod,hk,I.ok.glob,I.ok.blt,by rw [←hC];exact Nat.le_refl _,fun x y c e1 e2=>?_,fun x e=>hasC x (iS e),fun x c e1 e2=>?_,I.ok.hd,I.ok.frames,.inl rfl,fun b hb=>?_,fun b o e=>I3.bs b o e,?_,fun b o e hb=>?_,fun b hb z=>?_,I3.stack,fun b hb=>I3.stkFree b hb⟩
    · rcases two x c e1 with e1 | e1<;>rcases two y c e2 with e2 | e2
      · exact name_of_addr apC (mem_of_lookup e1) (mem_of_lookup e2)
      · exact(Nat.lt_irrefl _ (Nat.lt_trans (ltC y c e2) (hownC x c e1).2)).elim
      · exact(Nat.lt_irrefl _ (Nat.lt_trans (ltC x c e1) (hownC y c e2).2)).elim
      · exact I.ok.inj x y c (clS _ _ e1) (clS _ _ e2)
    · rcases two x c e2 with e2 | e2
      · show s₃.heap.objs.size≤c
        have:=(hownC x c e2).2
        lia
      · exfalso
        have e1':scope.names.lookup x=some .local∨scope.names.lookup x=some .cell:=by simpa [aw] using e1
        by_cases q:∃y∈scope.names,y.1=x∧y.2=.free
        · obtain⟨y,hy,y1,y2⟩:=q
          have z:=(hfr y hy y2).1
          rw [y1] at z
          rcases e1' with w | w<;>(rw [z] at w;cases w)
        · rw [clN x q] at e2;cases e2
    · obtain⟨f0,f1,f4,f5,f6,f7⟩:=f3 b hb
      obtain⟨o,ho,_⟩:=T.obj _ _ hst3 b hb
      exact⟨nC b o ho,fun x c e=>(two x c e).elim (fun e z=>absurd (hownC x c e).2 (by rw [z,←hC];exact Nat.not_le.mpr (Nat.lt_succ_of_lt (Heap.lt_size ho)))) (fun e=>f6 x c (clS x c e))⟩
    · exact Nat.le_trans I.ok.bsz I3.sz
    · obtain⟨f0,f1,f4,f5,f6,f7⟩:=f3 b hb
      rcases f5 with z | z
      · exact I.ok.noex b o e z
      · have:=(I.ok.bs b o e).1
        exact absurd (Nat.lt_of_lt_of_le (Heap.lt_size this) z) (Nat.lt_irrefl _)
    · obtain⟨f0,f1,f4,f5,f6,f7⟩:=f3 b hb
      rcases List.mem_cons.mp (I3.stkSub b z) with z | z
      · exact f1 z
      · exact f4 z
  have I4:au (aw X scope cp tgN C s₃ (aM H2 D (.lst [])) fp) [] (dq cp tgN.length σ) (aM H2 D (.lst [])) {s₃ with heap:=h₁}:=by
    refine⟨ok',rfl,I3.bare,Un.kept old,⟨_,hns₁,fun i x v e1 e2 e3=>?_⟩,fun x c e=>?_,hHC,fun x c e=>(two x c e).elim (fun e=>I3.hok.fresh (by rw [hC];have:=(hownC x c e).2;lia)) (fun e=>I3.freeC x c (clS x c e)),fun p hp=>by simp [aw] at hp,I3.hok.kept old,by simp [dq,aw]⟩
    · have hlt:i < cp.length:=by
        by_cases q:i < cp.length
        · exact q
        · exfalso
          unfold dq at e2
          rw [List.getElem?_append_right (by simp;lia)] at e2
          rw [List.getElem?_replicate] at e2
          split at e2<;>cases e2
      have e1':(cp.map (·.2))[i]?=some x:=by
        have e1'':(cp.map (·.2)++tgN)[i]?=some x:=e1
        rwa [List.getElem?_append_left (by simp;exact hlt)] at e1''
      have e2':(cp.map (fun p=>(σ[p.1]?).join))[i]?=some (some v):=by
        unfold dq at e2
        rwa [List.getElem?_append_left (by simp;exact hlt)] at e2
      rw [List.getElem?_map,List.getElem?_eq_getElem hlt] at e1' e2'
      have ex:(cp[i]).2=x:=by simpa using e1'
      have ev:(σ[(cp[i]).1]?).join=some v:=by simpa using e2'
      have ev':σ[(cp[i]).1]?=some (some v):=by
        cases q:σ[(cp[i]).1]? with
        | none=>rw [q] at ev;cases ev
        | some z=>rw [q] at ev;simp only [Option.join_some] at ev;rw [ev]
      have hN:=hcp cp[i] (List.getElem_mem hlt)
      rw [←hN0] at hN
      obtain⟨hcl,hcf⟩:=hcq cp[i] (List.getElem_mem hlt)
      rw [ex] at hN hcl hcf
      obtain⟨m,hn,hl⟩:=I3.loc
      obtain⟨u,r,l⟩:=hl _ x v hN ev' (.inr (.inl (by rw [hsc];exact hcl)))
      refine⟨u,r,.inr ?_⟩
      rcases l with ⟨k1,_⟩ | ⟨k1,c,hcc,o,ho,hd⟩
      · rw [hkind,hcl] at k1;cases k1
      · have e3':(relabel scope X.env).names.lookup x=some .local∨(relabel scope X.env).names.lookup x=some .cell∨(relabel scope X.env).names.lookup x=some .free:=e3
        have nl:(relabel scope X.env).names.lookup x=some .cell∨(relabel scope X.env).names.lookup x=some .free:=by
          rcases e3' with z | z | z
          · exact absurd z (bU hcf)
          · exact .inl z
          · exact .inr z
        have fr:∃y∈scope.names,y.1=x∧y.2=.free:=⟨(x,.free),mem_of_lookup hcf,rfl,rfl⟩
        obtain⟨c',hc'⟩:=clH x fr
        have:=clS x c' hc'
        rw [hcc] at this;cases this
        exact⟨nl,c,(clF x fr).trans hc',o,old c o ho,hd⟩
    · rcases two x c e with e | e
      · exact⟨none,(hownC x c e).1⟩
      · obtain⟨v,o,ho,hd⟩:=I3.cell x c (clS x c e)
        exact⟨v,o,old c o ho,hd⟩
  have hst4:tn 0 h₁:=T.keep _ _ _ hst3 fun b _ o e=>old b o e
  have loop:codeAny (model X.prog X.w) X.A (.compLoop (.ListComp elt [⟨tg,iter,ifs,0⟩] scope pos) 0 (.ref it) (.ref D) (compEnvC scope (cellsFrom (C+1) scope.names (bM X.env scope.names [])) C X.env))
      (compPost (model X.prog X.w) X.A X.xe (some (assign (.Name nm posn) X.env)) (fun _ s'=>wpAny (model X.prog X.w) X.A (pure ()) (fun _ s''=>wpAny (model X.prog X.w) X.A (pure Flow.next) (SP X pins D0) X.xe s'') X.xe s') (.ref D) C) {s₃ with heap:=h₁}:=by
    refine eB (fun n s'=>∃i σ' H',au (aw X scope cp tgN C s₃ (aM H2 D (.lst [])) fp) [] σ' H' s'∧tn i s'.heap∧(∀b∈fp,H' b=none)∧W i n σ' H') ?_ (n0:=m0) ⟨0,_,_,I4,hst4,fun b hb=>(f3 b hb).1,w0⟩
    rintro n s5 ⟨i,σ5,H5,I5,st5,fr5,w5⟩
    have stat:∀{H':Hp},(∀b∈fp,H' b=none)→∀b∈fp,eV (aw X scope cp tgN C s₃ (aM H2 D (.lst [])) fp) [] H' b:=fun hn b hb=>
      ⟨hn b hb,(ok'.exf b hb).1,ok'.exfs b hb,.inl hb,(ok'.exf b hb).2,fun p hp=>by simp [aw] at hp⟩
    rcases turn i n σ5 H5 w5 with ⟨stop,qn⟩ | ⟨go,N,hN,step⟩
    · refine bL (T.done (aw X scope cp tgN C s₃ (aM H2 D (.lst [])) fp) rfl rfl rfl hc i [] s5 σ5 H5 (fun _ _=>False) I5 (stat fr5) st5 stop) fun r s6 ⟨hr,I6⟩=>?_
      subst hr
      refine⟨fun _=>?_,fun v z=>by cases z⟩
      obtain⟨m,hn,_⟩:=I6.loc
      have I7:au X pins σ H5 s6:=by
        have key:∀h':Heap,Heap.SameBut C s6.heap h'→au X pins σ H5 {s6 with heap:=h'}:=fun h' sb=>by
          have ub:=I6.base
          have kp:∀b u,b≠C→s6.heap.get? b=some u→h'.get? b=some u:=fun b u ne e=>sb.extBut b u ne e
          have nit:∀b u,H5 b=some u→b≠C:=fun b u e z=>by
            have:=I6.free
            rw [z] at e
            rw [show H5 C=none from this] at e;cases e
          refine I3.call' (s':={s6 with heap:=h'}) (ch:=fp) I6.os ⟨fun b o e n hb hx=>kp b o (nC b o e) (ub.keep b o e n hb hx),fun b o e n hb hx=>?_,ub.free,fun b o e hx=>?_,ub.tups,ub.frzs,ub.tbls⟩ (fun b u e=>?_) I6.bare (fun b hb=>?_)
          · obtain⟨sl,q⟩:=ub.slot b o e n hb hx
            exact⟨sl,kp b _ (nC b o e) q⟩
          · obtain⟨o',q⟩:=ub.there b o e hx
            exact⟨o',kp b _ (nC b o e) q⟩
          · refine(I6.hok b u e).stay (fun c v hc q=>kp c v ?_ q) (fun _ q=>q) fun _ _ q=>q
            rcases hc with z | z
            · rw [z];exact nit b u e
            · exact nit c _ z
          · obtain⟨f0,f1,f4,f5,f6,f7⟩:=f3 b hb
            exact⟨f5,f1,f6,f7⟩
        exact key s6.heap ⟨rfl,fun _ _=>rfl⟩
      have fC:eV X pins H5 C:=I3.fpOk (by rw [hC];exact Nat.le_refl _) I6.free
      show wpAny (model X.prog X.w) X.A (assign (.Name nm posn) X.env (.ref D)) _ X.xe s6
      refine wpAny_assign_Name (jX (v:=.ref D) I7 hNd hix (Or.inl hlc) rfl (fun s' I' hsb=>?_) (Or.inr hlc))
      obtain⟨a,sb,ha⟩:=hsb
      have nCa:C≠a:=by
        rcases ha with z | z
        · rw [z];exact fC.2.1
        · exact fun e=>fC.2.2.2.2.1 _ _ z e.symm
      obtain⟨oN,esN,epN,hoN,rN⟩:=hn
      refine⟨m,⟨oN,esN,epN,(sb.2 C nCa).trans hoN,rN⟩,fun h' sb'=>wpAny_pure (wpAny_pure ?_)⟩
      have I8:au X pins (σ.set ix (some (.ref D))) H5 {s' with heap:=h',toks:=s'.toks}:=I'.turnedL (t':=s'.toks) (fp:=[C]) (fun b hb=>by rw [List.mem_singleton.mp hb];exact fC) fun b o nb e=>sb'.extBut b o (by simpa using nb) e
      exact⟨_,H5,I8,qn⟩
    · refine bL (T.item (aw X scope cp tgN C s₃ (aM H2 D (.lst [])) fp) rfl rfl rfl hc i [] s5 σ5 H5 (fun _ _=>False) I5 (stat fr5) st5 go) fun r s6 ⟨u,hr,h6⟩=>?_
      subst hr
      refine⟨fun z=>(by cases z),fun v z=>?_⟩
      cases z
      refine bL h6 fun _ s7 ⟨x,H7,I7,r7,y7,st7,fr7⟩=>?_
      have I7':=I7.pinned (stat fr7) (T.obj _ _ st7)
      have again:∀{σ8:L2.St} {H8:Hp} {s8:Shared},au (aw X scope cp tgN C s₃ (aM H2 D (.lst [])) fp) ([]++hG fp s7.heap) σ8 H8 s8→N σ8 H8→∃m,m < n∧∃i σ' H',au (aw X scope cp tgN C s₃ (aM H2 D (.lst [])) fp) [] σ' H' s8∧tn i s8.heap∧(∀b∈fp,H' b=none)∧W i m σ' H':=fun{σ8 H8 s8} I8 n8=>by
        obtain⟨m',hm,w8⟩:=hN σ8 H8 n8
        refine⟨m',hm,i+1,σ8,H8,I8.unpinned,T.keep _ _ _ st7 fun b hb o e=>(I8.pin (b,o) (List.mem_append_right _ (List.mem_append_right _ (bG hb e)))).1,fun b hb=>?_,w8⟩
        obtain⟨o,e,d⟩:=T.obj _ _ st7 b hb
        exact(I8.pin (b,o) (List.mem_append_right _ (List.mem_append_right _ (bG hb e)))).2.1
      refine bL (hg C s₃ (aM H2 D (.lst [])) fp _ s7 σ5 H7 x u _ I7' r7 (step x H7 y7)) fun _ s8 ⟨σ8,H8,I8,q8⟩=>?_
      refine bL (ht C s₃ (aM H2 D (.lst [])) fp _ s8 σ8 H8 _ I8 q8) fun ok s9 ⟨H9,I9,q9⟩=>?_
      cases ok with
      | false=>
        rw [if_neg Bool.false_ne_true] at q9 ⊢
        exact again I9 q9
      | true=>
        rw [if_pos rfl] at q9 ⊢
        refine bL (he C s₃ (aM H2 D (.lst [])) fp _ s9 σ8 H9 _ I9 q9) fun v s10 ⟨xv,H10,I10,r10,ys,hl,hz,n10⟩=>?_
        refine bL (fN _ s10 σ8 H10 (.ref D) [xv] (.ref D) [v] (fun _ H=>N σ8 H) I10 rfl (.cons r10 .nil) ⟨D,ys,xv,rfl,rfl,hl,hz,n10⟩) fun _ s11 ⟨_,H11,I11,_,q11⟩=>?_
        exact again I11 q11
  exact codeAny_compStart_list loop (T.self X.A 0 _ _ _ hst4 loop)
theorem qH{X:Cx}{K:PySem.W.Frag}{pos:Pos}{ix:Nat}{nm:Str}{posn poss:Pos}{elt iter tg:Expr}{ifs:List Expr}{scope:Scope}{fi:FI}{g:FG}{ft:FT}{fe:FE}{W:List Nat}(cp:List (Nat × Str))(tgN:List Str)
    (hKx:X.K=K)(hc:X.calm=true)(hi:PI X tg iter (fI K fi))
    (hg:∀C s0 H0 fp,PG (aw X scope cp tgN C s0 H0 fp) tg (fG K g W))
    (ht:∀C s0 H0 fp,pV (aw X scope cp tgN C s0 H0 fp) ifs (fT K ft))
    (he:∀C s0 H0 fp,PE (aw X scope cp tgN C s0 H0 fp) elt (fE K fe))
    (hk:scope.kind=.function)(hch:wV X.env.scope scope X.N cp W=true)
    (hNd:X.N.Nodup)(hix:X.N[ix]?=some nm)(hlc:X.env.scope.names.lookup nm=some .local)(hsw:swapsWith (.ListComp elt [⟨tg,iter,ifs,0⟩] scope pos) (some (.Name nm posn)) poss.line X.env=pure true)
    (hs:∀x,foldedSetIterable iter X.env x=pure x):
    PS X (.Assign [.Name nm posn] (.ListComp elt [⟨tg,iter,ifs,0⟩] scope pos) poss) (fS K (bj ix (bO cp tgN.length fi g ft fe)) [ix]):=by
  subst hKx
  simp only [wV,Bool.and_eq_true,List.all_eq_true,decide_eq_true_eq] at hch
  obtain⟨⟨⟨h1,h2⟩,h3⟩,h4⟩:=hch
  refine(pv X.env.scope X.N cp tgN hc rfl rfl hi hg ht he hk (fun y hy e=>?_) (fun y hy e=>?_) (fun y hy e=>?_) (fun p hp=>?_) (fun p hp=>?_) hNd hix hlc hsw hs).mono fun D σ H h=>by
    obtain⟨F,e,fl,R,hf,q⟩:=h
    unfold bj at hf
    obtain⟨⟨r,e1⟩,hh1,hf⟩:=Option.bind_eq_some_iff.mp hf
    obtain⟨e2,hh2,hf⟩:=Option.map_eq_some_iff.mp hf
    cases hf
    refine jD h3 h4 ⟨F,e,r,e1,R,hh1,fun F1 H1 v X1 R1 A1=>?_⟩
    obtain⟨x,R2⟩:=qG R X1 R1 A1 hh2
    exact q F1 H1 _ x R2
  · have:=(h1 y hy).1.2;rw [e] at this;simpa using this
  · have:=(h1 y hy).1.1;rw [e] at this;simpa using this
  · have:=(h1 y hy).2;rw [e] at this;simpa using this
  · have:=(h2 p hp).1.1;simpa using this
  · have a:=(h2 p hp).1.2;have c:=(h2 p hp).2;exact⟨by simpa using a,by simpa using c⟩
end L2
namespace V59
open PySem PySem.Spec PyProof.Rows L2
variable{P:Program}{w:World}{K:W.Frag}{mg:Str→Option Value}{base:Heap}{f:Addr}{fd:FuncData}
local macro_rules|`(tactic|trivial)=>`(tactic|first|exact .inl rfl|exact .inr rfl|assumption)
local macro_rules|`(¬$n:num)=>`(@qw _ _ $n _ _ (by rfl) (by rfl) (by decide))
local macro_rules|`($a∘$b)=>`(@D2 _ _ _ _ _ _ $a $b (by rfl))
def top(i:Nat):Stmt:=PySem.Challenge.pw_askedpairs_k59_charges_found.main.body.getD i (.Pass ⟨0,0,0,0⟩)
theorem yW{α:Type u}{β:Type v}{f:α→β}:List.map f []=[]:=rfl
theorem yV{α:Type u}{β:Type v}{f:α→β}{a:α}{l:List α}:List.map f (a::l)=f a::List.map f l:=rfl
theorem yR{α:Type u}{l:List α}:[]++l=l:=rfl
theorem yQ{α:Type u}{a:α}{l m:List α}:(a::l)++m=a::(l++m):=rfl
theorem yT{α:Type u}{a:α}{l:List α}:(a::l)[0]?=some a:=rfl
theorem yU{α:Type u}{a:α}{l:List α}{i:Nat}:(a::l)[i+1]?=l[i]?:=rfl
theorem yS{α:Type u}{β:Type v}{a:α}{f:α→Option β}:Option.bind (some a) f=f a:=rfl
theorem yX{α:Type u}{β:Type v}{a:α}{f:α→β}:Option.map f (some a)=some (f a):=rfl
abbrev ed:Stmt:=top 1
abbrev ee:Stmt:=top 2
abbrev ef:Stmt:=top 4
abbrev aZ:Stmt:=top 6
abbrev bK:Stmt:=top 7
abbrev bS:Stmt:=top 9
abbrev jt:Stmt:=top 11
abbrev js:Stmt:=top 12
abbrev hU:Stmt:=top 13
abbrev pE:Stmt:=top 14
abbrev pF:Stmt:=top 15
abbrev lR:Stmt:=top 16
abbrev lS:Stmt:=top 17
abbrev hR:Stmt:=top 18
abbrev jw:Stmt:=top 19
abbrev lT:Stmt:=top 20
abbrev pG:Stmt:=top 21
abbrev lQ:Stmt:=top 22
abbrev aR:Stmt:=top 23
abbrev fW:Stmt:=top 24
abbrev jV:Stmt:=top 25
abbrev iq:Stmt:=top 26
abbrev fR:Stmt:=top 27
abbrev fV:Stmt:=top 28
abbrev fU:Stmt:=top 29
abbrev jv:Stmt:=top 30
abbrev lU:Stmt:=top 31
structure jE (mg:Str→Option Value):Prop where
  b_abs:mg "abs"=none
  b_len:mg "len"=none
  b_min:mg "min"=none
  b_max:mg "max"=none
  b_range:mg "range"=none
  b_repr:mg "repr"=none
  b_tuple:mg "tuple"=none
  b_int:mg "int"=none
  b_sorted:mg "sorted"=none
  b_zip:mg "zip"=none
  b_enumerate:mg "enumerate"=none
  b_isinstance:mg "isinstance"=none
  b_bool:mg "bool"=none
  b_any:mg "any"=none
  b_all:mg "all"=none
  b_list:mg "list"=none
noncomputable def jZ:FS:=(bE (kj (rX (ku "int") (af 0)) (pR (rX (ku "bool") (af 0)))))
noncomputable def dZ:FM:=iL 1 0 [] jZ
theorem jx:aA ["thing"] ["thing"] (ap ed):=⟨rfl,rfl,rfl,by decide+kernel,rfl,by decide+kernel,by decide+kernel⟩
theorem nI(h:bD K mg "is_number" ed f fd ["thing"])(T:jE mg):aJ P w K mg base cy 1 f fd ["thing"] (cD K 1 dZ):=by
  have nd:=jx.nd
  exact h.fn jx rfl rfl (fun cdv A outer s H E hr=>(@ao _ _ _ _ _ (@ax _ _ _ _ _ (@nS _ _ _ _ _ _ _ _ (@mM _ _ _ _ _ _ _ _ "int" rfl (by decide) rfl T.b_isinstance rfl T.b_int PyProof.Rows.boot_int (by decide) (by decide) (¬0) (by rfl) (by rfl)) (@nV _ _ _ _ _ _ (@AR _ _ _ _ _ (@mM _ _ _ _ _ _ _ _ "bool" rfl (by decide) rfl T.b_isinstance rfl T.b_bool PyProof.Rows.boot_bool (by decide) (by decide) (¬0) (by rfl) (by rfl))))))))
noncomputable def gP:FS:=(bE (kj (rX (ku "tuple") (af 0)) (av (c_ false) (aN (g1 fK) (ac (af 0) am)) (af 1))))
noncomputable def cT:FM:=iL 2 0 [] gP
theorem jy:aA ["thing","many"] ["thing","many"] (ap ee):=⟨rfl,rfl,rfl,by decide+kernel,rfl,by decide+kernel,by decide+kernel⟩
theorem nJ(h:bD K mg "is_row_of" ee f fd ["thing","many"])(T:jE mg):aJ P w K mg base cy 1 f fd ["thing","many"] (cD K 2 cT):=by
  have nd:=jy.nd
  exact h.fn jy rfl rfl (fun cdv A outer s H E hr=>(@ao _ _ _ _ _ (@ax _ _ _ _ _ (@nS _ _ _ _ _ _ _ _ (@mM _ _ _ _ _ _ _ _ "tuple" rfl (by decide) rfl T.b_isinstance rfl T.b_tuple PyProof.Rows.boot_tuple (by decide) (by decide) (¬0) (by rfl) (by rfl)) (@nV _ _ _ _ _ _ (@hJ _ _ _ _ _ _ _ _ _ (@p8 _ _ _ rfl hr) (@a' _ _ _ _ _ _ _ _ _ (@b_len _ _ rfl) (by rfl) T.b_len ((¬0)∘ae) (by decide) (by decide) (by rfl) (by rfl)) (¬1) (a_ _)))))))
noncomputable def j3:FS:=(bE (wy (av cC (av cC (af 0) (vC (.int 1))) (af 1)) jk (iy (vC (.int 2)))))
noncomputable def cU:FM:=iL 2 0 [] j3
theorem jz:aA ["web","tie"] ["web","tie"] (ap ef):=⟨rfl,rfl,rfl,by decide+kernel,rfl,by decide+kernel,by decide+kernel⟩
theorem nK(h:bD K mg "things_of" ef f fd ["web","tie"])(T:jE mg):aJ P w K mg base cy 1 f fd ["web","tie"] (cD K 2 cU):=by
  have nd:=jz.nd
  exact h.fn jz rfl rfl (fun cdv A outer s H E hr=>(@ao _ _ _ _ _ (@ax _ _ _ _ _ (@ii _ _ _ _ _ _ _ _ _ _ rfl (@aT _ _ _ _ _ _ _ rfl (@aT _ _ _ _ _ _ _ rfl (¬0) ag (fun _ _=>rfl)) (¬1) (fun _ _=>rfl)) (@ij _ _) (@ik _ _ _ _ ag)))))
noncomputable def eQ:FI:=(gu (dt 2 cU (ac (af 0) (ac (af 1) am))))
noncomputable def bC:FE:=(av (jF false) (af 2) (dt 2 cU (ac (af 0) (ac (af 1) am))))
noncomputable def dB:FS:=(aF (iY (iv (aH (aN (g1 (fL mD)) (ac (bO [(0,"web"),(2,"other")] 1 eQ (aj 2) cJ bC) am))))
    (bE (vC (.bool false)))
    et)
    (bE (av zG (av cC (av cC (av cC (af 0) (vC (.int 1))) (af 1)) (vC (.int 3))) (av cC (av cC (av cC (af 0) (vC (.int 1))) (af 2)) (vC (.int 3))))))
noncomputable def aQ:FM:=iL 3 0 (([]++[])++[]) dB
theorem e_:aA ["web","tie","other"] ["web","tie","other"] (ap aZ):=⟨rfl,rfl,rfl,by decide+kernel,rfl,by decide+kernel,by decide+kernel⟩
theorem jm(h:bD K mg "may_be_charged" aZ f fd ["web","tie","other"])(T:jE mg){f_things_of:Addr}{e_things_of:FuncData}(h_things_of:bD K mg "things_of" ef f_things_of e_things_of ["web","tie"])(G_things_of:aJ P w K mg base cy 1 f_things_of e_things_of ["web","tie"] (cD K 2 cU)):aJ P w K mg base cy 2 f fd ["web","tie","other"] (cD K 3 aQ):=by
  have nd:=e_.nd
  exact h.fn e_ rfl rfl (fun cdv A outer s H E hr=>(@ah _ _ _ _ _ _ _ _ (@cI _ _ _ _ _ _ _ _ _ _ _ (@eR _ _ _ _ _ (@cQ _ _ _ _ (@a' _ _ _ _ _ _ _ _ _ (@b_any _ _ _ rfl hr) (by rfl) T.b_any ((@jS _ _ _ _ _ _ _ _ _ _ _ _ _ (ap aZ) ["web","tie","other"] [(0,"web"),(2,"other")] ["thing"] rfl rfl rfl (@ek _ _ _ _ _ rfl (@ba _ _ _ _ _ _ _ _ _ _ _ _ _ _ _ h_things_of G_things_of (hr.mono (by decide)) ((¬0)∘((¬1)∘ae)) (by rfl) (by decide) (by rfl) (by rfl)))
        (fun C s0 H0 fp=>(@aI _ _ _ 2 _ (show List.Nodup (["web","other","thing"]:List Str) by decide+kernel) rfl (Or.inl rfl) (by trivial))) (fun C s0 H0 fp=>(@io _ _))
        (fun C s0 H0 fp=>(@hJ _ _ _ _ _ _ _ _ _ (@tV _ _ _ rfl hr) (¬2) (@ba _ _ _ _ _ _ _ _ _ _ _ _ _ _ _ h_things_of G_things_of (hr.mono (by decide)) ((¬0)∘((¬1)∘ae)) (by rfl) (by decide) (by rfl) (by rfl)) (by with_unfolding_all rfl))) rfl (by decide+kernel) (by decide+kernel) (by decide+kernel) (by decide+kernel) (by decide+kernel) (by decide+kernel) (by decide+kernel) (by intro _;rfl))∘ae) (by decide) (by decide) (by rfl) (by rfl)) (by intro _;rfl)))
      (@ao _ _ _ _ _ (@ax _ _ _ _ _ (@eY _ _ _ _ _)))
      (@a9 _ _))
      (@ao _ _ _ _ _ (@ax _ _ _ _ _ (@hJ _ _ _ _ _ _ _ _ _ (@zx _ _) (@aT _ _ _ _ _ _ _ rfl (@aT _ _ _ _ _ _ _ rfl (@aT _ _ _ _ _ _ _ rfl (¬0) ag (fun _ _=>rfl)) (¬1) (fun _ _=>rfl)) ag (fun _ _=>rfl)) (@aT _ _ _ _ _ _ _ rfl (@aT _ _ _ _ _ _ _ rfl (@aT _ _ _ _ _ _ _ rfl (¬0) ag (fun _ _=>rfl)) (¬2) (fun _ _=>rfl)) ag (fun _ _=>rfl)) (a_ _))))))
noncomputable def dI:FI:=(mG (ac (af 3) (ac (af 2) am)))
noncomputable def aY:FE:=(kj (dt 1 dZ (ac (af 2) am)) (kj (av (jF false) (af 2) (af 0)) (dt 3 aQ (ac (af 1) (ac (af 2) (ac (af 3) am))))))
noncomputable def eJ:FS:=(aF (iY (iv (aH (dt 2 cT (ac (af 3) (ac (aN (g1 fK) (ac (af 2) am)) am)))))
    (bE (vC (.bool false)))
    et)
    (bE (aN (g1 (fL oP)) (ac (bO [(1,"kept"),(0,"web")] 2 dI (de (aL (aj 2) (aL (aj 3) cG))) cJ aY) am))))
noncomputable def bJ:FM:=iL 4 0 (([]++[])++[]) eJ
theorem gK:aA ["web","kept","other","thing"] ["web","kept","other","thing"] (ap bK):=⟨rfl,rfl,rfl,by decide+kernel,rfl,by decide+kernel,by decide+kernel⟩
theorem kz(h:bD K mg "charges_hold" bK f fd ["web","kept","other","thing"])(T:jE mg){f_is_row_of:Addr}{e_is_row_of:FuncData}(h_is_row_of:bD K mg "is_row_of" ee f_is_row_of e_is_row_of ["thing","many"])(G_is_row_of:aJ P w K mg base cy 1 f_is_row_of e_is_row_of ["thing","many"] (cD K 2 cT)){f_is_number:Addr}{e_is_number:FuncData}(h_is_number:bD K mg "is_number" ed f_is_number e_is_number ["thing"])(G_is_number:aJ P w K mg base cy 1 f_is_number e_is_number ["thing"] (cD K 1 dZ)){f_may_be_charged:Addr}{e_may_be_charged:FuncData}(h_may_be_charged:bD K mg "may_be_charged" aZ f_may_be_charged e_may_be_charged ["web","tie","other"])(G_may_be_charged:aJ P w K mg base cy 2 f_may_be_charged e_may_be_charged ["web","tie","other"] (cD K 3 aQ)):aJ P w K mg base cy 3 f fd ["web","kept","other","thing"] (cD K 4 bJ):=by
  have nd:=gK.nd
  exact h.fn gK rfl rfl (fun cdv A outer s H E hr=>(@ah _ _ _ _ _ _ _ _ (@cI _ _ _ _ _ _ _ _ _ _ _ (@eR _ _ _ _ _ (@cQ _ _ _ _ (@ba _ _ _ _ _ _ _ _ _ _ _ _ _ _ _ h_is_row_of G_is_row_of (hr.mono (by decide)) ((¬3)∘((@a' _ _ _ _ _ _ _ _ _ (@b_len _ _ rfl) (by rfl) T.b_len ((¬2)∘ae) (by decide) (by decide) (by rfl) (by rfl))∘ae)) (by rfl) (by decide) (by rfl) (by rfl)) (by intro _;rfl)))
      (@ao _ _ _ _ _ (@ax _ _ _ _ _ (@eY _ _ _ _ _)))
      (@a9 _ _))
      (@ao _ _ _ _ _ (@ax _ _ _ _ _ (@a' _ _ _ _ _ _ _ _ _ (@b_all _ _ _ rfl hr) (by rfl) T.b_all ((@jS _ _ _ _ _ _ _ _ _ _ _ _ _ (ap bK) ["web","kept","other","thing"] [(1,"kept"),(0,"web")] ["charge","tie"] rfl rfl rfl (@rK _ _ _ _ _ _ _ _ _ _ rfl rfl T.b_zip ((¬3)∘((¬2)∘ae)) (by rfl) (by rfl))
        (fun C s0 H0 fp=>(@lL _ _ _ _ _ _ _ _ rfl rfl (@cH _ _ _ _ _ _ _ _ (@aI _ _ _ 2 _ (show List.Nodup (["kept","web","charge","tie"]:List Str) by decide+kernel) rfl (Or.inl rfl) (by trivial)) (@cH _ _ _ _ _ _ _ _ (@aI _ _ _ 3 _ (show List.Nodup (["kept","web","charge","tie"]:List Str) by decide+kernel) rfl (Or.inl rfl) (by trivial)) (@jo _ _) (by rfl)) (by rfl)) (dU (dU lu)) (by rfl) (by rfl))) (fun C s0 H0 fp=>(@io _ _))
        (fun C s0 H0 fp=>(@nS _ _ _ _ _ _ _ _ (@ba _ _ _ _ _ _ _ _ _ _ _ _ _ _ _ h_is_number G_is_number (hr.mono (by decide)) ((¬2)∘ae) (by rfl) (by decide) (by rfl) (by rfl)) (@nS _ _ _ _ _ _ _ _ (@hJ _ _ _ _ _ _ _ _ _ (@tV _ _ _ rfl hr) (¬2) (¬0) (by with_unfolding_all rfl)) (@nV _ _ _ _ _ _ (@ba _ _ _ _ _ _ _ _ _ _ _ _ _ _ _ h_may_be_charged G_may_be_charged (hr.mono (by decide)) ((¬1)∘((¬2)∘((¬3)∘ae))) (by rfl) (by decide) (by rfl) (by rfl)))))) rfl (by decide+kernel) (by decide+kernel) (by decide+kernel) (by decide+kernel) (by decide+kernel) (by decide+kernel) (by decide+kernel) (by intro _;rfl))∘ae) (by decide) (by decide) (by rfl) (by rfl))))))
noncomputable def eO:FI:=(gu (af 3))
noncomputable def cn:FE:=(av cC (af 0) (vC (.int 0)))
noncomputable def eP:FI:=(gu (af 1))
noncomputable def bI:FT:=(aH (dt 3 aQ (ac (af 0) (ac (af 2) (ac (af 1) am)))))
noncomputable def cq:FE:=(af 2)
noncomputable def gX:FI:=(gu (af 2))
noncomputable def eM:FE:=(bO [(0,"web"),(2,"tie")] 1 eP (aj 2) bI cq)
noncomputable def f9:FS:=(aF (bj 3 (bO [(0,"web"),(1,"kept")] 1 gX (aj 2) cJ eM))
    (aF (iY (aH (av (jF false) (eU am) (af 3)))
    (bE (vC .none))
    et)
    (bE (aN (g1 dc) (ac (bO [] 1 eO (aj 0) cJ cn) am)))))
noncomputable def a8:FM:=iL 3 1 ([3]++(([]++[])++[])) f9
theorem iz:aA ["web","kept","other","fitting"] ["web","kept","other"] (ap bS):=⟨rfl,rfl,rfl,by decide+kernel,rfl,by decide+kernel,by decide+kernel⟩
theorem me(h:bD K mg "charges_of" bS f fd ["web","kept","other"])(T:jE mg){f_may_be_charged:Addr}{e_may_be_charged:FuncData}(h_may_be_charged:bD K mg "may_be_charged" aZ f_may_be_charged e_may_be_charged ["web","tie","other"])(G_may_be_charged:aJ P w K mg base cy 2 f_may_be_charged e_may_be_charged ["web","tie","other"] (cD K 3 aQ)):aJ P w K mg base cy 3 f fd ["web","kept","other"] (cD K 3 a8):=by
  have nd:=iz.nd
  exact h.fn iz rfl rfl (fun cdv A outer s H E hr=>(@ah _ _ _ _ _ _ _ _ (@qH _ _ _ (3) _ _ _ _ _ _ _ _ _ _ _ _ _ [(0,"web"),(1,"kept")] ["tie"] rfl rfl (@ek _ _ _ _ _ rfl (¬2))
        (fun C s0 H0 fp=>(@aI _ _ _ 2 _ (show List.Nodup (["web","kept","tie"]:List Str) by decide+kernel) rfl (Or.inr rfl) (by trivial))) (fun C s0 H0 fp=>(@io _ _))
        (fun C s0 H0 fp=>(@yd _ _ _ _ _ _ _ _ _ _ _ _ _ [(0,"web"),(2,"tie")] ["charge"] rfl rfl (@ek _ _ _ _ _ rfl (¬1))
        (fun C s0 H0 fp=>(@aI _ _ _ 2 _ (show List.Nodup (["web","tie","charge"]:List Str) by decide+kernel) rfl (Or.inl rfl) (by trivial))) (fun C s0 H0 fp=>(@kR _ _ _ _ (@cQ _ _ _ _ (@ba _ _ _ _ _ _ _ _ _ _ _ _ _ _ _ h_may_be_charged G_may_be_charged (hr.mono (by decide)) ((¬0)∘((¬2)∘((¬1)∘ae))) (by rfl) (by decide) (by rfl) (by rfl)) (by intro _;rfl))))
        (fun C s0 H0 fp=>(¬2)) rfl (by rfl) (by intro _;rfl))) rfl (by rfl) nd rfl rfl (by rfl) (by intro _;rfl))
      (@ah _ _ _ _ _ _ _ _ (@cI _ _ _ _ _ _ _ _ _ _ _ (@bh _ _ _ _ _ _ _ _ _ (@tV _ _ _ rfl hr) (@bR _ _ _ _ _ ae) (¬3) (by with_unfolding_all rfl))
      (@ao _ _ _ _ _ (@ax _ _ _ _ _ (@nU _ _ _ _)))
      (@a9 _ _))
      (@ao _ _ _ _ _ (@ax _ _ _ _ _ (@a' _ _ _ _ _ _ _ _ _ (@b_tuple _ _ rfl) (by rfl) T.b_tuple ((@jS _ _ _ _ _ _ _ _ _ _ _ _ _ (ap bS) ["web","kept","other","fitting"] [] ["charges"] rfl rfl rfl (@ek _ _ _ _ _ rfl (¬3))
        (fun C s0 H0 fp=>(@aI _ _ _ 0 _ (show List.Nodup (["charges"]:List Str) by decide+kernel) rfl (Or.inl rfl) (by trivial))) (fun C s0 H0 fp=>(@io _ _))
        (fun C s0 H0 fp=>(@aT _ _ _ _ _ _ _ rfl (¬0) ag (fun _ _=>rfl))) rfl (by decide+kernel) (by decide+kernel) (by decide+kernel) (by decide+kernel) (by decide+kernel) (by decide+kernel) (by decide+kernel) (by intro _;rfl))∘ae) (by decide) (by decide) (by rfl) (by rfl)))))))
noncomputable def qX:FS:=(aF (bj 2 (av bg (av c9 (av c9 (av iF (av bg (af 0) (vC (.int 2147483647))) (vC (.int 48271))) (av iF (av iF (vC (.int 7919)) (af 1)) (af 1))) (vC (.int 104729))) (vC (.int 2147483647))))
    (bE (av bg (av iF (af 2) (af 2)) (vC (.int 2147483629)))))
noncomputable def ie:FM:=iL 2 1 ([2]++[]) qX
theorem pJ:aA ["_law_cell","_law_k","_law_number"] ["_law_cell","_law_k"] (ap jt):=⟨rfl,rfl,rfl,by decide+kernel,rfl,by decide+kernel,by decide+kernel⟩
theorem vk(h:bD K mg "_law_mixed" jt f fd ["_law_cell","_law_k"])(T:jE mg):aJ P w K mg base cy 1 f fd ["_law_cell","_law_k"] (cD K 2 ie):=by
  have nd:=pJ.nd
  exact h.fn pJ rfl rfl (fun cdv A outer s H E hr=>(@ah _ _ _ _ _ _ _ _ (@aB _ _ _ _ _ 2 _ _ nd rfl (Or.inl rfl) (@a7 _ _ _ _ _ _ _ (@cV _ _ _ _ _ _ _ rfl (@cV _ _ _ _ _ _ _ rfl (@kd _ _ _ _ _ _ _ rfl (@a7 _ _ _ _ _ _ _ (¬0) ag) ag) (@kd _ _ _ _ _ _ _ rfl (@kd _ _ _ _ _ _ _ rfl ag (¬1)) (¬1))) ag) ag) (by rfl) (by trivial))
      (@ao _ _ _ _ _ (@ax _ _ _ _ _ (@a7 _ _ _ _ _ _ _ (@kd _ _ _ _ _ _ _ rfl (¬2) (¬2)) ag)))))
noncomputable def eG:FT:=(l6 (aH (av zG (af 3) (av qk (vC (.int 10)) (vC (.int 18))))) (aH (av wG (aN (g1 fK) (ac (af 1) am)) (vC (.int 900)))))
noncomputable def hX:FS:=(aF (gJ (dw bZ (af 1) (ac (av bg (af 3) (vC (.int 2147483629))) am)))
    (bj 3 (av fH (af 3) (vC (.int 2147483629)))))
noncomputable def ib:FI:=(df (ac (vC (.int 12)) am))
noncomputable def fw:FS:=(gJ (dw bZ (af 1) (ac (dt 2 ie (ac (dt 2 ie (ac (af 3) (ac (av c9 (av iF (vC (.int 3)) (af 4)) (vC (.int 1))) am))) (ac (av c9 (av c9 (af 4) (af 2)) (vC (.int 2))) am))) am)))
noncomputable def jO:FI:=(df (ac (aN (g2 uF) (ac (aN (g1 fK) (ac (af 0) am)) (ac (vC (.int 63)) am))) am))
noncomputable def eE:FS:=(aF (bj 3 (aN (g1 sk) (ac (av cC (af 0) (af 2)) am)))
    (aF (iY (aH (av wG (af 3) (av qk (vC (.int 10)) (vC (.int 18)))))
    (d_ ([4]++[]) ib (aj 4) fw)
    et)
    (aF (iU (2 ^ 4200) eG hX)
    (iY (aH (av zG (af 3) (vC (.int 2147483629))))
    (gJ (dw bZ (af 1) (ac (av bg (af 3) (vC (.int 2147483629))) am)))
    et))))
noncomputable def qW:FS:=(aF (bj 1 (eU am))
    (aF (d_ ([2]++([3]++((([4]++[])++[])++(([]++[3])++([]++[]))))) jO (aj 2) eE)
    (bE (af 1))))
noncomputable def jh:FM:=iL 1 4 ([1]++(([2]++([3]++((([4]++[])++[])++(([]++[3])++([]++[])))))++[])) qW
theorem pI:aA ["_law_script","_law_drawn","_law_k","_law_cell","_law_j"] ["_law_script"] (ap js):=⟨rfl,rfl,rfl,by decide+kernel,rfl,by decide+kernel,by decide+kernel⟩
theorem vj(h:bD K mg "_law_draws" js f fd ["_law_script"])(T:jE mg){fLmixed:Addr}{eLmixed:FuncData}(hLmixed:bD K mg "_law_mixed" jt fLmixed eLmixed ["_law_cell","_law_k"])(GLmixed:aJ P w K mg base cy 1 fLmixed eLmixed ["_law_cell","_law_k"] (cD K 2 ie)):aJ P w K mg base cy 2 f fd ["_law_script"] (cD K 1 jh):=by
  have nd:=pI.nd
  exact h.fn pI rfl rfl (fun cdv A outer s H E hr=>(@ah _ _ _ _ _ _ _ _ (@aB _ _ _ _ _ 1 _ _ nd rfl (Or.inl rfl) (@bR _ _ _ _ _ ae) (by rfl) (by trivial))
      (@ah _ _ _ _ _ _ _ _ (@el _ _ _ _ _ _ _ _ _ _ _ PassesOwn.never rfl (@dM _ _ _ _ _ _ _ rfl T.b_range ((@a' _ _ _ _ _ _ _ _ _ (@b_min _ _ rfl) (by rfl) T.b_min ((@a' _ _ _ _ _ _ _ _ _ (@b_len _ _ rfl) (by rfl) T.b_len ((¬0)∘ae) (by decide) (by decide) (by rfl) (by rfl))∘(ag∘ae)) (by decide) (by decide) (by rfl) (by rfl))∘ae) (by rfl)) (@aI _ _ _ 2 _ nd rfl (Or.inl rfl) (by trivial))
      (@ah _ _ _ _ _ _ _ _ (@aB _ _ _ _ _ 3 _ _ nd rfl (Or.inl rfl) (@a' _ _ _ _ _ _ _ _ _ (@b_abs _ _) (by rfl) T.b_abs ((@aT _ _ _ _ _ _ _ rfl (¬0) (¬2) (fun _ _=>rfl))∘ae) (by decide) (by decide) (by rfl) (by rfl)) (by rfl) (by trivial))
      (@ah _ _ _ _ _ _ _ _ (@cI _ _ _ _ _ _ _ _ _ _ _ (@bh _ _ _ _ _ _ _ _ _ (@tW _ _) (¬3) (@zb _ _ _ _ _ _ _ ag ag) (a_ _))
      (@ao _ _ _ _ _ (@el _ _ _ _ _ _ _ _ _ _ _ PassesOwn.never rfl (@dM _ _ _ _ _ _ _ rfl T.b_range (ag∘ae) (by rfl)) (@aI _ _ _ 4 _ nd rfl (Or.inl rfl) (by trivial))
      (@ao _ _ _ _ _ (@eD _ _ _ _ _ (@dg _ _ _ _ _ _ _ _ _ rfl (¬1) ((@ba _ _ _ _ _ _ _ _ _ _ _ _ _ _ _ hLmixed GLmixed (hr.mono (by decide)) ((@ba _ _ _ _ _ _ _ _ _ _ _ _ _ _ _ hLmixed GLmixed (hr.mono (by decide)) ((¬3)∘((@cV _ _ _ _ _ _ _ rfl (@kd _ _ _ _ _ _ _ rfl ag (¬4)) ag)∘ae)) (by rfl) (by decide) (by rfl) (by rfl))∘((@cV _ _ _ _ _ _ _ rfl (@cV _ _ _ _ _ _ _ rfl (¬4) (¬2)) ag)∘ae)) (by rfl) (by decide) (by rfl) (by rfl))∘ae) (by rfl) (by rfl) (by rfl) (by rfl) (by rfl)) (by rfl))) (by intro _;rfl)))
      (@a9 _ _))
      (@ah _ _ _ _ _ _ _ _ (@lM _ _ _ _ _ _ _ _ _ PassesOwn.never (@nW _ _ _ _ (@jT _ _ _ _ _ _ _ _ (@bh _ _ _ _ _ _ _ _ _ (@zx _ _) (¬3) (@zb _ _ _ _ _ _ _ ag ag) (a_ _)) (@jp _ _ _ _ _ (@bh _ _ _ _ _ _ _ _ _ (@tW _ _) (@a' _ _ _ _ _ _ _ _ _ (@b_len _ _ rfl) (by rfl) T.b_len ((¬1)∘ae) (by decide) (by decide) (by rfl) (by rfl)) ag (a_ _)))))
      (@ah _ _ _ _ _ _ _ _ (@eD _ _ _ _ _ (@dg _ _ _ _ _ _ _ _ _ rfl (¬1) ((@a7 _ _ _ _ _ _ _ (¬3) ag)∘ae) (by rfl) (by rfl) (by rfl) (by rfl) (by rfl)) (by rfl))
      (@ao _ _ _ _ _ (@aB _ _ _ _ _ 3 _ _ nd rfl (Or.inl rfl) (@iR _ _ _ _ _ _ _ (¬3) ag) (by rfl) (by trivial)))))
      (@ao _ _ _ _ _ (@cI _ _ _ _ _ _ _ _ _ _ _ (@bh _ _ _ _ _ _ _ _ _ (@zx _ _) (¬3) ag (a_ _))
      (@ao _ _ _ _ _ (@eD _ _ _ _ _ (@dg _ _ _ _ _ _ _ _ _ rfl (¬1) ((@a7 _ _ _ _ _ _ _ (¬3) ag)∘ae) (by rfl) (by rfl) (by rfl) (by rfl) (by rfl)) (by rfl)))
      (@a9 _ _)))))) (by intro _;rfl))
      (@ao _ _ _ _ _ (@ax _ _ _ _ _ (¬1))))))
noncomputable def p6:FS:=(aF (iY (aH (av (c_ false) (af 0) (eU am)))
    (bE (vC (.int 0)))
    et)
    (bE (dw iM (af 0) (ac (vC (.int 0)) am))))
noncomputable def bu:FM:=iL 1 0 (([]++[])++[]) p6
theorem rQ:aA ["_law_drawn"] ["_law_drawn"] (ap hU):=⟨rfl,rfl,rfl,by decide+kernel,rfl,by decide+kernel,by decide+kernel⟩
theorem xC(h:bD K mg "_law_next" hU f fd ["_law_drawn"])(T:jE mg):aJ P w K mg base cy 1 f fd ["_law_drawn"] (cD K 1 bu):=by
  have nd:=rQ.nd
  exact h.fn rQ rfl rfl (fun cdv A outer s H E hr=>(@ah _ _ _ _ _ _ _ _ (@cI _ _ _ _ _ _ _ _ _ _ _ (@bh _ _ _ _ _ _ _ _ _ (@p8 _ _ _ rfl hr) (¬0) (@bR _ _ _ _ _ ae) (a_ _))
      (@ao _ _ _ _ _ (@ax _ _ _ _ _ ag))
      (@a9 _ _))
      (@ao _ _ _ _ _ (@ax _ _ _ _ _ (@rJ _ _ _ _ _ _ _ _ _ rfl (¬0) (ag∘ae) (by rfl) (by rfl) (by rfl) (by rfl) (by rfl))))))
noncomputable def i7:FT:=(aH (av (c_ true) (af 1) (vC (.int 0))))
noncomputable def kJ:FS:=(vX 0 1 (ac (af 1) (ac (av bg (af 0) (af 1)) am)))
noncomputable def yI:FS:=(aF (iU (2 ^ 4200) i7 kJ)
    (bE (aN (g1 sk) (ac (af 0) am))))
noncomputable def o5:FM:=iL 2 0 ([0,1]++[]) yI
theorem vY:aA ["_law_one","_law_other"] ["_law_one","_law_other"] (ap pE):=⟨rfl,rfl,rfl,by decide+kernel,rfl,by decide+kernel,by decide+kernel⟩
theorem z_(h:bD K mg "_law_gcd" pE f fd ["_law_one","_law_other"])(T:jE mg):aJ P w K mg base cy 1 f fd ["_law_one","_law_other"] (cD K 2 o5):=by
  have nd:=vY.nd
  exact h.fn vY rfl rfl (fun cdv A outer s H E hr=>(@ah _ _ _ _ _ _ _ _ (@lM _ _ _ _ _ _ _ _ _ PassesOwn.never (@bh _ _ _ _ _ _ _ _ _ (@wU _ _ _ rfl hr) (¬1) ag (a_ _))
      (@ao _ _ _ _ _ (@AU _ _ _ _ _ 0 1 _ _ _ _ _ _ _ _ _ rfl nd rfl rfl (by decide) rfl rfl ((¬1)∘((@a7 _ _ _ _ _ _ _ (¬0) (¬1))∘ae)) (by rfl) (by rfl))))
      (@ao _ _ _ _ _ (@ax _ _ _ _ _ (@a' _ _ _ _ _ _ _ _ _ (@b_abs _ _) (by rfl) T.b_abs ((¬0)∘ae) (by decide) (by decide) (by rfl) (by rfl))))))
noncomputable def yJ:FS:=(aF (bj 2 (dt 2 o5 (ac (af 0) (ac (af 1) am))))
    (bE (cL (ac (av fH (af 0) (af 2)) (ac (av fH (af 1) (af 2)) am)))))
noncomputable def mK:FM:=iL 2 1 ([2]++[]) yJ
theorem vZ:aA ["_law_top","_law_bottom","_law_common"] ["_law_top","_law_bottom"] (ap pF):=⟨rfl,rfl,rfl,by decide+kernel,rfl,by decide+kernel,by decide+kernel⟩
theorem Aa(h:bD K mg "_law_low" pF f fd ["_law_top","_law_bottom"])(T:jE mg){fLgcd:Addr}{eLgcd:FuncData}(hLgcd:bD K mg "_law_gcd" pE fLgcd eLgcd ["_law_one","_law_other"])(GLgcd:aJ P w K mg base cy 1 fLgcd eLgcd ["_law_one","_law_other"] (cD K 2 o5)):aJ P w K mg base cy 2 f fd ["_law_top","_law_bottom"] (cD K 2 mK):=by
  have nd:=vZ.nd
  exact h.fn vZ rfl rfl (fun cdv A outer s H E hr=>(@ah _ _ _ _ _ _ _ _ (@aB _ _ _ _ _ 2 _ _ nd rfl (Or.inl rfl) (@ba _ _ _ _ _ _ _ _ _ _ _ _ _ _ _ hLgcd GLgcd (hr.mono (by decide)) ((¬0)∘((¬1)∘ae)) (by rfl) (by decide) (by rfl) (by rfl)) (by rfl) (by trivial))
      (@ao _ _ _ _ _ (@ax _ _ _ _ _ (@aU _ _ _ _ _ _ ((@iR _ _ _ _ _ _ _ (¬0) (¬2))∘((@iR _ _ _ _ _ _ _ (¬1) (¬2))∘ae)))))))
noncomputable def tO:FS:=(bE (av wG (av iF (av cC (af 0) (vC (.int 0))) (av cC (af 1) (vC (.int 1)))) (av iF (av cC (af 1) (vC (.int 0))) (av cC (af 0) (vC (.int 1))))))
noncomputable def g9:FM:=iL 2 0 [] tO
theorem rP:aA ["_law_one","_law_other"] ["_law_one","_law_other"] (ap lR):=⟨rfl,rfl,rfl,by decide+kernel,rfl,by decide+kernel,by decide+kernel⟩
theorem xB(h:bD K mg "_law_less" lR f fd ["_law_one","_law_other"])(T:jE mg):aJ P w K mg base cy 1 f fd ["_law_one","_law_other"] (cD K 2 g9):=by
  have nd:=rP.nd
  exact h.fn rP rfl rfl (fun cdv A outer s H E hr=>(@ao _ _ _ _ _ (@ax _ _ _ _ _ (@hJ _ _ _ _ _ _ _ _ _ (@tW _ _) (@kd _ _ _ _ _ _ _ rfl (@aT _ _ _ _ _ _ _ rfl (¬0) ag (fun _ _=>rfl)) (@aT _ _ _ _ _ _ _ rfl (¬1) ag (fun _ _=>rfl))) (@kd _ _ _ _ _ _ _ rfl (@aT _ _ _ _ _ _ _ rfl (¬1) ag (fun _ _=>rfl)) (@aT _ _ _ _ _ _ _ rfl (¬0) ag (fun _ _=>rfl))) (a_ _)))))
noncomputable def tQ:FS:=(bE (av (c_ false) (aN (g1 ka) (ac (af 0) am)) (aN (g1 ka) (ac (af 1) am))))
noncomputable def lB:FM:=iL 2 0 [] tQ
theorem rR:aA ["_law_found","_law_due"] ["_law_found","_law_due"] (ap lS):=⟨rfl,rfl,rfl,by decide+kernel,rfl,by decide+kernel,by decide+kernel⟩
theorem xD(h:bD K mg "_law_same" lS f fd ["_law_found","_law_due"])(T:jE mg):aJ P w K mg base cy 1 f fd ["_law_found","_law_due"] (cD K 2 lB):=by
  have nd:=rR.nd
  exact h.fn rR rfl rfl (fun cdv A outer s H E hr=>(@ao _ _ _ _ _ (@ax _ _ _ _ _ (@hJ _ _ _ _ _ _ _ _ _ (@p8 _ _ _ rfl hr) (@a' _ _ _ _ _ _ _ _ _ (@b_repr _ _ _ rfl hr) (by rfl) T.b_repr ((¬0)∘ae) (by decide) (by decide) (by rfl) (by rfl)) (@a' _ _ _ _ _ _ _ _ _ (@b_repr _ _ _ rfl hr) (by rfl) T.b_repr ((¬1)∘ae) (by decide) (by decide) (by rfl) (by rfl)) (a_ _)))))
noncomputable def gM:FS:=(aF (iY (aH (av (c_ false) (af 1) (vC (.int 0))))
    (bE (av cC (eU (ac (cL (ac (vC (.int 1)) (ac (vC (.int 2)) am))) (ac (cL (ac (vC (.int 1)) (ac (vC (.int 3)) am))) (ac (cL (ac (vC (.int 2)) (ac (vC (.int 3)) am))) (ac (cL (ac (vC (.int 1)) (ac (vC (.int 1)) am))) (ac (cL (ac (vC (.int 0)) (ac (vC (.int 1)) am))) (ac (cL (ac (vC (.int 3)) (ac (vC (.int 4)) am))) am))))))) (av bg (af 0) (vC (.int 6)))))
    et)
    (aF (iY (aH (av (c_ false) (af 1) (vC (.int 1))))
    (aF (bj 2 (av c9 (vC (.int 2)) (av bg (af 0) (vC (.int 9)))))
    (bE (dt 2 mK (ac (av c9 (vC (.int 1)) (av bg (av fH (af 0) (vC (.int 9))) (av jN (af 2) (vC (.int 1))))) (ac (af 2) am)))))
    et)
    (aF (iY (aH (av (c_ false) (af 1) (vC (.int 2))))
    (aF (bj 2 (av c9 (vC (.int 1)) (av bg (af 0) (vC (.int 100)))))
    (bE (dt 2 mK (ac (av bg (av fH (af 0) (vC (.int 100))) (av c9 (af 2) (vC (.int 1)))) (ac (af 2) am)))))
    et)
    (bE (cL (ac (vC (.int 1)) (ac (vC (.int 1)) am)))))))
noncomputable def dY:FM:=iL 2 1 (([]++[])++((([2]++[])++[])++((([2]++[])++[])++[]))) gM
theorem mQ:aA ["_law_number","_law_kind","_law_bottom"] ["_law_number","_law_kind"] (ap hR):=⟨rfl,rfl,rfl,by decide+kernel,rfl,by decide+kernel,by decide+kernel⟩
theorem sI(h:bD K mg "_law_chance" hR f fd ["_law_number","_law_kind"])(T:jE mg){fLlow:Addr}{eLlow:FuncData}(hLlow:bD K mg "_law_low" pF fLlow eLlow ["_law_top","_law_bottom"])(GLlow:aJ P w K mg base cy 2 fLlow eLlow ["_law_top","_law_bottom"] (cD K 2 mK)):aJ P w K mg base cy 3 f fd ["_law_number","_law_kind"] (cD K 2 dY):=by
  have nd:=mQ.nd
  exact h.fn mQ rfl rfl (fun cdv A outer s H E hr=>(@ah _ _ _ _ _ _ _ _ (@cI _ _ _ _ _ _ _ _ _ _ _ (@bh _ _ _ _ _ _ _ _ _ (@p8 _ _ _ rfl hr) (¬1) ag (a_ _))
      (@ao _ _ _ _ _ (@ax _ _ _ _ _ (@aT _ _ _ _ _ _ _ rfl (@bR _ _ _ _ _ ((@aU _ _ _ _ _ _ (ag∘(ag∘ae)))∘((@aU _ _ _ _ _ _ (ag∘(ag∘ae)))∘((@aU _ _ _ _ _ _ (ag∘(ag∘ae)))∘((@aU _ _ _ _ _ _ (ag∘(ag∘ae)))∘((@aU _ _ _ _ _ _ (ag∘(ag∘ae)))∘((@aU _ _ _ _ _ _ (ag∘(ag∘ae)))∘ae))))))) (@a7 _ _ _ _ _ _ _ (¬0) ag) (fun _ _=>rfl))))
      (@a9 _ _))
      (@ah _ _ _ _ _ _ _ _ (@cI _ _ _ _ _ _ _ _ _ _ _ (@bh _ _ _ _ _ _ _ _ _ (@p8 _ _ _ rfl hr) (¬1) ag (a_ _))
      (@ah _ _ _ _ _ _ _ _ (@aB _ _ _ _ _ 2 _ _ nd rfl (Or.inl rfl) (@cV _ _ _ _ _ _ _ rfl ag (@a7 _ _ _ _ _ _ _ (¬0) ag)) (by rfl) (by trivial))
      (@ao _ _ _ _ _ (@ax _ _ _ _ _ (@ba _ _ _ _ _ _ _ _ _ _ _ _ _ _ _ hLlow GLlow (hr.mono (by decide)) ((@cV _ _ _ _ _ _ _ rfl ag (@a7 _ _ _ _ _ _ _ (@iR _ _ _ _ _ _ _ (¬0) ag) (@vH _ _ _ _ _ _ _ (¬2) ag)))∘((¬2)∘ae)) (by rfl) (by decide) (by rfl) (by rfl)))))
      (@a9 _ _))
      (@ah _ _ _ _ _ _ _ _ (@cI _ _ _ _ _ _ _ _ _ _ _ (@bh _ _ _ _ _ _ _ _ _ (@p8 _ _ _ rfl hr) (¬1) ag (a_ _))
      (@ah _ _ _ _ _ _ _ _ (@aB _ _ _ _ _ 2 _ _ nd rfl (Or.inl rfl) (@cV _ _ _ _ _ _ _ rfl ag (@a7 _ _ _ _ _ _ _ (¬0) ag)) (by rfl) (by trivial))
      (@ao _ _ _ _ _ (@ax _ _ _ _ _ (@ba _ _ _ _ _ _ _ _ _ _ _ _ _ _ _ hLlow GLlow (hr.mono (by decide)) ((@a7 _ _ _ _ _ _ _ (@iR _ _ _ _ _ _ _ (¬0) ag) (@cV _ _ _ _ _ _ _ rfl (¬2) ag))∘((¬2)∘ae)) (by rfl) (by decide) (by rfl) (by rfl)))))
      (@a9 _ _))
      (@ao _ _ _ _ _ (@ax _ _ _ _ _ (@aU _ _ _ _ _ _ (ag∘(ag∘ae)))))))))
noncomputable def qY:FS:=(bE (av cC (eU (ac (av bg (af 0) (vC (.int 7))) (ac (av c9 (vC (.int 5)) (av bg (af 0) (vC (.int 2)))) (ac (av bg (af 0) (vC (.int 1001))) (ac (av jN (vC (.int 1000)) (av bg (af 0) (vC (.int 3)))) am))))) (av bg (af 1) (vC (.int 4)))))
noncomputable def ji:FM:=iL 2 0 [] qY
theorem pL:aA ["_law_number","_law_kind"] ["_law_number","_law_kind"] (ap jw):=⟨rfl,rfl,rfl,by decide+kernel,rfl,by decide+kernel,by decide+kernel⟩
theorem vn(h:bD K mg "_law_worth" jw f fd ["_law_number","_law_kind"])(T:jE mg):aJ P w K mg base cy 1 f fd ["_law_number","_law_kind"] (cD K 2 ji):=by
  have nd:=pL.nd
  exact h.fn pL rfl rfl (fun cdv A outer s H E hr=>(@ao _ _ _ _ _ (@ax _ _ _ _ _ (@aT _ _ _ _ _ _ _ rfl (@bR _ _ _ _ _ ((@a7 _ _ _ _ _ _ _ (¬0) ag)∘((@cV _ _ _ _ _ _ _ rfl ag (@a7 _ _ _ _ _ _ _ (¬0) ag))∘((@a7 _ _ _ _ _ _ _ (¬0) ag)∘((@vH _ _ _ _ _ _ _ ag (@a7 _ _ _ _ _ _ _ (¬0) ag))∘ae))))) (@a7 _ _ _ _ _ _ _ (¬1) ag) (fun _ _=>rfl)))))
noncomputable def lx:FI:=(df (ac (af 2) am))
noncomputable def fy:FS:=(aF (bj 8 (dt 1 bu (ac (af 0) am)))
    (aF (bj 9 (av cC (eU (ac (av bg (af 8) (af 1)) (ac (vC (.int 0)) (ac (av bg (af 7) (af 1)) (ac (av bg (af 8) (af 1)) (ac (av bg (af 8) (vC (.int 2))) (ac (av bg (af 8) (af 1)) am))))))) (af 3)))
    (aF (bj 10 (av bg (av c9 (av c9 (af 9) (vC (.int 1))) (av bg (av fH (af 8) (vC (.int 12))) (av jN (af 1) (vC (.int 1))))) (af 1)))
    (aF (iY (aH (av (c_ false) (af 3) (vC (.int 4))))
    (vV (cL (ac (vC (.int 0)) (ac (vC (.int 1)) am))) (de (aL (aj 9) (aL (aj 10) cG))))
    et)
    (aF (bj 11 (dt 1 bu (ac (af 0) am)))
    (aF (bj 12 (cL (ac (aN (g2 uF) (ac (af 9) (ac (af 10) am))) (ac (aN (g2 sv) (ac (af 9) (ac (af 10) am))) am))))
    (gJ (dw bZ (af 6) (ac (av c9 (af 12) (cL (ac (dt 2 dY (ac (af 11) (ac (af 4) am))) (ac (dt 2 ji (ac (av fH (af 11) (vC (.int 10007))) (ac (af 5) am))) am)))) am)))))))))
noncomputable def tR:FS:=(aF (bj 3 (av bg (dt 1 bu (ac (af 0) am)) (vC (.int 6))))
    (aF (bj 4 (av bg (dt 1 bu (ac (af 0) am)) (vC (.int 4))))
    (aF (bj 5 (av bg (dt 1 bu (ac (af 0) am)) (vC (.int 4))))
    (aF (bj 6 (eU am))
    (aF (d_ ([7]++([8]++([9]++([10]++((([9]++([10]++[]))++[])++([11]++([12]++[]))))))) lx (aj 7) fy)
    (bE (aN (g1 dc) (ac (af 6) am))))))))
noncomputable def lC:FM:=iL 3 10 ([3]++([4]++([5]++([6]++(([7]++([8]++([9]++([10]++((([9]++([10]++[]))++[])++([11]++([12]++[])))))))++[]))))) tR
theorem rS:aA ["_law_drawn","_law_things","_law_many","_law_shape","_law_odds","_law_worths","_law_found","_law_k","_law_number","_law_one","_law_other","_law_cell","_law_ends_here"] ["_law_drawn","_law_things","_law_many"] (ap lT):=⟨rfl,rfl,rfl,by decide+kernel,rfl,by decide+kernel,by decide+kernel⟩
theorem xE(h:bD K mg "_law_ties" lT f fd ["_law_drawn","_law_things","_law_many"])(T:jE mg){fLnext:Addr}{eLnext:FuncData}(hLnext:bD K mg "_law_next" hU fLnext eLnext ["_law_drawn"])(GLnext:aJ P w K mg base cy 1 fLnext eLnext ["_law_drawn"] (cD K 1 bu)){fLchance:Addr}{eLchance:FuncData}(hLchance:bD K mg "_law_chance" hR fLchance eLchance ["_law_number","_law_kind"])(GLchance:aJ P w K mg base cy 3 fLchance eLchance ["_law_number","_law_kind"] (cD K 2 dY)){fLworth:Addr}{eLworth:FuncData}(hLworth:bD K mg "_law_worth" jw fLworth eLworth ["_law_number","_law_kind"])(GLworth:aJ P w K mg base cy 1 fLworth eLworth ["_law_number","_law_kind"] (cD K 2 ji)):aJ P w K mg base cy 4 f fd ["_law_drawn","_law_things","_law_many"] (cD K 3 lC):=by
  have nd:=rS.nd
  exact h.fn rS rfl rfl (fun cdv A outer s H E hr=>(@ah _ _ _ _ _ _ _ _ (@aB _ _ _ _ _ 3 _ _ nd rfl (Or.inl rfl) (@a7 _ _ _ _ _ _ _ (@ba _ _ _ _ _ _ _ _ _ _ _ _ _ _ _ hLnext GLnext (hr.mono (by decide)) ((¬0)∘ae) (by rfl) (by decide) (by rfl) (by rfl)) ag) (by rfl) (by trivial))
      (@ah _ _ _ _ _ _ _ _ (@aB _ _ _ _ _ 4 _ _ nd rfl (Or.inl rfl) (@a7 _ _ _ _ _ _ _ (@ba _ _ _ _ _ _ _ _ _ _ _ _ _ _ _ hLnext GLnext (hr.mono (by decide)) ((¬0)∘ae) (by rfl) (by decide) (by rfl) (by rfl)) ag) (by rfl) (by trivial))
      (@ah _ _ _ _ _ _ _ _ (@aB _ _ _ _ _ 5 _ _ nd rfl (Or.inl rfl) (@a7 _ _ _ _ _ _ _ (@ba _ _ _ _ _ _ _ _ _ _ _ _ _ _ _ hLnext GLnext (hr.mono (by decide)) ((¬0)∘ae) (by rfl) (by decide) (by rfl) (by rfl)) ag) (by rfl) (by trivial))
      (@ah _ _ _ _ _ _ _ _ (@aB _ _ _ _ _ 6 _ _ nd rfl (Or.inl rfl) (@bR _ _ _ _ _ ae) (by rfl) (by trivial))
      (@ah _ _ _ _ _ _ _ _ (@el _ _ _ _ _ _ _ _ _ _ _ PassesOwn.never rfl (@dM _ _ _ _ _ _ _ rfl T.b_range ((¬2)∘ae) (by rfl)) (@aI _ _ _ 7 _ nd rfl (Or.inl rfl) (by trivial))
      (@ah _ _ _ _ _ _ _ _ (@aB _ _ _ _ _ 8 _ _ nd rfl (Or.inl rfl) (@ba _ _ _ _ _ _ _ _ _ _ _ _ _ _ _ hLnext GLnext (hr.mono (by decide)) ((¬0)∘ae) (by rfl) (by decide) (by rfl) (by rfl)) (by rfl) (by trivial))
      (@ah _ _ _ _ _ _ _ _ (@aB _ _ _ _ _ 9 _ _ nd rfl (Or.inl rfl) (@aT _ _ _ _ _ _ _ rfl (@bR _ _ _ _ _ ((@a7 _ _ _ _ _ _ _ (¬8) (¬1))∘(ag∘((@a7 _ _ _ _ _ _ _ (¬7) (¬1))∘((@a7 _ _ _ _ _ _ _ (¬8) (¬1))∘((@a7 _ _ _ _ _ _ _ (¬8) ag)∘((@a7 _ _ _ _ _ _ _ (¬8) (¬1))∘ae))))))) (¬3) (fun _ _=>rfl)) (by rfl) (by trivial))
      (@ah _ _ _ _ _ _ _ _ (@aB _ _ _ _ _ 10 _ _ nd rfl (Or.inl rfl) (@a7 _ _ _ _ _ _ _ (@cV _ _ _ _ _ _ _ rfl (@cV _ _ _ _ _ _ _ rfl (¬9) ag) (@a7 _ _ _ _ _ _ _ (@iR _ _ _ _ _ _ _ (¬8) ag) (@vH _ _ _ _ _ _ _ (¬1) ag))) (¬1)) (by rfl) (by trivial))
      (@ah _ _ _ _ _ _ _ _ (@cI _ _ _ _ _ _ _ _ _ _ _ (@bh _ _ _ _ _ _ _ _ _ (@p8 _ _ _ rfl hr) (¬3) ag (a_ _))
      (@ao _ _ _ _ _ (@AS _ _ _ _ _ _ _ _ (@aU _ _ _ _ _ _ (ag∘(ag∘ae))) (@lL _ _ _ _ _ _ _ _ rfl rfl (@cH _ _ _ _ _ _ _ _ (@aI _ _ _ 9 _ nd rfl (Or.inl rfl) (by trivial)) (@cH _ _ _ _ _ _ _ _ (@aI _ _ _ 10 _ nd rfl (Or.inl rfl) (by trivial)) (@jo _ _) (by rfl)) (by rfl)) (dU (dU lu)) (by rfl) (by rfl)) (by rfl) (by rfl) (by rfl)))
      (@a9 _ _))
      (@ah _ _ _ _ _ _ _ _ (@aB _ _ _ _ _ 11 _ _ nd rfl (Or.inl rfl) (@ba _ _ _ _ _ _ _ _ _ _ _ _ _ _ _ hLnext GLnext (hr.mono (by decide)) ((¬0)∘ae) (by rfl) (by decide) (by rfl) (by rfl)) (by rfl) (by trivial))
      (@ah _ _ _ _ _ _ _ _ (@aB _ _ _ _ _ 12 _ _ nd rfl (Or.inl rfl) (@aU _ _ _ _ _ _ ((@a' _ _ _ _ _ _ _ _ _ (@b_min _ _ rfl) (by rfl) T.b_min ((¬9)∘((¬10)∘ae)) (by decide) (by decide) (by rfl) (by rfl))∘((@a' _ _ _ _ _ _ _ _ _ (@b_max _ _ rfl) (by rfl) T.b_max ((¬9)∘((¬10)∘ae)) (by decide) (by decide) (by rfl) (by rfl))∘ae))) (by rfl) (by trivial))
      (@ao _ _ _ _ _ (@eD _ _ _ _ _ (@dg _ _ _ _ _ _ _ _ _ rfl (¬6) ((@cV _ _ _ _ _ _ _ rfl (¬12) (@aU _ _ _ _ _ _ ((@ba _ _ _ _ _ _ _ _ _ _ _ _ _ _ _ hLchance GLchance (hr.mono (by decide)) ((¬11)∘((¬4)∘ae)) (by rfl) (by decide) (by rfl) (by rfl))∘((@ba _ _ _ _ _ _ _ _ _ _ _ _ _ _ _ hLworth GLworth (hr.mono (by decide)) ((@iR _ _ _ _ _ _ _ (¬11) ag)∘((¬5)∘ae)) (by rfl) (by decide) (by rfl) (by rfl))∘ae))))∘ae) (by rfl) (by rfl) (by rfl) (by rfl) (by rfl)) (by rfl))))))))) (by intro _;rfl))
      (@ao _ _ _ _ _ (@ax _ _ _ _ _ (@a' _ _ _ _ _ _ _ _ _ (@b_tuple _ _ rfl) (by rfl) T.b_tuple ((¬6)∘ae) (by decide) (by decide) (by rfl) (by rfl))))))))))
noncomputable def nD:FI:=(df (ac (af 3) am))
noncomputable def kL:FS:=(gJ (dw bZ (af 7) (ac (av cC (eU (ac (vC (.int 20)) (ac (av c9 (vC (.int 1)) (av bg (dt 1 bu (ac (af 0) am)) (vC (.int 3)))) (ac (av bg (dt 1 bu (ac (af 0) am)) (vC (.int 21))) am)))) (af 6)) am)))
noncomputable def yK:FS:=(aF (bj 3 (av bg (dt 1 bu (ac (af 0) am)) (av c9 (af 1) (vC (.int 1)))))
    (aF (bj 4 (av iF (av bg (dt 1 bu (ac (af 0) am)) (av c9 (af 2) (vC (.int 1)))) (aN (g1 su) (ac (av zH (af 3) (vC (.int 1))) am))))
    (aF (bj 5 (dt 3 lC (ac (af 0) (ac (aN (g2 sv) (ac (vC (.int 2)) (ac (af 3) am))) (ac (af 4) am)))))
    (aF (bj 6 (av bg (dt 1 bu (ac (af 0) am)) (vC (.int 3))))
    (aF (bj 7 (eU am))
    (aF (d_ ([8]++[]) nD (aj 8) kL)
    (aF (bj 9 (av cC (eU (ac (vC (.int 40)) (ac (av c9 (vC (.int 1)) (av bg (dt 1 bu (ac (af 0) am)) (aN (g2 sv) (ac (vC (.int 1)) (ac (af 4) am))))) (ac (av bg (dt 1 bu (ac (af 0) am)) (vC (.int 41))) am)))) (av bg (dt 1 bu (ac (af 0) am)) (vC (.int 3)))))
    (bE (cL (ac (af 3) (ac (af 5) (ac (aN (g1 dc) (ac (af 7) am)) (ac (af 9) am)))))))))))))
noncomputable def o6:FM:=iL 3 7 ([3]++([4]++([5]++([6]++([7]++(([8]++[])++([9]++[]))))))) yK
theorem v0:aA ["_law_drawn","_law_most","_law_ties_here","_law_things","_law_many","_law_rows","_law_way","_law_patience","_law_k","_law_asks"] ["_law_drawn","_law_most","_law_ties_here"] (ap pG):=⟨rfl,rfl,rfl,by decide+kernel,rfl,by decide+kernel,by decide+kernel⟩
theorem Ab(h:bD K mg "_law_web" pG f fd ["_law_drawn","_law_most","_law_ties_here"])(T:jE mg){fLties:Addr}{eLties:FuncData}(hLties:bD K mg "_law_ties" lT fLties eLties ["_law_drawn","_law_things","_law_many"])(GLties:aJ P w K mg base cy 4 fLties eLties ["_law_drawn","_law_things","_law_many"] (cD K 3 lC)){fLnext:Addr}{eLnext:FuncData}(hLnext:bD K mg "_law_next" hU fLnext eLnext ["_law_drawn"])(GLnext:aJ P w K mg base cy 1 fLnext eLnext ["_law_drawn"] (cD K 1 bu)):aJ P w K mg base cy 5 f fd ["_law_drawn","_law_most","_law_ties_here"] (cD K 3 o6):=by
  have nd:=v0.nd
  exact h.fn v0 rfl rfl (fun cdv A outer s H E hr=>(@ah _ _ _ _ _ _ _ _ (@aB _ _ _ _ _ 3 _ _ nd rfl (Or.inl rfl) (@a7 _ _ _ _ _ _ _ (@ba _ _ _ _ _ _ _ _ _ _ _ _ _ _ _ hLnext GLnext (hr.mono (by decide)) ((¬0)∘ae) (by rfl) (by decide) (by rfl) (by rfl)) (@cV _ _ _ _ _ _ _ rfl (¬1) ag)) (by rfl) (by trivial))
      (@ah _ _ _ _ _ _ _ _ (@aB _ _ _ _ _ 4 _ _ nd rfl (Or.inl rfl) (@kd _ _ _ _ _ _ _ rfl (@a7 _ _ _ _ _ _ _ (@ba _ _ _ _ _ _ _ _ _ _ _ _ _ _ _ hLnext GLnext (hr.mono (by decide)) ((¬0)∘ae) (by rfl) (by decide) (by rfl) (by rfl)) (@cV _ _ _ _ _ _ _ rfl (¬2) ag)) (@a' _ _ _ _ _ _ _ _ _ (@b_int _ _) (by rfl) T.b_int ((@hJ _ _ _ _ _ _ _ _ _ (@BZ _ _) (¬3) ag (a_ _))∘ae) (by decide) (by decide) (by rfl) (by rfl))) (by rfl) (by trivial))
      (@ah _ _ _ _ _ _ _ _ (@aB _ _ _ _ _ 5 _ _ nd rfl (Or.inl rfl) (@ba _ _ _ _ _ _ _ _ _ _ _ _ _ _ _ hLties GLties (hr.mono (by decide)) ((¬0)∘((@a' _ _ _ _ _ _ _ _ _ (@b_max _ _ rfl) (by rfl) T.b_max (ag∘((¬3)∘ae)) (by decide) (by decide) (by rfl) (by rfl))∘((¬4)∘ae))) (by rfl) (by decide) (by rfl) (by rfl)) (by rfl) (by trivial))
      (@ah _ _ _ _ _ _ _ _ (@aB _ _ _ _ _ 6 _ _ nd rfl (Or.inl rfl) (@a7 _ _ _ _ _ _ _ (@ba _ _ _ _ _ _ _ _ _ _ _ _ _ _ _ hLnext GLnext (hr.mono (by decide)) ((¬0)∘ae) (by rfl) (by decide) (by rfl) (by rfl)) ag) (by rfl) (by trivial))
      (@ah _ _ _ _ _ _ _ _ (@aB _ _ _ _ _ 7 _ _ nd rfl (Or.inl rfl) (@bR _ _ _ _ _ ae) (by rfl) (by trivial))
      (@ah _ _ _ _ _ _ _ _ (@el _ _ _ _ _ _ _ _ _ _ _ PassesOwn.never rfl (@dM _ _ _ _ _ _ _ rfl T.b_range ((¬3)∘ae) (by rfl)) (@aI _ _ _ 8 _ nd rfl (Or.inl rfl) (by trivial))
      (@ao _ _ _ _ _ (@eD _ _ _ _ _ (@dg _ _ _ _ _ _ _ _ _ rfl (¬7) ((@aT _ _ _ _ _ _ _ rfl (@bR _ _ _ _ _ (ag∘((@cV _ _ _ _ _ _ _ rfl ag (@a7 _ _ _ _ _ _ _ (@ba _ _ _ _ _ _ _ _ _ _ _ _ _ _ _ hLnext GLnext (hr.mono (by decide)) ((¬0)∘ae) (by rfl) (by decide) (by rfl) (by rfl)) ag))∘((@a7 _ _ _ _ _ _ _ (@ba _ _ _ _ _ _ _ _ _ _ _ _ _ _ _ hLnext GLnext (hr.mono (by decide)) ((¬0)∘ae) (by rfl) (by decide) (by rfl) (by rfl)) ag)∘ae)))) (¬6) (fun _ _=>rfl))∘ae) (by rfl) (by rfl) (by rfl) (by rfl) (by rfl)) (by rfl))) (by intro _;rfl))
      (@ah _ _ _ _ _ _ _ _ (@aB _ _ _ _ _ 9 _ _ nd rfl (Or.inl rfl) (@aT _ _ _ _ _ _ _ rfl (@bR _ _ _ _ _ (ag∘((@cV _ _ _ _ _ _ _ rfl ag (@a7 _ _ _ _ _ _ _ (@ba _ _ _ _ _ _ _ _ _ _ _ _ _ _ _ hLnext GLnext (hr.mono (by decide)) ((¬0)∘ae) (by rfl) (by decide) (by rfl) (by rfl)) (@a' _ _ _ _ _ _ _ _ _ (@b_max _ _ rfl) (by rfl) T.b_max (ag∘((¬4)∘ae)) (by decide) (by decide) (by rfl) (by rfl))))∘((@a7 _ _ _ _ _ _ _ (@ba _ _ _ _ _ _ _ _ _ _ _ _ _ _ _ hLnext GLnext (hr.mono (by decide)) ((¬0)∘ae) (by rfl) (by decide) (by rfl) (by rfl)) ag)∘ae)))) (@a7 _ _ _ _ _ _ _ (@ba _ _ _ _ _ _ _ _ _ _ _ _ _ _ _ hLnext GLnext (hr.mono (by decide)) ((¬0)∘ae) (by rfl) (by decide) (by rfl) (by rfl)) ag) (fun _ _=>rfl)) (by rfl) (by trivial))
      (@ao _ _ _ _ _ (@ax _ _ _ _ _ (@aU _ _ _ _ _ _ ((¬3)∘((¬5)∘((@a' _ _ _ _ _ _ _ _ _ (@b_tuple _ _ rfl) (by rfl) T.b_tuple ((¬7)∘ae) (by decide) (by decide) (by rfl) (by rfl))∘((¬9)∘ae)))))))))))))))
noncomputable def cY:FT:=(l6 (aH (av (c_ true) (af 3) (eU am))) (aH (av wG (aN (g1 fK) (ac (af 4) am)) (af 2))))
noncomputable def i0:FS:=(gJ (dw bZ (af 4) (ac (dw iM (af 3) (ac (av bg (dt 1 bu (ac (af 0) am)) (aN (g1 fK) (ac (af 3) am))) am)) am)))
noncomputable def tN:FS:=(aF (bj 3 (kW (ac (aN (g1 fK) (ac (av cC (af 1) (vC (.int 1))) am)) am)))
    (aF (bj 4 (eU am))
    (aF (iU (2 ^ 4200) cY i0)
    (bE (aN (g1 dc) (ac (af 4) am))))))
noncomputable def lA:FM:=iL 3 2 ([3]++([4]++([]++[]))) tN
theorem rO:aA ["_law_drawn","_law_web_here","_law_most","_law_left","_law_found"] ["_law_drawn","_law_web_here","_law_most"] (ap lQ):=⟨rfl,rfl,rfl,by decide+kernel,rfl,by decide+kernel,by decide+kernel⟩
theorem xA(h:bD K mg "_law_full" lQ f fd ["_law_drawn","_law_web_here","_law_most"])(T:jE mg){fLnext:Addr}{eLnext:FuncData}(hLnext:bD K mg "_law_next" hU fLnext eLnext ["_law_drawn"])(GLnext:aJ P w K mg base cy 1 fLnext eLnext ["_law_drawn"] (cD K 1 bu)):aJ P w K mg base cy 2 f fd ["_law_drawn","_law_web_here","_law_most"] (cD K 3 lA):=by
  have nd:=rO.nd
  exact h.fn rO rfl rfl (fun cdv A outer s H E hr=>(@ah _ _ _ _ _ _ _ _ (@aB _ _ _ _ _ 3 _ _ nd rfl (Or.inl rfl) (@pz _ _ _ _ _ _ _ _ rfl rfl T.b_list rfl T.b_range ((@a' _ _ _ _ _ _ _ _ _ (@b_len _ _ rfl) (by rfl) T.b_len ((@aT _ _ _ _ _ _ _ rfl (¬1) ag (fun _ _=>rfl))∘ae) (by decide) (by decide) (by rfl) (by rfl))∘ae) (by rfl) (by rfl)) (by rfl) (by trivial))
      (@ah _ _ _ _ _ _ _ _ (@aB _ _ _ _ _ 4 _ _ nd rfl (Or.inl rfl) (@bR _ _ _ _ _ ae) (by rfl) (by trivial))
      (@ah _ _ _ _ _ _ _ _ (@lM _ _ _ _ _ _ _ _ _ PassesOwn.never (@nW _ _ _ _ (@jT _ _ _ _ _ _ _ _ (@bh _ _ _ _ _ _ _ _ _ (@wU _ _ _ rfl hr) (¬3) (@bR _ _ _ _ _ ae) (a_ _)) (@jp _ _ _ _ _ (@bh _ _ _ _ _ _ _ _ _ (@tW _ _) (@a' _ _ _ _ _ _ _ _ _ (@b_len _ _ rfl) (by rfl) T.b_len ((¬4)∘ae) (by decide) (by decide) (by rfl) (by rfl)) (¬2) (a_ _)))))
      (@ao _ _ _ _ _ (@eD _ _ _ _ _ (@dg _ _ _ _ _ _ _ _ _ rfl (¬4) ((@rJ _ _ _ _ _ _ _ _ _ rfl (¬3) ((@a7 _ _ _ _ _ _ _ (@ba _ _ _ _ _ _ _ _ _ _ _ _ _ _ _ hLnext GLnext (hr.mono (by decide)) ((¬0)∘ae) (by rfl) (by decide) (by rfl) (by rfl)) (@a' _ _ _ _ _ _ _ _ _ (@b_len _ _ rfl) (by rfl) T.b_len ((¬3)∘ae) (by decide) (by decide) (by rfl) (by rfl)))∘ae) (by rfl) (by rfl) (by rfl) (by rfl) (by rfl))∘ae) (by rfl) (by rfl) (by rfl) (by rfl) (by rfl)) (by rfl))))
      (@ao _ _ _ _ _ (@ax _ _ _ _ _ (@a' _ _ _ _ _ _ _ _ _ (@b_tuple _ _ rfl) (by rfl) T.b_tuple ((¬4)∘ae) (by decide) (by decide) (by rfl) (by rfl))))))))
noncomputable def cO:FI:=(gu (aN (g1 cE) (ac (af 1) am)))
noncomputable def bz:FE:=(af 1)
noncomputable def bP:FI:=(df (ac (af 2) am))
noncomputable def aK:FT:=(l6 (iv (aH (dt 2 g9 (ac (af 0) (ac (av cC (af 1) (af 2)) am))))) (iv (aH (dt 2 g9 (ac (av cC (af 1) (af 2)) (ac (af 0) am))))))
noncomputable def bA:FE:=(af 2)
noncomputable def bQ:FI:=(df (ac (aN (g1 fK) (ac (af 0) am)) am))
noncomputable def aX:FT:=(aH (dt 2 g9 (ac (af 0) (ac (av cC (af 1) (af 2)) am))))
noncomputable def bB:FE:=(af 2)
noncomputable def cP:FI:=(uR (ac (af 0) am))
noncomputable def bH:FS:=(aF (bj 4 (bO [(3,"_law_one"),(0,"_law_measures")] 1 bQ (aj 2) aX bB))
    (aF (bj 5 (bO [(3,"_law_one"),(0,"_law_measures")] 1 bP (aj 2) aK bA))
    (gJ (dw bZ (af 1) (ac (cL (ac (av c9 (aN (g1 fK) (ac (af 4) am)) (aN (g1 fK) (ac (af 5) am))) (ac (af 2) am))) am)))))
noncomputable def fx:FS:=(aF (bj 1 (eU am))
    (aF (d_ (([2]++([3]++[]))++([4]++([5]++[]))) cP (de (aL (aj 2) (aL (aj 3) cG))) bH)
    (bE (aN (g1 dc) (ac (bO [] 2 cO (de (aL (aj 0) (aL (aj 1) cG))) cJ bz) am)))))
noncomputable def bx:FM:=iL 1 5 ([1]++((([2]++([3]++[]))++([4]++([5]++[])))++[])) fx
theorem eZ:aA ["_law_measures","_law_ahead","_law_at","_law_one","_law_great","_law_alike"] ["_law_measures"] (ap aR):=⟨rfl,rfl,rfl,by decide+kernel,rfl,by decide+kernel,by decide+kernel⟩
theorem jl(h:bD K mg "_law_greatest_first" aR f fd ["_law_measures"])(T:jE mg){fLless:Addr}{eLless:FuncData}(hLless:bD K mg "_law_less" lR fLless eLless ["_law_one","_law_other"])(GLless:aJ P w K mg base cy 1 fLless eLless ["_law_one","_law_other"] (cD K 2 g9)):aJ P w K mg base cy 2 f fd ["_law_measures"] (cD K 1 bx):=by
  have nd:=eZ.nd
  exact h.fn eZ rfl rfl (fun cdv A outer s H E hr=>(@ah _ _ _ _ _ _ _ _ (@aB _ _ _ _ _ 1 _ _ nd rfl (Or.inl rfl) (@bR _ _ _ _ _ ae) (by rfl) (by trivial))
      (@ah _ _ _ _ _ _ _ _ (@el _ _ _ _ _ _ _ _ _ _ _ PassesOwn.never rfl (@ye _ _ _ _ _ _ _ _ _ rfl rfl T.b_enumerate ((¬0)∘ae) (by rfl)) (@lL _ _ _ _ _ _ _ _ rfl rfl (@cH _ _ _ _ _ _ _ _ (@aI _ _ _ 2 _ nd rfl (Or.inl rfl) (by trivial)) (@cH _ _ _ _ _ _ _ _ (@aI _ _ _ 3 _ nd rfl (Or.inr rfl) (by trivial)) (@jo _ _) (by rfl)) (by rfl)) (dU (dU lu)) (by rfl) (by rfl))
      (@ah _ _ _ _ _ _ _ _ (@mL _ _ _ (4) _ _ _ _ _ _ _ _ _ _ _ _ _ (ap aR) ["_law_measures","_law_ahead","_law_at","_law_one","_law_great","_law_alike"] [(3,"_law_one"),(0,"_law_measures")] ["_law_k"] rfl rfl rfl (@dM _ _ _ _ _ _ _ rfl T.b_range ((@a' _ _ _ _ _ _ _ _ _ (@b_len _ _ rfl) (by rfl) T.b_len ((¬0)∘ae) (by decide) (by decide) (by rfl) (by rfl))∘ae) (by rfl))
        (fun C s0 H0 fp=>(@aI _ _ _ 2 _ (show List.Nodup (["_law_one","_law_measures","_law_k"]:List Str) by decide+kernel) rfl (Or.inl rfl) (by trivial))) (fun C s0 H0 fp=>(@kR _ _ _ _ (@cQ _ _ _ _ (@ba _ _ _ _ _ _ _ _ _ _ _ _ _ _ _ hLless GLless (hr.mono (by decide)) ((¬0)∘((@aT _ _ _ _ _ _ _ rfl (¬1) (¬2) (fun _ _=>rfl))∘ae)) (by rfl) (by decide) (by rfl) (by rfl)) (by intro _;rfl))))
        (fun C s0 H0 fp=>(¬2)) rfl (by decide+kernel) (by decide+kernel) (by decide+kernel) (by decide+kernel) (by decide+kernel) (by decide+kernel) (by decide+kernel) nd rfl rfl (by rfl) (by intro _;rfl))
      (@ah _ _ _ _ _ _ _ _ (@mL _ _ _ (5) _ _ _ _ _ _ _ _ _ _ _ _ _ (ap aR) ["_law_measures","_law_ahead","_law_at","_law_one","_law_great","_law_alike"] [(3,"_law_one"),(0,"_law_measures")] ["_law_k"] rfl rfl rfl (@dM _ _ _ _ _ _ _ rfl T.b_range ((¬2)∘ae) (by rfl))
        (fun C s0 H0 fp=>(@aI _ _ _ 2 _ (show List.Nodup (["_law_one","_law_measures","_law_k"]:List Str) by decide+kernel) rfl (Or.inl rfl) (by trivial))) (fun C s0 H0 fp=>(@kR _ _ _ _ (@nW _ _ _ _ (@jT _ _ _ _ _ _ _ _ (@eR _ _ _ _ _ (@cQ _ _ _ _ (@ba _ _ _ _ _ _ _ _ _ _ _ _ _ _ _ hLless GLless (hr.mono (by decide)) ((¬0)∘((@aT _ _ _ _ _ _ _ rfl (¬1) (¬2) (fun _ _=>rfl))∘ae)) (by rfl) (by decide) (by rfl) (by rfl)) (by intro _;rfl))) (@jp _ _ _ _ _ (@eR _ _ _ _ _ (@cQ _ _ _ _ (@ba _ _ _ _ _ _ _ _ _ _ _ _ _ _ _ hLless GLless (hr.mono (by decide)) ((@aT _ _ _ _ _ _ _ rfl (¬1) (¬2) (fun _ _=>rfl))∘((¬0)∘ae)) (by rfl) (by decide) (by rfl) (by rfl)) (by intro _;rfl))))))))
        (fun C s0 H0 fp=>(¬2)) rfl (by decide+kernel) (by decide+kernel) (by decide+kernel) (by decide+kernel) (by decide+kernel) (by decide+kernel) (by decide+kernel) nd rfl rfl (by rfl) (by intro _;rfl))
      (@ao _ _ _ _ _ (@eD _ _ _ _ _ (@dg _ _ _ _ _ _ _ _ _ rfl (¬1) ((@aU _ _ _ _ _ _ ((@cV _ _ _ _ _ _ _ rfl (@a' _ _ _ _ _ _ _ _ _ (@b_len _ _ rfl) (by rfl) T.b_len ((¬4)∘ae) (by decide) (by decide) (by rfl) (by rfl)) (@a' _ _ _ _ _ _ _ _ _ (@b_len _ _ rfl) (by rfl) T.b_len ((¬5)∘ae) (by decide) (by decide) (by rfl) (by rfl)))∘((¬2)∘ae)))∘ae) (by rfl) (by rfl) (by rfl) (by rfl) (by rfl)) (by rfl))))) (by intro _;rfl))
      (@ao _ _ _ _ _ (@ax _ _ _ _ _ (@a' _ _ _ _ _ _ _ _ _ (@b_tuple _ _ rfl) (by rfl) T.b_tuple ((@jS _ _ _ _ _ _ _ _ _ _ _ _ _ (ap aR) ["_law_measures","_law_ahead","_law_at","_law_one","_law_great","_law_alike"] [] ["_law_many","_law_at"] rfl rfl rfl (@ek _ _ _ _ _ rfl (@a' _ _ _ _ _ _ _ _ _ (@m8 _ _ rfl) (by rfl) T.b_sorted ((¬1)∘ae) (by decide) (by decide) (by rfl) (by rfl)))
        (fun C s0 H0 fp=>(@lL _ _ _ _ _ _ _ _ rfl rfl (@cH _ _ _ _ _ _ _ _ (@aI _ _ _ 0 _ (show List.Nodup (["_law_many","_law_at"]:List Str) by decide+kernel) rfl (Or.inl rfl) (by trivial)) (@cH _ _ _ _ _ _ _ _ (@aI _ _ _ 1 _ (show List.Nodup (["_law_many","_law_at"]:List Str) by decide+kernel) rfl (Or.inl rfl) (by trivial)) (@jo _ _) (by rfl)) (by rfl)) (dU (dU lu)) (by rfl) (by rfl))) (fun C s0 H0 fp=>(@io _ _))
        (fun C s0 H0 fp=>(¬1)) rfl (by decide+kernel) (by decide+kernel) (by decide+kernel) (by decide+kernel) (by decide+kernel) (by decide+kernel) (by decide+kernel) (by intro _;rfl))∘ae) (by decide) (by decide) (by rfl) (by rfl)))))))
noncomputable def jd:FI:=(gu (af 1))
noncomputable def gN:FS:=(bj 2 (av c9 (af 2) (aN (g1 rA) (ac (wy (av cC (av cC (af 0) (vC (.int 1))) (af 3)) jk (iy (vC (.int 2)))) am))))
noncomputable def tM:FS:=(aF (bj 2 (eU am))
    (aF (d_ ([3]++[2]) jd (aj 3) gN)
    (bE (af 2))))
noncomputable def iK:FM:=iL 2 2 ([2]++(([3]++[2])++[])) tM
theorem rM:aA ["_law_web_here","_law_ties_here","_law_ends_here","_law_tie"] ["_law_web_here","_law_ties_here"] (ap jV):=⟨rfl,rfl,rfl,by decide+kernel,rfl,by decide+kernel,by decide+kernel⟩
theorem xx(h:bD K mg "_law_ends" jV f fd ["_law_web_here","_law_ties_here"])(T:jE mg):aJ P w K mg base cy 1 f fd ["_law_web_here","_law_ties_here"] (cD K 2 iK):=by
  have nd:=rM.nd
  exact h.fn rM rfl rfl (fun cdv A outer s H E hr=>(@ah _ _ _ _ _ _ _ _ (@aB _ _ _ _ _ 2 _ _ nd rfl (Or.inl rfl) (@bR _ _ _ _ _ ae) (by rfl) (by trivial))
      (@ah _ _ _ _ _ _ _ _ (@el _ _ _ _ _ _ _ _ _ _ _ PassesOwn.never rfl (@ek _ _ _ _ _ rfl (¬1)) (@aI _ _ _ 3 _ nd rfl (Or.inl rfl) (by trivial))
      (@ao _ _ _ _ _ (@aB _ _ _ _ _ 2 _ _ nd rfl (Or.inl rfl) (@cV _ _ _ _ _ _ _ rfl (¬2) (@a' _ _ _ _ _ _ _ _ _ (@b_list _ _ rfl) (by rfl) T.b_list ((@ii _ _ _ _ _ _ _ _ _ _ rfl (@aT _ _ _ _ _ _ _ rfl (@aT _ _ _ _ _ _ _ rfl (¬0) ag (fun _ _=>rfl)) (¬3) (fun _ _=>rfl)) (@ij _ _) (@ik _ _ _ _ ag))∘ae) (by decide) (by decide) (by rfl) (by rfl))) (by rfl) (by trivial))) (by intro _;rfl))
      (@ao _ _ _ _ _ (@ax _ _ _ _ _ (¬2))))))
noncomputable def gW:FI:=(gu (dt 3 lA (ac (af 0) (ac (af 1) (ac (vC (.int 16)) am)))))
noncomputable def cg:FS:=(aF (bj 4 (dt 2 iK (ac (af 1) (ac (af 2) am))))
    (iY (l6 (aH (av (jF true) (av cC (av cC (av cC (af 1) (vC (.int 1))) (af 3)) (vC (.int 0))) (af 4))) (l6 (aH (av (jF true) (av cC (av cC (av cC (af 1) (vC (.int 1))) (af 3)) (vC (.int 1))) (af 4))) (aH (av zH (av bg (dt 1 bu (ac (af 0) am)) (vC (.int 8))) (vC (.int 0))))))
    (gJ (dw bZ (af 2) (ac (af 3) am)))
    et))
noncomputable def mn:FS:=(aF (bj 2 (eU am))
    (aF (d_ ([3]++([4]++([]++[]))) gW (aj 3) cg)
    (bE (aN (g1 dc) (ac (aN (g1 cE) (ac (af 2) am)) am)))))
noncomputable def eH:FM:=iL 2 3 ([2]++(([3]++([4]++([]++[])))++[])) mn
theorem lW:aA ["_law_drawn","_law_web_here","_law_found","_law_tie","_law_ends_here"] ["_law_drawn","_law_web_here"] (ap fW):=⟨rfl,rfl,rfl,by decide+kernel,rfl,by decide+kernel,by decide+kernel⟩
theorem qC(h:bD K mg "_law_pairing" fW f fd ["_law_drawn","_law_web_here"])(T:jE mg){fLfull:Addr}{eLfull:FuncData}(hLfull:bD K mg "_law_full" lQ fLfull eLfull ["_law_drawn","_law_web_here","_law_most"])(GLfull:aJ P w K mg base cy 2 fLfull eLfull ["_law_drawn","_law_web_here","_law_most"] (cD K 3 lA)){fLends:Addr}{eLends:FuncData}(hLends:bD K mg "_law_ends" jV fLends eLends ["_law_web_here","_law_ties_here"])(GLends:aJ P w K mg base cy 1 fLends eLends ["_law_web_here","_law_ties_here"] (cD K 2 iK)){fLnext:Addr}{eLnext:FuncData}(hLnext:bD K mg "_law_next" hU fLnext eLnext ["_law_drawn"])(GLnext:aJ P w K mg base cy 1 fLnext eLnext ["_law_drawn"] (cD K 1 bu)):aJ P w K mg base cy 3 f fd ["_law_drawn","_law_web_here"] (cD K 2 eH):=by
  have nd:=lW.nd
  exact h.fn lW rfl rfl (fun cdv A outer s H E hr=>(@ah _ _ _ _ _ _ _ _ (@aB _ _ _ _ _ 2 _ _ nd rfl (Or.inl rfl) (@bR _ _ _ _ _ ae) (by rfl) (by trivial))
      (@ah _ _ _ _ _ _ _ _ (@el _ _ _ _ _ _ _ _ _ _ _ PassesOwn.never rfl (@ek _ _ _ _ _ rfl (@ba _ _ _ _ _ _ _ _ _ _ _ _ _ _ _ hLfull GLfull (hr.mono (by decide)) ((¬0)∘((¬1)∘(ag∘ae))) (by rfl) (by decide) (by rfl) (by rfl))) (@aI _ _ _ 3 _ nd rfl (Or.inl rfl) (by trivial))
      (@ah _ _ _ _ _ _ _ _ (@aB _ _ _ _ _ 4 _ _ nd rfl (Or.inl rfl) (@ba _ _ _ _ _ _ _ _ _ _ _ _ _ _ _ hLends GLends (hr.mono (by decide)) ((¬1)∘((¬2)∘ae)) (by rfl) (by decide) (by rfl) (by rfl)) (by rfl) (by trivial))
      (@ao _ _ _ _ _ (@cI _ _ _ _ _ _ _ _ _ _ _ (@nW _ _ _ _ (@jT _ _ _ _ _ _ _ _ (@bh _ _ _ _ _ _ _ _ _ (@i8 _ _ _ rfl hr) (@aT _ _ _ _ _ _ _ rfl (@aT _ _ _ _ _ _ _ rfl (@aT _ _ _ _ _ _ _ rfl (¬1) ag (fun _ _=>rfl)) (¬3) (fun _ _=>rfl)) ag (fun _ _=>rfl)) (¬4) (by with_unfolding_all rfl)) (@jT _ _ _ _ _ _ _ _ (@bh _ _ _ _ _ _ _ _ _ (@i8 _ _ _ rfl hr) (@aT _ _ _ _ _ _ _ rfl (@aT _ _ _ _ _ _ _ rfl (@aT _ _ _ _ _ _ _ rfl (¬1) ag (fun _ _=>rfl)) (¬3) (fun _ _=>rfl)) ag (fun _ _=>rfl)) (¬4) (by with_unfolding_all rfl)) (@jp _ _ _ _ _ (@bh _ _ _ _ _ _ _ _ _ (@BZ _ _) (@a7 _ _ _ _ _ _ _ (@ba _ _ _ _ _ _ _ _ _ _ _ _ _ _ _ hLnext GLnext (hr.mono (by decide)) ((¬0)∘ae) (by rfl) (by decide) (by rfl) (by rfl)) ag) ag (a_ _))))))
      (@ao _ _ _ _ _ (@eD _ _ _ _ _ (@dg _ _ _ _ _ _ _ _ _ rfl (¬2) ((¬3)∘ae) (by rfl) (by rfl) (by rfl) (by rfl) (by rfl)) (by rfl)))
      (@a9 _ _)))) (by intro _;rfl))
      (@ao _ _ _ _ _ (@ax _ _ _ _ _ (@a' _ _ _ _ _ _ _ _ _ (@b_tuple _ _ rfl) (by rfl) T.b_tuple ((@a' _ _ _ _ _ _ _ _ _ (@m8 _ _ rfl) (by rfl) T.b_sorted ((¬2)∘ae) (by decide) (by decide) (by rfl) (by rfl))∘ae) (by decide) (by decide) (by rfl) (by rfl)))))))
noncomputable def m6:FS:=(aF (iY (aH (av wG (av cC (av cC (av cC (af 0) (vC (.int 1))) (af 1)) (vC (.int 3))) (av cC (av cC (av cC (af 0) (vC (.int 1))) (af 2)) (vC (.int 3)))))
    (bE (vC (.bool false)))
    et)
    (bE (wx (av (jF false) (av cC (av cC (av cC (af 0) (vC (.int 1))) (af 1)) (vC (.int 0))) (wy (av cC (av cC (af 0) (vC (.int 1))) (af 2)) jk (iy (vC (.int 2))))) (av (jF false) (av cC (av cC (av cC (af 0) (vC (.int 1))) (af 1)) (vC (.int 1))) (wy (av cC (av cC (af 0) (vC (.int 1))) (af 2)) jk (iy (vC (.int 2))))))))
noncomputable def eX:FM:=iL 3 0 (([]++[])++[]) m6
theorem pH:aA ["_law_web_here","_law_own","_law_other"] ["_law_web_here","_law_own","_law_other"] (ap iq):=⟨rfl,rfl,rfl,by decide+kernel,rfl,by decide+kernel,by decide+kernel⟩
theorem vi(h:bD K mg "_law_bears" iq f fd ["_law_web_here","_law_own","_law_other"])(T:jE mg):aJ P w K mg base cy 1 f fd ["_law_web_here","_law_own","_law_other"] (cD K 3 eX):=by
  have nd:=pH.nd
  exact h.fn pH rfl rfl (fun cdv A outer s H E hr=>(@ah _ _ _ _ _ _ _ _ (@cI _ _ _ _ _ _ _ _ _ _ _ (@bh _ _ _ _ _ _ _ _ _ (@tW _ _) (@aT _ _ _ _ _ _ _ rfl (@aT _ _ _ _ _ _ _ rfl (@aT _ _ _ _ _ _ _ rfl (¬0) ag (fun _ _=>rfl)) (¬1) (fun _ _=>rfl)) ag (fun _ _=>rfl)) (@aT _ _ _ _ _ _ _ rfl (@aT _ _ _ _ _ _ _ rfl (@aT _ _ _ _ _ _ _ rfl (¬0) ag (fun _ _=>rfl)) (¬2) (fun _ _=>rfl)) ag (fun _ _=>rfl)) (a_ _))
      (@ao _ _ _ _ _ (@ax _ _ _ _ _ (@eY _ _ _ _ _)))
      (@a9 _ _))
      (@ao _ _ _ _ _ (@ax _ _ _ _ _ (@CL _ _ _ _ _ _ _ _ (@hJ _ _ _ _ _ _ _ _ _ (@tV _ _ _ rfl hr) (@aT _ _ _ _ _ _ _ rfl (@aT _ _ _ _ _ _ _ rfl (@aT _ _ _ _ _ _ _ rfl (¬0) ag (fun _ _=>rfl)) (¬1) (fun _ _=>rfl)) ag (fun _ _=>rfl)) (@ii _ _ _ _ _ _ _ _ _ _ rfl (@aT _ _ _ _ _ _ _ rfl (@aT _ _ _ _ _ _ _ rfl (¬0) ag (fun _ _=>rfl)) (¬2) (fun _ _=>rfl)) (@ij _ _) (@ik _ _ _ _ ag)) (by with_unfolding_all rfl)) (@nV _ _ _ _ _ _ (@hJ _ _ _ _ _ _ _ _ _ (@tV _ _ _ rfl hr) (@aT _ _ _ _ _ _ _ rfl (@aT _ _ _ _ _ _ _ rfl (@aT _ _ _ _ _ _ _ rfl (¬0) ag (fun _ _=>rfl)) (¬1) (fun _ _=>rfl)) ag (fun _ _=>rfl)) (@ii _ _ _ _ _ _ _ _ _ _ rfl (@aT _ _ _ _ _ _ _ rfl (@aT _ _ _ _ _ _ _ rfl (¬0) ag (fun _ _=>rfl)) (¬2) (fun _ _=>rfl)) (@ij _ _) (@ik _ _ _ _ ag)) (by with_unfolding_all rfl))))))))
noncomputable def gU:FI:=(mG (ac (af 3) (ac (af 2) am)))
noncomputable def bN:FS:=(iY (ww (iv (aH (rX (ku "int") (af 4)))) (ww (aH (rX (ku "bool") (af 4))) (ww (aH (av (jF true) (af 4) (af 1))) (iv (aH (dt 3 eX (ac (af 0) (ac (af 4) (ac (af 5) am)))))))))
    (bE (vC (.bool false)))
    et)
noncomputable def fv:FS:=(aF (iY (ww (iv (aH (rX (ku "tuple") (af 3)))) (aH (av (c_ true) (aN (g1 fK) (ac (af 3) am)) (aN (g1 fK) (ac (af 2) am)))))
    (bE (vC (.bool false)))
    et)
    (aF (d_ (([4]++([5]++[]))++([]++[])) gU (de (aL (aj 4) (aL (aj 5) cG))) bN)
    (bE (vC (.bool true)))))
noncomputable def cS:FM:=iL 4 2 (([]++[])++((([4]++([5]++[]))++([]++[]))++[])) fv
theorem lV:aA ["_law_web_here","_law_kept","_law_other","_law_thing","_law_own","_law_tie"] ["_law_web_here","_law_kept","_law_other","_law_thing"] (ap fR):=⟨rfl,rfl,rfl,by decide+kernel,rfl,by decide+kernel,by decide+kernel⟩
theorem qB(h:bD K mg "_law_charges" fR f fd ["_law_web_here","_law_kept","_law_other","_law_thing"])(T:jE mg){fLbears:Addr}{eLbears:FuncData}(hLbears:bD K mg "_law_bears" iq fLbears eLbears ["_law_web_here","_law_own","_law_other"])(GLbears:aJ P w K mg base cy 1 fLbears eLbears ["_law_web_here","_law_own","_law_other"] (cD K 3 eX)):aJ P w K mg base cy 2 f fd ["_law_web_here","_law_kept","_law_other","_law_thing"] (cD K 4 cS):=by
  have nd:=lV.nd
  exact h.fn lV rfl rfl (fun cdv A outer s H E hr=>(@ah _ _ _ _ _ _ _ _ (@cI _ _ _ _ _ _ _ _ _ _ _ (@nW _ _ _ _ (@mO _ _ _ _ _ _ _ _ (@eR _ _ _ _ _ (@cQ _ _ _ _ (@mM _ _ _ _ _ _ _ _ "tuple" rfl (by decide) rfl T.b_isinstance rfl T.b_tuple PyProof.Rows.boot_tuple (by decide) (by decide) (¬3) (by rfl) (by rfl)) (by intro _;rfl))) (@nX _ _ _ _ _ (@bh _ _ _ _ _ _ _ _ _ (@wU _ _ _ rfl hr) (@a' _ _ _ _ _ _ _ _ _ (@b_len _ _ rfl) (by rfl) T.b_len ((¬3)∘ae) (by decide) (by decide) (by rfl) (by rfl)) (@a' _ _ _ _ _ _ _ _ _ (@b_len _ _ rfl) (by rfl) T.b_len ((¬2)∘ae) (by decide) (by decide) (by rfl) (by rfl)) (a_ _)))))
      (@ao _ _ _ _ _ (@ax _ _ _ _ _ (@eY _ _ _ _ _)))
      (@a9 _ _))
      (@ah _ _ _ _ _ _ _ _ (@el _ _ _ _ _ _ _ _ _ _ _ PassesOwn.never rfl (@rK _ _ _ _ _ _ _ _ _ _ rfl rfl T.b_zip ((¬3)∘((¬2)∘ae)) (by rfl) (by rfl)) (@lL _ _ _ _ _ _ _ _ rfl rfl (@cH _ _ _ _ _ _ _ _ (@aI _ _ _ 4 _ nd rfl (Or.inl rfl) (by trivial)) (@cH _ _ _ _ _ _ _ _ (@aI _ _ _ 5 _ nd rfl (Or.inl rfl) (by trivial)) (@jo _ _) (by rfl)) (by rfl)) (dU (dU lu)) (by rfl) (by rfl))
      (@ao _ _ _ _ _ (@cI _ _ _ _ _ _ _ _ _ _ _ (@nW _ _ _ _ (@mO _ _ _ _ _ _ _ _ (@eR _ _ _ _ _ (@cQ _ _ _ _ (@mM _ _ _ _ _ _ _ _ "int" rfl (by decide) rfl T.b_isinstance rfl T.b_int PyProof.Rows.boot_int (by decide) (by decide) (¬4) (by rfl) (by rfl)) (by intro _;rfl))) (@mO _ _ _ _ _ _ _ _ (@cQ _ _ _ _ (@mM _ _ _ _ _ _ _ _ "bool" rfl (by decide) rfl T.b_isinstance rfl T.b_bool PyProof.Rows.boot_bool (by decide) (by decide) (¬4) (by rfl) (by rfl)) (by intro _;rfl)) (@mO _ _ _ _ _ _ _ _ (@bh _ _ _ _ _ _ _ _ _ (@i8 _ _ _ rfl hr) (¬4) (¬1) (by with_unfolding_all rfl)) (@nX _ _ _ _ _ (@eR _ _ _ _ _ (@cQ _ _ _ _ (@ba _ _ _ _ _ _ _ _ _ _ _ _ _ _ _ hLbears GLbears (hr.mono (by decide)) ((¬0)∘((¬4)∘((¬5)∘ae))) (by rfl) (by decide) (by rfl) (by rfl)) (by intro _;rfl))))))))
      (@ao _ _ _ _ _ (@ax _ _ _ _ _ (@eY _ _ _ _ _)))
      (@a9 _ _))) (by intro _;rfl))
      (@ao _ _ _ _ _ (@ax _ _ _ _ _ (@eY _ _ _ _ _))))))
noncomputable def iH:FI:=(gu (af 1))
noncomputable def dC:FT:=(aH (dt 3 eX (ac (af 0) (ac (af 2) (ac (af 1) am)))))
noncomputable def eL:FE:=(af 2)
noncomputable def iI:FI:=(gu (af 2))
noncomputable def dA:FS:=(iY (aH (av (sr false) (bO [(0,"_law_web_here"),(3,"_law_tie")] 1 iH (aj 2) dC eL) (eU am)))
    (bE (vC (.bool false)))
    et)
noncomputable def k9:FS:=(aF (d_ ([3]++([]++[])) iI (aj 3) dA)
    (bE (vC (.bool true))))
noncomputable def fM:FM:=iL 3 1 (([3]++([]++[]))++[]) k9
theorem mS:aA ["_law_web_here","_law_kept","_law_other","_law_tie"] ["_law_web_here","_law_kept","_law_other"] (ap fV):=⟨rfl,rfl,rfl,by decide+kernel,rfl,by decide+kernel,by decide+kernel⟩
theorem sL(h:bD K mg "_law_may_be" fV f fd ["_law_web_here","_law_kept","_law_other"])(T:jE mg){fLbears:Addr}{eLbears:FuncData}(hLbears:bD K mg "_law_bears" iq fLbears eLbears ["_law_web_here","_law_own","_law_other"])(GLbears:aJ P w K mg base cy 1 fLbears eLbears ["_law_web_here","_law_own","_law_other"] (cD K 3 eX)):aJ P w K mg base cy 2 f fd ["_law_web_here","_law_kept","_law_other"] (cD K 3 fM):=by
  have nd:=mS.nd
  exact h.fn mS rfl rfl (fun cdv A outer s H E hr=>(@ah _ _ _ _ _ _ _ _ (@el _ _ _ _ _ _ _ _ _ _ _ PassesOwn.never rfl (@ek _ _ _ _ _ rfl (¬2)) (@aI _ _ _ 3 _ nd rfl (Or.inr rfl) (by trivial))
      (@ao _ _ _ _ _ (@cI _ _ _ _ _ _ _ _ _ _ _ (@bh _ _ _ _ _ _ _ _ _ (@BY _ _ _ rfl hr) (@jS _ _ _ _ _ _ _ _ _ _ _ _ _ (ap fV) ["_law_web_here","_law_kept","_law_other","_law_tie"] [(0,"_law_web_here"),(3,"_law_tie")] ["_law_own"] rfl rfl rfl (@ek _ _ _ _ _ rfl (¬1))
        (fun C s0 H0 fp=>(@aI _ _ _ 2 _ (show List.Nodup (["_law_web_here","_law_tie","_law_own"]:List Str) by decide+kernel) rfl (Or.inl rfl) (by trivial))) (fun C s0 H0 fp=>(@kR _ _ _ _ (@cQ _ _ _ _ (@ba _ _ _ _ _ _ _ _ _ _ _ _ _ _ _ hLbears GLbears (hr.mono (by decide)) ((¬0)∘((¬2)∘((¬1)∘ae))) (by rfl) (by decide) (by rfl) (by rfl)) (by intro _;rfl))))
        (fun C s0 H0 fp=>(¬2)) rfl (by decide+kernel) (by decide+kernel) (by decide+kernel) (by decide+kernel) (by decide+kernel) (by decide+kernel) (by decide+kernel) (by intro _;rfl)) (@bR _ _ _ _ _ ae) (a_ _))
      (@ao _ _ _ _ _ (@ax _ _ _ _ _ (@eY _ _ _ _ _)))
      (@a9 _ _))) (by intro _;rfl))
      (@ao _ _ _ _ _ (@ax _ _ _ _ _ (@eY _ _ _ _ _)))))
noncomputable def iG:FI:=(gu (av cC (af 0) (vC (.int 1))))
noncomputable def gf:FE:=(cL (ac (av cC (af 0) (vC (.int 3))) (ac (vC (.int 1)) am)))
noncomputable def lw:FI:=(gu (dt 1 bx (ac (bO [] 1 iG (aj 0) cJ gf) am)))
noncomputable def dz:FS:=(aF (bj 3 (dt 2 iK (ac (af 0) (ac (af 1) am))))
    (iY (l6 (aH (av (jF true) (av cC (av cC (av cC (af 0) (vC (.int 1))) (af 2)) (vC (.int 0))) (af 3))) (aH (av (jF true) (av cC (av cC (av cC (af 0) (vC (.int 1))) (af 2)) (vC (.int 1))) (af 3))))
    (gJ (dw bZ (af 1) (ac (af 2) am)))
    et))
noncomputable def oy:FS:=(aF (bj 1 (eU am))
    (aF (d_ ([2]++([3]++([]++[]))) lw (aj 2) dz)
    (bE (aN (g1 dc) (ac (aN (g1 cE) (ac (af 1) am)) am)))))
noncomputable def gZ:FM:=iL 1 3 ([1]++(([2]++([3]++([]++[])))++[])) oy
theorem mR:aA ["_law_web_here","_law_found","_law_tie","_law_ends_here"] ["_law_web_here"] (ap fU):=⟨rfl,rfl,rfl,by decide+kernel,rfl,by decide+kernel,by decide+kernel⟩
theorem sJ(h:bD K mg "_law_greedy" fU f fd ["_law_web_here"])(T:jE mg){fLgreatest_first:Addr}{eLgreatest_first:FuncData}(hLgreatest_first:bD K mg "_law_greatest_first" aR fLgreatest_first eLgreatest_first ["_law_measures"])(GLgreatest_first:aJ P w K mg base cy 2 fLgreatest_first eLgreatest_first ["_law_measures"] (cD K 1 bx)){fLends:Addr}{eLends:FuncData}(hLends:bD K mg "_law_ends" jV fLends eLends ["_law_web_here","_law_ties_here"])(GLends:aJ P w K mg base cy 1 fLends eLends ["_law_web_here","_law_ties_here"] (cD K 2 iK)):aJ P w K mg base cy 3 f fd ["_law_web_here"] (cD K 1 gZ):=by
  have nd:=mR.nd
  exact h.fn mR rfl rfl (fun cdv A outer s H E hr=>(@ah _ _ _ _ _ _ _ _ (@aB _ _ _ _ _ 1 _ _ nd rfl (Or.inl rfl) (@bR _ _ _ _ _ ae) (by rfl) (by trivial))
      (@ah _ _ _ _ _ _ _ _ (@el _ _ _ _ _ _ _ _ _ _ _ PassesOwn.never rfl (@ek _ _ _ _ _ rfl (@ba _ _ _ _ _ _ _ _ _ _ _ _ _ _ _ hLgreatest_first GLgreatest_first (hr.mono (by decide)) ((@jS _ _ _ _ _ _ _ _ _ _ _ _ _ (ap fU) ["_law_web_here","_law_found","_law_tie","_law_ends_here"] [] ["_law_tie"] rfl rfl rfl (@ek _ _ _ _ _ rfl (@aT _ _ _ _ _ _ _ rfl (¬0) ag (fun _ _=>rfl)))
        (fun C s0 H0 fp=>(@aI _ _ _ 0 _ (show List.Nodup (["_law_tie"]:List Str) by decide+kernel) rfl (Or.inl rfl) (by trivial))) (fun C s0 H0 fp=>(@io _ _))
        (fun C s0 H0 fp=>(@aU _ _ _ _ _ _ ((@aT _ _ _ _ _ _ _ rfl (¬0) ag (fun _ _=>rfl))∘(ag∘ae)))) rfl (by decide+kernel) (by decide+kernel) (by decide+kernel) (by decide+kernel) (by decide+kernel) (by decide+kernel) (by decide+kernel) (by intro _;rfl))∘ae) (by rfl) (by decide) (by rfl) (by rfl))) (@aI _ _ _ 2 _ nd rfl (Or.inl rfl) (by trivial))
      (@ah _ _ _ _ _ _ _ _ (@aB _ _ _ _ _ 3 _ _ nd rfl (Or.inl rfl) (@ba _ _ _ _ _ _ _ _ _ _ _ _ _ _ _ hLends GLends (hr.mono (by decide)) ((¬0)∘((¬1)∘ae)) (by rfl) (by decide) (by rfl) (by rfl)) (by rfl) (by trivial))
      (@ao _ _ _ _ _ (@cI _ _ _ _ _ _ _ _ _ _ _ (@nW _ _ _ _ (@jT _ _ _ _ _ _ _ _ (@bh _ _ _ _ _ _ _ _ _ (@i8 _ _ _ rfl hr) (@aT _ _ _ _ _ _ _ rfl (@aT _ _ _ _ _ _ _ rfl (@aT _ _ _ _ _ _ _ rfl (¬0) ag (fun _ _=>rfl)) (¬2) (fun _ _=>rfl)) ag (fun _ _=>rfl)) (¬3) (by with_unfolding_all rfl)) (@jp _ _ _ _ _ (@bh _ _ _ _ _ _ _ _ _ (@i8 _ _ _ rfl hr) (@aT _ _ _ _ _ _ _ rfl (@aT _ _ _ _ _ _ _ rfl (@aT _ _ _ _ _ _ _ rfl (¬0) ag (fun _ _=>rfl)) (¬2) (fun _ _=>rfl)) ag (fun _ _=>rfl)) (¬3) (by with_unfolding_all rfl)))))
      (@ao _ _ _ _ _ (@eD _ _ _ _ _ (@dg _ _ _ _ _ _ _ _ _ rfl (¬1) ((¬2)∘ae) (by rfl) (by rfl) (by rfl) (by rfl) (by rfl)) (by rfl)))
      (@a9 _ _)))) (by intro _;rfl))
      (@ao _ _ _ _ _ (@ax _ _ _ _ _ (@a' _ _ _ _ _ _ _ _ _ (@b_tuple _ _ rfl) (by rfl) T.b_tuple ((@a' _ _ _ _ _ _ _ _ _ (@m8 _ _ rfl) (by rfl) T.b_sorted ((¬1)∘ae) (by decide) (by decide) (by rfl) (by rfl))∘ae) (by decide) (by decide) (by rfl) (by rfl)))))))
noncomputable def m7:FS:=(aF (bj 3 (cL (ac (af 0) (ac (af 1) (ac (af 2) am)))))
    (aF (bj 4 (dt 3 a8 (ac (af 0) (ac (af 1) (ac (af 2) am)))))
    (aF (iY (ww (aH (av (c_ true) (af 3) (cL (ac (af 0) (ac (af 1) (ac (af 2) am)))))) (iv (aH (dt 2 lB (ac (dt 3 a8 (ac (af 0) (ac (af 1) (ac (af 2) am)))) (ac (af 4) am))))))
    (bE (vC (.bool false)))
    et)
    (aF (iY (iv (aH (dt 3 fM (ac (af 0) (ac (af 1) (ac (af 2) am))))))
    (bE (av xg (af 4) (vC .none)))
    et)
    (aF (iY (iv (aH (dt 4 cS (ac (af 0) (ac (af 1) (ac (af 2) (ac (af 4) am)))))))
    (bE (vC (.bool false)))
    et)
    (bE (av xg (dt 4 bJ (ac (af 0) (ac (af 1) (ac (af 2) (ac (af 4) am))))) (vC (.bool true)))))))))
noncomputable def ig:FM:=iL 3 2 ([3]++([4]++(([]++[])++(([]++[])++(([]++[])++[]))))) m7
theorem pK:aA ["_law_web_here","_law_kept","_law_other","_law_handed","_law_found"] ["_law_web_here","_law_kept","_law_other"] (ap jv):=⟨rfl,rfl,rfl,by decide+kernel,rfl,by decide+kernel,by decide+kernel⟩
theorem vm(h:bD K mg "_law_right" jv f fd ["_law_web_here","_law_kept","_law_other"])(T:jE mg){f_charges_of:Addr}{e_charges_of:FuncData}(h_charges_of:bD K mg "charges_of" bS f_charges_of e_charges_of ["web","kept","other"])(G_charges_of:aJ P w K mg base cy 3 f_charges_of e_charges_of ["web","kept","other"] (cD K 3 a8)){fLmay_be:Addr}{eLmay_be:FuncData}(hLmay_be:bD K mg "_law_may_be" fV fLmay_be eLmay_be ["_law_web_here","_law_kept","_law_other"])(GLmay_be:aJ P w K mg base cy 2 fLmay_be eLmay_be ["_law_web_here","_law_kept","_law_other"] (cD K 3 fM)){fLcharges:Addr}{eLcharges:FuncData}(hLcharges:bD K mg "_law_charges" fR fLcharges eLcharges ["_law_web_here","_law_kept","_law_other","_law_thing"])(GLcharges:aJ P w K mg base cy 2 fLcharges eLcharges ["_law_web_here","_law_kept","_law_other","_law_thing"] (cD K 4 cS)){f_charges_hold:Addr}{e_charges_hold:FuncData}(h_charges_hold:bD K mg "charges_hold" bK f_charges_hold e_charges_hold ["web","kept","other","thing"])(G_charges_hold:aJ P w K mg base cy 3 f_charges_hold e_charges_hold ["web","kept","other","thing"] (cD K 4 bJ)){fLsame:Addr}{eLsame:FuncData}(hLsame:bD K mg "_law_same" lS fLsame eLsame ["_law_found","_law_due"])(GLsame:aJ P w K mg base cy 1 fLsame eLsame ["_law_found","_law_due"] (cD K 2 lB)):aJ P w K mg base cy 4 f fd ["_law_web_here","_law_kept","_law_other"] (cD K 3 ig):=by
  have nd:=pK.nd
  exact h.fn pK rfl rfl (fun cdv A outer s H E hr=>(@ah _ _ _ _ _ _ _ _ (@aB _ _ _ _ _ 3 _ _ nd rfl (Or.inl rfl) (@aU _ _ _ _ _ _ ((¬0)∘((¬1)∘((¬2)∘ae)))) (by rfl) (by trivial))
      (@ah _ _ _ _ _ _ _ _ (@aB _ _ _ _ _ 4 _ _ nd rfl (Or.inl rfl) (@ba _ _ _ _ _ _ _ _ _ _ _ _ _ _ _ h_charges_of G_charges_of (hr.mono (by decide)) ((¬0)∘((¬1)∘((¬2)∘ae))) (by rfl) (by decide) (by rfl) (by rfl)) (by rfl) (by trivial))
      (@ah _ _ _ _ _ _ _ _ (@cI _ _ _ _ _ _ _ _ _ _ _ (@nW _ _ _ _ (@mO _ _ _ _ _ _ _ _ (@bh _ _ _ _ _ _ _ _ _ (@wU _ _ _ rfl hr) (¬3) (@aU _ _ _ _ _ _ ((¬0)∘((¬1)∘((¬2)∘ae)))) (a_ _)) (@nX _ _ _ _ _ (@eR _ _ _ _ _ (@cQ _ _ _ _ (@ba _ _ _ _ _ _ _ _ _ _ _ _ _ _ _ hLsame GLsame (hr.mono (by decide)) ((@ba _ _ _ _ _ _ _ _ _ _ _ _ _ _ _ h_charges_of G_charges_of (hr.mono (by decide)) ((¬0)∘((¬1)∘((¬2)∘ae))) (by rfl) (by decide) (by rfl) (by rfl))∘((¬4)∘ae)) (by rfl) (by decide) (by rfl) (by rfl)) (by intro _;rfl))))))
      (@ao _ _ _ _ _ (@ax _ _ _ _ _ (@eY _ _ _ _ _)))
      (@a9 _ _))
      (@ah _ _ _ _ _ _ _ _ (@cI _ _ _ _ _ _ _ _ _ _ _ (@eR _ _ _ _ _ (@cQ _ _ _ _ (@ba _ _ _ _ _ _ _ _ _ _ _ _ _ _ _ hLmay_be GLmay_be (hr.mono (by decide)) ((¬0)∘((¬1)∘((¬2)∘ae))) (by rfl) (by decide) (by rfl) (by rfl)) (by intro _;rfl)))
      (@ao _ _ _ _ _ (@ax _ _ _ _ _ (@hJ _ _ _ _ _ _ _ _ _ (@wR _ _) (¬4) (@nU _ _ _ _) (a_ _))))
      (@a9 _ _))
      (@ah _ _ _ _ _ _ _ _ (@cI _ _ _ _ _ _ _ _ _ _ _ (@eR _ _ _ _ _ (@cQ _ _ _ _ (@ba _ _ _ _ _ _ _ _ _ _ _ _ _ _ _ hLcharges GLcharges (hr.mono (by decide)) ((¬0)∘((¬1)∘((¬2)∘((¬4)∘ae)))) (by rfl) (by decide) (by rfl) (by rfl)) (by intro _;rfl)))
      (@ao _ _ _ _ _ (@ax _ _ _ _ _ (@eY _ _ _ _ _)))
      (@a9 _ _))
      (@ao _ _ _ _ _ (@ax _ _ _ _ _ (@hJ _ _ _ _ _ _ _ _ _ (@wR _ _) (@ba _ _ _ _ _ _ _ _ _ _ _ _ _ _ _ h_charges_hold G_charges_hold (hr.mono (by decide)) ((¬0)∘((¬1)∘((¬2)∘((¬4)∘ae)))) (by rfl) (by decide) (by rfl) (by rfl)) (@eY _ _ _ _ _) (a_ _))))))))))
noncomputable def Es:FI:=(gu (av c9 (af 6) (eU (ac (cL (ac (af 7) (ac (af 4) am))) (ac (cL (ac (af 7) (ac (af 5) am))) (ac (cL (ac (wy (af 7) jk (iy (rX xh (vC (.int 1))))) (ac (af 5) am))) (ac (cL (ac (af 4) (ac (af 7) am))) am)))))))
noncomputable def BU:FS:=(iY (iv (aH (dt 3 ig (ac (af 3) (ac (av cC (af 8) (vC (.int 0))) (ac (av cC (af 8) (vC (.int 1))) am))))))
    (bE (vC (.bool false)))
    et)
noncomputable def Et:FI:=(df (ac (vC (.int 5)) am))
noncomputable def BV:FS:=(aF (bj 3 (dt 3 o6 (ac (af 1) (ac (vC (.int 12)) (ac (vC (.int 16)) am)))))
    (aF (bj 4 (dt 2 eH (ac (af 1) (ac (af 3) am))))
    (aF (bj 5 (dt 2 eH (ac (af 1) (ac (af 3) am))))
    (aF (bj 6 (eU (ac (cL (ac (af 4) (ac (af 5) am))) (ac (cL (ac (af 5) (ac (af 4) am))) (ac (cL (ac (af 4) (ac (af 4) am))) (ac (cL (ac (af 4) (ac (cL am) am))) (ac (cL (ac (cL am) (ac (af 5) am))) (ac (cL (ac (wy (af 4) (iy (vC (.int 1))) jk) (ac (af 4) am))) am))))))))
    (aF (bj 7 (dt 1 gZ (ac (af 3) am)))
    (aF (d_ ([8]++([]++[])) Es (aj 8) BU)
    (iY (ww (aH (av xg (dt 3 a8 (ac (af 3) (ac (af 7) (ac (af 4) am)))) (vC .none))) (aH (av xg (dt 3 a8 (ac (af 3) (ac (af 7) (ac (af 5) am)))) (vC .none))))
    (bE (vC (.bool false)))
    et)))))))
noncomputable def yL:FS:=(aF (bj 1 (dt 1 jh (ac (af 0) am)))
    (aF (d_ ([2]++([3]++([4]++([5]++([6]++([7]++(([8]++([]++[]))++([]++[])))))))) Et (aj 2) BV)
    (bE (vC (.bool true)))))
noncomputable def lD:FM:=iL 1 8 ([1]++(([2]++([3]++([4]++([5]++([6]++([7]++(([8]++([]++[]))++([]++[]))))))))++[])) yL
theorem v_:aA ["_law_script","_law_drawn","_law_k","_law_web_here","_law_kept","_law_other","_law_some","_law_best","_law_pair"] ["_law_script"] (ap lU):=⟨rfl,rfl,rfl,by decide+kernel,rfl,by decide+kernel,by decide+kernel⟩
theorem Ac(h:bD K mg "law" lU f fd ["_law_script"])(T:jE mg){fLdraws:Addr}{eLdraws:FuncData}(hLdraws:bD K mg "_law_draws" js fLdraws eLdraws ["_law_script"])(GLdraws:aJ P w K mg base cy 2 fLdraws eLdraws ["_law_script"] (cD K 1 jh)){fLweb:Addr}{eLweb:FuncData}(hLweb:bD K mg "_law_web" pG fLweb eLweb ["_law_drawn","_law_most","_law_ties_here"])(GLweb:aJ P w K mg base cy 5 fLweb eLweb ["_law_drawn","_law_most","_law_ties_here"] (cD K 3 o6)){fLpairing:Addr}{eLpairing:FuncData}(hLpairing:bD K mg "_law_pairing" fW fLpairing eLpairing ["_law_drawn","_law_web_here"])(GLpairing:aJ P w K mg base cy 3 fLpairing eLpairing ["_law_drawn","_law_web_here"] (cD K 2 eH)){fLgreedy:Addr}{eLgreedy:FuncData}(hLgreedy:bD K mg "_law_greedy" fU fLgreedy eLgreedy ["_law_web_here"])(GLgreedy:aJ P w K mg base cy 3 fLgreedy eLgreedy ["_law_web_here"] (cD K 1 gZ)){fLright:Addr}{eLright:FuncData}(hLright:bD K mg "_law_right" jv fLright eLright ["_law_web_here","_law_kept","_law_other"])(GLright:aJ P w K mg base cy 4 fLright eLright ["_law_web_here","_law_kept","_law_other"] (cD K 3 ig)){f_charges_of:Addr}{e_charges_of:FuncData}(h_charges_of:bD K mg "charges_of" bS f_charges_of e_charges_of ["web","kept","other"])(G_charges_of:aJ P w K mg base cy 3 f_charges_of e_charges_of ["web","kept","other"] (cD K 3 a8)):aJ P w K mg base cy 6 f fd ["_law_script"] (cD K 1 lD):=by
  have nd:=v_.nd
  exact h.fn v_ rfl rfl (fun cdv A outer s H E hr=>(@ah _ _ _ _ _ _ _ _ (@aB _ _ _ _ _ 1 _ _ nd rfl (Or.inl rfl) (@ba _ _ _ _ _ _ _ _ _ _ _ _ _ _ _ hLdraws GLdraws (hr.mono (by decide)) ((¬0)∘ae) (by rfl) (by decide) (by rfl) (by rfl)) (by rfl) (by trivial))
      (@ah _ _ _ _ _ _ _ _ (@el _ _ _ _ _ _ _ _ _ _ _ PassesOwn.never rfl (@dM _ _ _ _ _ _ _ rfl T.b_range (ag∘ae) (by rfl)) (@aI _ _ _ 2 _ nd rfl (Or.inl rfl) (by trivial))
      (@ah _ _ _ _ _ _ _ _ (@aB _ _ _ _ _ 3 _ _ nd rfl (Or.inl rfl) (@ba _ _ _ _ _ _ _ _ _ _ _ _ _ _ _ hLweb GLweb (hr.mono (by decide)) ((¬1)∘(ag∘(ag∘ae))) (by rfl) (by decide) (by rfl) (by rfl)) (by rfl) (by trivial))
      (@ah _ _ _ _ _ _ _ _ (@aB _ _ _ _ _ 4 _ _ nd rfl (Or.inl rfl) (@ba _ _ _ _ _ _ _ _ _ _ _ _ _ _ _ hLpairing GLpairing (hr.mono (by decide)) ((¬1)∘((¬3)∘ae)) (by rfl) (by decide) (by rfl) (by rfl)) (by rfl) (by trivial))
      (@ah _ _ _ _ _ _ _ _ (@aB _ _ _ _ _ 5 _ _ nd rfl (Or.inl rfl) (@ba _ _ _ _ _ _ _ _ _ _ _ _ _ _ _ hLpairing GLpairing (hr.mono (by decide)) ((¬1)∘((¬3)∘ae)) (by rfl) (by decide) (by rfl) (by rfl)) (by rfl) (by trivial))
      (@ah _ _ _ _ _ _ _ _ (@aB _ _ _ _ _ 6 _ _ nd rfl (Or.inl rfl) (@bR _ _ _ _ _ ((@aU _ _ _ _ _ _ ((¬4)∘((¬5)∘ae)))∘((@aU _ _ _ _ _ _ ((¬5)∘((¬4)∘ae)))∘((@aU _ _ _ _ _ _ ((¬4)∘((¬4)∘ae)))∘((@aU _ _ _ _ _ _ ((¬4)∘((@aU _ _ _ _ _ _ ae)∘ae)))∘((@aU _ _ _ _ _ _ ((@aU _ _ _ _ _ _ ae)∘((¬5)∘ae)))∘((@aU _ _ _ _ _ _ ((@ii _ _ _ _ _ _ _ _ _ _ rfl (¬4) (@ik _ _ _ _ ag) (@ij _ _))∘((¬4)∘ae)))∘ae))))))) (by rfl) (by trivial))
      (@ah _ _ _ _ _ _ _ _ (@aB _ _ _ _ _ 7 _ _ nd rfl (Or.inl rfl) (@ba _ _ _ _ _ _ _ _ _ _ _ _ _ _ _ hLgreedy GLgreedy (hr.mono (by decide)) ((¬3)∘ae) (by rfl) (by decide) (by rfl) (by rfl)) (by rfl) (by trivial))
      (@ah _ _ _ _ _ _ _ _ (@el _ _ _ _ _ _ _ _ _ _ _ PassesOwn.never rfl (@ek _ _ _ _ _ rfl (@cV _ _ _ _ _ _ _ rfl (¬6) (@bR _ _ _ _ _ ((@aU _ _ _ _ _ _ ((¬7)∘((¬4)∘ae)))∘((@aU _ _ _ _ _ _ ((¬7)∘((¬5)∘ae)))∘((@aU _ _ _ _ _ _ ((@ii _ _ _ _ _ _ _ _ _ _ rfl (¬7) (@ij _ _) (@ik _ _ _ _ (@CJ _ _ _ _ _ ag)))∘((¬5)∘ae)))∘((@aU _ _ _ _ _ _ ((¬4)∘((¬7)∘ae)))∘ae))))))) (@aI _ _ _ 8 _ nd rfl (Or.inl rfl) (by trivial))
      (@ao _ _ _ _ _ (@cI _ _ _ _ _ _ _ _ _ _ _ (@eR _ _ _ _ _ (@cQ _ _ _ _ (@ba _ _ _ _ _ _ _ _ _ _ _ _ _ _ _ hLright GLright (hr.mono (by decide)) ((¬3)∘((@aT _ _ _ _ _ _ _ rfl (¬8) ag (fun _ _=>rfl))∘((@aT _ _ _ _ _ _ _ rfl (¬8) ag (fun _ _=>rfl))∘ae))) (by rfl) (by decide) (by rfl) (by rfl)) (by intro _;rfl)))
      (@ao _ _ _ _ _ (@ax _ _ _ _ _ (@eY _ _ _ _ _)))
      (@a9 _ _))) (by intro _;rfl))
      (@ao _ _ _ _ _ (@cI _ _ _ _ _ _ _ _ _ _ _ (@nW _ _ _ _ (@mO _ _ _ _ _ _ _ _ (@bh _ _ _ _ _ _ _ _ _ (@wR _ _) (@ba _ _ _ _ _ _ _ _ _ _ _ _ _ _ _ h_charges_of G_charges_of (hr.mono (by decide)) ((¬3)∘((¬7)∘((¬4)∘ae))) (by rfl) (by decide) (by rfl) (by rfl)) (@nU _ _ _ _) (a_ _)) (@nX _ _ _ _ _ (@bh _ _ _ _ _ _ _ _ _ (@wR _ _) (@ba _ _ _ _ _ _ _ _ _ _ _ _ _ _ _ h_charges_of G_charges_of (hr.mono (by decide)) ((¬3)∘((¬7)∘((¬5)∘ae))) (by rfl) (by decide) (by rfl) (by rfl)) (@nU _ _ _ _) (a_ _)))))
      (@ao _ _ _ _ _ (@ax _ _ _ _ _ (@eY _ _ _ _ _)))
      (@a9 _ _))))))))) (by intro _;rfl))
      (@ao _ _ _ _ _ (@ax _ _ _ _ _ (@eY _ _ _ _ _))))))
local macro_rules | `(tactic| simp? [$ts,*]) => `(tactic| simp [$ts,*, iL, o8, aF, iY, bE, et, bj, gJ, vV, vX, ya, aH, av, rX, af, vC, eU, am, ac, cL, aN, dt, l6, ww, iv, ED, kj, wx, pR, wy, jk, iy, dw, bZ, Ck, iM, ja, qg, ff, cR, wX, ti, de, aL, aj, cG, cX, aD, br, z9, eW, oO, lj, kP, rB, rp, ro, rm, oT, oS, oU, mE, oM, yZ, uB, uA, y0, uE, rq, uC, uD, oX, oW, mF, oY, y3, p4, p5, tJ, tK, yN, mx, mw, eN, kQ, List.replicate, -List.map_nil, -List.map_cons, -List.nil_append, -List.cons_append, -Option.bind_some, -Option.map_some, -getElem?_pos, -List.append_nil, yW, yV, yR, yQ, yT, yU, yS, yX])
theorem ua{n k:Int}(h:0 < k):0≤n % k:=Int.emod_nonneg _ (Int.ne_of_gt h)
theorem uc{n k:Int}(h:0 < k):n % k < k:=Int.emod_lt_of_pos _ h
def nx:List Int→Int
  | []=>0
  | d::_=>d
def hZ(ds:List Int):Prop:=∀d∈ds,0≤d∧d < 2147483648
theorem za{ds:List Int}(h:hZ ds):0≤nx ds∧nx ds < 2147483648:=by
  cases ds with
  | nil=>exact⟨Int.le_refl 0,by show(0:Int) < 2147483648;decide⟩
  | cons d r=>exact h d (by simp)
theorem Dh{ds:List Int}(h:hZ ds):hZ ds.tail:=fun d hd=>h d (List.mem_of_mem_tail hd)
theorem Bk(ds:List Int):bu [.l (ds.map .int)]=some (.d (.int (nx ds)),[.l (ds.tail.map .int)]):=by
  have hq:∀e:En,e[0]?=some (some (.l (ds.map .int)))→c_ false e (.s 0) (.l [])=some (.d (.bool (ds.map PyData.int).isEmpty)):=fun e he=>oR he (kf ds).1
  cases ds with
  | nil=>simp? [bu,p6,hq,nx]
  | cons d r=>simp? [bu,p6,hq,nx]
theorem iW{ds:List Int}(hd:hZ ds):∃(n:Int) (ds':List Int),bu [.l (ds.map .int)]=some (.d (.int n),[.l (ds'.map .int)])∧0≤n∧n < 2147483648∧hZ ds':=⟨nx ds,ds.tail,Bk ds,(za hd).1,(za hd).2,Dh hd⟩
theorem rW(cell k:Int)(h0:0≤k)(h1:k≤1000):∃r,ie [.d (.int cell),.d (.int k)]=some (.d (.int r),[.d (.int cell),.d (.int k)])∧0≤r∧r < 2147483648:=by
  have a1:iN (cell % 2147483647) 48271=true:=nH (by decide) (by decide)
  have a2:iN 7919 k=true:=vd (by decide) (by decide)
  have a3:iN (7919*k) k=true:=nH (by lia) (by lia)
  have a4:iN ((cell % 2147483647*48271+7919*k*k+104729) % 2147483647) ((cell % 2147483647*48271+7919*k*k+104729) % 2147483647)=true:=nH (by lia) (by lia)
  refine⟨_,by simp? [ie,qX,aP,gS,a1,a2,a3,a4];rfl,?_,?_⟩
  · lia
  · lia
theorem nu{ds:List Int}(h:hZ ds){r:Int}(h0:0≤r)(h1:r < 2147483648):hZ (ds++[r]):=fun d hd=>by
  rcases List.mem_append.mp hd with hd | hd
  · exact h d hd
  · simp at hd;subst hd;exact⟨h0,h1⟩
abbrev dE(ns ds:List Int)(v2 v3 v4:Option Sv):En:=[some (.d (.list (ns.map .int))),some (.l (ds.map .int)),v2,v3,v4]
inductive DI (ns:List Int) (i:Nat):En→Prop
  | mk {ds v2 v3 v4} (hd:hZ ds) (hl:ds.length≤1000*i):DI ns i (dE ns ds v2 v3 v4)
inductive DJ (ns:List Int) (k cell:Int) (n i:Nat):En→Prop
  | mk {ds v4} (hd:hZ ds) (hl:ds.length=n+i):DJ ns k cell n i (dE ns ds (some (.d (.int k))) (some (.d (.int cell))) v4)
inductive DW (ns:List Int) (k:Int) (v4:Option Sv) (n:Nat):En→Prop
  | mk {cell ds} (hc:0≤cell) (hd:hZ ds) (hl:ds.length≤max n 900):DW ns k v4 n (dE ns ds (some (.d (.int k))) (some (.d (.int cell))) v4)
theorem yu(ns:List Int)(hn:ns.length≤63):∃ds,jh [.d (.list (ns.map .int))]=some (.l (ds.map .int),[.d (.list (ns.map .int))])∧hZ ds:=by
  have inner:∀(cell k:Int) (ds:List Int) (v4:Option Sv),0≤k→k≤63→hZ ds→ds.length≤63000→∃ds' v4',(∀W,d_ W ib (aj 4) fw (dE ns ds (some (.d (.int k))) (some (.d (.int cell))) v4)=some (.nx (dE ns ds' (some (.d (.int k))) (some (.d (.int cell))) v4')))∧hZ ds'∧ds'.length=ds.length+12:=by
    intro cell k ds v4 k0 k1 hd hl
    obtain⟨e',h1,h2⟩:=cv (own:=[]) (g:=aj 4) (f:=fw) (DJ ns k cell ds.length) (bv 0 12) 0 (dE ns ds (some (.d (.int k))) (some (.d (.int cell))) v4) (fun i x e hx hI=>by
      obtain⟨rfl,hi⟩:=gC hx
      obtain⟨hd',hl'⟩:=hI
      rename_i ds' v4'
      obtain⟨r1,c1,_,_⟩:=rW cell (3*(0+(i:Int))+1) (by lia) (by lia)
      obtain⟨r2,c2,c3,c4⟩:=rW r1 (0+(i:Int)+k+2) (by lia) (by lia)
      have a1:iN 3 (0+(i:Int))=true:=vd (by decide) (by decide)
      refine⟨_,dE ns (ds'++[r2]) (some (.d (.int k))) (some (.d (.int cell))) (some (.d (.int (0+(i:Int))))),rfl,?_,aS,.mk (nu hd' c3 c4) (by simp;lia)⟩
      have hlen:ds'.length < 1000000:=by lia
      simp only [Int.zero_add] at a1 c1 c2
      simp? [dE,fw,c1,c2,gS,a1,hlen]) (.mk hd rfl)
    obtain⟨hd',hl'⟩:=h2
    rename_i ds' v4'
    rw [eS] at hl'
    refine⟨ds',v4',fun W=>?_,hd',by lia⟩
    rw [cN (show ib _=some (bv 0 12,[],_) from dH (n:=12) rfl (by decide) (by decide))]
    exact h1
  have wh:∀(cell k:Int) (ds:List Int) (v4:Option Sv),0≤cell→hZ ds→ds.length≤63100→∃cell' ds',iU (2 ^ 4200) eG hX (dE ns ds (some (.d (.int k))) (some (.d (.int cell))) v4)=some (.nx (dE ns ds' (some (.d (.int k))) (some (.d (.int cell'))) v4))∧0≤cell'∧hZ ds'∧ds'.length≤max ds.length 900:=by
    intro cell k ds v4 hc hd hl
    have tst:∀(cell:Int) (ds:List Int),eG (dE ns ds (some (.d (.int k))) (some (.d (.int cell))) v4)=some (decide (1000000000000000000≤cell)&&decide ((ds.length:Int) < 900),dE ns ds (some (.d (.int k))) (some (.d (.int cell))) v4):=by
      intro cell ds
      by_cases h:(1000000000000000000:Int)≤cell
      · simp? [dE,eG,jc,jn,h]
      · simp? [dE,eG,jc,jn,h]
    obtain⟨e0,e',h1,hI,h3⟩:=iX (ft:=eG) (f:=hX) (DW ns k v4 ds.length)
      (fun e=>1000000 - y6 1 e) (fun e hI=>by
        obtain⟨hc',hd',hl'⟩:=hI
        rename_i cell' ds'
        rw [tst]
        by_cases c1:(1000000000000000000:Int)≤cell'
        · by_cases c2:(ds'.length:Int) < 900
          · refine .inr ⟨_,dE ns (ds'++[cell' % 2147483629]) (some (.d (.int k))) (some (.d (.int (cell' / 2147483629)))) v4,by rw [decide_eq_true c1,decide_eq_true c2];rfl,?_,.mk (by lia) (nu hd' (by lia) (by lia)) (by simp;lia),?_⟩
            · have hlen:ds'.length < 1000000:=by lia
              have b8:Bt 8000 2147483629:=k_ (by decide) (by decide)
              simp? [dE,hX,aP,fJ,b8,hlen]
            · simp [y6,dE];lia
          · exact .inl ⟨_,by rw [decide_eq_true c1,decide_eq_false c2];rfl,trivial⟩
        · exact .inl ⟨_,by rw [decide_eq_false c1];rfl,trivial⟩) (2 ^ 4200) _ (.mk hc hd (by lia)) (rF (m:=20) (Nat.lt_of_le_of_lt (Nat.sub_le _ _) (by decide)) (by decide))
    obtain⟨hc',hd',hl'⟩:=hI
    rename_i cell' ds'
    rw [tst] at h3
    have h4:=(Prod.mk.inj (Option.some.inj h3)).2
    subst h4
    exact⟨cell',ds',h1,hc',hd',hl'⟩
  have turn:∀(i:Nat) (ds:List Int) (v3 v4:Option Sv) (hi:i < ns.length),hZ ds→ds.length≤1000*i→∃ds2 v3' v4',eE (dE ns ds (some (.d (.int (i:Int)))) v3 v4)=some (.nx (dE ns ds2 (some (.d (.int (i:Int)))) v3' v4'))∧hZ ds2∧ds2.length≤1000*(i+1):=by
    intro i ds v3 v4 hi hd hl
    have hcell:atI (ns.map PyData.int) (i:Int)=some (.int ns[i]):=by
      rw [iA (by lia) (by rw [List.length_map];lia)]
      simp [hi]
    have c0:(0:Int)≤(ns[i].natAbs:Int):=by lia
    have st:bj 3 (aN (g1 sk) (ac (av cC (af 0) (af 2)) am)) (dE ns ds (some (.d (.int (i:Int)))) v3 v4)=some (.nx (dE ns ds (some (.d (.int (i:Int)))) (some (.d (.int (ns[i].natAbs:Int)))) v4)):=by
      simp? [dE,hcell]
    generalize (ns[i].natAbs:Int)=cell at c0 st
    have mid:∃ds1 v4',iY (aH (av wG (af 3) (av qk (vC (.int 10)) (vC (.int 18))))) (d_ ([4]++[]) ib (aj 4) fw) et (dE ns ds (some (.d (.int (i:Int)))) (some (.d (.int cell))) v4)=some (.nx (dE ns ds1 (some (.d (.int (i:Int)))) (some (.d (.int cell))) v4'))∧hZ ds1∧ds1.length≤ds.length+12:=by
      by_cases cb:cell < 1000000000000000000
      · obtain⟨ds1,v4',f1,f2,f3⟩:=inner cell (i:Int) ds v4 (by lia) (by lia) hd (by lia)
        refine⟨ds1,v4',?_,f2,by lia⟩
        rw [CZ (e1:=dE ns ds (some (.d (.int (i:Int)))) (some (.d (.int cell))) v4) (by simp? [dE,jc,jn,cb])]
        exact f1 _
      · refine⟨ds,v4,?_,hd,by lia⟩
        rw [CY (e1:=dE ns ds (some (.d (.int (i:Int)))) (some (.d (.int cell))) v4) (by simp? [dE,jc,jn,cb])]
        rfl
    obtain⟨ds1,v4',m1,m2,m3⟩:=mid
    obtain⟨cell2,ds2,w1,w2,w3,w4⟩:=wh cell (i:Int) ds1 v4' c0 m2 (by lia)
    by_cases c2:(2147483629:Int)≤cell2
    · refine⟨ds2++[cell2 % 2147483629],some (.d (.int cell2)),v4',?_,nu w3 (by lia) (by lia),by simp;lia⟩
      have hlen:ds2.length < 1000000:=by lia
      unfold eE
      rw [b_ st,b_ m1,b_ w1]
      simp? [dE,c2,aP,hlen]
    · refine⟨ds2,some (.d (.int cell2)),v4',?_,w3,by lia⟩
      unfold eE
      rw [b_ st,b_ m1,b_ w1]
      simp? [dE,c2]
  obtain⟨e',h1,hI⟩:=cv (own:=[]) (g:=aj 2) (f:=eE) (DI ns) (bv 0 (min (ns.length:Int) 63).toNat) 0 (dE ns [] none none none) (fun i x e hx hI=>by
    obtain⟨rfl,hi⟩:=gC hx
    obtain⟨hd,hl⟩:=hI
    rename_i ds v2 v3 v4
    rw [Nat.zero_add] at hl ⊢
    obtain⟨ds2,v3',v4',t1,t2,t3⟩:=turn i ds v3 v4 (by lia) hd hl
    exact⟨dE ns ds (some (.d (.int (i:Int)))) v3 v4,_,by simp [aj,dE],t1,aS,.mk t2 t3⟩) (.mk (fun d hd=>by cases hd) (by simp))
  obtain⟨hd,hl⟩:=hI
  rename_i ds v2 v3 v4
  refine⟨ds,?_,hd⟩
  have hf:∀W,d_ W jO (aj 2) eE (dE ns [] none none none)=some (.nx (dE ns ds v2 v3 v4)):=fun W=>by
    rw [cN (show jO _=some (bv 0 (min (ns.length:Int) 63).toNat,[],dE ns [] none none none) from dH (n:=min (ns.length:Int) 63) (by simp? [dE]) (by lia) (by lia))]
    exact h1
  unfold dE at hf
  simp only [List.map_nil] at hf
  simp? [jh,qW,hf]
theorem Dd(a b:Int)(hb:Bt 4000 b):o5 [.d (.int a),.d (.int b)]=some (.d (.int (Int.gcd a b)),[.d (.int a),.d (.int b)]):=by
  have tst:∀x y:Int,i7 [some (.d (.int x)),some (.d (.int y))]=some (!(y==0),[some (.d (.int x)),some (.d (.int y))]):=fun x y=>by simp? [i7]
  obtain⟨e0,e',h1,⟨x,y,he,hg,hy⟩,h3⟩:=iX (ft:=i7) (f:=kJ) (fun e=>∃x y,e=[some (.d (.int x)),some (.d (.int y))]∧Int.gcd x y=Int.gcd a b∧Bt 4000 y) (ve 1) (fun e ⟨x,y,he,hg,hy⟩=>by
    subst he
    rw [tst]
    by_cases c:y=0
    · subst c;exact .inl ⟨_,rfl,trivial⟩
    · refine .inr ⟨_,[some (.d (.int y)),some (.d (.int (x.fmod y)))],by rw [beq_false_of_ne c];rfl,by simp? [kJ,zK c],⟨y,x.fmod y,rfl,by rw [uO,hg],?_⟩,?_⟩
      · have:=j' x c
        exact Bt.of_le hy (by lia)
      · have:=j' x c
        simpa [ve] using this) (2 ^ 4200) _ ⟨a,b,rfl,rfl,hb⟩ (rF (m:=4000) (by simpa [ve,Bt] using hb) (by decide))
  subst he
  rw [tst] at h3
  have h4:=Prod.mk.inj (Option.some.inj h3)
  have hy0:y=0:=by simpa using h4.1
  subst hy0
  have h5:=h4.2
  subst h5
  have hs:iU (2 ^ 4200) i7 kJ [some (.d (.int a)),some (.d (.int b))]=some (.nx [some (.d (.int x)),some (.d (.int 0))]):=h1
  have hg':(x.natAbs:Int)=(Int.gcd a b:Int):=by rw [←hg];simp
  simp only [o5,yI,iL,o8,aF,iY,bE,et,bj,gJ,vV,vX,ya,aH,av,rX,af,vC,eU,am,ac,cL,aN,dt,l6,ww,iv,ED,kj,wx,pR,wy,jk,iy,dw,bZ,Ck,iM,ja,qg,ff,cR,wX,ti,de,aL,aj,cG,cX,aD,br,z9,eW,oO,lj,kP,rB,rp,ro,rm,oT,oS,oU,mE,oM,yZ,uB,uA,y0,uE,rq,uC,uD,oX,oW,mF,oY,y3,p4,p5,tJ,tK,yN,mx,mw,eN,kQ,List.replicate, -List.map_nil, -List.map_cons, -List.nil_append, -List.cons_append, -Option.bind_some, -Option.map_some, -getElem?_pos, -List.append_nil,yW,yV,yR,yQ,yT,yU,yS,yX]
  simp? [hs,hg']
theorem zi(t b:Int)(hb:0 < b)(h:Bt 4000 b):mK [.d (.int t),.d (.int b)]=some (.d (.tuple [.int (eh t b).1,.int (eh t b).2]),[.d (.int t),.d (.int b)]):=by
  have g0:=rD (t:=t) (b:=b) (by lia)
  have g1:(Int.gcd t b:Int)≠0:=by lia
  have g8:Bt 8000 (Int.gcd t b:Int):=(zL (t:=t) (by lia) h).mono (by decide)
  have e:eh t b=(t.fdiv (Int.gcd t b:Int),b.fdiv (Int.gcd t b:Int)):=by unfold eh;rw [if_neg (by lia)]
  rw [e]
  simp? [mK,yJ,Dd t b h,xf g1 g8]
theorem yM{i:Int}{n:Nat}(h1: -2147483648 < i)(h2:i < 2147483648)(hn:31≤n):Bt n i:=Bt.mono (m:=31) (by unfold Bt;lia) hn
def t9(t b:Int):Prop:=0≤t∧t≤b∧1≤b∧b≤100∧Int.gcd t b=1
theorem wf(n k:Int)(hn:0≤n):∃t b,dY [.d (.int n),.d (.int k)]=some (.d (.tuple [.int t,.int b]),[.d (.int n),.d (.int k)])∧t9 t b:=by
  have b9:Bt 8000 9:=k_ (by decide) (by decide)
  have b100:Bt 8000 100:=k_ (by decide) (by decide)
  have low:∀t b:Int,0 < b→0≤t→t≤b→b≤100→t9 (eh t b).1 (eh t b).2:=fun t b hb h0 h1 h2=>by
    obtain⟨r1,r2,r3,r4⟩:=qA hb h0 h1 h2
    exact⟨r1,r2,r3,r4,u9 (by lia)⟩
  by_cases c0:k=0
  · subst c0
    obtain⟨x,hx,ha⟩:=k8 (xs:=[PyData.tuple [.int 1,.int 2],.tuple [.int 1,.int 3],.tuple [.int 2,.int 3],.tuple [.int 1,.int 1],.tuple [.int 0,.int 1],.tuple [.int 3,.int 4]]) (i:=n % 6) (by lia) (by simp;lia)
    obtain⟨t,b,rfl,hc⟩:∃t b,x=.tuple [.int t,.int b]∧t9 t b:=by
      simp only [List.mem_cons,List.not_mem_nil,or_false] at hx
      rcases hx with rfl | rfl | rfl | rfl | rfl | rfl<;>exact⟨_,_,rfl,by unfold t9;decide⟩
    exact⟨t,b,by simp? [dY,gM,aP,ha],hc⟩
  · by_cases c1:k=1
    · subst c1
      have hm:(n / 9) % (2+n % 9 - 1) < 2+n % 9 - 1:=Int.emod_lt_of_pos _ (by lia)
      have hm0:0≤(n / 9) % (2+n % 9 - 1):=Int.emod_nonneg _ (by lia)
      refine⟨_,_,?_,low (1+(n / 9) % (2+n % 9 - 1)) (2+n % 9) (by lia) (by lia) (by lia) (by lia)⟩
      have hpos:∀e:En,bg e (.d (.int (n / 9))) (.d (.int (2+n % 9 - 1)))=_:=fun e=>aP (by lia)
      have hl:=zi (1+(n / 9) % (2+n % 9 - 1)) (2+n % 9) (by lia) (yM (by lia) (by lia) (by decide))
      simp? [dY,gM,aP,fJ,b9,hpos,hl]
    · by_cases c2:k=2
      · subst c2
        have hm:(n / 100) % (1+n % 100+1) < 1+n % 100+1:=Int.emod_lt_of_pos _ (by lia)
        have hm0:0≤(n / 100) % (1+n % 100+1):=Int.emod_nonneg _ (by lia)
        refine⟨_,_,?_,low ((n / 100) % (1+n % 100+1)) (1+n % 100) (by lia) (by lia) (by lia) (by lia)⟩
        have hpos:∀e:En,bg e (.d (.int (n / 100))) (.d (.int (1+n % 100+1)))=_:=fun e=>aP (by lia)
        have hl:=zi ((n / 100) % (1+n % 100+1)) (1+n % 100) (by lia) (yM (by lia) (by lia) (by decide))
        simp? [dY,gM,aP,fJ,b100,hpos,hl]
      · refine⟨1,1,?_,by unfold t9;decide⟩
        simp? [dY,gM,c0,c1,c2]
theorem yw(n k:Int):∃r,ji [.d (.int n),.d (.int k)]=some (.d (.int r),[.d (.int n),.d (.int k)])∧0≤r∧r≤1000:=by
  obtain⟨x,hx,ha⟩:=k8 (xs:=[PyData.int (n % 7),.int (5+n % 2),.int (n % 1001),.int (1000 - n % 3)]) (i:=k % 4) (by lia) (by simp;lia)
  obtain⟨r,rfl,hr⟩:∃r,x=.int r∧0≤r∧r≤1000:=by
    simp only [List.mem_cons,List.not_mem_nil,or_false] at hx
    rcases hx with rfl | rfl | rfl | rfl<;>exact⟨_,rfl,by lia,by lia⟩
  exact⟨r,by simp? [ji,qY,aP,ha],hr⟩
abbrev tE(ds:List Int)(things many shape odds ws:Int)(ts:List kB)(v7 v8 v9 v10 v11 v12:Option Sv):En:=[some (.l (ds.map .int)),some (.d (.int things)),some (.d (.int many)),some (.d (.int shape)),some (.d (.int odds)),some (.d (.int ws)),some (.l (ts.map cZ)),v7,v8,v9,v10,v11,v12]
inductive TR (things many shape odds ws:Int) (ts:List kB) (k:Option Sv):En→Prop
  | mk {t ds w8 w9 w10 w11 w12} (hd:hZ ds) (ht:t.Ok things):TR things many shape odds ws ts k (tE ds things many shape odds ws (ts++[t]) k w8 w9 w10 w11 w12)
inductive TI (things many a b c:Int) (i:Nat):En→Prop
  | mk {ts ds w7 w8 w9 w10 w11 w12} (hd:hZ ds) (hl:ts.length=i) (ht:∀t∈ts,t.Ok things):TI things many a b c i (tE ds things many a b c ts w7 w8 w9 w10 w11 w12)
theorem Df(ds:List Int)(things many shape odds ws:Int)(ts:List kB)(k:Int)(v8 v9 v10 v11 v12:Option Sv)(hd:hZ ds)(h2:2≤things)(h12:things≤100)(s0:0≤shape)(s1:shape < 6)(k0:0≤k)(hl:ts.length≤1000):
    ∃e',fy (tE ds things many shape odds ws ts (some (.d (.int k))) v8 v9 v10 v11 v12)=some (.nx e')∧TR things many shape odds ws ts (some (.d (.int k))) e':=by
  obtain⟨n,d1,tn, -, -,hd1⟩:=iW hd
  obtain⟨m,d2,tm,m0, -,hd2⟩:=iW hd1
  obtain⟨x,hx,ha⟩:=k8 (xs:=[PyData.int (n % things),.int 0,.int (k % things),.int (n % things),.int (n % 2),.int (n % things)]) (i:=shape) s0 (by simp;lia)
  have tp:0 < things:=Int.lt_of_lt_of_le (by decide) h2
  have tq:0 < things - 1:=Int.sub_pos_of_lt (Int.lt_of_lt_of_le (by decide) h2)
  have nt:0≤n % things∧n % things < things:=⟨ua tp,uc tp⟩
  have kt:0≤k % things∧k % things < things:=⟨ua tp,uc tp⟩
  obtain⟨one,rfl,o0,o1⟩:∃r,x=.int r∧0≤r∧r < things:=by
    simp only [List.mem_cons,List.not_mem_nil,or_false] at hx
    rcases hx with rfl | rfl | rfl | rfl | rfl | rfl<;>exact⟨_,rfl,by lia,by lia⟩
  have r0:0≤(n / 12) % (things - 1):=ua tq
  have r1:(n / 12) % (things - 1) < things - 1:=uc tq
  have q0:0≤(one+1+(n / 12) % (things - 1)) % things:=ua tp
  have q1:(one+1+(n / 12) % (things - 1)) % things < things:=uc tp
  have qn:(one+1+(n / 12) % (things - 1)) % things≠one:=fun z=>by
    by_cases c:one+1+(n / 12) % (things - 1) < things
    · rw [Int.emod_eq_of_lt (by lia) c] at z;lia
    · have e:(one+1+(n / 12) % (things - 1)) % things=(one+1+(n / 12) % (things - 1) - things) % things:=by rw [Int.sub_emod_right]
      rw [e,Int.emod_eq_of_lt (by lia) (by lia)] at z;lia
  obtain⟨t,b,c1,c2,c3,c4,c5,c6⟩:=wf m odds m0
  obtain⟨w,w1,w2,w3⟩:=yw (m / 10007) ws
  have b12:Bt 8000 12:=k_ (by decide) (by decide)
  have b107:Bt 8000 10007:=k_ (by decide) (by decide)
  have g1:∀(e:En) (i:Int),bg e (.d (.int i)) (.d (.int things))=some (.d (.int (i % things))):=fun e i=>aP tp
  have g2:∀(e:En) (i:Int),bg e (.d (.int i)) (.d (.int (things - 1)))=some (.d (.int (i % (things - 1)))):=fun e i=>aP tq
  have hlen:ts.length < 1000000:=by lia
  by_cases c:shape=4
  · subst c
    refine⟨tE d2 things many 4 odds ws (ts++[⟨0,1,t,b,w⟩]) (some (.d (.int k))) (some (.d (.int n))) (some (.d (.int 0))) (some (.d (.int 1))) (some (.d (.int m))) (some (.d (.tuple [.int 0,.int 1]))),?_,.mk hd2 ⟨by show(0:Int)≤0;decide,by show(0:Int) < 1;decide,by show(1:Int) < things;lia,c2,c3,c4,c5,w2,w3,c6⟩⟩
    simp? [tE,fy,tn,tm,aP,g1,g2,fJ,b12,b107,ha,c1,w1,uu,cZ,hlen]
    decide
  · refine⟨tE d2 things many shape odds ws (ts++[⟨min one ((one+1+(n / 12) % (things - 1)) % things),max one ((one+1+(n / 12) % (things - 1)) % things),t,b,w⟩]) (some (.d (.int k))) (some (.d (.int n))) (some (.d (.int one))) (some (.d (.int ((one+1+(n / 12) % (things - 1)) % things)))) (some (.d (.int m))) (some (.d (.tuple [.int (min one ((one+1+(n / 12) % (things - 1)) % things)),.int (max one ((one+1+(n / 12) % (things - 1)) % things))]))),?_,.mk hd2 ⟨by show 0≤min _ _;lia,by show min _ _ < max _ _;lia,by show max _ _ < _;lia,c2,c3,c4,c5,w2,w3,c6⟩⟩
    simp? [tE,fy,tn,tm,aP,g1,g2,fJ,b12,b107,ha,c1,w1,uu,cZ,hlen,c]
theorem Bm(ds:List Int)(things many:Int)(hd:hZ ds)(h2:2≤things)(h12:things≤100)(m0:0≤many)(m1:many≤1000):∃(ts:List kB) (ds':List Int),lC [.l (ds.map .int),.d (.int things),.d (.int many)]=some (.d (.tuple (ts.map cZ)),[.l (ds'.map .int),.d (.int things),.d (.int many)])∧hZ ds'∧(ts.length:Int)=many∧∀t∈ts,t.Ok things:=by
  obtain⟨n0,d1,t0, -, -,hd1⟩:=iW hd
  obtain⟨n1,d2,t1, -, -,hd2⟩:=iW hd1
  obtain⟨n2,d3,t2, -, -,hd3⟩:=iW hd2
  obtain⟨e',h1,hI⟩:=cv (own:=[]) (g:=aj 7) (f:=fy) (TI things many (n0 % 6) (n1 % 4) (n2 % 4)) (bv 0 many.toNat) 0 (tE d3 things many (n0 % 6) (n1 % 4) (n2 % 4) [] none none none none none none) (fun i x e hx hI=>by
    obtain⟨rfl,hi⟩:=gC hx
    obtain⟨hd',hl,ht⟩:=hI
    rename_i ts ds' w7 w8 w9 w10 w11 w12
    obtain⟨e9,s1,⟨s2,s3⟩⟩:=Df ds' things many (n0 % 6) (n1 % 4) (n2 % 4) ts (0+(i:Int)) w8 w9 w10 w11 w12 hd' h2 h12 (ua (by decide)) (uc (by decide)) (by lia) (by lia)
    exact⟨_,_,rfl,s1,aS,.mk s2 (by simp;lia) fun z hz=>by
      rcases List.mem_append.mp hz with hz | hz
      · exact ht z hz
      · simp at hz;subst hz;exact s3⟩) (.mk hd3 rfl fun t ht=>by cases ht)
  obtain⟨hd',hl,ht⟩:=hI
  rename_i ts ds' w7 w8 w9 w10 w11 w12
  refine⟨ts,ds',?_,hd',by rw [hl,eS];lia,ht⟩
  have hf:∀W,d_ W lx (aj 7) fy (tE d3 things many (n0 % 6) (n1 % 4) (n2 % 4) [] none none none none none none)=some (.nx (tE ds' things many (n0 % 6) (n1 % 4) (n2 % 4) ts w7 w8 w9 w10 w11 w12)):=fun W=>by
    rw [cN (show lx _=some (bv 0 many.toNat,[],tE d3 things many (n0 % 6) (n1 % 4) (n2 % 4) [] none none none none none none) from dH (n:=many) (by simp? [tE]) (by lia) (by lia))]
    exact h1
  unfold tE at hf
  simp only [List.map_nil] at hf
  simp? [lC,tR,t0,t1,t2,aP,hf]
abbrev wE(ds:List Int)(most tn things many:Int)(ts:List kB)(way:Int)(ps:List Int)(v8 v9:Option Sv):En:=[some (.l (ds.map .int)),some (.d (.int most)),some (.d (.int tn)),some (.d (.int things)),some (.d (.int many)),some (.d (.tuple (ts.map cZ))),some (.d (.int way)),some (.l (ps.map .int)),v8,v9]
inductive WI (most tn things many:Int) (ts:List kB) (way:Int) (i:Nat):En→Prop
  | mk {ps ds w8} (hd:hZ ds) (hpl:ps.length=i) (hps:∀p∈ps,0≤p∧p≤20):WI most tn things many ts way i (wE ds most tn things many ts way ps w8 none)
theorem Dg(ds:List Int)(most tn:Int)(hd:hZ ds)(m0:0≤most)(m1:most≤12)(k0:0≤tn)(k1:tn≤16):∃(W:be) (ds':List Int),o6 [.l (ds.map .int),.d (.int most),.d (.int tn)]=some (.d (aq W),[.l (ds'.map .int),.d (.int most),.d (.int tn)])∧hZ ds'∧W.Ok∧W.things≤most∧(W.ties.length:Int)≤tn:=by
  obtain⟨n0,d1,t0, -, -,hd1⟩:=iW hd
  obtain⟨n1,d2,t1, -, -,hd2⟩:=iW hd1
  have mp:0 < most+1:=Int.lt_add_one_of_le m0
  have kp:0 < tn+1:=Int.lt_add_one_of_le k0
  have g0:∀(e:En),bg e (.d (.int n0)) (.d (.int (most+1)))=some (.d (.int (n0 % (most+1)))):=fun e=>aP mp
  have g1':∀(e:En),bg e (.d (.int n1)) (.d (.int (tn+1)))=some (.d (.int (n1 % (tn+1)))):=fun e=>aP kp
  have th0:0≤n0 % (most+1):=ua mp
  have th1:n0 % (most+1) < most+1:=uc mp
  have ti0:0≤n1 % (tn+1):=ua kp
  have ti1:n1 % (tn+1) < tn+1:=uc kp
  clear mp kp
  generalize n0 % (most+1)=things at th0 th1 g0
  generalize n1 % (tn+1)=tm at ti0 ti1 g1'
  obtain⟨many,hmany,mm,m00,m01⟩:∃many:Int,many=tm*(if decide (1 < things)=true then 1 else 0)∧(1 < things∨many=0)∧0≤many∧many≤tn:=by
    by_cases c:1 < things
    · exact⟨tm,by simp [c],.inl c,ti0,by lia⟩
    · exact⟨0,by simp [c],.inr rfl,by lia,by lia⟩
  have gm:∀e:En,iF e (.d (.int tm)) (.d (.int (if decide (1 < things)=true then 1 else 0)))=some (.d (.int many)):=fun e=>by
    rw [gS (nH (by split<;>decide) (by split<;>decide)),hmany]
  have gi:∀e:En,g1 su e [.d (.bool (decide (1 < things)))]=some (.d (.int (if decide (1 < things)=true then 1 else 0))):=fun e=>rfl
  generalize (if decide (1 < things)=true then 1 else 0:Int)=one at gm gi
  obtain⟨ts,d3,t3,hd3,hlen,hts⟩:=Bm d2 (max 2 things) many hd2 (by lia) (by lia) m00 (by lia)
  obtain⟨n4,d4,t4, -, -,hd4⟩:=iW hd3
  obtain⟨e',h1,hI⟩:=cv (own:=[]) (g:=aj 8) (f:=kL) (WI most tn things many ts (n4 % 3)) (bv 0 things.toNat) 0 (wE d4 most tn things many ts (n4 % 3) [] none none) (fun i x e hx hI=>by
    obtain⟨rfl,hi⟩:=gC hx
    obtain⟨hd5,hpl,hps⟩:=hI
    rename_i ps d5 w8
    obtain⟨p1,d6,t6, -, -,hd6⟩:=iW hd5
    obtain⟨p2,d7,t7, -, -,hd7⟩:=iW hd6
    obtain⟨z,hz,ha⟩:=k8 (xs:=[PyData.int 20,.int (1+p1 % 3),.int (p2 % 21)]) (i:=n4 % 3) (ua (by decide)) (uc (k:=3) (by decide))
    obtain⟨p,rfl,hp⟩:∃r,z=.int r∧0≤r∧r≤20:=by
      simp only [List.mem_cons,List.not_mem_nil,or_false] at hz
      rcases hz with rfl | rfl | rfl<;>exact⟨_,rfl,by lia,by lia⟩
    refine⟨wE d5 most tn things many ts (n4 % 3) ps (some (.d (.int (0+(i:Int))))) none,wE d7 most tn things many ts (n4 % 3) (ps++[p]) (some (.d (.int (0+(i:Int))))) none,rfl,?_,aS,.mk hd7 (by simp;lia) fun q hq=>by
      rcases List.mem_append.mp hq with hq | hq
      · exact hps q hq
      · simp at hq;subst hq;exact hp⟩
    have hlen:ps.length < 1000000:=by lia
    simp? [wE,kL,t6,t7,aP,ha,hlen]) (.mk hd4 rfl fun p hp=>by cases hp)
  obtain⟨hd5,hpl,hps⟩:=hI
  rename_i ps d5 w8
  have hf:∀W,d_ W nD (aj 8) kL (wE d4 most tn things many ts (n4 % 3) [] none none)=some (.nx (wE d5 most tn things many ts (n4 % 3) ps w8 none)):=fun W=>by
    rw [cN (show nD _=some (bv 0 things.toNat,[],wE d4 most tn things many ts (n4 % 3) [] none none) from dH (n:=things) (by simp? [wE]) (by lia) (by lia))]
    exact h1
  obtain⟨p1,d6,t6, -, -,hd6⟩:=iW hd5
  obtain⟨p2,d7,t7, -, -,hd7⟩:=iW hd6
  obtain⟨p3,d8,t8, -, -,hd8⟩:=iW hd7
  have xp:0 < max 1 many:=Int.lt_of_lt_of_le Int.zero_lt_one (Int.le_max_left _ _)
  have gx:∀(e:En),bg e (.d (.int p1)) (.d (.int (max 1 many)))=some (.d (.int (p1 % max 1 many))):=fun e=>aP xp
  have x0:0≤p1 % max 1 many:=ua xp
  have x1:p1 % max 1 many < max 1 many:=uc xp
  obtain⟨z,hz,ha⟩:=k8 (xs:=[PyData.int 40,.int (1+p1 % max 1 many),.int (p2 % 41)]) (i:=p3 % 3) (ua (by decide)) (uc (k:=3) (by decide))
  obtain⟨asks,rfl,hasks⟩:∃r,z=.int r∧0≤r∧r≤40:=by
    simp only [List.mem_cons,List.not_mem_nil,or_false] at hz
    rcases hz with rfl | rfl | rfl<;>exact⟨_,rfl,by lia,by lia⟩
  rw [eS] at hpl
  refine⟨⟨things,ts,ps,asks⟩,d8,?_,hd8,⟨th0,by show things≤12;lia,fun t ht=>?_,by show ts.length≤16;lia,by show(ps.length:Int)=things;lia,hps,hasks.1,hasks.2⟩,by show things≤most;lia,by show(ts.length:Int)≤tn;lia⟩
  · unfold wE at hf
    simp only [List.map_nil] at hf
    simp? [o6,yK,t0,t1,g0,g1',gm,gi,t3,t4,aP,hf,t6,t7,t8,gx,ha,aq]
  · rcases mm with c | c
    · have:=hts t ht
      rw [show max 2 things=things by lia] at this
      exact this
    · have:ts=[]:=List.length_eq_zero_iff.mp (by lia)
      subst this;cases ht
def qq:PyData→Bool
  | .int _=>true
  | .bool _=>true
  | _=>false
def sA:PyData→Bool
  | .bool _=>true
  | _=>false
def xk:PyData→Bool
  | .tuple _=>true
  | _=>false
theorem yY{e:En}{d:PyData}:ku "int" e (.d d)=some (.d (.bool (qq d))):=by cases d<;>rfl
theorem B4{e:En}{d:PyData}:ku "bool" e (.d d)=some (.d (.bool (sA d))):=by cases d<;>rfl
theorem uM{e:En}{d:PyData}:ku "tuple" e (.d d)=some (.d (.bool (xk d))):=by cases d<;>rfl
theorem rE{d:PyData}(h:xk d=true):∃ds,d=.tuple ds:=by cases d<;>first | exact⟨_,rfl⟩ | cases h
theorem zP(d:PyData):DR d=(qq d&& !sA d):=by cases d<;>rfl
theorem Bl(d:PyData):dZ [.d d]=some (.d (.bool (DR d)),[.d d]):=by
  rw [zP]
  have g1:=fun e=>yY (e:=e) (d:=d)
  have g2:=fun e=>B4 (e:=e) (d:=d)
  generalize qq d=a at*
  generalize sA d=b at*
  cases a<;>simp? [dZ,jZ,g1,g2]
theorem sY(d:PyData)(n:Int):cT [.d d,.d (.int n)]=some (.d (.bool (qJ n d)),[.d d,.d (.int n)]):=by
  have g:=fun e=>uM (e:=e) (d:=d)
  cases c:xk d with
  | false=>
    rw [c] at g
    have e:qJ n d=false:=by cases d<;>first | rfl | cases c
    rw [e]
    simp? [cT,gP,g]
  | true=>
    rw [c] at g
    obtain⟨ds,rfl⟩:=rE c
    simp? [cT,gP,g,qJ]
theorem kh{W:be}{k:Int}(hk:eg W k):cU [.d (aq W),.d (.int k)]=some (.d (.tuple [.int (W.tie k).one,.int (W.tie k).other]),[.d (aq W),.d (.int k)]):=by
  rw [oF]
  simp? [cU,j3,dW hk,cZ]
theorem zM{W:be}(e:En):cC e (.d (aq W)) (.d (.int 1))=some (.d (.tuple (W.ties.map cZ))):=by rw [oF,uB,p5];rfl
theorem mB{α:Type}(l:List α):l.filter (fun _=>true)=l:=List.filter_eq_self.mpr fun _ _=>rfl
def Bb(W:be)(a b:Int):Bool:=((W.tie b).one==(W.tie a).one || (W.tie b).other==(W.tie a).one) || ((W.tie b).one==(W.tie a).other || (W.tie b).other==(W.tie a).other)
def j4(W:be)(a b:Int):Bool:=Bb W a b&&decide ((W.tie b).worth≤(W.tie a).worth)
theorem zl{W:be}(ok:W.Ok){a b:Int}(ha:eg W a)(hb:eg W b):aQ [.d (aq W),.d (.int a),.d (.int b)]=some (.d (.bool (j4 W a b)),[.d (aq W),.d (.int a),.d (.int b)]):=by
  have g1':=zM (W:=W)
  have ta:=kh ha
  have tb:=kh hb
  have aa:=dW ha
  have ab:=dW hb
  have i1:∀(e:En) (z:Int),jF false e (.d (.int z)) (.d (.tuple [.int (W.tie b).one,.int (W.tie b).other]))=some (.d (.bool ((W.tie b).one==z || (W.tie b).other==z))):=fun e z=>kQ
  obtain⟨t',hf⟩:=cz (cs:=[some (.d (aq W)),some (.d (.int b))]) (ft:=cJ) (fe:=bC) (b:=fun _=>true) (y:=fun x=>.bool (match x with | .int z=>(W.tie b).one==z || (W.tie b).other==z | _=>false)) [.int (W.tie a).one,.int (W.tie a).other] none [] (fun x _=>rfl) (fun x hx _=>by
    obtain⟨z,rfl⟩:∃z,x=.int z:=by
      simp only [List.mem_cons,List.not_mem_nil,or_false] at hx
      rcases hx with rfl | rfl<;>exact⟨_,rfl⟩
    have i2:=fun e=>i1 e z
    show bC [some (.d (aq W)),some (.d (.int b)),some (.d (.int z))]=some (.d (.bool ((W.tie b).one==z || (W.tie b).other==z)),[some (.d (aq W)),some (.d (.int b)),some (.d (.int z))])
    generalize ((W.tie b).one==z || (W.tie b).other==z)=bb at*
    simp? [bC,tb,i2]) (by simp)
  have hv:=cK (cp:=[(0,"web"),(2,"other")]) (nT:=1) (fi:=eQ) (g:=aj 2) (ft:=cJ) (fe:=bC) (e:=[some (.d (aq W)),some (.d (.int a)),some (.d (.int b))]) (e1:=[some (.d (aq W)),some (.d (.int a)),some (.d (.int b))]) (items:=[.int (W.tie a).one,.int (W.tie a).other]) (cs:=[some (.d (aq W)),some (.d (.int b))]) (t:=[none]) (t':=[t']) (gv (by simp? [ta])) rfl rfl hf
  rw [List.nil_append,mB] at hv
  have ga:∀e:En,g1 (fL mD) e [.l ([PyData.int (W.tie a).one,.int (W.tie a).other].map fun x=>.bool (match x with | .int z=>(W.tie b).one==z || (W.tie b).other==z | _=>false))]=some (.d (.bool (Bb W a b))):=fun e=>by
    rw [ut]
    simp [Bb]
  generalize ([PyData.int (W.tie a).one,.int (W.tie a).other].map fun x=>PyData.bool (match x with | .int z=>(W.tie b).one==z || (W.tie b).other==z | _=>false))=M at*
  unfold j4
  cases c:Bb W a b with
  | false=>
    rw [c] at ga
    simp? [aQ,dB,hv,ga]
  | true=>
    rw [c] at ga
    unfold cZ at aa ab g1'
    have gg:∀e:En,zG e (.d (.int (W.tie a).worth)) (.d (.int (W.tie b).worth))=some (.d (.bool (decide ((W.tie b).worth≤(W.tie a).worth)))):=fun e=>rfl
    rw [Bool.true_and]
    generalize decide ((W.tie b).worth≤(W.tie a).worth)=bb at*
    generalize (W.ties.map fun t=>PyData.tuple [.int t.one,.int t.other,.tuple [.int t.top,.int t.bot],.int t.worth])=TT at*
    simp? [aQ,dB,hv,ga,g1',aa,ab,gg]
theorem oh{W:be}(ok:W.Ok){a b:Int}(ha:eg W a)(hb:eg W b):eX [.d (aq W),.d (.int a),.d (.int b)]=some (.d (.bool (j4 W a b)),[.d (aq W),.d (.int a),.d (.int b)]):=by
  have g1':=zM (W:=W)
  have aa:=dW ha
  have ab:=dW hb
  have cu:L2.cutD [PyData.int (W.tie b).one,.int (W.tie b).other,.tuple [.int (W.tie b).top,.int (W.tie b).bot],.int (W.tie b).worth] none (some 2)=[.int (W.tie b).one,.int (W.tie b).other]:=rfl
  have i1:∀(e:En) (z:Int),jF false e (.d (.int z)) (.d (.tuple [.int (W.tie b).one,.int (W.tie b).other]))=some (.d (.bool ((W.tie b).one==z || (W.tie b).other==z))):=fun e z=>kQ
  unfold cZ at aa ab g1'
  generalize (W.ties.map fun t=>PyData.tuple [.int t.one,.int t.other,.tuple [.int t.top,.int t.bot],.int t.worth])=TT at*
  unfold j4
  by_cases c:(W.tie a).worth < (W.tie b).worth
  · rw [decide_eq_false (show ¬(W.tie b).worth≤(W.tie a).worth by lia),Bool.and_false]
    simp? [eX,m6,g1',aa,ab,c]
  · rw [decide_eq_true (show(W.tie b).worth≤(W.tie a).worth by lia),Bool.and_true]
    unfold Bb
    have i2:=fun e=>i1 e (W.tie a).one
    have i3:=fun e=>i1 e (W.tie a).other
    generalize ((W.tie b).one==(W.tie a).one || (W.tie b).other==(W.tie a).one)=p at*
    generalize ((W.tie b).one==(W.tie a).other || (W.tie b).other==(W.tie a).other)=q at*
    cases p<;>simp? [eX,m6,g1',aa,ab,c,cu,i2,i3]
def ni(W:be)(ks:List Int):PyData→Bool
  | .tuple [.int a,.int b]=>ks.contains a&&j4 W a b
  | _=>false
def tF(W:be)(ks os:List Int):PyData→Bool
  | .tuple ds=>((ds.length:Int)==(os.length:Int))&&(dN ds (os.map .int)).all (ni W ks)
  | _=>false
theorem oo{ds:List PyData}{os:List Int}{x:PyData}(h:x∈dN ds (os.map .int)):∃d b,b∈os∧x=.tuple [d,.int b]:=by
  obtain⟨i,hi⟩:=List.getElem?_of_mem h
  obtain⟨d,y,h1,h2,rfl⟩:=l7 hi
  rw [List.getElem?_map] at h2
  obtain⟨b,hb,rfl⟩:=Option.map_eq_some_iff.mp h2
  exact⟨d,b,List.mem_of_getElem? hb,rfl⟩
theorem sX{W:be}(ok:W.Ok){ks os:List Int}(hk:∀k∈ks,eg W k)(ho:∀k∈os,eg W k)(hl:os.length≤1000)(d:PyData):bJ [.d (aq W),.d (.tuple (ks.map .int)),.d (.tuple (os.map .int)),.d d]=some (.d (.bool (tF W ks os d)),[.d (aq W),.d (.tuple (ks.map .int)),.d (.tuple (os.map .int)),.d d]):=by
  have tr:=sY d (os.length:Int)
  have ql:((os.map PyData.int).length:Int)=(os.length:Int):=by simp
  cases c:qJ (os.length:Int) d with
  | false=>
    rw [c] at tr
    have e:tF W ks os d=false:=by
      cases d with
      | tuple ds=>simp only [qJ] at c;simp only [tF,c,Bool.false_and]
      | _=>rfl
    rw [e]
    generalize os.map PyData.int=OO at*
    generalize ks.map PyData.int=KK at*
    simp? [bJ,eJ,ql,tr]
  | true=>
    rw [c] at tr
    cases d with
    | tuple ds=>
      have hd:(ds.length:Int)=(os.length:Int):=by simpa [qJ] using c
      obtain⟨t2,ht2,hf2⟩:=gc (cs:=[some (.d (.tuple (ks.map .int))),some (.d (aq W))]) (g:=de (aL (aj 2) (aL (aj 3) cG))) (ft:=cJ) (fe:=aY) (b:=fun _=>true) (y:=fun x=>.bool (ni W ks x)) (u:=fun x=>match x with | .tuple [a,b]=>[some (.d a),some (.d b)] | _=>[]) 2 (dN ds (os.map .int)) [none,none] [] rfl (fun x hx t ht=>by
        obtain⟨a,b,_,rfl⟩:=oo hx
        rcases t with _ | ⟨a1,_ | ⟨a2,_ | ⟨a3,r⟩⟩⟩
        · simp at ht
        · simp at ht
        · rfl
        · simp at ht) (fun x hx=>by
        obtain⟨a,b,_,rfl⟩:=oo hx
        rfl) (fun x _=>rfl) (fun x hx _=>by
        obtain⟨a,b,hb,rfl⟩:=oo hx
        have tn:=Bl a
        show aY [some (.d (.tuple (ks.map .int))),some (.d (aq W)),some (.d a),some (.d (.int b))]=some (.d (.bool (ni W ks (.tuple [a,.int b]))),[some (.d (.tuple (ks.map .int))),some (.d (aq W)),some (.d a),some (.d (.int b))])
        cases hn:DR a with
        | false=>
          rw [hn] at tn
          have e:ni W ks (.tuple [a,.int b])=false:=by cases a<;>first | rfl | cases hn
          rw [e]
          generalize ks.map PyData.int=KK at*
          simp? [aY,tn]
        | true=>
          rw [hn] at tn
          cases a with
          | int i=>
            have gi:∀e:En,jF false e (.d (.int i)) (.d (.tuple (ks.map .int)))=some (.d (.bool (ks.contains i))):=fun e=>eN
            rw [show ni W ks (.tuple [.int i,.int b])=(ks.contains i&&j4 W i b) from rfl]
            cases hc:ks.contains i with
            | false=>
              rw [hc] at gi
              generalize ks.map PyData.int=KK at*
              simp? [aY,tn,gi]
            | true=>
              rw [hc] at gi
              have tm:=zl ok (hk i (List.contains_iff_mem.mp hc)) (ho b hb)
              generalize j4 W i b=bb at*
              generalize ks.map PyData.int=KK at*
              simp? [aY,tn,gi,tm]
          | _=>cases hn) (by
        have:=L2.zipD_len ds (os.map .int)
        simp at this ⊢
        lia)
      have hv:=cK (cp:=[(1,"kept"),(0,"web")]) (nT:=2) (fi:=dI) (g:=de (aL (aj 2) (aL (aj 3) cG))) (ft:=cJ) (fe:=aY) (e:=[some (.d (aq W)),some (.d (.tuple (ks.map .int))),some (.d (.tuple (os.map .int))),some (.d (.tuple ds))]) (e1:=[some (.d (aq W)),some (.d (.tuple (ks.map .int))),some (.d (.tuple (os.map .int))),some (.d (.tuple ds))]) (items:=dN ds (os.map .int)) (cs:=[some (.d (.tuple (ks.map .int))),some (.d (aq W))]) (t:=[none,none]) (t':=t2) (by
        generalize os.map PyData.int=OO at*
        generalize ks.map PyData.int=KK at*
        simp? [dI,mG]) rfl rfl hf2
      rw [List.nil_append,mB] at hv
      have ga:=fun e=>ur (e:=e) (ni W ks) (dN ds (os.map .int))
      have e:tF W ks os (.tuple ds)=(dN ds (os.map .int)).all (ni W ks):=by simp only [tF,hd,beq_self_eq_true,Bool.true_and]
      rw [e]
      generalize (dN ds (os.map .int)).all (ni W ks)=bb at*
      generalize ((dN ds (os.map .int)).map fun x=>PyData.bool (ni W ks x))=M at*
      generalize os.map PyData.int=OO at*
      generalize ks.map PyData.int=KK at*
      simp? [bJ,eJ,ql,tr,hv,ga]
    | _=>simp [qJ] at c
theorem qN{W:be}(ok:W.Ok){ks os:List Int}(hk:∀k∈ks,eg W k)(ho:∀k∈os,eg W k)(d:PyData):cS [.d (aq W),.d (.tuple (ks.map .int)),.d (.tuple (os.map .int)),.d d]=some (.d (.bool (tF W ks os d)),[.d (aq W),.d (.tuple (ks.map .int)),.d (.tuple (os.map .int)),.d d]):=by
  have gt:=fun e=>uM (e:=e) (d:=d)
  have ql:((os.map PyData.int).length:Int)=(os.length:Int):=by simp
  cases c0:xk d with
  | false=>
    rw [c0] at gt
    have e:tF W ks os d=false:=by cases d<;>first | rfl | cases c0
    rw [e]
    simp? [cS,fv,gt]
  | true=>
    rw [c0] at gt
    obtain⟨ds,rfl⟩:=rE c0
    by_cases hd:(ds.length:Int)=(os.length:Int)
    case neg=>
      have e:tF W ks os (.tuple ds)=false:=by
        have:((ds.length:Int)==(os.length:Int))=false:=by simpa using hd
        simp only [tF,this,Bool.false_and]
      rw [e]
      have gn:∀e:En,c_ true e (.d (.int ds.length)) (.d (.int os.length))=some (.d (.bool true)):=fun e=>by rw [kP];simp [hd]
      generalize os.map PyData.int=OO at*
      generalize ks.map PyData.int=KK at*
      simp? [cS,fv,gt,ql,gn]
    case pos=>
      have gn:∀e:En,c_ true e (.d (.int ds.length)) (.d (.int os.length))=some (.d (.bool false)):=fun e=>by rw [kP];simp [hd]
      have tst:=jL (own:=[]) (g:=de (aL (aj 4) (aL (aj 5) cG))) (f:=bN) (Z:=.d (.bool false)) (ni W ks) (fun e=>∃v4 v5,e=[some (.d (aq W)),some (.d (.tuple (ks.map .int))),some (.d (.tuple (os.map .int))),some (.d (.tuple ds)),v4,v5]) (fun e=>∃v4 v5,e=[some (.d (aq W)),some (.d (.tuple (ks.map .int))),some (.d (.tuple (os.map .int))),some (.d (.tuple ds)),v4,v5]) (dN ds (os.map .int)) [some (.d (aq W)),some (.d (.tuple (ks.map .int))),some (.d (.tuple (os.map .int))),some (.d (.tuple ds)),none,none] (fun x hx e ⟨v4,v5,he⟩=>by
        subst he
        obtain⟨a,b,hb,rfl⟩:=oo hx
        have q1:=fun e=>yY (e:=e) (d:=a)
        have q2:=fun e=>B4 (e:=e) (d:=a)
        refine⟨[some (.d (aq W)),some (.d (.tuple (ks.map .int))),some (.d (.tuple (os.map .int))),some (.d (.tuple ds)),some (.d a),some (.d (.int b))],rfl,fun h=>?_,fun h=>?_⟩
        · refine⟨_,?_,aS,some (.d a),some (.d (.int b)),rfl⟩
          cases a with
          | int i=>
            simp only [ni,Bool.and_eq_true] at h
            have gi:∀e:En,jF true e (.d (.int i)) (.d (.tuple (ks.map .int)))=some (.d (.bool (!ks.contains i))):=fun e=>eN
            rw [h.1] at gi
            have tb:=oh ok (hk i (List.contains_iff_mem.mp h.1)) (ho b hb)
            rw [h.2] at tb
            rw [show qq (.int i)=true from rfl] at q1
            rw [show sA (.int i)=false from rfl] at q2
            generalize os.map PyData.int=OO at*
            generalize ks.map PyData.int=KK at*
            simp? [bN,q1,q2,gi,tb]
          | _=>cases h
        · refine⟨_,?_,some (.d a),some (.d (.int b)),rfl⟩
          cases a with
          | int i=>
            have gi:∀e:En,jF true e (.d (.int i)) (.d (.tuple (ks.map .int)))=some (.d (.bool (!ks.contains i))):=fun e=>eN
            rw [show qq (.int i)=true from rfl] at q1
            rw [show sA (.int i)=false from rfl] at q2
            cases hc:ks.contains i with
            | false=>
              rw [hc] at gi
              generalize os.map PyData.int=OO at*
              generalize ks.map PyData.int=KK at*
              simp? [bN,q1,q2,gi]
            | true=>
              rw [hc] at gi
              have tb:=oh ok (hk i (List.contains_iff_mem.mp hc)) (ho b hb)
              simp only [ni,hc,Bool.true_and] at h
              rw [h] at tb
              generalize os.map PyData.int=OO at*
              generalize ks.map PyData.int=KK at*
              simp? [bN,q1,q2,gi,tb]
          | bool b'=>
            rw [show qq (.bool b')=true from rfl] at q1
            rw [show sA (.bool b')=true from rfl] at q2
            generalize os.map PyData.int=OO at*
            generalize ks.map PyData.int=KK at*
            simp? [bN,q1,q2]
          | _=>
            simp only [qq] at q1
            generalize os.map PyData.int=OO at*
            generalize ks.map PyData.int=KK at*
            simp? [bN,q1]) ⟨none,none,rfl⟩
      have hi:gU [some (.d (aq W)),some (.d (.tuple (ks.map .int))),some (.d (.tuple (os.map .int))),some (.d (.tuple ds)),none,none]=some (dN ds (os.map .int),[],[some (.d (aq W)),some (.d (.tuple (ks.map .int))),some (.d (.tuple (os.map .int))),some (.d (.tuple ds)),none,none]):=by
        generalize os.map PyData.int=OO at*
        generalize ks.map PyData.int=KK at*
        simp? [gU,mG]
      have hg:=fun Wl=>cN (W:=Wl) (g:=de (aL (aj 4) (aL (aj 5) cG))) (f:=bN) hi
      have e:tF W ks os (.tuple ds)=(dN ds (os.map .int)).all (ni W ks):=by simp only [tF,hd,beq_self_eq_true,Bool.true_and]
      rw [e]
      cases c:(dN ds (os.map .int)).all (ni W ks) with
      | true=>
        obtain⟨e',h1,v4,v5,rfl⟩:=tst.1 c
        rw [h1] at hg
        generalize os.map PyData.int=OO at*
        generalize ks.map PyData.int=KK at*
        simp? [cS,fv,gt,ql,gn,hg]
      | false=>
        obtain⟨e',h1,v4,v5,rfl⟩:=tst.2 c
        rw [h1] at hg
        generalize os.map PyData.int=OO at*
        generalize ks.map PyData.int=KK at*
        simp? [cS,fv,gt,ql,gn,hg]
theorem vS{n:Nat}{x:Int}(h:x∈jq n):0≤x∧x < (n:Int):=by
  unfold jq at h
  obtain⟨i,hi,rfl⟩:=List.mem_map.mp h
  have:=List.mem_range.mp hi
  have e:(Int.ofNat i)=(i:Int):=rfl
  simp only [e]
  lia
theorem yg(n:Nat):(jq n).Nodup:=by
  unfold jq
  exact List.pairwise_map.mpr (List.Pairwise.imp (fun h e=>by have:_=_:=e;simp at this;lia) List.nodup_range)
abbrev gh(ds:List Int)(W:be)(lf fd:List Int):En:=[some (.l (ds.map .int)),some (.d (aq W)),some (.d (.int 16)),some (.l (lf.map .int)),some (.l (fd.map .int))]
inductive FK (W:be):En→Prop
  | mk {ds lf fd} (hd:hZ ds) (nd:(fd++lf).Nodup) (hr:∀k∈fd++lf,eg W k) (hl:fd.length≤16):FK W (gh ds W lf fd)
def B2(e:En):Nat:=match e[3]? with
  | some (some (Sv.l xs))=>xs.length
  | _=>0
theorem nv{W:be}{ds lf fd:List Int}:B2 (gh ds W lf fd)=lf.length:=by
  show(lf.map PyData.int).length=_
  rw [List.length_map]
theorem Bj{W:be}(ok:W.Ok){ds:List Int}(hd:hZ ds):∃(fs ds':List Int),lA [.l (ds.map .int),.d (aq W),.d (.int 16)]=some (.d (.tuple (fs.map .int)),[.l (ds'.map .int),.d (aq W),.d (.int 16)])∧hZ ds'∧fs.Nodup∧(∀k∈fs,eg W k)∧fs.length≤16:=by
  have wl:=ok.len
  have g1':=zM (W:=W)
  have q3:∀(xs:List Int) (e:En),e[3]?=some (some (.l (xs.map .int)))→c_ true e (.s 3) (.l [])=some (.d (.bool (!(xs.map PyData.int).isEmpty))):=fun xs e he=>oR he (kf _).1
  obtain⟨e0,e',hw,hP,hft⟩:=iX (ft:=cY) (f:=i0) (FK W) B2 (fun e hP=>by
    obtain⟨hd,nd,hr,hl⟩:=hP
    rename_i ds lf fd
    have qf:((fd.map PyData.int).length:Int)=(fd.length:Int):=by simp
    by_cases c:lf=[]
    · subst c
      left
      refine⟨gh ds W [] fd,?_,trivial⟩
      have q:=fun e he=>q3 [] e he
      simp only [gh,List.map_nil,List.isEmpty_nil,Bool.not_true] at q ⊢
      simp? [cY,q]
    · have q:=fun e he=>q3 lf e he
      rw [show(lf.map PyData.int).isEmpty=false by
        rcases lf with _ | ⟨x,r⟩
        · exact absurd rfl c
        · rfl] at q
      by_cases c2:fd.length < 16
      · right
        obtain⟨n,d1,t1, -, -,hd1⟩:=iW hd
        have lp:0 < (lf.length:Int):=by have:=List.length_pos_iff.mpr c;lia
        have gm:∀e:En,bg e (.d (.int n)) (.d (.int (lf.length:Int)))=some (.d (.int (n % (lf.length:Int)))):=fun e=>aP lp
        have a0:=ua (n:=n) lp;have a1:=uc (n:=n) lp
        generalize n % (lf.length:Int)=k at*
        have hk:k.toNat < lf.length:=by lia
        have hp:=lb lf k.toNat hk
        have hx:(lf.map PyData.int)[k.toNat]?=some (.int lf[k.toNat]):=by rw [List.getElem?_map,List.getElem?_eq_getElem hk];rfl
        have he:(lf.map PyData.int).eraseIdx k.toNat=(lf.eraseIdx k.toNat).map .int:=mz
        have pp:((fd++[lf[k.toNat]])++lf.eraseIdx k.toNat).Perm (fd++lf):=by
          rw [List.append_assoc]
          exact List.Perm.append_left _ hp
        have hle:=hp.length_eq
        rw [List.length_cons] at hle
        generalize lf[k.toNat]=x at*
        generalize lf.eraseIdx k.toNat=lf' at*
        refine⟨gh ds W lf fd,gh d1 W lf' (fd++[x]),?_,?_,.mk hd1 (pp.nodup_iff.mpr nd) (fun z hz=>hr z (pp.mem_iff.mp hz)) (by simp;lia),by rw [nv,nv];lia⟩
        · have c3:(fd.length:Int) < 16:=by lia
          simp only [gh]
          generalize lf.map PyData.int=LL at*
          simp? [cY,q,qf,c3]
        · have ql:((lf.map PyData.int).length:Int)=(lf.length:Int):=by simp
          have nl:=pe W.ties.length (fd++lf) nd hr
          rw [List.length_append] at nl
          have kb:k < 1000000000:=by lia
          have lt:fd.length < 1000000:=by lia
          simp only [gh,List.map_append,List.map_cons,List.map_nil,←he]
          generalize (lf.length:Int)=M0 at*
          generalize lf.map PyData.int=LL at*
          simp? [i0,t1,ql,gm,a0,kb,hx,lt]
      · left
        refine⟨gh ds W lf fd,?_,trivial⟩
        have c3:¬(fd.length:Int) < 16:=by lia
        simp only [gh]
        generalize lf.map PyData.int=LL at*
        simp? [cY,q,qf,c3]) (2 ^ 4200) (gh ds W (jq W.ties.length) []) (.mk hd (yg _) (fun k hk=>vS hk) (by simp)) (by
    rw [nv,pA]
    exact Nat.lt_of_le_of_lt wl (by decide))
  obtain⟨hd2,nd,hr,hl⟩:=hP
  rename_i ds2 lf fd
  have key:∀b e'',cY (gh ds2 W lf fd)=some (b,e'')→e''=gh ds2 W lf fd:=fun b e'' h=>by
    have q:=fun e he=>q3 lf e he
    have qf:((fd.map PyData.int).length:Int)=(fd.length:Int):=by simp
    generalize (!(lf.map PyData.int).isEmpty)=bb at*
    have:cY (gh ds2 W lf fd)=some (bb&&decide ((fd.length:Int) < 16),gh ds2 W lf fd):=by
      simp only [gh]
      generalize lf.map PyData.int=LL at*
      cases bb<;>simp? [cY,q,qf]
    rw [this] at h
    exact(Prod.mk.inj (Option.some.inj h)).2.symm
  have he:=key _ _ hft
  subst he
  refine⟨fd,ds2,?_,hd2,(List.nodup_append.mp nd).1,fun k hk=>hr k (by simp [hk]),hl⟩
  have hw':iU (2 ^ 4200) cY i0 (gh ds W (jq W.ties.length) [])=some (.nx (gh ds2 W lf fd)):=hw
  have ql:(((W.ties.map cZ).length:Nat):Int)=(W.ties.length:Int):=by simp
  have q2:(W.ties.length:Int)≤100000:=by lia
  have q4:((W.ties.length:Int)).toNat=W.ties.length:=by lia
  simp only [gh,List.map_nil] at hw'
  generalize fd.map PyData.int=FF at*
  generalize lf.map PyData.int=LL at*
  generalize W.ties.map cZ=TT at*
  simp? [lA,tN,g1',ql,kW,q2,q4,hw']
def bo(W:be)(ns:List Int):List Int:=ns.flatMap fun k=>[(W.tie k).one,(W.tie k).other]
theorem ud(W:be)(ns:List Int):(bo W ns).length=2*ns.length:=by
  unfold bo
  induction ns with
  | nil=>rfl
  | cons x r ih=>rw [List.flatMap_cons,List.length_append,ih,List.length_cons];simp;lia
theorem oH(W:be)(a b:List Int):bo W (a++b)=bo W a++bo W b:=by
  unfold bo
  rw [List.flatMap_append]
inductive EK (W:be) (ks:List Int) (i:Nat):En→Prop
  | mk {v3}:EK W ks i [some (.d (aq W)),some (.l (ks.map .int)),some (.l ((bo W (ks.take i)).map .int)),v3]
theorem wg{W:be}{ks:List Int}(hk:∀k∈ks,eg W k)(hl:ks.length≤100):iK [.d (aq W),.l (ks.map .int)]=some (.l ((bo W ks).map .int),[.d (aq W),.l (ks.map .int)]):=by
  have g1':=zM (W:=W)
  have gl:∀(e:En) (xs:List PyData),g1 rA e [.d (.tuple xs)]=some (.l xs):=fun e xs=>rfl
  have ca:∀(e:En) (xs ys:List PyData),e[2]?=some (some (.l xs))→xs.length+ys.length≤1000000→c9 e (.s 2) (.l ys)=some (.l (xs++ys)):=fun e xs ys he h=>rk he h
  obtain⟨e',h1,hI⟩:=cv (own:=[(1,ks.map .int)]) (g:=aj 3) (f:=gN) (EK W ks) (ks.map .int) 0 [some (.d (aq W)),some (.l (ks.map .int)),some (.l []),none] (fun i x e hx hI=>by
    obtain⟨⟩:=hI
    rename_i v3
    rw [Nat.zero_add] at*
    rw [List.getElem?_map] at hx
    obtain⟨k,hki,rfl⟩:=Option.map_eq_some_iff.mp hx
    have ai:=dW (hk k (List.mem_of_getElem? hki))
    have e2:bo W (ks.take (i+1))=bo W (ks.take i)++[(W.tie k).one,(W.tie k).other]:=by
      rw [List.take_succ,hki,oH]
      rfl
    have hle:=ud W (ks.take i)
    rw [List.length_take] at hle
    have lt:((bo W (ks.take i)).map PyData.int).length+2≤1000000:=by rw [List.length_map];lia
    have cu:L2.cutD [PyData.int (W.tie k).one,.int (W.tie k).other,.tuple [.int (W.tie k).top,.int (W.tie k).bot],.int (W.tie k).worth] none (some 2)=[.int (W.tie k).one,.int (W.tie k).other]:=rfl
    refine⟨[some (.d (aq W)),some (.l (ks.map .int)),some (.l ((bo W (ks.take i)).map .int)),some (.d (.int k))],[some (.d (aq W)),some (.l (ks.map .int)),some (.l ((bo W (ks.take (i+1))).map .int)),some (.d (.int k))],rfl,?_,fun p hp=>by simp at hp;subst hp;rfl,.mk⟩
    rw [e2,List.map_append]
    simp only [List.map_cons,List.map_nil]
    generalize (bo W (ks.take i)).map PyData.int=EE at*
    unfold cZ at ai g1'
    generalize (W.ties.map fun t=>PyData.tuple [.int t.one,.int t.other,.tuple [.int t.top,.int t.bot],.int t.worth])=TT at*
    generalize ks.map PyData.int=KK at*
    simp? [gN,g1',ai,cu,gl,ca,lt]) .mk
  obtain⟨⟩:=hI
  rename_i v3
  rw [Nat.zero_add,List.length_map,List.take_length] at h1
  have hf:d_ ([3]++[2]) jd (aj 3) gN [some (.d (aq W)),some (.l (ks.map .int)),some (.l []),none]=some (.nx [some (.d (aq W)),some (.l (ks.map .int)),some (.l ((bo W ks).map .int)),v3]):=by
    unfold d_
    rw [show jd [some (.d (aq W)),some (.l (ks.map .int)),some (.l []),none]=some (ks.map .int,[(1,ks.map .int)],[some (.d (aq W)),some (.l (ks.map .int)),some (.l []),none]) from rfl]
    exact h1
  generalize (bo W ks).map PyData.int=EE at*
  generalize ks.map PyData.int=KK at*
  have hf':d_ [3,2] jd (aj 3) gN [some (.d (aq W)),some (.l KK),some (.l []),none]=_:=hf
  simp? [iK,tM,hf']
abbrev gB(ds:List Int)(W:be)(fd:List Int)(v3 v4:Option Sv):En:=[some (.l (ds.map .int)),some (.d (aq W)),some (.l (fd.map .int)),v3,v4]
inductive BI (W:be) (fs:List Int) (i:Nat):En→Prop
  | mk {ds fd v3 v4} (hd:hZ ds) (hs:List.Sublist fd (fs.take i)) (he:(bo W fd).Nodup):BI W fs i (gB ds W fd v3 v4)
theorem Bn{W:be}(ok:W.Ok){k:Int}(h:eg W k):(W.tie k).one≠(W.tie k).other:=by
  have hk:k.toNat < W.ties.length:=by have:=h.2;have:=h.1;lia
  have:W.tie k∈W.ties:=by
    unfold be.tie
    rw [List.getD_eq_getElem?_getD,List.getElem?_eq_getElem hk]
    exact List.getElem_mem _
  have:=(ok.ties _ this).o1
  lia
theorem se{W:be}{a b:List Int}(h:a.Perm b):(bo W a).Perm (bo W b):=h.flatMap_right _
theorem l4{W:be}(ok:W.Ok){ds:List Int}(hd:hZ ds):∃(ks ds':List Int),eH [.l (ds.map .int),.d (aq W)]=some (.d (.tuple (ks.map .int)),[.l (ds'.map .int),.d (aq W)])∧hZ ds'∧ks.Nodup∧(∀k∈ks,eg W k)∧ks.length≤16∧(bo W ks).Nodup:=by
  have g1':=zM (W:=W)
  obtain⟨fs,d1,tf,hd1,nf,rf,lf⟩:=Bj ok hd
  obtain⟨e',h1,hI⟩:=cv (own:=[]) (g:=aj 3) (f:=cg) (BI W fs) (fs.map .int) 0 (gB d1 W [] none none) (fun i x e hx hI=>by
    obtain⟨hd,hs,he⟩:=hI
    rename_i ds fd v3 v4
    rw [Nat.zero_add] at*
    rw [List.getElem?_map] at hx
    obtain⟨k,hki,rfl⟩:=Option.map_eq_some_iff.mp hx
    have hik:=rf k (List.mem_of_getElem? hki)
    have ai:=dW hik
    have hsl:=hs.length_le
    rw [List.length_take] at hsl
    have hfk:∀z∈fd,eg W z:=fun z hz=>rf z (List.mem_of_mem_take (hs.subset hz))
    have te:=wg hfk (by lia)
    have tk:fs.take (i+1)=fs.take i++[k]:=by rw [List.take_succ,hki];rfl
    have i4:∀(e:En) (z:Int),e[4]?=some (some (.l ((bo W fd).map .int)))→jF true e (.d (.int z)) (.s 4)=some (.d (.bool (!(bo W fd).contains z))):=fun e z h=>uw h
    have i5:=fun e h=>i4 e (W.tie k).one h
    have i6:=fun e h=>i4 e (W.tie k).other h
    have lt:fd.length < 1000000:=by lia
    unfold cZ at ai g1'
    have stay:List.Sublist fd (fs.take (i+1)):=by rw [tk];exact hs.trans (List.sublist_append_left _ _)
    cases c1:(bo W fd).contains (W.tie k).one with
    | true=>
      rw [c1] at i5
      refine⟨gB ds W fd (some (.d (.int k))) v4,gB ds W fd (some (.d (.int k))) (some (.l ((bo W fd).map .int))),rfl,?_,aS,.mk hd stay he⟩
      simp only [gB]
      generalize (bo W fd).map PyData.int=EE at*
      generalize fd.map PyData.int=FF at*
      generalize (W.ties.map fun t=>PyData.tuple [.int t.one,.int t.other,.tuple [.int t.top,.int t.bot],.int t.worth])=TT at*
      simp? [cg,te,g1',ai,i5]
    | false=>
      rw [c1] at i5
      cases c2:(bo W fd).contains (W.tie k).other with
      | true=>
        rw [c2] at i6
        refine⟨gB ds W fd (some (.d (.int k))) v4,gB ds W fd (some (.d (.int k))) (some (.l ((bo W fd).map .int))),rfl,?_,aS,.mk hd stay he⟩
        simp only [gB]
        generalize (bo W fd).map PyData.int=EE at*
        generalize fd.map PyData.int=FF at*
        generalize (W.ties.map fun t=>PyData.tuple [.int t.one,.int t.other,.tuple [.int t.top,.int t.bot],.int t.worth])=TT at*
        simp? [cg,te,g1',ai,i5,i6]
      | false=>
        rw [c2] at i6
        obtain⟨n,d2,t2, -, -,hd2⟩:=iW hd
        have gm:∀e:En,bg e (.d (.int n)) (.d (.int 8))=some (.d (.int (n % 8))):=fun e=>aP (by decide)
        by_cases c3:n % 8 > 0
        · have n1:(W.tie k).one∉bo W fd:=fun h=>by rw [List.contains_iff_mem.mpr h] at c1;cases c1
          have n2:(W.tie k).other∉bo W fd:=fun h=>by rw [List.contains_iff_mem.mpr h] at c2;cases c2
          have ne:=Bn ok hik
          have he2:(bo W (fd++[k])).Nodup:=by
            rw [oH,List.nodup_append]
            refine⟨he,by simp [bo,ne],fun a ha b hb e=>?_⟩
            subst e
            simp only [bo,List.flatMap_cons,List.flatMap_nil,List.append_nil,List.mem_cons,List.not_mem_nil,or_false] at hb
            rcases hb with rfl | rfl
            · exact n1 ha
            · exact n2 ha
          refine⟨gB ds W fd (some (.d (.int k))) v4,gB d2 W (fd++[k]) (some (.d (.int k))) (some (.l ((bo W fd).map .int))),rfl,?_,aS,.mk hd2 (by rw [tk];exact hs.append (List.Sublist.refl _)) he2⟩
          have gg:∀e:En,zH e (.d (.int (n % 8))) (.d (.int 0))=some (.d (.bool true)):=fun e=>by
            have:decide ((0:Int) < n % 8)=true:=decide_eq_true c3
            rw [←this];rfl
          simp only [gB,List.map_append,List.map_cons,List.map_nil]
          generalize (bo W fd).map PyData.int=EE at*
          generalize (W.ties.map fun t=>PyData.tuple [.int t.one,.int t.other,.tuple [.int t.top,.int t.bot],.int t.worth])=TT at*
          simp? [cg,te,g1',ai,i5,i6,t2,gm,gg,lt]
        · refine⟨gB ds W fd (some (.d (.int k))) v4,gB d2 W fd (some (.d (.int k))) (some (.l ((bo W fd).map .int))),rfl,?_,aS,.mk hd2 stay he⟩
          have gg:∀e:En,zH e (.d (.int (n % 8))) (.d (.int 0))=some (.d (.bool false)):=fun e=>by
            have:decide ((0:Int) < n % 8)=false:=decide_eq_false c3
            rw [←this];rfl
          simp only [gB]
          generalize (bo W fd).map PyData.int=EE at*
          generalize fd.map PyData.int=FF at*
          generalize (W.ties.map fun t=>PyData.tuple [.int t.one,.int t.other,.tuple [.int t.top,.int t.bot],.int t.worth])=TT at*
          simp? [cg,te,g1',ai,i5,i6,t2,gm,gg]) (.mk hd1 (List.nil_sublist _) List.nodup_nil)
  obtain⟨hd2,hs,he⟩:=hI
  rename_i d2 fd v3 v4
  have hsub:List.Sublist fd fs:=hs.trans (List.take_sublist _ _)
  have hl:=hsub.length_le
  have hp:=gF fd
  refine⟨cW fd,d2,?_,hd2,hp.nodup_iff.mpr (hsub.nodup nf),fun k hk=>rf k (hsub.subset (hp.mem_iff.mp hk)),by rw [hp.length_eq];lia,(se hp).nodup_iff.mpr he⟩
  have hf:∀Wl,d_ Wl gW (aj 3) cg (gB ds W [] none none)=some (.nx (gB d2 W fd v3 v4)):=fun Wl=>by
    rw [cN (items:=fs.map .int) (e1:=gB d1 W [] none none) (show gW _=_ from gv (by simp? [gB,tf]))]
    exact h1
  have gs:∀e:En,e[2]?=some (some (.l (fd.map .int)))→g1 cE e [.s 2]=some (.l ((cW fd).map .int)):=fun e h=>lq h (by lia)
  simp only [gB,List.map_nil] at hf
  generalize (cW fd).map PyData.int=SS at*
  generalize fd.map PyData.int=FF at*
  simp? [eH,mn,hf,gs]
def Bo:PyData→En
  | .tuple [a,b]=>[some (.d a),some (.d b)]
  | _=>[]
theorem Di{cs:En}{i j:Nat}(hi:i=cs.length)(hj:j=cs.length+1){x a b:PyData}(hx:x=.tuple [a,b])(t:En)(ht:t.length=2):de (aL (aj i) (aL (aj j) cG)) x (cs++t)=some (cs++Bo x):=by
  subst hx hi hj
  match t,ht with
  | [p,q],_=>simp [de,aL,aj,cG,Bo]
def C0(r:List Int):Int:=r.getD 1 0
def kx(key:Nat→Int)(n:Nat):List Int:=(dk ((List.range n).map fun i=>[key i,(i:Int)])).map C0
theorem je(key:Nat→Int)(n:Nat):(kx key n).Perm ((List.range n).map fun(i:Nat)=>(i:Int)):=by
  have:=(List.mergeSort_perm ((List.range n).map fun i=>[key i,(i:Int)]) fun a b=>decide (a≤b)).map C0
  rw [List.map_map] at this
  exact this
theorem wd(rs:List (List Int)):(dk rs).Pairwise (· ≤·):=by
  have h2:=List.pairwise_mergeSort (le:=fun a b:List Int=>decide (a≤b)) (fun a b c h1 h2=>by simp only [decide_eq_true_eq] at*;exact List.le_trans h1 h2) (fun a b=>by simp only [Bool.or_eq_true,decide_eq_true_eq];exact List.le_total a b) rs
  exact h2.imp fun h=>by simpa using h
theorem A9{a b c d:Int}(h:[a,b]≤[c,d]):a < c∨a=c∧b≤d:=by
  rw [←List.not_lt,List.cons_lt_cons_iff,List.cons_lt_cons_iff] at h
  have n0:¬([]:List Int) < []:=List.lt_irrefl _
  by_cases x:a < c
  · exact .inl x
  · by_cases y:a=c
    · refine .inr ⟨y,?_⟩
      by_cases z:b≤d
      · exact z
      · exact absurd (.inr ⟨y.symm,.inl (by lia)⟩) h
    · exact absurd (.inl (by lia)) h
theorem qp(key:Nat→Int)(n:Nat):(kx key n).Pairwise fun a b=>key a.toNat < key b.toNat∨key a.toNat=key b.toNat∧a≤b:=by
  unfold kx
  rw [List.pairwise_map]
  have p:=List.mergeSort_perm ((List.range n).map fun i=>[key i,(i:Int)]) fun a b=>decide (a≤b)
  refine(wd _).imp_of_mem fun{a b} ha hb h=>?_
  obtain⟨i, -,rfl⟩:=List.mem_map.mp (p.mem_iff.mp ha)
  obtain⟨j, -,rfl⟩:=List.mem_map.mp (p.mem_iff.mp hb)
  have:=A9 h
  show key ((i:Int)).toNat < key ((j:Int)).toNat∨key ((i:Int)).toNat=key ((j:Int)).toNat∧(i:Int)≤(j:Int)
  rw [Int.toNat_natCast,Int.toNat_natCast]
  exact this
theorem ri{p q:Nat→Bool}:∀(l:List Nat),(∀k∈l,p k=true→q k=false)→(l.filter fun k=>p k || q k).length=(l.filter p).length+(l.filter q).length
  | [],_=>rfl
  | k::l,h=>by
    have ih:=ri l fun j hj=>h j (List.mem_cons_of_mem _ hj)
    have hk:=h k (by simp)
    cases a:p k<;>cases b:q k
    · simp [List.filter_cons,a,b,ih]
    · simp [List.filter_cons,a,b,ih];lia
    · simp [List.filter_cons,a,b,ih];lia
    · exact absurd (hk a) (by simp [b])
theorem rh{p q:Nat→Bool}:∀(l:List Nat),(∀k∈l,p k=true→q k=true)→(l.filter p).length≤(l.filter q).length∧((∃j∈l,p j=false∧q j=true)→(l.filter p).length < (l.filter q).length)
  | [],_=>⟨Nat.le_refl _,fun⟨j,hj,_⟩=>by cases hj⟩
  | k::l,h=>by
    obtain⟨i1,i2⟩:=rh l fun j hj=>h j (List.mem_cons_of_mem _ hj)
    have hk:=h k (by simp)
    cases a:p k<;>cases b:q k
    · simp only [List.filter_cons,a,b,Bool.false_eq_true,if_false]
      refine⟨i1,fun⟨j,hj,e1,e2⟩=>i2 ?_⟩
      rcases List.mem_cons.mp hj with rfl | hj
      · rw [b] at e2;cases e2
      · exact⟨j,hj,e1,e2⟩
    · simp only [List.filter_cons,a,b,Bool.false_eq_true,if_false,if_true,List.length_cons]
      exact⟨by lia,fun _=>by lia⟩
    · exact absurd (hk a) (by simp [b])
    · simp only [List.filter_cons,a,b,if_true,List.length_cons]
      refine⟨by lia,fun⟨j,hj,e1,e2⟩=>?_⟩
      have:=i2 (by
        rcases List.mem_cons.mp hj with rfl | hj
        · rw [a] at e1;cases e1
        · exact⟨j,hj,e1,e2⟩)
      lia
theorem sj{p:Nat→Bool}{i n:Nat}(h:i≤n):(List.range n).filter (fun k=>decide (k < i)&&p k)=(List.range i).filter p:=by
  obtain⟨m,rfl⟩:∃m,n=i+m:=⟨n - i,by lia⟩
  rw [List.range_add,List.filter_append]
  have e1:(List.range i).filter (fun k=>decide (k < i)&&p k)=(List.range i).filter p:=List.filter_congr fun k hk=>by
    simp [List.mem_range.mp hk]
  have e2:((List.range m).map (i+·)).filter (fun k=>decide (k < i)&&p k)=[]:=List.filter_eq_nil_iff.mpr fun k hk=>by
    obtain⟨j, -,rfl⟩:=List.mem_map.mp hk
    simp
    intro h;lia
  rw [e1,e2,List.append_nil]
def wQ(t:Nat→Int)(k i:Nat):Bool:=decide (t i < t k) || (decide (k < i)&&decide (t k=t i))
def qI(t:Nat→Int)(n i:Nat):Nat:=((List.range n).filter fun k=>decide (t i < t k)).length+((List.range i).filter fun k=>decide (t k=t i)).length
theorem vT{t:Nat→Int}{n i:Nat}(h:i≤n):qI t n i=((List.range n).filter fun k=>wQ t k i).length:=by
  unfold qI wQ
  rw [ri (p:=fun k=>decide (t i < t k)) (q:=fun k=>decide (k < i)&&decide (t k=t i)) (List.range n) (fun k _ e=>by
    simp only [decide_eq_true_eq] at e
    simp only [Bool.and_eq_false_iff,decide_eq_false_iff_not]
    exact .inr (by lia)),sj (p:=fun k=>decide (t k=t i)) h]
theorem A8{t:Nat→Int}{n i j:Nat}(hi:i < n)(hj:j < n)(h:wQ t j i=true):qI t n j < qI t n i:=by
  rw [vT (by lia),vT (by lia)]
  simp only [wQ,Bool.or_eq_true,Bool.and_eq_true,decide_eq_true_eq] at h
  refine(rh (List.range n) fun k _ e=>?_).2 ⟨j,List.mem_range.mpr hj,?_,?_⟩
  · simp only [wQ,Bool.or_eq_true,Bool.and_eq_true,decide_eq_true_eq] at e ⊢
    lia
  · simp only [wQ,Bool.or_eq_false_iff,Bool.and_eq_false_iff,decide_eq_false_iff_not]
    lia
  · simp only [wQ,Bool.or_eq_true,Bool.and_eq_true,decide_eq_true_eq]
    lia
theorem B6(t:Nat→Int)(n:Nat):kx (fun i=>(qI t n i:Int)) n=kx (fun i=> -(t i)) n:=by
  have p1:=je (fun i=>(qI t n i:Int)) n
  have p2:=je (fun i=> -(t i)) n
  refine List.Perm.eq_of_pairwise (le:=fun a b=>t b.toNat < t a.toNat∨t a.toNat=t b.toNat∧a≤b) (fun a b _ _ h1 h2=>by lia) ?_ ?_ (p1.trans p2.symm)
  · refine(qp _ n).imp_of_mem fun{a b} ha hb h=>?_
    obtain⟨i,hi,rfl⟩:=List.mem_map.mp (p1.mem_iff.mp ha)
    obtain⟨j,hj,rfl⟩:=List.mem_map.mp (p1.mem_iff.mp hb)
    have hi:=List.mem_range.mp hi
    have hj:=List.mem_range.mp hj
    simp only [Int.toNat_natCast] at h ⊢
    by_cases c:wQ t j i=true
    · have:=A8 hi hj c
      lia
    · simp only [wQ,Bool.or_eq_true,Bool.and_eq_true,decide_eq_true_eq] at c
      lia
  · exact(qp _ n).imp fun h=>by lia
structure FQ (n:Nat) (f:Fr):Prop where
  pos:0 < f.2
  top:Bt n f.1
  bot:Bt n f.2
theorem FQ.mono{n m:Nat}{f:Fr}(h:FQ n f)(hm:n≤m):FQ m f:=⟨h.pos,h.top.mono hm,h.bot.mono hm⟩
theorem Bg{a b:Fr}(h1:Bt 4000 a.1)(h2:Bt 4000 a.2)(h3:Bt 4000 b.1)(h4:Bt 4000 b.2):g9 [.d (dF a),.d (dF b)]=some (.d (.bool (decide (a.1*b.2 < b.1*a.2))),[.d (dF a),.d (dF b)]):=by
  have g1:∀e:En,iF e (.d (.int a.1)) (.d (.int b.2))=some (.d (.int (a.1*b.2))):=fun e=>gS (vc h1 h4)
  have g2:∀e:En,iF e (.d (.int b.1)) (.d (.int a.2))=some (.d (.int (b.1*a.2))):=fun e=>gS (vc h3 h2)
  have gl:∀e:En,wG e (.d (.int (a.1*b.2))) (.d (.int (b.1*a.2)))=some (.d (.bool (decide (a.1*b.2 < b.1*a.2)))):=fun e=>rfl
  generalize decide (a.1*b.2 < b.1*a.2)=bb at*
  unfold dF
  simp? [g9,tO,g1,g2,gl]
def dm(fs:List Fr)(i:Nat):Fr:=fs.getD i (0,1)
def tP(fs:List Fr)(i:Nat):Int:=(dm fs i).1*(sR fs / (dm fs i).2)
theorem kG{fs:List Fr}{i:Nat}(h:i < fs.length):dm fs i∈fs:=by
  unfold dm
  rw [List.getD_eq_getElem?_getD,List.getElem?_eq_getElem h]
  exact List.getElem_mem h
theorem m5{fs:List Fr}{i:Nat}{f:Fr}(h:fs[i]?=some f):dm fs i=f:=by
  unfold dm
  rw [List.getD_eq_getElem?_getD,h];rfl
theorem yj{x y p q:Int}(hp:0 < p)(hq:0 < q)(h:x*p=y*q):0 < x↔ 0 < y:=by
  constructor
  · intro hx
    have h1:=Int.mul_pos hx hp
    rcases Int.lt_or_le 0 y with z | z
    · exact z
    · have:=Int.mul_le_mul_of_nonneg_right z (Int.le_of_lt hq)
      lia
  · intro hy
    have h1:=Int.mul_pos hy hq
    rcases Int.lt_or_le 0 x with z | z
    · exact z
    · have:=Int.mul_le_mul_of_nonneg_right z (Int.le_of_lt hp)
      lia
theorem xq{fs:List Fr}{n:Nat}(h:∀f∈fs,FQ n f){i k:Nat}(hi:i < fs.length)(hk:k < fs.length):(dm fs i).1*(dm fs k).2 < (dm fs k).1*(dm fs i).2↔ tP fs i < tP fs k:=by
  have mi:=kG hi
  have mk:=kG hk
  unfold tP
  obtain⟨a,ha⟩:=nR mi
  obtain⟨b,hb⟩:=nR mk
  have pi:=(h _ mi).pos
  have pk:=(h _ mk).pos
  have pC:0 < sR fs:=rH fun f hf=>(h f hf).pos
  have ea:sR fs / (dm fs i).2=a:=by rw [ha];exact Int.mul_ediv_cancel_left a (by lia)
  have eb:sR fs / (dm fs k).2=b:=by rw [hb];exact Int.mul_ediv_cancel_left b (by lia)
  rw [ea,eb]
  generalize sR fs=C at*
  generalize (dm fs i).1=x at*
  generalize (dm fs k).1=y at*
  generalize (dm fs i).2=u at*
  generalize (dm fs k).2=v at*
  have key:(y*u - x*v)*C=(y*b - x*a)*(u*v):=by
    have e1:y*b*(u*v)=y*u*(v*b):=by simp only [Int.mul_assoc,Int.mul_comm,Int.mul_left_comm]
    have e2:x*a*(u*v)=x*v*(u*a):=by simp only [Int.mul_assoc,Int.mul_comm,Int.mul_left_comm]
    rw [Int.sub_mul,Int.sub_mul,e1,e2,←hb,←ha]
  have:=yj pC (Int.mul_pos pi pk) key
  lia
theorem wZ(fs:List Fr):fD 0 (fs.map dF)=(List.range fs.length).map fun(i:Nat)=>.tuple [.int (i:Int),dF (dm fs i)]:=by
  refine List.ext_getElem? fun i=>?_
  rw [h9,List.getElem?_map,List.getElem?_map]
  by_cases h:i < fs.length
  · have e:=m5 (List.getElem?_eq_getElem h)
    rw [List.getElem?_range h,List.getElem?_eq_getElem h];simp [e]
  · rw [List.getElem?_eq_none (by lia),List.getElem?_eq_none (by simp;lia)];rfl
theorem jr{key:Nat→Int}{n:Nat}{r:List Int}(h:r∈dk ((List.range n).map fun i=>[key i,(i:Int)])):∃i:Nat,r=[key i,(i:Int)]:=by
  obtain⟨i, -,e⟩:=List.mem_map.mp ((List.mergeSort_perm ((List.range n).map fun i=>[key i,(i:Int)]) fun a b=>decide (a≤b)).mem_iff.mp h)
  exact⟨i,e.symm⟩
def Bd:PyData→PyData
  | .tuple [_,d]=>d
  | _=>.none
theorem wb{key:Nat→Int}{n:Nat}:((dk ((List.range n).map fun i=>[key i,(i:Int)])).map di).map Bd=(kx key n).map .int:=by
  unfold kx
  rw [List.map_map,List.map_map]
  refine List.map_congr_left fun r hr=>?_
  obtain⟨i,rfl⟩:=jr hr
  rfl
theorem tL{fs:List Fr}{k:Nat}(h:k < fs.length):atI (fs.map dF) (k:Int)=some (dF (dm fs k)):=by
  unfold atI Bz
  rw [List.length_map,if_pos (by lia),if_pos (by lia)]
  simp [m5 (List.getElem?_eq_getElem h),h]
theorem qO{fs:List Fr}(h:∀f∈fs,FQ 20 f){i k:Nat}(hi:i < fs.length)(hk:k < fs.length):g9 [.d (dF (dm fs i)),.d (dF (dm fs k))]=some (.d (.bool (decide (tP fs i < tP fs k))),[.d (dF (dm fs i)),.d (dF (dm fs k))]):=by
  have fi:=h _ (kG hi)
  have fk:=h _ (kG hk)
  have t:=Bg (a:=dm fs i) (b:=dm fs k) (fi.top.mono (by decide)) (fi.bot.mono (by decide)) (fk.top.mono (by decide)) (fk.bot.mono (by decide))
  have e:decide ((dm fs i).1*(dm fs k).2 < (dm fs k).1*(dm fs i).2)=decide (tP fs i < tP fs k):=by
    have:=xq h hi hk
    by_cases c:tP fs i < tP fs k
    · rw [decide_eq_true c,decide_eq_true (this.mpr c)]
    · rw [decide_eq_false c,decide_eq_false fun z=>c (this.mp z)]
  rw [e] at t
  exact t
abbrev gE(fs:List Fr)(rs:List (List Int))(v2 v3 v4 v5:Option Sv):En:=[some (.d (.list (fs.map dF))),some (.l (rs.map di)),v2,v3,v4,v5]
def z0:PyData→Nat
  | .int i=>i.toNat
  | _=>0
theorem ke(p:Nat→Bool)(n:Nat):((bv 0 n).filter fun x=>p (z0 x)).length=((List.range n).filter p).length:=by
  unfold bv
  rw [List.filter_map,List.length_map]
  refine congrArg List.length (List.filter_congr fun i _=>?_)
  show p (((0:Int)+(i:Int)).toNat)=p i
  rw [Int.zero_add,Int.toNat_natCast]
theorem qo{fs:List Fr}(h:∀f∈fs,FQ 20 f)(hl:fs.length≤16){rs:List (List Int)}{i:Nat}(hi:i < fs.length){v4 v5:Option Sv}:∃out:List PyData,bO [(3,"_law_one"),(0,"_law_measures")] 1 bQ (aj 2) aX bB (gE fs rs (some (.d (.int (i:Int)))) (some (.d (dF (dm fs i)))) v4 v5)=some (.l out,gE fs rs (some (.d (.int (i:Int)))) (some (.d (dF (dm fs i)))) v4 v5)∧out.length=((List.range fs.length).filter fun k=>decide (tP fs i < tP fs k)).length:=by
  obtain⟨t',hf⟩:=cz (cs:=[some (.d (dF (dm fs i))),some (.d (.list (fs.map dF)))]) (ft:=aX) (fe:=bB) (b:=fun x=>decide (tP fs i < tP fs (z0 x))) (y:=id) (bv 0 fs.length) none [] (fun x hx=>by
    obtain⟨k,hk,rfl⟩:=List.mem_map.mp hx
    have hk:=List.mem_range.mp hk
    rw [Int.zero_add]
    have tl:=qO h hi hk
    have a:=tL hk
    show aX [some (.d (dF (dm fs i))),some (.d (.list (fs.map dF))),some (.d (.int (k:Int)))]=some (decide (tP fs i < tP fs ((k:Int)).toNat),[some (.d (dF (dm fs i))),some (.d (.list (fs.map dF))),some (.d (.int (k:Int)))])
    rw [Int.toNat_natCast]
    generalize decide (tP fs i < tP fs k)=bb at*
    generalize dF (dm fs i)=x1 at*
    generalize dF (dm fs k)=x2 at*
    generalize fs.map dF=FF at*
    simp? [aX,tl,a]) (fun x hx _=>by simp? [bB]) (by simp [eS];lia)
  have hi6:bQ (gE fs rs (some (.d (.int (i:Int)))) (some (.d (dF (dm fs i)))) v4 v5)=some (bv 0 fs.length,[],gE fs rs (some (.d (.int (i:Int)))) (some (.d (dF (dm fs i)))) v4 v5):=by
    have:=dH (fs:=ac (aN (g1 fK) (ac (af 0) am)) am) (e:=gE fs rs (some (.d (.int (i:Int)))) (some (.d (dF (dm fs i)))) v4 v5) (e1:=gE fs rs (some (.d (.int (i:Int)))) (some (.d (dF (dm fs i)))) v4 v5) (n:=(fs.length:Int)) (by simp? [List.replicate]) (by lia) (by lia)
    rw [Int.toNat_natCast] at this
    exact this
  have hv:=cK (cp:=[(3,"_law_one"),(0,"_law_measures")]) (nT:=1) (fi:=bQ) (g:=aj 2) (ft:=aX) (fe:=bB) (cs:=[some (.d (dF (dm fs i))),some (.d (.list (fs.map dF)))]) (t:=[none]) (t':=[t']) hi6 rfl rfl hf
  refine⟨_,hv,?_⟩
  rw [List.nil_append,List.length_map]
  exact ke (fun k=>decide (tP fs i < tP fs k)) fs.length
theorem pZ{fs:List Fr}(h:∀f∈fs,FQ 20 f)(hl:fs.length≤16){rs:List (List Int)}{i:Nat}(hi:i < fs.length){v4 v5:Option Sv}:∃out:List PyData,bO [(3,"_law_one"),(0,"_law_measures")] 1 bP (aj 2) aK bA (gE fs rs (some (.d (.int (i:Int)))) (some (.d (dF (dm fs i)))) v4 v5)=some (.l out,gE fs rs (some (.d (.int (i:Int)))) (some (.d (dF (dm fs i)))) v4 v5)∧out.length=((List.range i).filter fun k=>decide (tP fs k=tP fs i)).length:=by
  obtain⟨t',hf⟩:=cz (cs:=[some (.d (dF (dm fs i))),some (.d (.list (fs.map dF)))]) (ft:=aK) (fe:=bA) (b:=fun x=>decide (tP fs (z0 x)=tP fs i)) (y:=id) (bv 0 i) none [] (fun x hx=>by
    obtain⟨k,hk,rfl⟩:=List.mem_map.mp hx
    have hk:k < fs.length:=by have:=List.mem_range.mp hk;lia
    rw [Int.zero_add]
    have tl:=qO h hi hk
    have tr:=qO h hk hi
    have a:=tL hk
    show aK [some (.d (dF (dm fs i))),some (.d (.list (fs.map dF))),some (.d (.int (k:Int)))]=some (decide (tP fs ((k:Int)).toNat=tP fs i),[some (.d (dF (dm fs i))),some (.d (.list (fs.map dF))),some (.d (.int (k:Int)))])
    rw [Int.toNat_natCast]
    generalize tP fs i=p at*
    generalize tP fs k=q at*
    generalize dF (dm fs i)=x1 at*
    generalize dF (dm fs k)=x2 at*
    generalize fs.map dF=FF at*
    by_cases c1:p < q
    · rw [decide_eq_true c1] at tl
      rw [decide_eq_false (show ¬q=p by lia)]
      simp? [aK,tl,a]
    · rw [decide_eq_false c1] at tl
      by_cases c2:q < p
      · rw [decide_eq_true c2] at tr
        rw [decide_eq_false (show ¬q=p by lia)]
        simp? [aK,tl,tr,a]
      · rw [decide_eq_false c2] at tr
        rw [decide_eq_true (show q=p by lia)]
        simp? [aK,tl,tr,a]) (fun x hx _=>by simp? [bA]) (by simp [eS];lia)
  have hi3:bP (gE fs rs (some (.d (.int (i:Int)))) (some (.d (dF (dm fs i)))) v4 v5)=some (bv 0 i,[],gE fs rs (some (.d (.int (i:Int)))) (some (.d (dF (dm fs i)))) v4 v5):=by
    have:=dH (fs:=ac (af 2) am) (e:=gE fs rs (some (.d (.int (i:Int)))) (some (.d (dF (dm fs i)))) v4 v5) (e1:=gE fs rs (some (.d (.int (i:Int)))) (some (.d (dF (dm fs i)))) v4 v5) (n:=(i:Int)) (by simp? [List.replicate]) (by lia) (by lia)
    rw [Int.toNat_natCast] at this
    exact this
  have hv:=cK (cp:=[(3,"_law_one"),(0,"_law_measures")]) (nT:=1) (fi:=bP) (g:=aj 2) (ft:=aK) (fe:=bA) (cs:=[some (.d (dF (dm fs i))),some (.d (.list (fs.map dF)))]) (t:=[none]) (t':=[t']) hi3 rfl rfl hf
  refine⟨_,hv,?_⟩
  rw [List.nil_append,List.length_map]
  exact ke (fun k=>decide (tP fs k=tP fs i)) i
def bf(fs:List Fr)(m:Nat):List (List Int):=(List.range m).map fun i=>[((qI (tP fs) fs.length i:Nat):Int),(i:Int)]
theorem De{fs:List Fr}(h:∀f∈fs,FQ 20 f)(hl:fs.length≤16):bx [.d (.list (fs.map dF))]=some (.d (.tuple ((kx (fun i=> -(tP fs i)) fs.length).map .int)),[.d (.list (fs.map dF))]):=by
  obtain⟨e',h1,⟨v2,v3,v4,v5,he⟩⟩:=cv (own:=[]) (g:=de (aL (aj 2) (aL (aj 3) cG))) (f:=bH) (fun i e=>∃v2 v3 v4 v5,e=gE fs (bf fs i) v2 v3 v4 v5) (fD 0 (fs.map dF)) 0 (gE fs [] none none none none) (fun i x e hx ⟨v2,v3,v4,v5,he⟩=>by
    subst he
    rw [Nat.zero_add] at*
    rw [wZ,List.getElem?_map] at hx
    obtain⟨j,hj,rfl⟩:=Option.map_eq_some_iff.mp hx
    obtain⟨il,ej⟩:=List.getElem?_eq_some_iff.mp hj
    rw [List.length_range] at il
    rw [List.getElem_range] at ej
    subst ej
    obtain⟨o1,c1,l1⟩:=qo h hl (rs:=bf fs i) il (v4:=v4) (v5:=v5)
    obtain⟨o2,c2,l2⟩:=pZ h hl (rs:=bf fs i) il (v4:=some (.l o1)) (v5:=v5)
    have er:bf fs (i+1)=bf fs i++[[((qI (tP fs) fs.length i:Nat):Int),(i:Int)]]:=by
      unfold bf
      rw [List.range_succ,List.map_append];rfl
    have rl:(bf fs i).length < 1000000:=by simp [bf];lia
    have lr:(o1.length:Int)+(o2.length:Int)=((qI (tP fs) fs.length i:Nat):Int):=by
      rw [l1,l2];unfold qI;lia
    refine⟨gE fs (bf fs i) (some (.d (.int (i:Int)))) (some (.d (dF (dm fs i)))) v4 v5,gE fs (bf fs (i+1)) (some (.d (.int (i:Int)))) (some (.d (dF (dm fs i)))) (some (.l o1)) (some (.l o2)),rfl,?_,aS,_,_,_,_,rfl⟩
    rw [er]
    have rl':((bf fs i).map di).length < 1000000:=by rw [List.length_map];exact rl
    have em:(bf fs i++[[((qI (tP fs) fs.length i:Nat):Int),(i:Int)]]).map di=(bf fs i).map di++[PyData.tuple [.int ((o1.length:Int)+(o2.length:Int)),.int (i:Int)]]:=by
      rw [List.map_append,lr];rfl
    unfold bH
    refine(b_ (e1:=gE fs (bf fs i) (some (.d (.int (i:Int)))) (some (.d (dF (dm fs i)))) (some (.l o1)) v5) ?_).trans ?_
    · simp? [c1]
    refine(b_ (e1:=gE fs (bf fs i) (some (.d (.int (i:Int)))) (some (.d (dF (dm fs i)))) (some (.l o1)) (some (.l o2))) ?_).trans ?_
    · simp? [c2]
    simp only [gE]
    rw [em]
    generalize (bf fs i).map di=RR at*
    generalize dF (dm fs i)=x1 at*
    generalize fs.map dF=FF at*
    simp? [rl']) ⟨none,none,none,none,rfl⟩
  subst he
  rw [Nat.zero_add,h_,List.length_map] at h1
  have hs2:∀Wl,d_ Wl cP (de (aL (aj 2) (aL (aj 3) cG))) bH (gE fs [] none none none none)=some (.nx (gE fs (bf fs fs.length) v2 v3 v4 v5)):=fun Wl=>by
    rw [cN (show cP (gE fs [] none none none none)=some (fD 0 (fs.map dF),[],gE fs [] none none none none) from rfl)]
    exact h1
  have rne:∀r∈bf fs fs.length,r≠[]:=fun r hr=>by obtain⟨i, -,rfl⟩:=List.mem_map.mp hr;simp
  have rl:(bf fs fs.length).length < 64:=by simp [bf];lia
  obtain⟨t2,_,hf2⟩:=gc (cs:=[]) (g:=de (aL (aj 0) (aL (aj 1) cG))) (ft:=cJ) (fe:=bz) (b:=fun _=>true) (y:=Bd) (u:=Bo) 2 ((dk (bf fs fs.length)).map di) [none,none] [] rfl (fun x hx t ht=>by
      obtain⟨r,hr,rfl⟩:=List.mem_map.mp hx
      obtain⟨i,rfl⟩:=jr (key:=fun i=>((qI (tP fs) fs.length i:Nat):Int)) hr
      exact Di (cs:=[]) rfl rfl rfl t ht) (fun x hx=>by
      obtain⟨r,hr,rfl⟩:=List.mem_map.mp hx
      obtain⟨i,rfl⟩:=jr (key:=fun i=>((qI (tP fs) fs.length i:Nat):Int)) hr
      rfl) (fun x hx=>rfl) (fun x hx _=>by
      obtain⟨r,hr,rfl⟩:=List.mem_map.mp hx
      obtain⟨i,rfl⟩:=jr (key:=fun i=>((qI (tP fs) fs.length i:Nat):Int)) hr
      show bz [some (.d (.int _)),some (.d (.int (i:Int)))]=some (.d (.int (i:Int)),[some (.d (.int _)),some (.d (.int (i:Int)))])
      simp? [bz]) (by
      have:=(List.mergeSort_perm (bf fs fs.length) fun a b=>decide (a≤b)).length_eq
      simp [dk,this];lia)
  have hi2:cO (gE fs (bf fs fs.length) v2 v3 v4 v5)=some ((dk (bf fs fs.length)).map di,[],gE fs (bf fs fs.length) v2 v3 v4 v5):=by
    have gs:=uL (e:=gE fs (bf fs fs.length) v2 v3 v4 v5) (i:=1) (rs:=bf fs fs.length) rfl rne rl
    refine uS ?_
    simp only [gE] at gs ⊢
    generalize (dk (bf fs fs.length)).map di=SS at*
    generalize (bf fs fs.length).map di=RR at*
    simp? [gs]
  have hv2:=cK (cp:=[]) (nT:=2) (fi:=cO) (g:=de (aL (aj 0) (aL (aj 1) cG))) (ft:=cJ) (fe:=bz) (cs:=[]) (t:=[none,none]) (t':=t2) hi2 rfl rfl hf2
  rw [List.nil_append,List.filter_eq_self.mpr (fun _ _=>rfl),show((dk (bf fs fs.length)).map di).map Bd=_ from wb (key:=fun i=>((qI (tP fs) fs.length i:Nat):Int)),B6] at hv2
  simp only [gE,List.map_nil] at hs2 hv2
  generalize (kx (fun i=> -(tP fs i)) fs.length).map PyData.int=OUT at*
  generalize (bf fs fs.length).map di=RR at*
  generalize fs.map dF=FF at*
  simp? [bx,fx,hs2,hv2]
theorem iC{cs:En}{ft:FT}{fe:FE}{b:PyData→Bool}{y:PyData→PyData}:∀(items:List PyData) (t:Option Sv) (acc:List PyData),(∀x∈items,ft (cs++[some (.d x)])=some (b x,cs++[some (.d x)]))→(∀x∈items,b x=true→∃r,fe (cs++[some (.d x)])=some (r,cs++[some (.d x)])∧qg r=some (y x))→
    acc.length+items.length≤1000000→∃t',ey (aj cs.length) ft fe items (cs++[t]) acc=some (acc++(items.filter b).map y,cs++[t'])
  | [],t,acc,_,_,_=>⟨t,by simp [ey]⟩
  | x::r,t,acc,h1,h2,hl=>by
    have hg:aj cs.length x (cs++[t])=some (cs++[some (.d x)]):=by simp [aj]
    have hx:=h1 x (by simp)
    simp only [List.length_cons] at hl
    unfold ey
    rw [hg,Option.bind_some,hx,Option.bind_some]
    cases c:b x with
    | true=>
      obtain⟨q,h3,h4⟩:=h2 x (by simp) c
      simp only [if_true,h3,Option.bind_some,h4]
      rw [if_pos (by lia)]
      obtain⟨t',h5⟩:=iC (b:=b) (y:=y) r (some (.d x)) (acc++[y x]) (fun z hz=>h1 z (by simp [hz])) (fun z hz=>h2 z (by simp [hz])) (by simp;lia)
      exact⟨t',by rw [h5];simp [List.filter_cons,c]⟩
    | false=>
      simp only [Bool.false_eq_true,if_false]
      obtain⟨t',h5⟩:=iC (b:=b) (y:=y) r (some (.d x)) acc (fun z hz=>h1 z (by simp [hz])) (fun z hz=>h2 z (by simp [hz])) (by lia)
      exact⟨t',by rw [h5];simp [List.filter_cons,c]⟩
def dG(W:be)(ks:List Int)(b:Int):List Int:=ks.filter fun a=>j4 W a b
def kr(W:be)(ks os:List Int):Bool:=os.all fun b=> !(dG W ks b).isEmpty
def ou(W:be)(ks:List Int)(b:Int):Int:=(dG W ks b).headD 0
def kN(W:be)(ks os:List Int):PyData:=if kr W ks os=true then .tuple ((os.map (ou W ks)).map .int) else .none
def fg:PyData→Int
  | .int i=>i
  | _=>0
theorem ui{W:be}(ok:W.Ok){ks:List Int}(hk:∀k∈ks,eg W k)(hl:ks.length≤100){b:Int}(hb:eg W b):bO [(0,"web"),(2,"tie")] 1 eP (aj 2) bI cq [some (.d (aq W)),some (.d (.tuple (ks.map .int))),some (.d (.int b))]=some (.l ((dG W ks b).map .int),[some (.d (aq W)),some (.d (.tuple (ks.map .int))),some (.d (.int b))]):=by
  obtain⟨t',hf⟩:=cz (cs:=[some (.d (aq W)),some (.d (.int b))]) (ft:=bI) (fe:=cq) (b:=fun x=>j4 W (fg x) b) (y:=id) (ks.map .int) none [] (fun x hx=>by
    obtain⟨k,hk',rfl⟩:=List.mem_map.mp hx
    have tm:=zl ok (hk k hk') hb
    show bI [some (.d (aq W)),some (.d (.int b)),some (.d (.int k))]=some (j4 W k b,[some (.d (aq W)),some (.d (.int b)),some (.d (.int k))])
    generalize j4 W k b=bb at*
    generalize aq W=WW at*
    simp? [bI,tm]) (fun x hx _=>by simp? [cq]) (by simp;lia)
  have hv:=cK (cp:=[(0,"web"),(2,"tie")]) (nT:=1) (fi:=eP) (g:=aj 2) (ft:=bI) (fe:=cq) (e:=[some (.d (aq W)),some (.d (.tuple (ks.map .int))),some (.d (.int b))]) (cs:=[some (.d (aq W)),some (.d (.int b))]) (t:=[none]) (t':=[t']) (gv rfl) rfl rfl hf
  rw [hv]
  have eo:[]++((ks.map PyData.int).filter fun x=>j4 W (fg x) b).map id=(dG W ks b).map .int:=by
    rw [List.nil_append,List.map_id,List.filter_map]
    rfl
  rw [eo]
def gp(W:be)(ks os:List Int):List (List Int):=os.map (dG W ks)
def mJ(l:List Int):PyData:=.list (l.map .int)
theorem Cj(l:List Int):Sh 4 (mJ l):=Sh.list (n:=2) fun d hd=>by
  obtain⟨k,_,rfl⟩:=List.mem_map.mp hd
  exact Sh.int
theorem zC(l:List Int):PyData.eqv (mJ l) (.list [])=l.isEmpty:=by
  cases l with
  | nil=>simp [mJ,PyData.eqv,PyData.eqvAll]
  | cons a r=>simp [mJ,PyData.eqv,PyData.eqvAll]
theorem zO{e:En}{i:Nat}{LL:List (List Int)}(h:e[i]?=some (some (.l (LL.map mJ)))):jF false e (.l []) (.s i)=some (.d (.bool (LL.any List.isEmpty))):=by
  have c:PyData.canLayAll0 (LL.map mJ)=true:=(Sh.all (n:=4) fun d hd=>by
    obtain⟨l,_,rfl⟩:=List.mem_map.mp hd
    exact Cj l).1
  unfold jF
  simp only [fB,cx,h,Option.bind_some,c]
  have c0:(PyData.list []).canLay0=true:=by simp [PyData.canLay0,PyData.canLayAll0]
  have d0:decide ((PyData.list []).depth≤60)=true:=by simp [PyData.depth,PyData.depthAll]
  rw [c0,d0]
  simp only [Bool.and_self,if_true,Bool.false_eq_true,if_false,List.any_map]
  congr 4
  exact funext fun l=>zC l
theorem gG{W:be}(ok:W.Ok){ks os:List Int}(hk:∀k∈ks,eg W k)(ho:∀k∈os,eg W k)(lk:ks.length≤100)(lo:os.length≤100):a8 [.d (aq W),.d (.tuple (ks.map .int)),.d (.tuple (os.map .int))]=some (.d (kN W ks os),[.d (aq W),.d (.tuple (ks.map .int)),.d (.tuple (os.map .int))]):=by
  obtain⟨t',hf⟩:=iC (cs:=[some (.d (aq W)),some (.d (.tuple (ks.map .int)))]) (ft:=cJ) (fe:=eM) (b:=fun _=>true) (y:=fun x=>mJ (dG W ks (fg x))) (os.map .int) none [] (fun x hx=>rfl) (fun x hx _=>by
    obtain⟨b,hb,rfl⟩:=List.mem_map.mp hx
    exact⟨.l ((dG W ks b).map .int),ui ok hk lk (ho b hb),rfl⟩) (by simp;lia)
  have hv:=fun v3=>cK (cp:=[(0,"web"),(1,"kept")]) (nT:=1) (fi:=gX) (g:=aj 2) (ft:=cJ) (fe:=eM) (e:=[some (.d (aq W)),some (.d (.tuple (ks.map .int))),some (.d (.tuple (os.map .int))),v3]) (cs:=[some (.d (aq W)),some (.d (.tuple (ks.map .int)))]) (t:=[none]) (t':=[t']) (gv rfl) rfl rfl hf
  have eo:[]++((os.map PyData.int).filter fun _=>true).map (fun x=>mJ (dG W ks (fg x)))=(gp W ks os).map mJ:=by
    rw [List.nil_append,List.filter_eq_self.mpr (fun _ _=>rfl)]
    unfold gp
    rw [List.map_map,List.map_map]
    rfl
  simp only [eo] at hv
  have ln:(gp W ks os).length≤100:=by simp [gp];exact lo
  have gn:=zO (e:=[some (.d (aq W)),some (.d (.tuple (ks.map .int))),some (.d (.tuple (os.map .int))),some (.l ((gp W ks os).map mJ))]) (i:=3) (LL:=gp W ks os) rfl
  have ec:(gp W ks os).any List.isEmpty= !kr W ks os:=by
    unfold gp kr
    rw [List.any_map,List.not_all_eq_any_not]
    congr 1
    exact funext fun b=>by simp
  rw [ec] at gn
  unfold kN
  cases cb:kr W ks os with
  | false=>
    rw [cb] at gn
    rw [if_neg (by simp)]
    generalize (gp W ks os).map mJ=FL at*
    generalize ks.map PyData.int=KK at*
    generalize os.map PyData.int=OO at*
    generalize aq W=WW at*
    simp? [a8,f9,hv,gn]
  | true=>
    rw [cb] at gn
    rw [if_pos rfl]
    have ne:∀l∈gp W ks os,l≠[]:=fun l hl=>by
      obtain⟨b,hb,rfl⟩:=List.mem_map.mp hl
      have:=List.all_eq_true.mp cb b hb
      intro z
      rw [z] at this
      simp at this
    obtain⟨t2,hf2⟩:=cz (cs:=[]) (ft:=cJ) (fe:=cn) (b:=fun _=>true) (y:=fun x=>match x with | .list (d::_)=>d | _=>.none) ((gp W ks os).map mJ) none [] (fun x hx=>rfl) (fun x hx _=>by
      obtain⟨l,hl,rfl⟩:=List.mem_map.mp hx
      cases l with
      | nil=>exact absurd rfl (ne [] hl)
      | cons a r=>
        have a0:atI (PyData.int a::r.map .int) 0=some (.int a):=p4
        show cn [some (.d (.list (PyData.int a::r.map .int)))]=some (.d (.int a),[some (.d (.list (PyData.int a::r.map .int)))])
        generalize PyData.int a::r.map .int=LL at*
        simp? [cn,a0]) (by simp;lia)
    have hv2:=tj (cp:=[]) (nT:=1) (fi:=eO) (g:=aj 0) (ft:=cJ) (fe:=cn) (e:=[some (.d (aq W)),some (.d (.tuple (ks.map .int))),some (.d (.tuple (os.map .int))),some (.l ((gp W ks os).map mJ))]) (cs:=[]) (t:=[none]) (t':=[t2]) (show eO [some (.d (aq W)),some (.d (.tuple (ks.map .int))),some (.d (.tuple (os.map .int))),some (.l ((gp W ks os).map mJ))]=some ((gp W ks os).map mJ,[(3,(gp W ks os).map mJ)],[some (.d (aq W)),some (.d (.tuple (ks.map .int))),some (.d (.tuple (os.map .int))),some (.l ((gp W ks os).map mJ))]) from rfl) rfl rfl rfl hf2
    have eo2:[]++(((gp W ks os).map mJ).filter fun _=>true).map (fun x=>match x with | .list (d::_)=>d | _=>.none)=(os.map (ou W ks)).map .int:=by
      rw [List.nil_append,List.filter_eq_self.mpr (fun _ _=>rfl)]
      unfold gp at ne ⊢
      rw [List.map_map,List.map_map,List.map_map]
      refine List.map_congr_left fun b hb=>?_
      have nb:=ne _ (List.mem_map_of_mem hb)
      show(match mJ (dG W ks b) with | .list (d::_)=>d | _=>.none)=PyData.int ((dG W ks b).headD 0)
      cases q:dG W ks b with
      | nil=>exact absurd q nb
      | cons a r=>rfl
    rw [eo2] at hv2
    generalize (os.map (ou W ks)).map PyData.int=OUT at*
    generalize (gp W ks os).map mJ=FL at*
    generalize ks.map PyData.int=KK at*
    generalize os.map PyData.int=OO at*
    generalize aq W=WW at*
    simp? [a8,f9,hv,hv2,gn]
theorem va{W:be}(ok:W.Ok){ks:List Int}(hk:∀k∈ks,eg W k)(hl:ks.length≤100){b:Int}(hb:eg W b){v2:Option Sv}:bO [(0,"_law_web_here"),(3,"_law_tie")] 1 iH (aj 2) dC eL [some (.d (aq W)),some (.d (.tuple (ks.map .int))),v2,some (.d (.int b))]=some (.l ((dG W ks b).map .int),[some (.d (aq W)),some (.d (.tuple (ks.map .int))),v2,some (.d (.int b))]):=by
  obtain⟨t',hf⟩:=cz (cs:=[some (.d (aq W)),some (.d (.int b))]) (ft:=dC) (fe:=eL) (b:=fun x=>j4 W (fg x) b) (y:=id) (ks.map .int) none [] (fun x hx=>by
    obtain⟨k,hk',rfl⟩:=List.mem_map.mp hx
    have tm:=oh ok (hk k hk') hb
    show dC [some (.d (aq W)),some (.d (.int b)),some (.d (.int k))]=some (j4 W k b,[some (.d (aq W)),some (.d (.int b)),some (.d (.int k))])
    generalize j4 W k b=bb at*
    generalize aq W=WW at*
    simp? [dC,tm]) (fun x hx _=>by simp? [eL]) (by simp;lia)
  have hv:=cK (cp:=[(0,"_law_web_here"),(3,"_law_tie")]) (nT:=1) (fi:=iH) (g:=aj 2) (ft:=dC) (fe:=eL) (e:=[some (.d (aq W)),some (.d (.tuple (ks.map .int))),v2,some (.d (.int b))]) (cs:=[some (.d (aq W)),some (.d (.int b))]) (t:=[none]) (t':=[t']) (gv rfl) rfl rfl hf
  rw [hv]
  have eo:[]++((ks.map PyData.int).filter fun x=>j4 W (fg x) b).map id=(dG W ks b).map .int:=by
    rw [List.nil_append,List.map_id,List.filter_map]
    rfl
  rw [eo]
theorem wk{W:be}(ok:W.Ok){ks os:List Int}(hk:∀k∈ks,eg W k)(ho:∀k∈os,eg W k)(lk:ks.length≤100):fM [.d (aq W),.d (.tuple (ks.map .int)),.d (.tuple (os.map .int))]=some (.d (.bool (kr W ks os)),[.d (aq W),.d (.tuple (ks.map .int)),.d (.tuple (os.map .int))]):=by
  have ft:=jL (own:=[]) (g:=aj 3) (f:=dA) (Z:=.d (.bool false)) (fun x=> !(dG W ks (fg x)).isEmpty) (fun e=>∃v3,e=[some (.d (aq W)),some (.d (.tuple (ks.map .int))),some (.d (.tuple (os.map .int))),v3]) (fun e=>∃v3,e=[some (.d (aq W)),some (.d (.tuple (ks.map .int))),some (.d (.tuple (os.map .int))),v3]) (os.map .int) [some (.d (aq W)),some (.d (.tuple (ks.map .int))),some (.d (.tuple (os.map .int))),none] (fun x hx e ⟨v3,he⟩=>by
    subst he
    obtain⟨b,hb,rfl⟩:=List.mem_map.mp hx
    have mc:=va ok hk lk (ho b hb) (v2:=some (.d (.tuple (os.map .int))))
    have ge:=fun e=>zF (e:=e) (xs:=(dG W ks b).map .int) (neg:=false)
    simp only [Bool.false_eq_true,if_false,List.isEmpty_map] at ge
    refine⟨[some (.d (aq W)),some (.d (.tuple (ks.map .int))),some (.d (.tuple (os.map .int))),some (.d (.int b))],rfl,fun h=>?_,fun h=>?_⟩
    · have h':(dG W ks b).isEmpty=false:=by simpa [fg] using h
      rw [h'] at ge
      refine⟨[some (.d (aq W)),some (.d (.tuple (ks.map .int))),some (.d (.tuple (os.map .int))),some (.d (.int b))],?_,aS,_,rfl⟩
      generalize (dG W ks b).map PyData.int=FF at*
      generalize ks.map PyData.int=KK at*
      generalize os.map PyData.int=OO at*
      generalize aq W=WW at*
      simp? [dA,mc,ge]
    · have h':(dG W ks b).isEmpty=true:=by simpa [fg] using h
      rw [h'] at ge
      refine⟨[some (.d (aq W)),some (.d (.tuple (ks.map .int))),some (.d (.tuple (os.map .int))),some (.d (.int b))],?_,_,rfl⟩
      generalize (dG W ks b).map PyData.int=FF at*
      generalize ks.map PyData.int=KK at*
      generalize os.map PyData.int=OO at*
      generalize aq W=WW at*
      simp? [dA,mc,ge]) ⟨none,rfl⟩
  have ea:(os.map PyData.int).all (fun x=> !(dG W ks (fg x)).isEmpty)=kr W ks os:=by
    rw [List.all_map];rfl
  rw [ea] at ft
  cases cb:kr W ks os with
  | true=>
    obtain⟨e',h1,v3,rfl⟩:=ft.1 cb
    have hs:=fun Wl=>(cN (W:=Wl) (g:=aj 3) (f:=dA) (show iI [some (.d (aq W)),some (.d (.tuple (ks.map .int))),some (.d (.tuple (os.map .int))),none]=_ from gv rfl)).trans h1
    generalize ks.map PyData.int=KK at*
    generalize os.map PyData.int=OO at*
    generalize aq W=WW at*
    simp? [fM,k9,hs]
  | false=>
    obtain⟨e',h1,v3,rfl⟩:=ft.2 cb
    have hs:=fun Wl=>(cN (W:=Wl) (g:=aj 3) (f:=dA) (show iI [some (.d (aq W)),some (.d (.tuple (ks.map .int))),some (.d (.tuple (os.map .int))),none]=_ from gv rfl)).trans h1
    generalize ks.map PyData.int=KK at*
    generalize os.map PyData.int=OO at*
    generalize aq W=WW at*
    simp? [fM,k9,hs]
theorem sZ{W:be}(wl:W.ties.length≤16){fi:FI}{fe:FE}{F:kB→Fr}{e:En}(hi:fi e=some (W.ties.map cZ,[],e))(he:∀t∈W.ties,fe [some (.d (cZ t))]=some (.d (dF (F t)),[some (.d (cZ t))])):bO [] 1 fi (aj 0) cJ fe e=some (.l ((W.ties.map F).map dF),e):=by
  obtain⟨t',hf⟩:=cz (cs:=[]) (ft:=cJ) (fe:=fe) (b:=fun _=>true) (y:=fun x=>match x with | .tuple [.int a,.int b,.tuple [.int c,.int d],.int w]=>dF (F ⟨a,b,c,d,w⟩) | _=>.none) (W.ties.map cZ) none [] (fun x hx=>rfl) (fun x hx _=>by
    obtain⟨t,ht,rfl⟩:=List.mem_map.mp hx
    exact he t ht) (by simp;lia)
  have hv:=cK (cp:=[]) (nT:=1) (fi:=fi) (g:=aj 0) (ft:=cJ) (fe:=fe) (cs:=[]) (t:=[none]) (t':=[t']) hi rfl rfl hf
  rw [hv]
  have eo:[]++((W.ties.map cZ).filter fun _=>true).map (fun x=>match x with | .tuple [.int a,.int b,.tuple [.int c,.int d],.int w]=>dF (F ⟨a,b,c,d,w⟩) | _=>.none)=(W.ties.map F).map dF:=by
    rw [List.nil_append,List.filter_eq_self.mpr (fun _ _=>rfl),List.map_map,List.map_map]
    rfl
  rw [eo]
def BG(t:kB):Fr:=(t.worth,1)
def iw(W:be):List Fr:=W.ties.map BG
def nL(fs:List Fr):List Int:=kx (fun i=> -(tP fs i)) fs.length
theorem iT{W:be}{e:En}(h:∃r,e=some (.d (aq W))::r):gu (av cC (af 0) (vC (.int 1))) e=some (W.ties.map cZ,[],e):=by
  obtain⟨r,rfl⟩:=h
  have g1':=zM (W:=W)
  refine gv ?_
  generalize W.ties.map cZ=TT at*
  generalize aq W=WW at*
  simp? [g1']
theorem oB{W:be}{ks:List Int}:∀{os:List Int},kr W ks os=true→(dN ((os.map (ou W ks)).map .int) (os.map .int)).all (ni W ks)=true
  | [],_=>rfl
  | b::os,h=>by
    have h':(!(dG W ks b).isEmpty&&kr W ks os)=true:=h
    rw [Bool.and_eq_true] at h'
    have ih:=oB h'.2
    show(ni W ks (.tuple [.int (ou W ks b),.int b])&&(dN ((os.map (ou W ks)).map .int) (os.map .int)).all (ni W ks))=true
    rw [ih,Bool.and_true]
    show(ks.contains (ou W ks b)&&j4 W (ou W ks b) b)=true
    unfold ou
    cases q:dG W ks b with
    | nil=>rw [q] at h';simp at h'
    | cons a r=>
      have m:a∈dG W ks b:=by rw [q];simp
      have:=List.mem_filter.mp m
      show(ks.contains a&&j4 W a b)=true
      rw [List.contains_iff_mem.mpr this.1,this.2];rfl
theorem zA{W:be}{ks os:List Int}(h:kr W ks os=true):tF W ks os (kN W ks os)=true:=by
  unfold kN
  rw [if_pos h]
  show(((((os.map (ou W ks)).map PyData.int).length:Int)==(os.length:Int))&&(dN ((os.map (ou W ks)).map .int) (os.map .int)).all (ni W ks))=true
  rw [oB h]
  simp
theorem B7{W:be}{ks:List Int}(hk:∀k∈ks,eg W k)(wl:W.ties.length≤16)(b:Int):0≤ou W ks b∧ou W ks b < 16:=by
  unfold ou
  cases q:dG W ks b with
  | nil=>exact⟨by decide,by decide⟩
  | cons a r=>
    have m:a∈dG W ks b:=by rw [q];simp
    have:=hk a (List.mem_filter.mp m).1
    exact⟨this.1,by have:=this.2;show a < 16;lia⟩
theorem B0{W:be}{ks os:List Int}(hk:∀k∈ks,eg W k)(wl:W.ties.length≤16)(lo:os.length≤16):Sz (16*4+3) 4 (kN W ks os):=by
  unfold kN
  split
  · refine Sz.ints (by simpa using lo) fun r hr=>?_
    obtain⟨b,_,rfl⟩:=List.mem_map.mp hr
    exact B7 hk wl b
  · exact⟨rfl,by decide,by simp [PyData.depth],by decide,hV _⟩
theorem yv{W:be}(ok:W.Ok){ks os:List Int}(hk:∀k∈ks,eg W k)(ho:∀k∈os,eg W k)(lk:ks.length≤16)(lo:os.length≤16):ig [.d (aq W),.d (.tuple (ks.map .int)),.d (.tuple (os.map .int))]=some (.d (.bool true),[.d (aq W),.d (.tuple (ks.map .int)),.d (.tuple (os.map .int))]):=by
  have wl:=ok.len
  have c:=gG ok hk ho (by lia) (by lia)
  have mb:=wk ok hk ho (by lia)
  have hz:=B0 (os:=os) hk wl lo
  have r:∀e,g1 ka e [.d (kN W ks os)]=some (.d (.str (kN W ks os).shown)):=fun e=>xi (hz.ok (by decide) (by decide))
  have q:∀e,c_ false e (.d (.str (kN W ks os).shown)) (.d (.str (kN W ks os).shown))=some (.d (.bool true)):=fun e=>xc hz.so
  have sm:lB [.d (kN W ks os),.d (kN W ks os)]=some (.d (.bool true),[.d (kN W ks os),.d (kN W ks os)]):=by
    generalize kN W ks os=D at*
    simp? [lB,tQ,r,q]
  have gq:∀e:En,c_ true e (.d (.tuple [aq W,.tuple (ks.map .int),.tuple (os.map .int)])) (.d (.tuple [aq W,.tuple (ks.map .int),.tuple (os.map .int)]))=some (.d (.bool false)):=fun e=>uv (n:=12) (Sh.tup (n:=10) fun d hd=>by
    simp only [List.mem_cons,List.not_mem_nil,or_false] at hd
    rcases hd with rfl | rfl | rfl
    · exact Sh.web
    · exact Sh.ints.mono (by decide)
    · exact Sh.ints.mono (by decide)) (by decide) (by simp [c8,bY,uj,li])
  have h1:=sX ok hk ho (by lia) (kN W ks os)
  have h2:=qN ok hk ho (kN W ks os)
  cases cb:kr W ks os with
  | true=>
    rw [zA cb] at h1 h2
    rw [cb] at mb
    have gi:∀e:En,xg e (.d (.bool true)) (.d (.bool true))=some (.d (.bool true)):=fun e=>rfl
    generalize kN W ks os=D at*
    generalize ks.map PyData.int=KK at*
    generalize os.map PyData.int=OO at*
    generalize aq W=WW at*
    simp? [ig,m7,c,gq,sm,mb,h1,h2,gi]
  | false=>
    rw [cb] at mb
    have en:kN W ks os=.none:=by unfold kN;rw [cb];rfl
    rw [en] at c sm
    have gi:∀e:En,xg e (.d .none) (.d .none)=some (.d (.bool true)):=fun e=>rfl
    generalize ks.map PyData.int=KK at*
    generalize os.map PyData.int=OO at*
    generalize aq W=WW at*
    simp? [ig,m7,c,gq,sm,mb,gi]
theorem pq:∀(ts:List kB),sR (ts.map BG)=1
  | []=>rfl
  | t::ts=>by
    show(1:Int)*sR (ts.map BG)=1
    rw [pq ts];rfl
theorem zh{W:be}{b:Int}(h:eg W b):tP (iw W) b.toNat=(W.tie b).worth:=by
  have e:dm (iw W) b.toNat=BG (W.tie b):=m5 (by unfold iw;rw [List.getElem?_map,h.get];rfl)
  unfold tP
  rw [e]
  show(W.tie b).worth*(sR (iw W) / 1)=_
  unfold iw
  rw [pq]
  simp
theorem Ef{W:be}(ok:W.Ok):∀f∈iw W,FQ 20 f:=fun f hf=>by
  obtain⟨t,ht,rfl⟩:=List.mem_map.mp hf
  have:=(ok.ties t ht).w0;have:=(ok.ties t ht).w1
  exact⟨by show(0:Int) < 1;decide,by show Bt 20 t.worth;unfold Bt;lia,by show Bt 20 1;unfold Bt;decide⟩
theorem nM{W:be}{x:Int}:x∈nL (iw W)↔ eg W x:=by
  have p:=(je (fun i=> -(tP (iw W) i)) (iw W).length).mem_iff (a:=x)
  have ll:(iw W).length=W.ties.length:=by simp [iw]
  rw [show nL (iw W)=kx (fun i=> -(tP (iw W) i)) (iw W).length from rfl,p,ll]
  constructor
  · intro h
    obtain⟨i,hi,rfl⟩:=List.mem_map.mp h
    have:=List.mem_range.mp hi
    exact⟨by lia,by lia⟩
  · intro h
    exact List.mem_map.mpr ⟨x.toNat,List.mem_range.mpr (by have:=h.1;have:=h.2;lia),Int.toNat_of_nonneg h.1⟩
theorem As{W:be}:(nL (iw W)).Pairwise fun a b=>(W.tie b).worth≤(W.tie a).worth:=by
  refine(qp (fun i=> -(tP (iw W) i)) (iw W).length).imp_of_mem fun{a b} ha hb h=>?_
  have ea:=zh (W:=W) (nM.mp ha)
  have eb:=zh (W:=W) (nM.mp hb)
  rw [ea,eb] at h
  lia
abbrev iE(W:be)(fd:List Int)(v2 v3:Option Sv):En:=[some (.d (aq W)),some (.l (fd.map .int)),v2,v3]
theorem wj{W:be}(ok:W.Ok):∃ks:List Int,gZ [.d (aq W)]=some (.d (.tuple (ks.map .int)),[.d (aq W)])∧(∀k∈ks,eg W k)∧ks.length≤16∧∀b,eg W b→∃a∈ks,j4 W a b=true:=by
  have wl:=ok.len
  have g1':=zM (W:=W)
  have cm:=fun v1 v2 v3=>sZ wl (F:=BG) (fi:=iG) (fe:=gf) (e:=[some (.d (aq W)),v1,v2,v3]) (iT ⟨_,rfl⟩) (fun t ht=>by unfold cZ;simp? [gf,dF,BG])
  change ∀v1 v2 v3,bO [] 1 iG (aj 0) cJ gf [some (.d (aq W)),v1,v2,v3]=some (.l ((iw W).map dF),[some (.d (aq W)),v1,v2,v3]) at cm
  have ll:(iw W).length=W.ties.length:=by simp [iw]
  have lg:=De (Ef ok) (by lia)
  change bx [.d (.list ((iw W).map dF))]=some (.d (.tuple ((nL (iw W)).map .int)),[.d (.list ((iw W).map dF))]) at lg
  have ol:(nL (iw W)).length=W.ties.length:=by
    have:=(je (fun i=> -(tP (iw W) i)) (iw W).length).length_eq
    rw [show nL (iw W)=kx (fun i=> -(tP (iw W) i)) (iw W).length from rfl,this]
    simp [ll]
  have opw:=As (W:=W)
  have oin:∀x∈nL (iw W),eg W x:=fun x hx=>nM.mp hx
  have oall:∀x,eg W x→x∈nL (iw W):=fun x hx=>nM.mpr hx
  generalize nL (iw W)=O at*
  obtain⟨e',h1,⟨fd,v2,v3,he,hs,hl,hc⟩⟩:=cv (own:=[]) (g:=aj 2) (f:=dz) (fun i e=>∃(fd:List Int) (v2 v3:Option Sv),e=iE W fd v2 v3∧(∀k∈fd,k∈O.take i)∧fd.length≤i∧∀b∈O.take i,∃a∈fd,j4 W a b=true) (O.map .int) 0 (iE W [] none none) (fun i y e hy ⟨fd,v2,v3,he,hs,hl,hc⟩=>by
    subst he
    rw [Nat.zero_add] at*
    rw [List.getElem?_map] at hy
    obtain⟨x,hx,rfl⟩:=Option.map_eq_some_iff.mp hy
    have il:=(List.getElem?_eq_some_iff.mp hx).1
    have hix:=oin x (List.mem_of_getElem? hx)
    have ai:=dW hix
    have hfk:∀z∈fd,eg W z:=fun z hz=>oin z (List.mem_of_mem_take (hs z hz))
    have te:=wg hfk (by lia)
    have tk:O.take (i+1)=O.take i++[x]:=by rw [List.take_succ,hx];rfl
    have i4:∀(e:En) (z:Int),e[3]?=some (some (.l ((bo W fd).map .int)))→jF true e (.d (.int z)) (.s 3)=some (.d (.bool (!(bo W fd).contains z))):=fun e z h=>uw h
    have i5:=fun e h=>i4 e (W.tie x).one h
    have i6:=fun e h=>i4 e (W.tie x).other h
    have lt:fd.length < 1000000:=by lia
    unfold cZ at ai g1'
    have up:∀k∈fd,k∈O.take (i+1):=fun k hk=>by rw [tk];exact List.mem_append_left _ (hs k hk)
    have early:∀a∈fd,(W.tie x).worth≤(W.tie a).worth:=fun a ha=>by
      have dr:x∈O.drop i:=List.mem_of_getElem? (i:=0) (by rw [List.getElem?_drop];simpa using hx)
      have pw:=opw
      rw [←List.take_append_drop i O,List.pairwise_append] at pw
      exact pw.2.2 a (hs a ha) x dr
    have cover:∀z,(z=(W.tie x).one∨z=(W.tie x).other)→z∈bo W fd→∃a∈fd,j4 W a x=true:=fun z hz hm=>by
      unfold bo at hm
      obtain⟨a,ha,hza⟩:=List.mem_flatMap.mp hm
      refine⟨a,ha,?_⟩
      unfold j4
      rw [Bool.and_eq_true]
      refine⟨?_,decide_eq_true (early a ha)⟩
      simp only [List.mem_cons,List.not_mem_nil,or_false] at hza
      unfold Bb
      simp only [Bool.or_eq_true,beq_iff_eq]
      rcases hz with rfl | rfl<;>rcases hza with q | q
      · exact .inl (.inl q)
      · exact .inr (.inl q)
      · exact .inl (.inr q)
      · exact .inr (.inr q)
    have keep:(∃a∈fd,j4 W a x=true)→∀b∈O.take (i+1),∃a∈fd,j4 W a b=true:=fun hx b hb=>by
      rw [tk] at hb
      rcases List.mem_append.mp hb with q | q
      · exact hc b q
      · simp at q;subst q;exact hx
    cases c1:(bo W fd).contains (W.tie x).one with
    | true=>
      rw [c1] at i5
      refine⟨iE W fd (some (.d (.int x))) v3,iE W fd (some (.d (.int x))) (some (.l ((bo W fd).map .int))),rfl,?_,aS,_,_,_,rfl,up,by lia,keep (cover _ (.inl rfl) (List.contains_iff_mem.mp c1))⟩
      simp only [iE]
      generalize (bo W fd).map PyData.int=EE at*
      generalize fd.map PyData.int=FF at*
      generalize (W.ties.map fun t=>PyData.tuple [.int t.one,.int t.other,.tuple [.int t.top,.int t.bot],.int t.worth])=TT at*
      simp? [dz,te,g1',ai,i5]
    | false=>
      rw [c1] at i5
      cases c2:(bo W fd).contains (W.tie x).other with
      | true=>
        rw [c2] at i6
        refine⟨iE W fd (some (.d (.int x))) v3,iE W fd (some (.d (.int x))) (some (.l ((bo W fd).map .int))),rfl,?_,aS,_,_,_,rfl,up,by lia,keep (cover _ (.inr rfl) (List.contains_iff_mem.mp c2))⟩
        simp only [iE]
        generalize (bo W fd).map PyData.int=EE at*
        generalize fd.map PyData.int=FF at*
        generalize (W.ties.map fun t=>PyData.tuple [.int t.one,.int t.other,.tuple [.int t.top,.int t.bot],.int t.worth])=TT at*
        simp? [dz,te,g1',ai,i5,i6]
      | false=>
        rw [c2] at i6
        refine⟨iE W fd (some (.d (.int x))) v3,iE W (fd++[x]) (some (.d (.int x))) (some (.l ((bo W fd).map .int))),rfl,?_,aS,_,_,_,rfl,fun k hk=>?_,by simp;lia,fun b hb=>?_⟩
        · simp only [iE,List.map_append,List.map_cons,List.map_nil]
          generalize (bo W fd).map PyData.int=EE at*
          generalize (W.ties.map fun t=>PyData.tuple [.int t.one,.int t.other,.tuple [.int t.top,.int t.bot],.int t.worth])=TT at*
          simp? [dz,te,g1',ai,i5,i6,lt]
        · rcases List.mem_append.mp hk with q | q
          · exact up k q
          · rw [tk];exact List.mem_append_right _ q
        · rw [tk] at hb
          rcases List.mem_append.mp hb with q | q
          · obtain⟨a,ha,hab⟩:=hc b q
            exact⟨a,List.mem_append_left _ ha,hab⟩
          · simp at q;subst q
            exact⟨b,by simp,by simp [j4,Bb]⟩) ⟨[],none,none,rfl,(fun k hk=>by cases hk),by simp,(fun b hb=>by simp at hb)⟩
  rw [Nat.zero_add,List.length_map,List.take_length] at hs hc
  rw [Nat.zero_add,List.length_map] at hl
  subst he
  have hp:=gF fd
  refine⟨cW fd,?_,fun k hk=>oin k (hs k (hp.mem_iff.mp hk)),by rw [hp.length_eq];lia,fun b hb=>?_⟩
  · have hi:lw (iE W [] none none)=some (O.map .int,[],iE W [] none none):=gv (by
      simp only [iE,List.map_nil]
      generalize (iw W).map dF=FF at*
      generalize aq W=WW at*
      simp? [cm,lg])
    have hf:=fun Wl=>(cN (W:=Wl) (g:=aj 2) (f:=dz) hi).trans h1
    have gs:∀e:En,e[1]?=some (some (.l (fd.map .int)))→g1 cE e [.s 1]=some (.l ((cW fd).map .int)):=fun e h=>lq h (by lia)
    simp only [iE,List.map_nil] at hf
    generalize (cW fd).map PyData.int=SS at*
    generalize fd.map PyData.int=FF at*
    simp? [gZ,oy,hf,gs]
  · obtain⟨a,ha,hab⟩:=hc b (oall b hb)
    exact⟨a,hp.mem_iff.mpr ha,hab⟩
def nq(xs:List Int)(lo hi:Option Int):List Int:=(xs.drop (HT.sIx xs.length 0 lo)).take (HT.sIx xs.length xs.length hi - HT.sIx xs.length 0 lo)
theorem oD(xs:List Int)(lo hi:Option Int):cutD (xs.map .int) lo hi=(nq xs lo hi).map .int:=by
  unfold L2.cutD nq
  rw [List.length_map,List.map_take,List.map_drop]
theorem rc{xs:List Int}{lo hi:Option Int}{x:Int}(h:x∈nq xs lo hi):x∈xs:=List.mem_of_mem_drop (List.mem_of_mem_take h)
theorem oE{xs:List Int}{lo hi:Option Int}:(nq xs lo hi).length≤xs.length:=by
  unfold nq
  rw [List.length_take,List.length_drop]
  lia
structure l9 (W:be) (ks:List Int):Prop where
  inw:∀k∈ks,eg W k
  len:ks.length≤16
def qE(a b:List Int):PyData:=.tuple [.tuple (a.map .int),.tuple (b.map .int)]
theorem sN{ns ds:List Int}{W:be}(ok:W.Ok){a b:List Int}(ha:l9 W a)(hb:l9 W b){v2 v4 v5 v6 v7:Option Sv}:BU [some (.d (.list (ns.map .int))),some (.l (ds.map .int)),v2,some (.d (aq W)),v4,v5,v6,v7,some (.d (qE a b))]=some (.nx [some (.d (.list (ns.map .int))),some (.l (ds.map .int)),v2,some (.d (aq W)),v4,v5,v6,v7,some (.d (qE a b))]):=by
  have r:=yv ok ha.inw hb.inw ha.len hb.len
  unfold qE
  generalize a.map PyData.int=AA at*
  generalize b.map PyData.int=BB at*
  generalize aq W=WW at*
  simp? [BU,r]
theorem q5{W:be}{ks os:List Int}(hk:∀b,eg W b→∃a∈ks,j4 W a b=true)(ho:∀k∈os,eg W k):kr W ks os=true:=List.all_eq_true.mpr fun b hb=>by
  obtain⟨a,ha,hab⟩:=hk b (ho b hb)
  have:a∈dG W ks b:=List.mem_filter.mpr ⟨ha,hab⟩
  cases q:dG W ks b with
  | nil=>rw [q] at this;cases this
  | cons x r=>rfl
inductive LI (ns:List Int):En→Prop
  | mk {ds v2 v3 v4 v5 v6 v7 v8} (hd:hZ ds):LI ns [some (.d (.list (ns.map .int))),some (.l (ds.map .int)),v2,v3,v4,v5,v6,v7,v8]
theorem uY{ns ds:List Int}{v2 v3 v4 v5 v6 v7 v8:Option Sv}(hd:hZ ds):∃e2,BV [some (.d (.list (ns.map .int))),some (.l (ds.map .int)),v2,v3,v4,v5,v6,v7,v8]=some (.nx e2)∧LI ns e2:=by
  obtain⟨W,d1,tw,hd1,ok, -, -⟩:=Dg ds 12 16 hd (by decide) (by decide) (by decide) (by decide)
  obtain⟨ks,d2,t2,hd2, -,ki,kl, -⟩:=l4 ok hd1
  obtain⟨os,d3,t3,hd3, -,oi,ol, -⟩:=l4 ok hd2
  obtain⟨bs,tg,bi,bl,bc⟩:=wj ok
  have pk:l9 W ks:=⟨ki,kl⟩
  have po:l9 W os:=⟨oi,ol⟩
  have pb:l9 W bs:=⟨bi,bl⟩
  have p0:l9 W []:=⟨(fun k hk=>by cases hk),by simp⟩
  have pk1:l9 W (nq ks (some 1) none):=⟨fun k hk=>ki k (rc hk),Nat.le_trans oE kl⟩
  have pb1:l9 W (nq bs none (some (-1))):=⟨fun k hk=>bi k (rc hk),Nat.le_trans oE bl⟩
  obtain⟨S1,hS1⟩:∃S1,S1=[qE ks os,qE os ks,qE ks ks,qE ks [],qE [] os,qE (nq ks (some 1) none) ks]:=⟨_,rfl⟩
  obtain⟨T,hT⟩:∃T,T=S1++[qE bs ks,qE bs os,qE (nq bs none (some (-1))) os,qE ks bs]:=⟨_,rfl⟩
  have allT:∀d∈T,∃a b,d=qE a b∧l9 W a∧l9 W b:=fun d hd=>by
    rw [hT,hS1] at hd
    simp only [List.mem_append,List.mem_cons,List.not_mem_nil,or_false] at hd
    rcases hd with (h | h | h | h | h | h) | (h | h | h | h)<;>subst h
    · exact⟨_,_,rfl,pk,po⟩
    · exact⟨_,_,rfl,po,pk⟩
    · exact⟨_,_,rfl,pk,pk⟩
    · exact⟨_,_,rfl,pk,p0⟩
    · exact⟨_,_,rfl,p0,po⟩
    · exact⟨_,_,rfl,pk1,pk⟩
    · exact⟨_,_,rfl,pb,pk⟩
    · exact⟨_,_,rfl,pb,po⟩
    · exact⟨_,_,rfl,pb1,po⟩
    · exact⟨_,_,rfl,pk,pb⟩
  obtain⟨e3,h4,⟨u8,he⟩⟩:=cv (own:=[]) (g:=aj 8) (f:=BU) (fun _ e=>∃v8,e=[some (.d (.list (ns.map .int))),some (.l (d3.map .int)),v2,some (.d (aq W)),some (.d (.tuple (ks.map .int))),some (.d (.tuple (os.map .int))),some (.l S1),some (.d (.tuple (bs.map .int))),v8]) T 0 [some (.d (.list (ns.map .int))),some (.l (d3.map .int)),v2,some (.d (aq W)),some (.d (.tuple (ks.map .int))),some (.d (.tuple (os.map .int))),some (.l S1),some (.d (.tuple (bs.map .int))),v8] (fun i x e hx ⟨v8,he⟩=>by
    subst he
    obtain⟨a,b,rfl,ha,hb⟩:=allT x (List.mem_of_getElem? hx)
    exact⟨_,_,rfl,sN ok ha hb,aS,_,rfl⟩) ⟨_,rfl⟩
  subst he
  have ca:∀(e:En) (xs ys:List PyData),e[6]?=some (some (.l xs))→xs.length+ys.length≤1000000→c9 e (.s 6) (.l ys)=some (.l (xs++ys)):=fun e xs ys h hl=>rk h hl
  have s1:=oD ks (some 1) none
  have s2:=oD bs none (some (-1))
  have c1:=gG ok bi ki (by lia) (by lia)
  have c2:=gG ok bi oi (by lia) (by lia)
  have n1:kN W bs ks=.tuple ((ks.map (ou W bs)).map .int):=by unfold kN;rw [if_pos (q5 bc ki)]
  have n2:kN W bs os=.tuple ((os.map (ou W bs)).map .int):=by unfold kN;rw [if_pos (q5 bc oi)]
  rw [n1] at c1
  rw [n2] at c2
  have gi:∀(e:En) (l:List PyData),xg e (.d (.tuple l)) (.d .none)=some (.d (.bool false)):=fun e l=>rfl
  have hi:Es [some (.d (.list (ns.map .int))),some (.l (d3.map .int)),v2,some (.d (aq W)),some (.d (.tuple (ks.map .int))),some (.d (.tuple (os.map .int))),some (.l S1),some (.d (.tuple (bs.map .int))),v8]=some (T,[],[some (.d (.list (ns.map .int))),some (.l (d3.map .int)),v2,some (.d (aq W)),some (.d (.tuple (ks.map .int))),some (.d (.tuple (os.map .int))),some (.l S1),some (.d (.tuple (bs.map .int))),v8]):=uS (by
    have ls:S1.length+4≤1000000:=by rw [hS1];simp
    have ca':=fun(e:En) (ys:List PyData) (h:e[6]?=some (some (.l S1))) (hy:ys.length=4)=>ca e S1 ys h (by lia)
    rw [hT]
    unfold qE
    rw [←s2]
    clear hS1 s1
    generalize ks.map PyData.int=KK at*
    generalize os.map PyData.int=OO at*
    generalize bs.map PyData.int=BB at*
    generalize aq W=WW at*
    simp? [ca'])
  have hf:=fun Wl=>(cN (W:=Wl) (g:=aj 8) (f:=BU) hi).trans h4
  refine⟨[some (.d (.list (ns.map .int))),some (.l (d3.map .int)),v2,some (.d (aq W)),some (.d (.tuple (ks.map .int))),some (.d (.tuple (os.map .int))),some (.l S1),some (.d (.tuple (bs.map .int))),u8],?_,.mk hd3⟩
  have e6:S1=[.tuple [.tuple (ks.map .int),.tuple (os.map .int)],.tuple [.tuple (os.map .int),.tuple (ks.map .int)],.tuple [.tuple (ks.map .int),.tuple (ks.map .int)],.tuple [.tuple (ks.map .int),.tuple []],.tuple [.tuple [],.tuple (os.map .int)],.tuple [.tuple (cutD (ks.map .int) (some 1) none),.tuple (ks.map .int)]]:=by
    rw [hS1,s1];rfl
  clear hS1 s1 s2 hT hi h4 allT ca
  unfold BV
  refine(b_ (e1:=[some (.d (.list (ns.map .int))),some (.l (d1.map .int)),v2,some (.d (aq W)),v4,v5,v6,v7,v8]) ?_).trans ?_
  · simp? [tw]
  refine(b_ (e1:=[some (.d (.list (ns.map .int))),some (.l (d2.map .int)),v2,some (.d (aq W)),some (.d (.tuple (ks.map .int))),v5,v6,v7,v8]) ?_).trans ?_
  · generalize ks.map PyData.int=KK at*
    generalize aq W=WW at*
    simp? [t2]
  refine(b_ (e1:=[some (.d (.list (ns.map .int))),some (.l (d3.map .int)),v2,some (.d (aq W)),some (.d (.tuple (ks.map .int))),some (.d (.tuple (os.map .int))),v6,v7,v8]) ?_).trans ?_
  · generalize ks.map PyData.int=KK at*
    generalize os.map PyData.int=OO at*
    generalize aq W=WW at*
    simp? [t3]
  refine(b_ (e1:=[some (.d (.list (ns.map .int))),some (.l (d3.map .int)),v2,some (.d (aq W)),some (.d (.tuple (ks.map .int))),some (.d (.tuple (os.map .int))),some (.l S1),v7,v8]) ?_).trans ?_
  · rw [e6]
    generalize ks.map PyData.int=KK at*
    generalize os.map PyData.int=OO at*
    generalize aq W=WW at*
    simp? [List.replicate]
  refine(b_ (e1:=[some (.d (.list (ns.map .int))),some (.l (d3.map .int)),v2,some (.d (aq W)),some (.d (.tuple (ks.map .int))),some (.d (.tuple (os.map .int))),some (.l S1),some (.d (.tuple (bs.map .int))),v8]) ?_).trans ?_
  · clear e6
    generalize ks.map PyData.int=KK at*
    generalize os.map PyData.int=OO at*
    generalize bs.map PyData.int=BB at*
    generalize aq W=WW at*
    simp? [tg]
  refine(b_ (hf _)).trans ?_
  clear e6 hf
  generalize (ks.map (ou W bs)).map PyData.int=R1 at*
  generalize (os.map (ou W bs)).map PyData.int=R2 at*
  generalize ks.map PyData.int=KK at*
  generalize os.map PyData.int=OO at*
  generalize bs.map PyData.int=BB at*
  generalize aq W=WW at*
  simp? [c1,c2,gi]
theorem uX(ns:List Int)(hl:ns.length≤63):∃as',lD [.d (.list (ns.map .int))]=some (.d (.bool true),as'):=by
  obtain⟨ds,td,hd⟩:=yu ns hl
  obtain⟨e2,h1,hI⟩:=cv (own:=[]) (g:=aj 2) (f:=BV) (fun _=>LI ns) (bv 0 5) 0 [some (.d (.list (ns.map .int))),some (.l (ds.map .int)),none,none,none,none,none,none,none] (fun i x e hx hI=>by
    obtain⟨hd⟩:=hI
    rename_i ds v2 v3 v4 v5 v6 v7 v8
    obtain⟨e2,k1,k2⟩:=uY (ns:=ns) (v2:=some (.d x)) (v3:=v3) (v4:=v4) (v5:=v5) (v6:=v6) (v7:=v7) (v8:=v8) hd
    exact⟨_,e2,rfl,k1,aS,k2⟩) (.mk hd)
  obtain⟨hd2⟩:=hI
  have hfor:=fun Wl=>cN (W:=Wl) (g:=aj 2) (f:=BV) (show Et [some (.d (.list (ns.map .int))),some (.l (ds.map .int)),none,none,none,none,none,none,none]=some (bv 0 5,[],[some (.d (.list (ns.map .int))),some (.l (ds.map .int)),none,none,none,none,none,none,none]) from rfl)
  rw [h1] at hfor
  simp? [lD,yL,td,hfor]
def kE(P:Params)(k:Str)(t:Tok)(v:Value):DictEntry:=⟨PyData.keyHash P k,.str k t,v⟩
def kF(n:Str)(s:Stmt)(doc pm:Value)(c:Addr):Obj:=⟨.type "function",none,.func (W.fnOf n n (c7 s) (cA s) (ap s) .none .none doc pm none (.ref c) .none),#[]⟩
def kI(n:Int):Value:=.int n 0
def kC(n:Str)(a:Nat)(l:List Value)(z:Nat):Obj:=⟨.type "code",none,.fields (Value.str n a::Value.str n (a+1)::Value.str "/claim/cut.py" (a+2)::l++[Value.str "/claim/cut.py" z]).toArray,#[]⟩
def Dr:Value:=.str "askedpairs.forms" 187
def Eu:Value:=.str "askedpairs.stands" 204
def Ds:Value:=.str "askedpairs.chargepaper" 214
def Ew:Value:=.str "askedpairs.charges" 228
def fj:Value:=.str "law_askedpairs_k59_charges_found" 236
def kK(P:Params):W.Frag:=[(3,⟨.type "dict",none,.dict (List.toArray [kE P "__name__" 165 (.str "law_askedpairs_k59_charges_found" 236),kE P "__doc__" 166 (.none),kE P "__package__" 167 (.none),kE P "__loader__" 168 (.builtin "__main__.__loader__#opaque"),kE P "__spec__" 169 (.none),kE P "__annotations__" 170 (.ref 6),kE P "__builtins__" 171 (.ref 4),kE P "__file__" 173 (.str "/claim/cut.py" 172),kE P "__cached__" 174 (.none),kE P "is_number" 195 (.ref 21),kE P "is_row_of" 203 (.ref 28),kE P "things_of" 213 (.ref 35),kE P "may_be_charged" 221 (.ref 40),kE P "charges_hold" 227 (.ref 45),kE P "charges_of" 235 (.ref 50),kE P "_law_mixed" 246 (.ref 57),kE P "_law_draws" 257 (.ref 64),kE P "_law_next" 264 (.ref 71),kE P "_law_gcd" 272 (.ref 78),kE P "_law_low" 281 (.ref 85),kE P "_law_less" 289 (.ref 92),kE P "_law_same" 297 (.ref 99),kE P "_law_chance" 306 (.ref 106),kE P "_law_worth" 314 (.ref 113),kE P "_law_ties" 333 (.ref 120),kE P "_law_web" 349 (.ref 127),kE P "_law_full" 360 (.ref 134),kE P "_law_greatest_first" 366 (.ref 139),kE P "_law_pairing" 377 (.ref 146),kE P "_law_ends" 387 (.ref 153),kE P "_law_bears" 396 (.ref 160),kE P "_law_charges" 408 (.ref 167),kE P "_law_may_be" 414 (.ref 172),kE P "_law_greedy" 420 (.ref 177),kE P "_law_right" 431 (.ref 184),kE P "law" 446 (.ref 191)]) 36,#[]⟩),
  (21,kF "is_number" ed (.none) Dr 20),
  (20,kC "is_number" 189 [kI 2,kI 1,kI 0,kI 0,kI 3,.ref 15,.bool true,kI 181,.ref 16,.none,.ref 17,.ref 18,.ref 19,kI 193,kI 2] 194),
  (28,kF "is_row_of" ee (.none) Dr 27),
  (27,kC "is_row_of" 196 [kI 4,kI 2,kI 0,kI 0,kI 3,.ref 22,.bool true,kI 181,.ref 23,.none,.ref 24,.ref 25,.ref 26,kI 201,kI 4] 202),
  (35,kF "things_of" ef (.none) Eu 34),
  (34,kC "things_of" 206 [kI 7,kI 2,kI 0,kI 0,kI 3,.ref 29,.bool true,kI 181,.ref 30,.none,.ref 31,.ref 32,.ref 33,kI 211,kI 7] 212),
  (40,kF "may_be_charged" aZ (.none) Ds 39),
  (39,kC "may_be_charged" 216 [kI 10,kI 3,kI 0,kI 0,kI 3,.ref 36,.bool true,kI 181,.ref 37,.none,.none,.none,.ref 38,kI 219,kI 10] 220),
  (45,kF "charges_hold" bK (.none) Ds 44),
  (44,kC "charges_hold" 222 [kI 14,kI 4,kI 0,kI 0,kI 3,.ref 41,.bool true,kI 181,.ref 42,.none,.none,.none,.ref 43,kI 225,kI 14] 226),
  (50,kF "charges_of" bS (.none) Ew 49),
  (49,kC "charges_of" 230 [kI 19,kI 3,kI 0,kI 0,kI 3,.ref 46,.bool true,kI 181,.ref 47,.none,.none,.none,.ref 48,kI 233,kI 19] 234),
  (57,kF "_law_mixed" jt (.none) fj 56),
  (56,kC "_law_mixed" 238 [kI 25,kI 2,kI 0,kI 0,kI 3,.ref 51,.bool true,kI 181,.ref 52,.none,.ref 53,.ref 54,.ref 55,kI 244,kI 25] 245),
  (64,kF "_law_draws" js (.none) fj 63),
  (63,kC "_law_draws" 247 [kI 28,kI 1,kI 0,kI 0,kI 3,.ref 58,.bool true,kI 181,.ref 59,.none,.ref 60,.ref 61,.ref 62,kI 255,kI 28] 256),
  (71,kF "_law_next" hU (.none) fj 70),
  (70,kC "_law_next" 258 [kI 41,kI 1,kI 0,kI 0,kI 3,.ref 65,.bool true,kI 181,.ref 66,.none,.ref 67,.ref 68,.ref 69,kI 262,kI 41] 263),
  (78,kF "_law_gcd" pE (.none) fj 77),
  (77,kC "_law_gcd" 265 [kI 45,kI 2,kI 0,kI 0,kI 3,.ref 72,.bool true,kI 181,.ref 73,.none,.ref 74,.ref 75,.ref 76,kI 270,kI 45] 271),
  (85,kF "_law_low" pF (.none) fj 84),
  (84,kC "_law_low" 273 [kI 49,kI 2,kI 0,kI 0,kI 3,.ref 79,.bool true,kI 181,.ref 80,.none,.ref 81,.ref 82,.ref 83,kI 279,kI 49] 280),
  (92,kF "_law_less" lR (.none) fj 91),
  (91,kC "_law_less" 282 [kI 52,kI 2,kI 0,kI 0,kI 3,.ref 86,.bool true,kI 181,.ref 87,.none,.ref 88,.ref 89,.ref 90,kI 287,kI 52] 288),
  (99,kF "_law_same" lS (.none) fj 98),
  (98,kC "_law_same" 290 [kI 54,kI 2,kI 0,kI 0,kI 3,.ref 93,.bool true,kI 181,.ref 94,.none,.ref 95,.ref 96,.ref 97,kI 295,kI 54] 296),
  (106,kF "_law_chance" hR (.none) fj 105),
  (105,kC "_law_chance" 298 [kI 56,kI 2,kI 0,kI 0,kI 3,.ref 100,.bool true,kI 181,.ref 101,.none,.ref 102,.ref 103,.ref 104,kI 304,kI 56] 305),
  (113,kF "_law_worth" jw (.none) fj 112),
  (112,kC "_law_worth" 307 [kI 66,kI 2,kI 0,kI 0,kI 3,.ref 107,.bool true,kI 181,.ref 108,.none,.ref 109,.ref 110,.ref 111,kI 312,kI 66] 313),
  (120,kF "_law_ties" lT (.none) fj 119),
  (119,kC "_law_ties" 315 [kI 68,kI 3,kI 0,kI 0,kI 3,.ref 114,.bool true,kI 181,.ref 115,.none,.ref 116,.ref 117,.ref 118,kI 331,kI 68] 332),
  (127,kF "_law_web" pG (.none) fj 126),
  (126,kC "_law_web" 334 [kI 83,kI 3,kI 0,kI 0,kI 3,.ref 121,.bool true,kI 181,.ref 122,.none,.ref 123,.ref 124,.ref 125,kI 347,kI 83] 348),
  (134,kF "_law_full" lQ (.none) fj 133),
  (133,kC "_law_full" 350 [kI 93,kI 3,kI 0,kI 0,kI 3,.ref 128,.bool true,kI 181,.ref 129,.none,.ref 130,.ref 131,.ref 132,kI 358,kI 93] 359),
  (139,kF "_law_greatest_first" aR (.none) fj 138),
  (138,kC "_law_greatest_first" 361 [kI 99,kI 1,kI 0,kI 0,kI 3,.ref 135,.bool true,kI 181,.ref 136,.none,.none,.none,.ref 137,kI 364,kI 99] 365),
  (146,kF "_law_pairing" fW (.none) fj 145),
  (145,kC "_law_pairing" 367 [kI 106,kI 2,kI 0,kI 0,kI 3,.ref 140,.bool true,kI 181,.ref 141,.none,.ref 142,.ref 143,.ref 144,kI 375,kI 106] 376),
  (153,kF "_law_ends" jV (.none) fj 152),
  (152,kC "_law_ends" 378 [kI 113,kI 2,kI 0,kI 0,kI 3,.ref 147,.bool true,kI 181,.ref 148,.none,.ref 149,.ref 150,.ref 151,kI 385,kI 113] 386),
  (160,kF "_law_bears" iq (.none) fj 159),
  (159,kC "_law_bears" 388 [kI 118,kI 3,kI 0,kI 0,kI 3,.ref 154,.bool true,kI 181,.ref 155,.none,.ref 156,.ref 157,.ref 158,kI 394,kI 118] 395),
  (167,kF "_law_charges" fR (.none) fj 166),
  (166,kC "_law_charges" 397 [kI 122,kI 4,kI 0,kI 0,kI 3,.ref 161,.bool true,kI 181,.ref 162,.none,.ref 163,.ref 164,.ref 165,kI 406,kI 122] 407),
  (172,kF "_law_may_be" fV (.none) fj 171),
  (171,kC "_law_may_be" 409 [kI 129,kI 3,kI 0,kI 0,kI 3,.ref 168,.bool true,kI 181,.ref 169,.none,.none,.none,.ref 170,kI 412,kI 129] 413),
  (177,kF "_law_greedy" fU (.none) fj 176),
  (176,kC "_law_greedy" 415 [kI 134,kI 1,kI 0,kI 0,kI 3,.ref 173,.bool true,kI 181,.ref 174,.none,.none,.none,.ref 175,kI 418,kI 134] 419),
  (184,kF "_law_right" jv (.none) fj 183),
  (183,kC "_law_right" 421 [kI 141,kI 3,kI 0,kI 0,kI 3,.ref 178,.bool true,kI 181,.ref 179,.none,.ref 180,.ref 181,.ref 182,kI 429,kI 141] 430),
  (191,kF "law" lU (.none) fj 190),
  (190,kC "law" 432 [kI 151,kI 1,kI 0,kI 0,kI 3,.ref 185,.bool true,kI 181,.ref 186,.none,.ref 187,.ref 188,.ref 189,kI 444,kI 151] 445)]
def kA:List Addr:=[3,21,20,28,27,35,34,40,39,45,44,50,49,57,56,64,63,71,70,78,77,85,84,92,91,99,98,106,105,113,112,120,119,127,126,134,133,139,138,146,145,153,152,160,159,167,166,172,171,177,176,184,183,191,190]
def kq:Program:={PySem.Challenge.pw_askedpairs_k59_charges_found with main:={PySem.Challenge.pw_askedpairs_k59_charges_found.main with body:=[top 1,top 2,top 4,top 6,top 7,top 9,top 11,top 12,top 13,top 14,top 15,top 16,top 17,top 18,top 19,top 20,top 21,top 22,top 23,top 24,top 25,top 26,top 27,top 28,top 29,top 30,top 31]}}
def kH:W.Hook:=W.kHook kK kA (fun _=>by kernel_rfl)
theorem left:W.LeftO PySem.Challenge.pw_askedpairs_k59_charges_found kq [] (fun s=>W.xlAt kq [] s&&W.recOk (W.RowW.records (W.OpenRow.toRowW (W.OpenLaw.row PySem.Challenge.rw_askedpairs_k59_charges_found))) s) (W.Hook.obs kH) (W.Hook.val kH) 1880:=fun w=>by kernel_rfl
theorem BA{P:List Value→Prop}(h:∀a0,P [a0]):∀us:List Value,us.length=1→P us:=fun us e=>match us,e with | [a0],_=>h a0
theorem u7{P:List Value→Prop}(h:∀a0 a1,P [a0,a1]):∀us:List Value,us.length=2→P us:=fun us e=>match us,e with | [a0,a1],_=>h a0 a1
theorem y9{P:List Value→Prop}(h:∀a0 a1 a2,P [a0,a1,a2]):∀us:List Value,us.length=3→P us:=fun us e=>match us,e with | [a0,a1,a2],_=>h a0 a1 a2
theorem Ex{P:List Value→Prop}(h:∀a0 a1 a2 a3,P [a0,a1,a2,a3]):∀us:List Value,us.length=4→P us:=fun us e=>match us,e with | [a0,a1,a2,a3],_=>h a0 a1 a2 a3
theorem hm{w:World}{h:Heap}{mg:Str→Option Value}{n:Str}{s:Stmt}{a:Addr}{ps:List Str}(c:Addr)(d p:Value)(X:(kK w.params).In h)(G:h.Ns mainGlobals mg)
    (e:(W.nsIn (kK w.params) mainGlobals n,List.lookup a (kK w.params),W.codeIn (kK w.params) (.ref c) n,W.keepIn (kK w.params) (.ref a))=(some (some (.ref a)),some (kF n s d p c),true,true))
    (b:∀(kV doc pm:Value) (an:Option Addr) (cdv ct:Value) (us:List Value),us.length=ps.length→bindArgs (W.fnOf n n (c7 s) (cA s) (ap s) .none kV doc pm an cdv ct) ⟨us,[]⟩=pure (ps.zip us)):
    bD (kK w.params) mg n s a (W.fnOf n n (c7 s) (cA s) (ap s) .none .none d p none (.ref c) .none) ps:=zN X G (congrArg (·.1) e) (congrArg (·.2.1) e) (congrArg (·.2.2.1) e) (congrArg (·.2.2.2) e) b
theorem all_mk{l:W.OpenLaw}{w:World}{h:Heap}{mg:Str→Option Value}{fa:Addr}(X:(kK w.params).In h)(G:h.Ns mainGlobals mg)(hfa:mg "law"=some (.ref fa)):
    ∃fd:FuncData,(∀(s:Shared) (v:Value),BindsTo s fd ⟨[v],[]⟩ [("_law_script",v)])∧∀base:Heap,(kK w.params).In base→base.Ns mainGlobals mg→aJ l.prog w (kK w.params) mg base cy 6 fa fd ["_law_script"] (cD (kK w.params) 1 lD):=by
  have e:=hfa.symm.trans (W.mg_of X G (show W.nsIn (kK w.params) mainGlobals "law"=some (some (.ref 191)) by kernel_rfl))
  cases e
  have T:jE mg:=⟨W.mg_none_of X G (show W.nsIn (kK w.params) mainGlobals "abs"=some none by kernel_rfl),W.mg_none_of X G (show W.nsIn (kK w.params) mainGlobals "len"=some none by kernel_rfl),W.mg_none_of X G (show W.nsIn (kK w.params) mainGlobals "min"=some none by kernel_rfl),W.mg_none_of X G (show W.nsIn (kK w.params) mainGlobals "max"=some none by kernel_rfl),W.mg_none_of X G (show W.nsIn (kK w.params) mainGlobals "range"=some none by kernel_rfl),W.mg_none_of X G (show W.nsIn (kK w.params) mainGlobals "repr"=some none by kernel_rfl),W.mg_none_of X G (show W.nsIn (kK w.params) mainGlobals "tuple"=some none by kernel_rfl),W.mg_none_of X G (show W.nsIn (kK w.params) mainGlobals "int"=some none by kernel_rfl),W.mg_none_of X G (show W.nsIn (kK w.params) mainGlobals "sorted"=some none by kernel_rfl),W.mg_none_of X G (show W.nsIn (kK w.params) mainGlobals "zip"=some none by kernel_rfl),W.mg_none_of X G (show W.nsIn (kK w.params) mainGlobals "enumerate"=some none by kernel_rfl),W.mg_none_of X G (show W.nsIn (kK w.params) mainGlobals "isinstance"=some none by kernel_rfl),W.mg_none_of X G (show W.nsIn (kK w.params) mainGlobals "bool"=some none by kernel_rfl),W.mg_none_of X G (show W.nsIn (kK w.params) mainGlobals "any"=some none by kernel_rfl),W.mg_none_of X G (show W.nsIn (kK w.params) mainGlobals "all"=some none by kernel_rfl),W.mg_none_of X G (show W.nsIn (kK w.params) mainGlobals "list"=some none by kernel_rfl)⟩
  have h_is_number:bD (kK w.params) mg "is_number" ed 21 _ ["thing"]:=hm 20 (.none) Dr X G (by kernel_rfl) fun _ _ _ _ _ _=>BA fun _=>rfl
  have h_is_row_of:bD (kK w.params) mg "is_row_of" ee 28 _ ["thing","many"]:=hm 27 (.none) Dr X G (by kernel_rfl) fun _ _ _ _ _ _=>u7 fun _ _=>rfl
  have h_things_of:bD (kK w.params) mg "things_of" ef 35 _ ["web","tie"]:=hm 34 (.none) Eu X G (by kernel_rfl) fun _ _ _ _ _ _=>u7 fun _ _=>rfl
  have h_may_be_charged:bD (kK w.params) mg "may_be_charged" aZ 40 _ ["web","tie","other"]:=hm 39 (.none) Ds X G (by kernel_rfl) fun _ _ _ _ _ _=>y9 fun _ _ _=>rfl
  have h_charges_hold:bD (kK w.params) mg "charges_hold" bK 45 _ ["web","kept","other","thing"]:=hm 44 (.none) Ds X G (by kernel_rfl) fun _ _ _ _ _ _=>Ex fun _ _ _ _=>rfl
  have h_charges_of:bD (kK w.params) mg "charges_of" bS 50 _ ["web","kept","other"]:=hm 49 (.none) Ew X G (by kernel_rfl) fun _ _ _ _ _ _=>y9 fun _ _ _=>rfl
  have hLmixed:bD (kK w.params) mg "_law_mixed" jt 57 _ ["_law_cell","_law_k"]:=hm 56 (.none) fj X G (by kernel_rfl) fun _ _ _ _ _ _=>u7 fun _ _=>rfl
  have hLdraws:bD (kK w.params) mg "_law_draws" js 64 _ ["_law_script"]:=hm 63 (.none) fj X G (by kernel_rfl) fun _ _ _ _ _ _=>BA fun _=>rfl
  have hLnext:bD (kK w.params) mg "_law_next" hU 71 _ ["_law_drawn"]:=hm 70 (.none) fj X G (by kernel_rfl) fun _ _ _ _ _ _=>BA fun _=>rfl
  have hLgcd:bD (kK w.params) mg "_law_gcd" pE 78 _ ["_law_one","_law_other"]:=hm 77 (.none) fj X G (by kernel_rfl) fun _ _ _ _ _ _=>u7 fun _ _=>rfl
  have hLlow:bD (kK w.params) mg "_law_low" pF 85 _ ["_law_top","_law_bottom"]:=hm 84 (.none) fj X G (by kernel_rfl) fun _ _ _ _ _ _=>u7 fun _ _=>rfl
  have hLless:bD (kK w.params) mg "_law_less" lR 92 _ ["_law_one","_law_other"]:=hm 91 (.none) fj X G (by kernel_rfl) fun _ _ _ _ _ _=>u7 fun _ _=>rfl
  have hLsame:bD (kK w.params) mg "_law_same" lS 99 _ ["_law_found","_law_due"]:=hm 98 (.none) fj X G (by kernel_rfl) fun _ _ _ _ _ _=>u7 fun _ _=>rfl
  have hLchance:bD (kK w.params) mg "_law_chance" hR 106 _ ["_law_number","_law_kind"]:=hm 105 (.none) fj X G (by kernel_rfl) fun _ _ _ _ _ _=>u7 fun _ _=>rfl
  have hLworth:bD (kK w.params) mg "_law_worth" jw 113 _ ["_law_number","_law_kind"]:=hm 112 (.none) fj X G (by kernel_rfl) fun _ _ _ _ _ _=>u7 fun _ _=>rfl
  have hLties:bD (kK w.params) mg "_law_ties" lT 120 _ ["_law_drawn","_law_things","_law_many"]:=hm 119 (.none) fj X G (by kernel_rfl) fun _ _ _ _ _ _=>y9 fun _ _ _=>rfl
  have hLweb:bD (kK w.params) mg "_law_web" pG 127 _ ["_law_drawn","_law_most","_law_ties_here"]:=hm 126 (.none) fj X G (by kernel_rfl) fun _ _ _ _ _ _=>y9 fun _ _ _=>rfl
  have hLfull:bD (kK w.params) mg "_law_full" lQ 134 _ ["_law_drawn","_law_web_here","_law_most"]:=hm 133 (.none) fj X G (by kernel_rfl) fun _ _ _ _ _ _=>y9 fun _ _ _=>rfl
  have hLgreatest_first:bD (kK w.params) mg "_law_greatest_first" aR 139 _ ["_law_measures"]:=hm 138 (.none) fj X G (by kernel_rfl) fun _ _ _ _ _ _=>BA fun _=>rfl
  have hLpairing:bD (kK w.params) mg "_law_pairing" fW 146 _ ["_law_drawn","_law_web_here"]:=hm 145 (.none) fj X G (by kernel_rfl) fun _ _ _ _ _ _=>u7 fun _ _=>rfl
  have hLends:bD (kK w.params) mg "_law_ends" jV 153 _ ["_law_web_here","_law_ties_here"]:=hm 152 (.none) fj X G (by kernel_rfl) fun _ _ _ _ _ _=>u7 fun _ _=>rfl
  have hLbears:bD (kK w.params) mg "_law_bears" iq 160 _ ["_law_web_here","_law_own","_law_other"]:=hm 159 (.none) fj X G (by kernel_rfl) fun _ _ _ _ _ _=>y9 fun _ _ _=>rfl
  have hLcharges:bD (kK w.params) mg "_law_charges" fR 167 _ ["_law_web_here","_law_kept","_law_other","_law_thing"]:=hm 166 (.none) fj X G (by kernel_rfl) fun _ _ _ _ _ _=>Ex fun _ _ _ _=>rfl
  have hLmay_be:bD (kK w.params) mg "_law_may_be" fV 172 _ ["_law_web_here","_law_kept","_law_other"]:=hm 171 (.none) fj X G (by kernel_rfl) fun _ _ _ _ _ _=>y9 fun _ _ _=>rfl
  have hLgreedy:bD (kK w.params) mg "_law_greedy" fU 177 _ ["_law_web_here"]:=hm 176 (.none) fj X G (by kernel_rfl) fun _ _ _ _ _ _=>BA fun _=>rfl
  have hLright:bD (kK w.params) mg "_law_right" jv 184 _ ["_law_web_here","_law_kept","_law_other"]:=hm 183 (.none) fj X G (by kernel_rfl) fun _ _ _ _ _ _=>y9 fun _ _ _=>rfl
  have h_law:bD (kK w.params) mg "law" lU 191 _ ["_law_script"]:=hm 190 (.none) fj X G (by kernel_rfl) fun _ _ _ _ _ _=>BA fun _=>rfl
  refine⟨W.fnOf "law" "law" (c7 lU) (cA lU) (ap lU) .none .none (.none) fj none (.ref 190) .none,fun s v=>.of_eq rfl,fun base _ _=>?_⟩
  have G_is_number:=nI (P:=l.prog) (w:=w) (base:=base) h_is_number T
  have G_is_row_of:=nJ (P:=l.prog) (w:=w) (base:=base) h_is_row_of T
  have G_things_of:=nK (P:=l.prog) (w:=w) (base:=base) h_things_of T
  have G_may_be_charged:=jm (P:=l.prog) (w:=w) (base:=base) h_may_be_charged T h_things_of G_things_of
  have G_charges_hold:=kz (P:=l.prog) (w:=w) (base:=base) h_charges_hold T h_is_row_of G_is_row_of h_is_number G_is_number h_may_be_charged G_may_be_charged
  have G_charges_of:=me (P:=l.prog) (w:=w) (base:=base) h_charges_of T h_may_be_charged G_may_be_charged
  have GLmixed:=vk (P:=l.prog) (w:=w) (base:=base) hLmixed T
  have GLdraws:=vj (P:=l.prog) (w:=w) (base:=base) hLdraws T hLmixed GLmixed
  have GLnext:=xC (P:=l.prog) (w:=w) (base:=base) hLnext T
  have GLgcd:=z_ (P:=l.prog) (w:=w) (base:=base) hLgcd T
  have GLlow:=Aa (P:=l.prog) (w:=w) (base:=base) hLlow T hLgcd GLgcd
  have GLless:=xB (P:=l.prog) (w:=w) (base:=base) hLless T
  have GLsame:=xD (P:=l.prog) (w:=w) (base:=base) hLsame T
  have GLchance:=sI (P:=l.prog) (w:=w) (base:=base) hLchance T hLlow GLlow
  have GLworth:=vn (P:=l.prog) (w:=w) (base:=base) hLworth T
  have GLties:=xE (P:=l.prog) (w:=w) (base:=base) hLties T hLnext GLnext hLchance GLchance hLworth GLworth
  have GLweb:=Ab (P:=l.prog) (w:=w) (base:=base) hLweb T hLties GLties hLnext GLnext
  have GLfull:=xA (P:=l.prog) (w:=w) (base:=base) hLfull T hLnext GLnext
  have GLgreatest_first:=jl (P:=l.prog) (w:=w) (base:=base) hLgreatest_first T hLless GLless
  have GLends:=xx (P:=l.prog) (w:=w) (base:=base) hLends T
  have GLpairing:=qC (P:=l.prog) (w:=w) (base:=base) hLpairing T hLfull GLfull hLends GLends hLnext GLnext
  have GLbears:=vi (P:=l.prog) (w:=w) (base:=base) hLbears T
  have GLcharges:=qB (P:=l.prog) (w:=w) (base:=base) hLcharges T hLbears GLbears
  have GLmay_be:=sL (P:=l.prog) (w:=w) (base:=base) hLmay_be T hLbears GLbears
  have GLgreedy:=sJ (P:=l.prog) (w:=w) (base:=base) hLgreedy T hLgreatest_first GLgreatest_first hLends GLends
  have GLright:=vm (P:=l.prog) (w:=w) (base:=base) hLright T h_charges_of G_charges_of hLmay_be GLmay_be hLcharges GLcharges h_charges_hold G_charges_hold hLsame GLsame
  have G_law:=Ac (P:=l.prog) (w:=w) (base:=base) h_law T hLdraws GLdraws hLweb GLweb hLpairing GLpairing hLgreedy GLgreedy hLright GLright h_charges_of G_charges_of
  exact G_law
def C1(K:W.Frag):Sp:=fun vs H Q _=>∃(a:Addr) (ns:List Int),vs=[.ref a]∧dP K H a (ns.map V.int)∧ns.length≤63∧∀H',Q (.bl true) H'
theorem zW{K:W.Frag}{vs:List V}{H:Hp}{Q:VK}{E:XK}(h:C1 K vs H Q E):cD K 1 lD vs H Q E:=by
  obtain⟨a,ns,rfl,hS,hl,q⟩:=h
  obtain⟨as',hm⟩:=uX ns hl
  exact qM hS hm q
theorem walk{l:W.OpenLaw}{q:Program}{loose:List Str}{XP:(Str→Option Value)→Heap→Prop}{YP:World→Heap→Prop}{d:DefRec}{K:Params→W.Frag}(hn:l.most=some 63)(hdf:d.params.defaults=[])
    (hY:∀(w:World) (h:Heap),YP w h→(K w.params).In h)
    (F:∀(w:World) (mg:Str→Option Value) (fa:Addr) (h:Heap),(K w.params).In h→h.Ns mainGlobals mg→mg d.name=some (.ref fa)→
      ∃fd:FuncData,(∀(s:Shared) (u:Value),BindsTo s fd ⟨[u],[]⟩ [("_law_script",u)])∧∀base:Heap,(K w.params).In base→base.Ns mainGlobals mg→aJ l.prog w (K w.params) mg base cy 6 fa fd ["_law_script"] (cD (K w.params) 1 lD)):
    W.WalkO q loose XP YP l.row.toRowW d [] (fun f vs=>PySem.call f vs):=
  L2.walk_of (n:=63) (k:=6) (x:="_law_script") (CX:=fun _=>cy) (sp:=fun w=>cD (K w.params) 1 lD) hn (by decide) hdf ⟨rfl,by decide,by decide,rfl⟩ hY F (fun _ _ a ns hl _ hS=>zW ⟨a,ns,rfl,hS,hl,fun _=>rfl⟩) fun _ _ _ _ _ z=>z
end V59
open PySem PySem.W PyProof.Rows
set_option maxRecDepth 100000 in
set_option maxHeartbeats 0 in
theorem PySem.Challenge.cw_askedpairs_k59_charges_found_holds : PySem.Challenge.rw_askedpairs_k59_charges_found.Holds := by
  w_on;o_law
  refine holds_open (q:=V59.kq) (loose:=[]) (Xt:=fun s=>xlAt V59.kq [] s&&recOk (RowW.records (OpenRow.toRowW (OpenLaw.row PySem.Challenge.rw_askedpairs_k59_charges_found))) s) (XP:=XL V59.kq []) (Yf:=Hook.obs V59.kH) (Ya:=Hook.val V59.kH) (YP:=Hook.says V59.kH) (N:=1880) V59.left (Hook.of V59.kH) (Hook.keeps V59.kH) (fun s e=>xl_of s (Bool.and_eq_true_iff.mp e).1) XL.keeps (by rfl) (by rfl) (by rfl) (fun s e=>recFacts_of (Bool.and_eq_true_iff.mp e).2) (by rfl) (by assumption) (by decide+kernel) ⟨rfl,rfl,rfl,rfl,rfl,by decide+kernel⟩ ?hw ?hc
  case hw=>w_witness2
  case hc=>exact V59.walk (l:=PySem.Challenge.rw_askedpairs_k59_charges_found) rfl rfl (fun w h Y=>kIn_of Y) (fun w mg fa h KX G hmg=>V59.all_mk KX G hmg)
