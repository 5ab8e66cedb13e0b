import PyProof.Rows.All
import Wide.All
import OpenK.AllK
import Wide.FinOn
import Lean
import PyProof.EqAt
import PyProof.EqKinds
import PyProof.TupleCall
import PyProof.ReprRoads
import PyProof.IsInstance
import PyProof.IsInstanceH
import PyProof.FitsBits
import PyProof.CompFree
import PyProof.Rows.SumAny
import PyProof.Rows.SortShell
import PyProof.Rows.TupAdd
import PyProof.NeKinds
import PyProof.ConsumeWalk
import PyProof.ZipIter
import PyProof.TupleIter
import PyProof.LayNew
import PyProof.Draws
import PyProof.EnumFor
import PyProof.EnumMake
import PyProof.ListRange
import PyProof.CollectIter
import KE.KRevIter
import PyProof.ListMulRoad
import PyProof.TupleOps
import PyProof.TupleOfStr
import PyProof.WalksMore
import PyProof.FactsAll.range_iterator
import PyProof.IsRules
import PyProof.CompUse
import PyProof.P3In
import PyProof.EqLayable
import KE.KIsAll
import PyProof.Rows.FactsN_isinstance
import PyProof.CallStr
import PyProof.Rows.StrWeight2
import PyProof.Rows.FStr
import PyProof.StrLawsRepr
import PyProof.Rows.SetFrom
import KE.KIntText
import KE.KRevSl
import PyProof.Rows.SeqMore2
import PySem.Challenge.RW_askedpairs_k14_trees_in_other_webs
set_option Elab.async false
set_option linter.all false
set_option maxRecDepth 100000
namespace L2
open PySem PySem.Spec PyProof.Rows
abbrev qe:=Sum Int Str
def CY:qe→Value→Bool
  | .inl k,v=>Value.isInt k v
  | .inr x,v=>Value.isStrOf x v
def Ho(w:World):qe→Int
  | .inl k=>hashInt k
  | .inr x=>hashStr w x
theorem b_:∀{k:qe} {v:Value},CY k v=true→(∃i t,k=Sum.inl i∧v=Value.int i t)∨(∃x t,k=Sum.inr x∧v=Value.str x t)
  | .inl i,v,h=>by
    obtain⟨t,e⟩:=Value.isInt_shape (k:=i) (v:=v) h
    exact .inl ⟨i,t,rfl,e⟩
  | .inr x,v,h=>by
    obtain⟨t,e⟩:=Value.isStrOf_shape (x:=x) (v:=v) h
    exact .inr ⟨x,t,rfl,e⟩
theorem DF(a b:Int):decide ((Sum.inl a:qe)=Sum.inl b)=(a==b):=by
  by_cases e:a=b
  · subst e;simp
  · have h:¬(Sum.inl a:qe)=Sum.inl b:=fun q=>e (Sum.inl.inj q)
    rw [decide_eq_false h]
    exact(beq_eq_false_iff_ne.mpr e).symm
theorem DK(a b:Str):decide ((Sum.inr a:qe)=Sum.inr b)=decide (a=b):=by
  by_cases e:a=b
  · subst e;simp
  · have h:¬(Sum.inr a:qe)=Sum.inr b:=fun q=>e (Sum.inr.inj q)
    rw [decide_eq_false h,decide_eq_false e]
theorem DG(a:Int)(b:Str):decide ((Sum.inl a:qe)=Sum.inr b)=false:=decide_eq_false (fun q=>nomatch q)
theorem DH(a:Str)(b:Int):decide ((Sum.inr a:qe)=Sum.inl b)=false:=decide_eq_false (fun q=>nomatch q)
def wo(prog:Program)(w:World):PySem.KeyKind prog w qe where
  is:=CY
  hash:=Ho w
  inj:=fun v a b ha hb=>by
    rcases b_ ha with ⟨i,t,rfl,rfl⟩ | ⟨x,t,rfl,rfl⟩
    · rcases b_ hb with ⟨j,u,rfl,e⟩ | ⟨y,u,rfl,e⟩
      · injection e with e1 _;rw [e1]
      · exact nomatch e
    · rcases b_ hb with ⟨j,u,rfl,e⟩ | ⟨y,u,rfl,e⟩
      · exact nomatch e
      · injection e with e1 _;rw [e1]
  byValue:=fun k v h=>by
    rcases b_ h with ⟨i,t,rfl,rfl⟩ | ⟨x,t,rfl,rfl⟩<;>rfl
  pyHash:=fun hv h=>by
    rcases b_ hv with ⟨i,t,rfl,rfl⟩ | ⟨x,t,rfl,rfl⟩
    · exact wpAny_pyHash_int h
    · exact wpAny_pyHash_str h
  eqBool:=fun hu hv h=>by
    rcases b_ hu with ⟨i,t,rfl,rfl⟩ | ⟨x,t,rfl,rfl⟩
    · rcases b_ hv with ⟨j,u,rfl,rfl⟩ | ⟨y,u,rfl,rfl⟩
      · rw [DF] at h;exact wpAny_eqBool_int h
      · rw [DG] at h;exact SeqAt.EqAt.int_str i t y u _ _ _ _ h
    · rcases b_ hv with ⟨j,u,rfl,rfl⟩ | ⟨y,u,rfl,rfl⟩
      · rw [DH] at h;exact SeqAt.EqAt.str_int x t j u _ _ _ _ h
      · rw [DK] at h;exact wpAny_eqBool_str h
  «strs»:=fun k x t v h=>by
    rcases b_ h with ⟨i,u,rfl,e⟩ | ⟨y,u,rfl,e⟩
    · exact nomatch e
    · injection e with e1 _
      subst e1
      cases v<;>rfl
end L2
namespace L2
open PySem PySem.Spec PyProof.Rows
inductive V where
  | non | bl (b:Bool) | int (i:Int) | str (x:Str) | byt (b:Array UInt8) | flt (b:UInt64) | ref (a:Addr) | ty (n:String)
  deriving DecidableEq
def bE:V→Value→Prop
  | .non,u=>u=Value.none
  | .bl b,u=>u=Value.bool b
  | .int i,u=>∃t,u=Value.int i t
  | .str x,u=>∃t,u=Value.str x t
  | .byt b,u=>∃t,u=Value.bytes b t
  | .flt b,u=>∃t,u=Value.float b t
  | .ref a,u=>u=Value.ref a
  | .ty n,u=>u=Value.type n
abbrev aW:List V→List Value→Prop:=Paired bE
theorem aW.length{xs:List V}{us:List Value}(r:aW xs us):xs.length=us.length:=Paired.length r
theorem aW.get:∀{xs:List V} {us:List Value} {i:Nat} {x:V},aW xs us→xs[i]?=some x→∃u,us[i]?=some u∧bE x u
  | _,_,_,_,.nil,e=>by simp at e
  | _,_,0,_,.cons r _,e=>by simp at e;subst e;exact⟨_,rfl,r⟩
  | _,_,i+1,x,.cons _ t,e=>by
    obtain⟨u,h1,h2⟩:=aW.get (i:=i) (x:=x) t (by simpa using e)
    exact⟨u,by simpa using h1,h2⟩
theorem aW.set{x:V}{u:Value}(r:bE x u):∀{xs:List V} {us:List Value} (i:Nat),aW xs us→aW (xs.set i x) (us.set i u)
  | _,_,_,.nil=>.nil
  | _,_,0,.cons _ t=>.cons r t
  | _,_,i+1,.cons q t=>.cons q (aW.set r i t)
theorem aW.append:∀{xs ys:List V} {us ws:List Value},aW xs us→aW ys ws→aW (xs++ys) (us++ws)
  | _,_,_,_,.nil,s=>s
  | _,_,_,_,.cons r t,s=>.cons r (aW.append t s)
theorem aW.take:∀{xs:List V} {us:List Value} (n:Nat),aW xs us→aW (xs.take n) (us.take n)
  | _,_,0,_=>.nil
  | _,_,_+1,.nil=>.nil
  | _,_,n+1,.cons r t=>.cons r (aW.take n t)
theorem aW.drop:∀{xs:List V} {us:List Value} (n:Nat),aW xs us→aW (xs.drop n) (us.drop n)
  | _,_,0,r=>r
  | _,_,_+1,.nil=>.nil
  | _,_,n+1,.cons _ t=>aW.drop n t
def Fm:Option V→Option Value→Prop
  | some v,some u=>bE v u
  | none,none=>True
  | _,_=>False
def KV{κ:Type}:List (κ × V)→List (κ × Value)→Prop:=Paired fun(p:κ × V) (q:κ × Value)=>p.1=q.1∧bE p.2 q.2
def kV:qe→V
  | .inl i=>.int i
  | .inr x=>.str x
inductive HO where
  /-- a list -/
  | lst (xs:List V)
  /-- a tuple (never changes) -/
  | tup (xs:List V)
  /-- a dict whose keys are ints and texts; one whose keys are tuples of ints and texts (the empty one is both) -/
  | dK (kvs:List (qe × V)) | dT (kvs:List (List qe × V))
  /-- a set of ints: its members, its size -/
  | set (S:Int→Bool) (n:Nat)
  /-- an instance of the class at C, its dict at dx, its attributes -/
  | ins (C dx:Addr) (fs:List (Str × V))
  /-- the dict of the instance at x -/
  | own (x:Addr)
  /-- the dict of an exception -/
  | xd (fs:List (Str × V))
  /-- a bound method, f of x -/
  | met (f x:Addr)
  /-- a range object lo, lo + 1, .. below hi -/
  | rng (lo hi:Int)
  /-- a thing that is known to the object (the script; a dict while a loop walks it): read, never written while it is so -/
  | frz (o:Obj) (u:HO)
  /-- a code object's table -/
  | tbl (ps:Array Value)
  /-- any other thing, by what is true of its one object (a def of one's own: SetO a S n := HO.ext fun h => ..) -/
  | ext (φ:Heap→Prop)
abbrev Hp:=Addr→Option HO
def bc(H:Hp)(a:Addr)(o:HO):Hp:=fun b=>if b=a then some o else H b
theorem ay{H:Hp}{a:Addr}{o:HO}:bc H a o a=some o:=by unfold bc;rw [if_pos rfl]
theorem aF{H:Hp}{a b:Addr}{o:HO}(h:b≠a):bc H a o b=H b:=by unfold bc;rw [if_neg h]
theorem fg{H:Hp}{a b:Addr}{o:HO}(h:H a=some o)(h':H b=none):a≠b:=by
  intro e;subst e;rw [h] at h';cases h'
def lM(h:Heap)(a:Addr)(items:Array Value):Prop:=∃o,h.get? a=some o∧o.cls=.type "tuple"∧∃n,o.data=.seq items n∧o.dict=none
theorem lM.tup{h:Heap}{a:Addr}{items:Array Value}(x:lM h a items):IsTup h a items:=let ⟨o,ho,hc,n,hd,_⟩:=x;⟨o,ho,hc,n,hd⟩
theorem lM.new(h:Heap)(items:Array Value):lM (h.push {cls:=.type "tuple",data:=.seq items}) h.objs.size items:=⟨_,Heap.get?_push_size _ rfl,rfl,_,rfl,rfl⟩
section
variable(P:Program)(w:World)
def h_(H:Hp)(h:Heap)(a:Addr):HO→Prop
  | .lst xs=>xs.length≤sizeLine∧∃(its:List Value) (n:Nat),aW xs its∧h.get? a=some {cls:=.type "list",data:=.seq its.toArray n}
  | .tup xs=>xs.length≤sizeLine∧∃its:List Value,aW xs its∧lM h a its.toArray
  | .dK kvs=>kvs.length≤sizeLine∧(a==sysModules)=false∧∃vs,KV kvs vs∧h.DictOf (wo P w) a vs
  | .dT kvs=>kvs.length≤sizeLine∧(a==sysModules)=false∧∃xs:List (List qe × Addr × Value),
      Paired (fun(p:List qe × V) (q:List qe × Addr × Value)=>p.1=q.1∧H q.2.1=some (.tup (p.1.map kV))∧bE p.2 q.2.2) kvs xs∧
      ∃o es ep,h.get? a=some o∧o.ExactDict∧o.data=.dict es ep∧es.toList=xs.map (entryOfKey (tupleKind (wo P w)))∧(xs.map (·.1)).Nodup
  | .set S n=>h.SetOf (intKind P w) a S n
  | .ins C dx fs=>H dx=some (.own a)∧fs.length≤1000∧dx≠a∧h.get? a=some (PySem.W.instObj C dx)∧
      ∃mA,h.Ns1 dx mA∧(∀f,Fm (fs.lookup f) (mA f))∧PySem.Within mA (fs.map (·.1))
  | .own _=>∃o,h.get? a=some o
  | .xd fs=>∃mA,h.Ns1 a mA∧∀f,Fm (fs.lookup f) (mA f)
  | .rng lo hi=>∃t u v,h.get? a=some {cls:=.type "range",data:=.fields #[.int lo t,.int hi u,.int 1 v]}
  | .frz o u=>h.get? a=some o∧h_ H h a u
  | .tbl ps=>h.get? a=some {cls:=.none,data:=.fields ps}
  | .met f x=>h.get? a=some (PySem.W.methodObj (.ref f) (.ref x))
  | .ext φ=>φ h∧(∃o,h.get? a=some o)∧∀h1 h2:Heap,φ h1→(∀o,h1.get? a=some o→h2.get? a=some o)→φ h2
def oZ(H:Hp)(h:Heap):Prop:=∀a o,H a=some o→h_ P w H h a o
end
section
variable{P:Program}{w:World}{H H':Hp}{h h':Heap}{a:Addr}{o:HO}
theorem h_.lt(x:h_ P w H h a o):a < h.objs.size:=by
  cases o with
  | lst xs=>obtain⟨_,_,_,_,e⟩:=x;exact Heap.lt_size e
  | tup xs=>obtain⟨_,_,_,p⟩:=x;exact p.tup.lt
  | dK kvs=>obtain⟨_,_,_,_,o,_,_,e,_⟩:=x;exact Heap.lt_size e
  | dT kvs=>obtain⟨_,_,_,_,o,_,_,e,_⟩:=x;exact Heap.lt_size e
  | set S n=>obtain⟨o,_,_,_,e,_⟩:=x;exact Heap.lt_size e
  | ins C dx fs=>obtain⟨_,_,_,e,_⟩:=x;exact Heap.lt_size e
  | own y=>obtain⟨_,e⟩:=x;exact Heap.lt_size e
  | xd fs=>obtain⟨_,⟨_,_,_,e,_⟩,_⟩:=x;exact Heap.lt_size e
  | rng lo hi=>obtain⟨_,_,_,e⟩:=x;exact Heap.lt_size e
  | frz ob u=>obtain⟨e,_⟩:=x;exact Heap.lt_size e
  | tbl ps=>exact Heap.lt_size (show h.get? a=some _ from x)
  | met f y=>exact Heap.lt_size (show h.get? a=some _ from x)
  | ext φ=>obtain⟨_,⟨_,e⟩,_⟩:=x;exact Heap.lt_size e
theorem Paired.mapP{α β:Type}{F G:α→β→Prop}:∀{l₁:List α} {l₂:List β},Paired F l₁ l₂→(∀a b,F a b→G a b)→Paired G l₁ l₂
  | _,_,.nil,_=>.nil
  | _,_,.cons r t,f=>.cons (f _ _ r) (Paired.mapP t f)
theorem h_.stay(x:h_ P w H h a o)(k:∀b u,(b=a∨H b=some (.own a))→h.get? b=some u→h'.get? b=some u)
    (ho:∀b,H b=some (.own a)→H' b=some (.own a))(ht:∀b xs,H b=some (.tup xs)→H' b=some (.tup xs)):h_ P w H' h' a o:=by
  induction o with
  | lst xs=>obtain⟨z,its,n,r,e⟩:=x;exact⟨z,its,n,r,k _ _ (.inl rfl) e⟩
  | tup xs=>obtain⟨z,its,r,ob,e,c⟩:=x;exact⟨z,its,r,ob,k _ _ (.inl rfl) e,c⟩
  | dK kvs=>obtain⟨z,y,vs,r,ob,es,ep,e,c⟩:=x;exact⟨z,y,vs,r,ob,es,ep,k _ _ (.inl rfl) e,c⟩
  | dT kvs=>
    obtain⟨z,y,xs,r,ob,es,ep,e,c⟩:=x
    exact⟨z,y,xs,Paired.mapP r fun p q z=>⟨z.1,ht _ _ z.2.1,z.2.2⟩,ob,es,ep,k _ _ (.inl rfl) e,c⟩
  | set S n=>obtain⟨ob,es,ep,t,e,c⟩:=x;exact⟨ob,es,ep,t,k _ _ (.inl rfl) e,c⟩
  | ins C dx fs=>
    obtain⟨d,z,ne,e,mA,⟨od,es,ep,e2,c⟩,r⟩:=x
    exact⟨ho _ d,z,ne,k _ _ (.inl rfl) e,mA,⟨od,es,ep,k _ _ (.inr d) e2,c⟩,r⟩
  | own y=>obtain⟨ob,e⟩:=x;exact⟨ob,k _ _ (.inl rfl) e⟩
  | xd fs=>obtain⟨mA,⟨od,es,ep,e,c⟩,r⟩:=x;exact⟨mA,⟨od,es,ep,k _ _ (.inl rfl) e,c⟩,r⟩
  | rng lo hi=>obtain⟨t,u,v,e⟩:=x;exact⟨t,u,v,k _ _ (.inl rfl) e⟩
  | frz ob u ih=>obtain⟨e,q⟩:=x;exact⟨k _ _ (.inl rfl) e,ih q⟩
  | tbl ps=>
    have e:h.get? a=some {cls:=.none,data:=.fields ps}:=x
    show h'.get? a=some {cls:=.none,data:=.fields ps}
    exact k a _ (.inl rfl) e
  | met f y=>
    have e:h.get? a=some (PySem.W.methodObj (.ref f) (.ref y)):=x
    show h'.get? a=some (PySem.W.methodObj (.ref f) (.ref y))
    exact k a _ (.inl rfl) e
  | ext φ=>obtain⟨p,⟨o,e⟩,st⟩:=x;exact⟨st _ _ p fun o q=>k _ _ (.inl rfl) q,⟨o,k _ _ (.inl rfl) e⟩,st⟩
theorem oZ.lt(x:oZ P w H h)(e:H a=some o):a < h.objs.size:=(x a o e).lt
theorem oZ.fresh(x:oZ P w H h)(e:h.objs.size≤a):H a=none:=by
  cases q:H a with
  | none=>rfl
  | some u=>exact absurd (Nat.lt_of_lt_of_le (x.lt q) e) (Nat.lt_irrefl _)
theorem oZ.kept(x:oZ P w H h)(k:∀b u,h.get? b=some u→h'.get? b=some u):oZ P w H h':=fun a o e=>
  (x a o e).stay (fun b u _ q=>k b u q) (fun _ q=>q) fun _ _ q=>q
theorem oZ.laid(x:oZ P w H h)(k:∀b u,h.get? b=some u→h'.get? b=some u)(hp:h.objs.size≤a)(new:h_ P w (bc H a o) h' a o):oZ P w (bc H a o) h':=fun b u e=>by
  have hn:=x.fresh hp
  by_cases hb:b=a
  · subst hb;rw [ay] at e;cases e;exact new
  · rw [aF hb] at e
    exact(x b u e).stay (fun c v _ q=>k c v q) (fun c q=>by rw [aF (fg q hn)];exact q) fun c xs q=>by rw [aF (fg q hn)];exact q
end
def Rd(H:Hp)(a:Addr)(u:HO):Prop:=H a=some u∨∃o,H a=some (.frz o u)
theorem Rd.ok{P:Program}{w:World}{H:Hp}{h:Heap}{a:Addr}{u:HO}(r:Rd H a u)(x:oZ P w H h):h_ P w H h a u:=by
  rcases r with r | ⟨o,r⟩
  · exact x a u r
  · obtain⟨_,q⟩:=x a _ r
    exact q
def GX:Option HO→Prop
  | some (.lst _)=>True
  | some (.dK _)=>True
  | some (.dT _)=>True
  | some (.set _ _)=>True
  | some (.ins _ _ _)=>True
  | some (.ext _)=>True
  | _=>False
section
variable{P:Program}{w:World}{H:Hp}{h h':Heap}{x e:Addr}{o':HO}
theorem oZ.write(ok:oZ P w H h)(mu:GX (H x))(he:e=x∨H e=some (.own x))(k:∀b u,b≠e→h.get? b=some u→h'.get? b=some u)(heo:∃u,h'.get? e=some u)
    (new:h_ P w (bc H x o') h' x o'):oZ P w (bc H x o') h':=fun b u q=>by
  have nown:∀c y,H c=some (.own y)→c≠x:=fun c y r z=>by subst z;rw [r] at mu;exact mu
  have ntup:∀c xs,H c=some (.tup xs)→c≠x:=fun c xs r z=>by subst z;rw [r] at mu;exact mu
  by_cases hb:b=x
  · subst hb;rw [ay] at q;cases q;exact new
  · rw [aF hb] at q
    by_cases hbe:b=e
    · have q':H b=some (.own x):=by
        rcases he with z | z
        · exact absurd (hbe.trans z) hb
        · rw [hbe];exact z
      rw [q] at q';cases q'
      obtain⟨v,hv⟩:=heo
      exact⟨v,by rw [hbe];exact hv⟩
    · refine(ok b u q).stay (fun c v hc r=>k c v ?_ r) (fun c r=>by rw [aF (nown c b r)];exact r) fun c xs r=>by rw [aF (ntup c xs r)];exact r
      rcases hc with rfl | hc
      · exact hbe
      · rintro rfl
        rcases he with z | z
        · exact nown c b hc z
        · rw [hc] at z;cases z;exact hb rfl
end
structure Un (fs ex:List Addr) (H H':Hp) (h h':Heap):Prop where
  keep:∀b o,h.get? b=some o→H b=none→b∉fs→b∉ex→h'.get? b=some o
  slot:∀b o,h.get? b=some o→H b=none→b∈fs→b∉ex→∃sl,h'.get? b=some {o with slots:=sl}
  free:∀b o,h.get? b=some o→H b=none→b∉ex→H' b=none
  there:∀b o,h.get? b=some o→b∉ex→∃o',h'.get? b=some o'
  tups:∀b xs,H b=some (.tup xs)→H' b=some (.tup xs)
  frzs:∀b o u,H b=some (.frz o u)→H' b=some (.frz o u)
  tbls:∀b ps,H b=some (.tbl ps)→∃more,H' b=some (.tbl (ps++more))
section
variable{fs fs' ex ex':List Addr}{H H1 H2:Hp}{h h1 h2 h':Heap}{a x e:Addr}{o:HO}
theorem Un.any(u:Un fs ex H H1 h h1){b:Addr}{ob:Obj}(q:h.get? b=some ob)(n:H b=none)(hx:b∉ex):∃sl,h1.get? b=some {ob with slots:=sl}:=by
  by_cases hb:b∈fs
  · exact u.slot b ob q n hb hx
  · exact⟨ob.slots,u.keep b ob q n hb hx⟩
theorem Un.kept(k:∀b u,h.get? b=some u→h'.get? b=some u):Un fs ex H H h h':=
  ⟨fun b ob q _ _ _=>k b ob q,fun b ob q _ _ _=>⟨ob.slots,k b ob q⟩,fun _ _ _ n _=>n,fun b ob q _=>⟨ob,k b ob q⟩,fun _ _ q=>q,fun _ _ _ q=>q,fun _ ps q=>⟨#[],by rw [q];simp⟩⟩
theorem Un.refl:Un fs ex H H h h:=Un.kept fun _ _ q=>q
theorem Un.laid(k:∀b u,h.get? b=some u→h'.get? b=some u)(hp:h.objs.size≤a)(hn:H a=none):Un fs ex H (bc H a o) h h' where
  keep:=fun b u q _ _ _=>k b u q
  slot:=fun b u q _ _ _=>⟨u.slots,k b u q⟩
  free:=fun b u q n _=>by rw [aF (Nat.ne_of_lt (Nat.lt_of_lt_of_le (Heap.lt_size q) hp))];exact n
  there:=fun b u q _=>⟨u,k b u q⟩
  tups:=fun b xs q=>by rw [aF (fg q hn)];exact q
  frzs:=fun b u xs q=>by rw [aF (fg q hn)];exact q
  tbls:=fun b ps q=>⟨#[],by rw [aF (fg q hn),q];simp⟩
theorem Un.write(mu:GX (H x))(he:e=x∨H e=some (.own x))(k:∀b u,b≠e→h.get? b=some u→h'.get? b=some u)(heo:∃u,h'.get? e=some u):Un fs ex H (bc H x o) h h':=by
  have hx:∀b,H b=none→b≠x:=fun b n z=>by subst z;rw [n] at mu;exact mu
  have hb:∀b,H b=none→b≠e:=fun b n z=>by
    subst z
    rcases he with r | r
    · exact hx b n r
    · rw [n] at r;cases r
  have hm:∀b u,H b=some u→¬GX (some u)→b≠x:=fun b u q nm z=>by subst z;rw [q] at mu;exact nm mu
  refine⟨fun b u q n _ _=>k b u (hb b n) q,fun b u q n _ _=>⟨u.slots,k b u (hb b n) q⟩,fun b u q n _=>by rw [aF (hx b n)];exact n,fun b u q _=>?_,
    fun b xs q=>by rw [aF (hm b _ q fun z=>z)];exact q,fun b u xs q=>by rw [aF (hm b _ q fun z=>z)];exact q,fun b ps q=>⟨#[],by rw [aF (hm b _ q fun z=>z),q];simp⟩⟩
  by_cases hbe:b=e
  · subst hbe;exact heo
  · exact⟨u,k b u hbe q⟩
end
def G4(h:Heap)(H:Hp):List Addr:=(List.range h.objs.size).filter fun a=>(H a).isSome
def rZ(h:Heap)(H:Hp):Heap:=PySem.W.hideAll h (G4 h H)
theorem xg(h:Heap)(H:Hp):(rZ h H).objs.size=h.objs.size:=PySem.W.hideAll_size _ _
theorem yE{h:Heap}{H:Hp}{b:Addr}{o:Obj}(e:h.get? b=some o)(n:H b=none):(rZ h H).get? b=some o:=
  PySem.W.hideAll_get _ e fun hm=>by
    have q:(H b).isSome=true:=(List.mem_filter.mp hm).2
    rw [n] at q;simp at q
theorem Bl{h:Heap}{H:Hp}{b:Addr}{o:Obj}(e:(rZ h H).get? b=some o):h.get? b=some o∧H b=none:=by
  have e':h.get? b=some o:=PySem.W.of_hideAll (G4 h H) e
  refine⟨e',?_⟩
  cases q:H b with
  | none=>rfl
  | some x=>
    have hm:b∈G4 h H:=List.mem_filter.mpr ⟨List.mem_range.mpr (Heap.lt_size e'),by simp [q]⟩
    have z:(rZ h H).get? b=none:=PySem.W.hideAll_none (G4 h H) hm
    rw [z] at e;cases e
def rP(g h:Heap)(L:Addr):List (Addr × Obj):=(List.range h.objs.size).filterMap fun a=>if a=L∨(g.get? a).isSome=true then none else(h.get? a).map fun o=>(a,o)
theorem pP{g h:Heap}{L:Addr}{p:Addr × Obj}(hp:p∈rP g h L):p.1≠L∧g.get? p.1=none∧h.get? p.1=some p.2:=by
  obtain⟨b,_,e⟩:=List.mem_filterMap.mp hp
  split at e
  · cases e
  · rename_i hn
    cases q:h.get? b with
    | none=>rw [q] at e;simp at e
    | some u=>
      rw [q] at e
      simp only [Option.map_some,Option.some.injEq] at e
      subst e
      refine⟨fun z=>hn (.inl z),?_,q⟩
      show g.get? b=none
      cases r:g.get? b with
      | none=>rfl
      | some v=>exact(hn (.inr (by simp [r]))).elim
def gn(g h:Heap)(L d:Addr):List (Addr × Obj):=(rP g h L).filter fun p=>decide (p.1≠d)
theorem yY{g h:Heap}{L:Addr}:News g L h (rP g h L):=fun p hp=>let ⟨a,b,c⟩:=pP hp;⟨c,a,b⟩
end L2
namespace L2
open PySem PySem.Spec PyProof.Rows
structure Mod (K:PySem.W.Frag) (mg:Str→Option Value) (base:Heap):Prop where
  kin:K.In base
  glob:base.Ns mainGlobals mg
  blt:∃mb,base.Ns builtinsNs mb∧∀x:Str,x≠"__name__"→mb x=bootBuiltins x
  nolimit:base.NoLimit
structure Cx where
  prog:Program
  w:World
  K:PySem.W.Frag
  mg:Str→Option Value
  base:Heap
  A:Around
  N:List Str
  s₀:Shared
  H₀:Hp
  env:Env
  outer:List Env
  stack:List Env
  ex:List Addr
  fn:Str→Bool
  calm:Bool
  pn:List (Addr × Obj)
  xe:Value→Shared→Prop
def yx(l:List Env):List Addr:=l.filterMap (·.frame)
abbrev Cx.fs(X:Cx):List Addr:=yx X.outer
def Az(sc:Scope)(x:Str):Prop:=sc.names.lookup x=some .local∨sc.names.lookup x=some .cell∨sc.names.lookup x=some .free
def Dl(sc:Scope)(x:Str):Prop:=sc.names.lookup x=some .local∨sc.names.lookup x=some .cell
def G9(env:Env)(h:Heap)(m:Str→Option Value)(x:Str)(u:Value):Prop:=
  (env.kindOf x=some .local∧m x=some u)∨((env.kindOf x=some .cell∨env.kindOf x=some .free)∧∃c,env.cells.lookup x=some c∧h.IsCell c (some u))
structure Cx.Ok (X:Cx):Prop where
  mod:Mod X.K X.mg X.base
  kind:X.env.scope.kind=.function
  glob:X.env.globals=mainGlobals
  blt:X.env.builtins=builtinsNs
  above:X.s₀.heap.objs.size≤X.env.locals
  inj:∀x y c,X.env.cells.lookup x=some c→X.env.cells.lookup y=some c→x=y
  has:∀x,(X.env.kindOf x=some .cell∨X.env.kindOf x=some .free)→∃c,X.env.cells.lookup x=some c
  cab:∀x c,X.fn x=true→X.env.cells.lookup x=some c→X.s₀.heap.objs.size≤c
  hd:X.calm=true→X.A.handled=none
  frames:X.A.frames=some X.stack
  stk:X.stack=X.outer∨(X.stack=X.env::X.outer∧X.env.frame=some X.env.locals)
  exf:∀b∈X.ex,b≠X.env.locals∧∀x c,X.env.cells.lookup x=some c→c≠b
  bs:∀b o,X.base.get? b=some o→X.s₀.heap.get? b=some o∧X.H₀ b=none
  bsz:X.base.objs.size≤X.s₀.heap.objs.size
  noex:∀b o,X.base.get? b=some o→b∉X.ex
  exfs:∀b∈X.ex,b∉X.fs
  funs:X.s₀.heap.FunFrames X.base X.outer
  frf:∀b∈X.fs,X.H₀ b=none
structure aI (X:Cx) (pins:List (Addr × Obj)) (σ:List (Option V)) (H:Hp) (s:Shared):Prop where
  ok:X.Ok
  os:s.os=X.s₀.os
  bare:AllBare s.gens
  base:Un X.fs X.ex X.H₀ H X.s₀.heap s.heap
  loc:∃m,s.heap.Ns X.env.locals m∧∀(i:Nat) (x:Str) (v:V),X.N[i]?=some x→σ[i]?=some (some v)→Az X.env.scope x→∃u,bE v u∧G9 X.env s.heap m x u
  cell:∀x c,X.env.cells.lookup x=some c→∃v,s.heap.IsCell c v
  free:H X.env.locals=none
  freeC:∀x c,X.env.cells.lookup x=some c→H c=none
  pin:∀p∈X.pn++pins,s.heap.get? p.1=some p.2∧H p.1=none∧p.1≠X.env.locals∧p.1∉X.fs∧∀v,p.2.data≠.cell v
  hok:oZ X.prog X.w H s.heap
  len:σ.length=X.N.length
section
variable{X:Cx}{pins:List (Addr × Obj)}{σ:List (Option V)}{H H':Hp}{s:Shared}{h':Heap}
theorem Cx.Ok.nofr(ok:X.Ok){b:Addr}{o:Obj}(e:X.base.get? b=some o):b∉X.fs:=fun hb=>by
  have:=(ok.funs.mem hb).1
  rw [e] at this;cases this
theorem aI.bs(I:aI X pins σ H s):∀b o,X.base.get? b=some o→s.heap.get? b=some o∧H b=none:=fun b o e=>
  ⟨I.base.keep b o (I.ok.bs b o e).1 (I.ok.bs b o e).2 (I.ok.nofr e) (I.ok.noex b o e),I.base.free b o (I.ok.bs b o e).1 (I.ok.bs b o e).2 (I.ok.noex b o e)⟩
theorem aI.bk(I:aI X pins σ H s):∀b o,X.base.get? b=some o→s.heap.get? b=some o:=fun b o e=>(I.bs b o e).1
theorem aI.mod(I:aI X pins σ H s):Mod X.K X.mg X.base:=I.ok.mod
theorem aI.kIn(I:aI X pins σ H s):X.K.In s.heap:=I.ok.mod.kin.keeps I.bk
theorem aI.fr(I:aI X pins σ H s):∃m,Fr X.base X.env.locals s.heap m:=
  let ⟨m,hn,_⟩:=I.loc
  ⟨m,hn,I.bk,Nat.le_trans I.ok.bsz I.ok.above⟩
theorem aI.lt(I:aI X pins σ H s):X.env.locals < s.heap.objs.size:=let ⟨_,hn,_⟩:=I.loc;hn.lt
theorem aI.sz(I:aI X pins σ H s):X.s₀.heap.objs.size≤s.heap.objs.size:=Nat.le_trans I.ok.above (Nat.le_of_lt I.lt)
theorem aI.nofs(I:aI X pins σ H s){a:Addr}(h:s.heap.objs.size≤a):a∉X.fs:=fun hb=>by
  obtain⟨_,o,ho,_⟩:=I.ok.funs.mem hb
  exact absurd (Nat.lt_of_lt_of_le (Heap.lt_size ho) (Nat.le_trans I.sz h)) (Nat.lt_irrefl _)
theorem aI.cne(I:aI X pins σ H s):∀x c,X.env.cells.lookup x=some c→c≠X.env.locals:=fun x c e z=>by
  obtain⟨v,o,ho,hd⟩:=I.cell x c e
  obtain⟨m,⟨o',es,ep,ho',hd',_⟩,_⟩:=I.loc
  rw [z,ho'] at ho;cases ho;rw [hd'] at hd;cases hd
theorem aI.funs(I:aI X pins σ H s):s.heap.FunFrames X.base X.outer:=by
  have all:∀(l:List Env),(∀b∈yx l,b∈X.fs)→X.s₀.heap.FunFrames X.base l→s.heap.FunFrames X.base l:=by
    intro l
    induction l with
    | nil=>intro _ _;trivial
    | cons env r ih=>
      intro hs hl
      obtain⟨hk,⟨L,o,hf,hn,ho,hd⟩,hr⟩:=hl
      have hL:L∈X.fs:=hs L (by unfold yx;rw [List.filterMap_cons,hf];exact List.mem_cons_self)
      obtain⟨sl,e⟩:=I.base.slot L o ho (I.ok.frf L hL) hL fun z=>I.ok.exfs L z hL
      exact⟨hk,⟨L,_,hf,hn,e,hd⟩,ih (fun b hb=>hs b (by unfold yx;rw [List.filterMap_cons,hf];exact List.mem_cons_of_mem _ hb)) hr⟩
  exact all X.outer (fun _ hb=>hb) I.ok.funs
theorem aI.stack(I:aI X pins σ H s):s.heap.FunFrames X.base X.stack:=by
  rcases I.ok.stk with e | ⟨e,hf⟩
  · rw [e];exact I.funs
  · rw [e]
    obtain⟨m,hn,_⟩:=I.loc
    refine .cons (by rw [I.ok.kind];decide) hf hn ?_ I.funs
    exact Heap.get?_none_of_le (Nat.le_trans I.ok.bsz I.ok.above)
theorem aI.stkSub(I:aI X pins σ H s):∀b∈yx X.stack,b∈X.env.locals::X.fs:=fun b hb=>by
  rcases I.ok.stk with e | ⟨e,hf⟩
  · rw [e] at hb;exact List.mem_cons_of_mem _ hb
  · rw [e] at hb
    unfold yx at hb
    rw [List.filterMap_cons,hf] at hb
    exact hb
theorem aI.stkFree(I:aI X pins σ H s):∀b∈yx X.stack,H b=none:=fun b hb=>by
  rcases List.mem_cons.mp (I.stkSub b hb) with e | hb
  · rw [e];exact I.free
  · obtain⟨_,o,ho,_⟩:=I.ok.funs.mem hb
    exact I.base.free b o ho (I.ok.frf b hb) fun z=>I.ok.exfs b z hb
theorem aI.step{g':Array GenState}{t':Nat}{d':Drawn}{ch:List Addr}(I:aI X pins σ H s)
    (hch:∀b∈ch,(b∈X.ex∨X.s₀.heap.objs.size≤b)∧b≠X.env.locals∧(∀x c,X.env.cells.lookup x=some c→c≠b)∧∀p∈X.pn++pins,p.1≠b)
    (keep:∀b o,b≠X.env.locals→b∉X.fs→b∉ch→s.heap.get? b=some o→H b=none→h'.get? b=some o)
    (slot:∀b o,b≠X.env.locals→b∈X.fs→b∉ch→s.heap.get? b=some o→H b=none→∃sl,h'.get? b=some {o with slots:=sl})(free:∀b o,b∉ch→s.heap.get? b=some o→H b=none→H' b=none)
    (there:∀b o,b∉ch→s.heap.get? b=some o→∃o',h'.get? b=some o')
    (tups:∀b xs,H b=some (.tup xs)→H' b=some (.tup xs))(frzs:∀b o u,H b=some (.frz o u)→H' b=some (.frz o u))(tbls:∀b ps,H b=some (.tbl ps)→∃more,H' b=some (.tbl (ps++more)))
    (ns:∀m,s.heap.Ns X.env.locals m→h'.Ns X.env.locals m)(hok:oZ X.prog X.w H' h')(hg:AllBare g'):
    aI X pins σ H' {s with heap:=h',gens:=g',drawn:=d',toks:=t'}:=by
  have neL:∀b o,X.s₀.heap.get? b=some o→b≠X.env.locals:=fun b o e=>Nat.ne_of_lt (Nat.lt_of_lt_of_le (Heap.lt_size e) I.ok.above)
  have neC:∀b o,X.s₀.heap.get? b=some o→b∉X.ex→b∉ch:=fun b o e hx hb=>by
    rcases(hch b hb).1 with z | z
    · exact hx z
    · exact absurd (Nat.lt_of_lt_of_le (Heap.lt_size e) z) (Nat.lt_irrefl _)
  have cellK:∀x c,X.env.cells.lookup x=some c→∀v,s.heap.IsCell c v→h'.IsCell c v:=fun x c e v ⟨o,ho,hd⟩=>by
    have nch:c∉ch:=fun z=>(hch c z).2.2.1 x c e rfl
    by_cases hc:c∈X.fs
    · obtain⟨sl,q⟩:=slot c o (I.cne x c e) hc nch ho (I.freeC x c e)
      exact⟨_,q,hd⟩
    · exact⟨o,keep c o (I.cne x c e) hc nch ho (I.freeC x c e),hd⟩
  refine⟨I.ok,I.os,hg,⟨fun b o e n hb hx=>?_,fun b o e n hb hx=>?_,fun b o e n hx=>?_,fun b o e hx=>?_,fun b xs e=>tups b xs (I.base.tups b xs e),fun b o xs e=>frzs b o xs (I.base.frzs b o xs e),fun b ps e=>?_⟩,?_,fun x c e=>?_,?_,fun x c e=>?_,fun p hp=>?_,hok,I.len⟩
  · exact keep b o (neL b o e) hb (neC b o e hx) (I.base.keep b o e n hb hx) (I.base.free b o e n hx)
  · obtain⟨sl,e1⟩:=I.base.slot b o e n hb hx
    obtain⟨sl',e2⟩:=slot b _ (neL b o e) hb (neC b o e hx) e1 (I.base.free b o e n hx)
    exact⟨sl',e2⟩
  · obtain⟨o',e1⟩:=I.base.there b o e hx
    exact free b o' (neC b o e hx) e1 (I.base.free b o e n hx)
  · obtain⟨o',e1⟩:=I.base.there b o e hx
    exact there b o' (neC b o e hx) e1
  · obtain⟨m1,e1⟩:=I.base.tbls b ps e
    obtain⟨m2,e2⟩:=tbls b _ e1
    exact⟨m1++m2,by rw [e2,Array.append_assoc]⟩
  · obtain⟨m,hn,hl⟩:=I.loc
    refine⟨m,ns m hn,fun i x v e1 e2 e3=>?_⟩
    obtain⟨u,r,l⟩:=hl i x v e1 e2 e3
    refine⟨u,r,?_⟩
    rcases l with l | ⟨k,c,e,z⟩
    · exact .inl l
    · exact .inr ⟨k,c,e,cellK x c e _ z⟩
  · obtain⟨v,z⟩:=I.cell x c e
    exact⟨v,cellK x c e v z⟩
  · obtain⟨m,⟨o,_,_,ho,_⟩,_⟩:=I.loc
    exact free _ o (fun z=>(hch _ z).2.1 rfl) ho I.free
  · obtain⟨v,o,ho,hd⟩:=I.cell x c e
    exact free c o (fun z=>(hch c z).2.2.1 x c e rfl) ho (I.freeC x c e)
  · obtain⟨e,n,ne,nf,d⟩:=I.pin p hp
    have nch:p.1∉ch:=fun z=>(hch p.1 z).2.2.2 p hp rfl
    exact⟨keep p.1 p.2 ne nf nch e n,free p.1 p.2 nch e n,ne,nf,d⟩
theorem aI.un{t':Nat}(I:aI X pins σ H s)(u:Un X.fs [] H H' s.heap h')(hok:oZ X.prog X.w H' h'):aI X pins σ H' {s with heap:=h',toks:=t'}:=by
  obtain⟨m,⟨o,es,ep,ho,r⟩,_⟩:=id I.loc
  obtain⟨sl,hL⟩:=u.any ho I.free (by simp)
  exact I.step (g':=s.gens) (d':=s.drawn) (ch:=[]) (fun _ z=>nomatch z) (fun b o _ hb _ e n=>u.keep b o e n hb (by simp)) (fun b o _ hb _ e n=>u.slot b o e n hb (by simp)) (fun b o _ e n=>u.free b o e n (by simp)) (fun b o _ e=>u.there b o e (by simp)) u.tups u.frzs u.tbls (fun m' hm=>by
    obtain⟨o',es',ep',ho',r'⟩:=hm
    rw [ho] at ho';cases ho'
    exact⟨_,es',ep',hL,r'⟩) hok I.bare
theorem aI.call{g':Array GenState}{t':Nat}{d':Drawn}{ch:List Addr}(I:aI X pins σ H s)(u:Un (yx X.stack) ch H H' s.heap h')(hok:oZ X.prog X.w H' h')(hg:AllBare g')
    (hch:∀b∈ch,(b∈X.ex∨X.s₀.heap.objs.size≤b)∧b≠X.env.locals∧(∀x c,X.env.cells.lookup x=some c→c≠b)∧∀p∈X.pn++pins,p.1≠b):
    aI X pins σ H' {s with heap:=h',gens:=g',drawn:=d',toks:=t'}:=by
  obtain⟨m,⟨o,es,ep,ho,r⟩,_⟩:=id I.loc
  obtain⟨sl,hL⟩:=u.any ho I.free fun z=>(hch _ z).2.1 rfl
  exact I.step (ch:=ch) hch (fun b o hL hb hc e n=>u.keep b o e n (fun z=>(List.mem_cons.mp (I.stkSub b z)).elim hL hb) hc) (fun b o _ _ hc e n=>u.any e n hc) (fun b o hc e n=>u.free b o e n hc) (fun b o hc e=>u.there b o e hc) u.tups u.frzs u.tbls (fun m' hm=>by
    obtain⟨o',es',ep',ho',r'⟩:=hm
    rw [ho] at ho';cases ho'
    exact⟨_,es',ep',hL,r'⟩) hok hg
theorem aI.turned{t':Nat}{it:Addr}(I:aI X pins σ H s)(k:∀b o,b≠it→s.heap.get? b=some o→h'.get? b=some o)(hn:H it=none)(hL:it≠X.env.locals)
    (h1:it∈X.ex∨X.s₀.heap.objs.size≤it)(h2:∀x c,X.env.cells.lookup x=some c→c≠it)(h3:∀p∈X.pn++pins,p.1≠it):aI X pins σ H {s with heap:=h',toks:=t'}:=by
  have nit:∀b u,H b=some u→b≠it:=fun b u e z=>by rw [z,hn] at e;cases e
  refine I.step (g':=s.gens) (d':=s.drawn) (ch:=[it]) (fun b hb=>?_) (fun b o _ _ hc e _=>k b o (fun z=>hc (by simp [z])) e) (fun b o _ _ hc e _=>⟨o.slots,k b o (fun z=>hc (by simp [z])) e⟩) (fun _ _ _ _ n=>n)
    (fun b o hc e=>⟨o,k b o (fun z=>hc (by simp [z])) e⟩) (fun _ _ e=>e) (fun _ _ _ e=>e) (fun b ps e=>⟨#[],by rw [e];simp⟩) (fun m hm=>?_) (fun b u e=>?_) I.bare
  · have e:b=it:=by simpa using hb
    subst e
    exact⟨h1,hL,h2,h3⟩
  · obtain⟨o,es,ep,ho,r⟩:=hm
    exact⟨o,es,ep,k _ o (Ne.symm hL) ho,r⟩
  · refine(I.hok b u e).stay (fun c v hc q=>k c v ?_ q) (fun _ q=>q) fun _ _ q=>q
    rcases hc with z | z
    · rw [z];exact nit b u e
    · exact nit c _ z
theorem aI.tok(I:aI X pins σ H s)(t:Nat):aI X pins σ H {s with toks:=t}:=I.un (h':=s.heap) (t':=t) Un.refl I.hok
theorem aI.kept{t':Nat}(I:aI X pins σ H s)(k:∀b u,s.heap.get? b=some u→h'.get? b=some u):aI X pins σ H {s with heap:=h',toks:=t'}:=I.un (Un.kept k) (I.hok.kept k)
theorem aI.laid{a:Addr}{o:HO}{t':Nat}(I:aI X pins σ H s)(k:∀b u,s.heap.get? b=some u→h'.get? b=some u)(hp:s.heap.objs.size≤a)(new:h_ X.prog X.w (bc H a o) h' a o):
    aI X pins σ (bc H a o) {s with heap:=h',toks:=t'}:=I.un (Un.laid k hp (I.hok.fresh hp)) (I.hok.laid k hp new)
theorem aI.write{x e:Addr}{o:HO}{t':Nat}(I:aI X pins σ H s)(mu:GX (H x))(he:e=x∨H e=some (.own x))(k:∀b u,b≠e→s.heap.get? b=some u→h'.get? b=some u)(heo:∃u,h'.get? e=some u)
    (new:h_ X.prog X.w (bc H x o) h' x o):aI X pins σ (bc H x o) {s with heap:=h',toks:=t'}:=I.un (Un.write mu he k heo) (I.hok.write mu he k heo new)
theorem aI.pins_of{pins':List (Addr × Obj)}(I:aI X pins σ H s)(h:∀p∈pins',s.heap.get? p.1=some p.2∧H p.1=none∧p.1≠X.env.locals∧p.1∉X.fs∧∀v,p.2.data≠.cell v):aI X pins' σ H s:=
  ⟨I.ok,I.os,I.bare,I.base,I.loc,I.cell,I.free,I.freeC,fun p hp=>(List.mem_append.mp hp).elim (fun z=>I.pin p (List.mem_append_left _ z)) (h p),I.hok,I.len⟩
theorem tU{N:List Str}(hN:N.Nodup){i j:Nat}{x:Str}(a:N[i]?=some x)(b:N[j]?=some x):i=j:=by
  obtain⟨h1,e1⟩:=List.getElem?_eq_some_iff.mp a
  obtain⟨h2,e2⟩:=List.getElem?_eq_some_iff.mp b
  exact(List.getElem_inj hN).mp (e1.trans e2.symm)
theorem nE{M:Model}{A:Around}{E:Value→Shared→Prop}{i:Nat}{x:Str}{v:V}{u:Value}{Q:Unit→Shared→Prop}(I:aI X pins σ H s)(hN:X.N.Nodup)(hi:X.N[i]?=some x)(hx:Dl X.env.scope x)(r:bE v u)
    (h:∀s',aI X pins (σ.set i (some v)) H s'→(∃a,Heap.SameBut a s.heap s'.heap∧(a=X.env.locals∨X.env.cells.lookup x=some a))→Q () s')(hf:X.fn x=true∨X.env.scope.names.lookup x=some .local:=by first | exact .inl rfl | exact .inr rfl | assumption):wpAny M A (storeName X.env x u) Q E s:=by
  obtain⟨m,hn,hl⟩:=id I.loc
  have hcls:(X.env.scope.kind==.class || (X.env.scope.kind==.module&&X.env.locals != X.env.globals))=false:=by rw [I.ok.kind];rfl
  have hiσ:i < σ.length:=by rw [I.len];exact(List.getElem?_eq_some_iff.mp hi).1
  have cne:=I.cne
  have tracked:∀{a:Addr} {h':Heap},(∃o,s.heap.get? a=some o∧H a=none)→Heap.SameBut a s.heap h'→oZ X.prog X.w H h':=fun{a h'} ha hs b ob e=>by
    obtain⟨_,_,hfree⟩:=ha
    refine(I.hok b ob e).stay (fun c w' hc q=>(hs.2 c ?_).trans q) (fun _ q=>q) fun _ _ q=>q
    rintro rfl
    rcases hc with rfl | hc
    · rw [hfree] at e;cases e
    · rw [hfree] at hc;cases hc
  rcases hx with hk | hk
  · refine wpAny_storeName_local hk hn (fun h' hn' hs=>?_) hcls
    obtain⟨oL,_,_,hoL,_⟩:=id hn
    refine h _ ⟨I.ok,I.os,I.bare,⟨fun b o e n hb hx=>?_,fun b o e n hb hx=>?_,I.base.free,fun b o e hx=>?_,I.base.tups,I.base.frzs,I.base.tbls⟩,⟨_,hn',fun j y v' e1 e2 e3=>?_⟩,fun y c e=>?_,I.free,I.freeC,fun p hp=>?_,tracked ⟨oL,hoL,I.free⟩ hs,by simpa using I.len⟩ ⟨_,hs,.inl rfl⟩
    · exact(hs.2 b (Nat.ne_of_lt (Nat.lt_of_lt_of_le (Heap.lt_size e) I.ok.above))).trans (I.base.keep b o e n hb hx)
    · obtain⟨sl,e1⟩:=I.base.slot b o e n hb hx
      exact⟨sl,(hs.2 b (Nat.ne_of_lt (Nat.lt_of_lt_of_le (Heap.lt_size e) I.ok.above))).trans e1⟩
    · obtain⟨o',e1⟩:=I.base.there b o e hx
      exact⟨o',(hs.2 b (Nat.ne_of_lt (Nat.lt_of_lt_of_le (Heap.lt_size e) I.ok.above))).trans e1⟩
    · by_cases hj:j=i
      · subst hj
        rw [hi] at e1;cases e1
        rw [List.getElem?_set_self hiσ] at e2
        cases e2
        exact⟨u,r,.inl ⟨hk,by simp⟩⟩
      · rw [List.getElem?_set_ne (Ne.symm hj)] at e2
        obtain⟨u',r',q⟩:=hl j y v' e1 e2 e3
        refine⟨u',r',?_⟩
        rcases q with ⟨k,e⟩ | ⟨k,c,e,z⟩
        · refine .inl ⟨k,?_⟩
          have:y≠x:=fun e=>hj (tU hN e1 (e ▸ hi))
          simp [this,e]
        · exact .inr ⟨k,c,e,z.sameBut hs (cne y c e)⟩
    · obtain⟨w',z⟩:=I.cell y c e
      exact⟨w',z.sameBut hs (cne y c e)⟩
    · obtain⟨e,n,ne,nf,d⟩:=I.pin p hp
      exact⟨(hs.2 p.1 ne).trans e,n,ne,nf,d⟩
  · have hfn:X.fn x=true:=by
      rcases hf with z | z
      · exact z
      · rw [z] at hk;cases hk
    obtain⟨c,hc⟩:=I.ok.has x (.inl hk)
    obtain⟨w',z⟩:=I.cell x c hc
    refine wpAny_storeName_cell I.ok.kind hk hc z (fun h' hc' hs=>?_)
    obtain⟨oc,hoc,hocd⟩:=id z
    refine h {s with heap:=h'} ⟨I.ok,I.os,I.bare,⟨fun b o e n hb hx=>?_,fun b o e n hb hx=>?_,I.base.free,fun b o e hx=>?_,I.base.tups,I.base.frzs,I.base.tbls⟩,⟨m,hn.sameBut hs (Ne.symm (cne x c hc)),fun j y v' e1 e2 e3=>?_⟩,fun y c' e=>?_,I.free,I.freeC,fun p hp=>?_,tracked ⟨oc,hoc,I.freeC x c hc⟩ hs,by simpa using I.len⟩ ⟨c,hs,.inr hc⟩
    · exact(hs.2 b (Nat.ne_of_lt (Nat.lt_of_lt_of_le (Heap.lt_size e) (I.ok.cab x c hfn hc)))).trans (I.base.keep b o e n hb hx)
    · obtain⟨sl,e1⟩:=I.base.slot b o e n hb hx
      exact⟨sl,(hs.2 b (Nat.ne_of_lt (Nat.lt_of_lt_of_le (Heap.lt_size e) (I.ok.cab x c hfn hc)))).trans e1⟩
    · obtain⟨o',e1⟩:=I.base.there b o e hx
      exact⟨o',(hs.2 b (Nat.ne_of_lt (Nat.lt_of_lt_of_le (Heap.lt_size e) (I.ok.cab x c hfn hc)))).trans e1⟩
    · by_cases hj:j=i
      · subst hj
        rw [hi] at e1;cases e1
        rw [List.getElem?_set_self hiσ] at e2
        cases e2
        exact⟨u,r,.inr ⟨.inl hk,c,hc,hc'⟩⟩
      · rw [List.getElem?_set_ne (Ne.symm hj)] at e2
        obtain⟨u',r',q⟩:=hl j y v' e1 e2 e3
        refine⟨u',r',?_⟩
        rcases q with q | ⟨k,c',e,z'⟩
        · exact .inl q
        · refine .inr ⟨k,c',e,z'.sameBut hs ?_⟩
          rintro rfl
          exact hj (tU hN e1 (I.ok.inj _ _ _ e hc ▸ hi))
    · by_cases hcc:c'=c
      · subst hcc;exact⟨_,hc'⟩
      · obtain⟨w2,z2⟩:=I.cell y c' e
        exact⟨w2,z2.sameBut hs hcc⟩
    · obtain⟨e,n,ne,nf,d⟩:=I.pin p hp
      refine⟨(hs.2 p.1 ?_).trans e,n,ne,nf,d⟩
      intro q
      rw [q,hoc] at e
      have q':oc=p.2:=Option.some.inj e
      exact d w' (by rw [←q'];exact hocd)
theorem mU{M:Model}{A:Around}{E:Value→Shared→Prop}{i:Nat}{x:Str}{v:V}{u:Value}{Q:Unit→Shared→Prop}(I:aI X pins σ H s)(hN:X.N.Nodup)(hi:X.N[i]?=some x)(hx:Dl X.env.scope x)(r:bE v u)
    (h:∀s',aI X pins (σ.set i (some v)) H s'→Q () s')(hf:X.fn x=true∨X.env.scope.names.lookup x=some .local:=by first | exact .inl rfl | exact .inr rfl | assumption):wpAny M A (storeName X.env x u) Q E s:=
  nE I hN hi hx r (fun s' I' _=>h s' I') hf
theorem aI.call'{s':Shared}{ch:List Addr}(I:aI X pins σ H s)(ho:s'.os=s.os)(u:Un (yx X.stack) ch H H' s.heap s'.heap)(hok:oZ X.prog X.w H' s'.heap)(hg:AllBare s'.gens)
    (hch:∀b∈ch,(b∈X.ex∨X.s₀.heap.objs.size≤b)∧b≠X.env.locals∧(∀x c,X.env.cells.lookup x=some c→c≠b)∧∀p∈X.pn++pins,p.1≠b):aI X pins σ H' s':=by
  obtain⟨h',g',d',t',o'⟩:=s'
  have e:o'=s.os:=ho
  subst e
  exact I.call (g':=g') (t':=t') (d':=d') u hok hg hch
end
abbrev XK:=Value→Option Addr→Hp→Prop
abbrev St:=List (Option V)
abbrev VK:=V→Hp→Prop
abbrev TE:=St→Hp→VK→Prop
abbrev TT:=St→Hp→(Bool→Hp→Prop)→Prop
abbrev TA:=St→Hp→(List V→Hp→Prop)→Prop
structure uC where
  nx:St→Hp→Prop
  rt:VK
  bk:St→Hp→Prop:=fun _ _=>False
  ct:St→Hp→Prop:=fun _ _=>False
abbrev TS:=uC→St→Hp→Prop
def EP(X:Cx)(pins:List (Addr × Obj))(σ:St)(Q:VK)(u:Value)(s':Shared):Prop:=∃v H',aI X pins σ H' s'∧bE v u∧Q v H'
def TP(X:Cx)(pins:List (Addr × Obj))(σ:St)(Q:Bool→Hp→Prop)(b:Bool)(s':Shared):Prop:=∃H',aI X pins σ H' s'∧Q b H'
def AP(X:Cx)(pins:List (Addr × Obj))(σ:St)(Q:List V→Hp→Prop)(us:List Value)(s':Shared):Prop:=∃vs H',aI X pins σ H' s'∧aW vs us∧Q vs H'
def SP(X:Cx)(pins:List (Addr × Obj))(D:uC)(f:Flow)(s':Shared):Prop:=
  match f with
  | .next=>∃σ' H',aI X pins σ' H' s'∧D.nx σ' H'
  | .brk=>∃σ' H',aI X pins σ' H' s'∧D.bk σ' H'
  | .cont=>∃σ' H',aI X pins σ' H' s'∧D.ct σ' H'
  | .ret u=>∃v σ' H',aI X pins σ' H' s'∧bE v u∧D.rt v H'
def PE(X:Cx)(e:Expr)(t:TE):Prop:=
  ∀(pins:List (Addr × Obj)) (s:Shared) (σ:St) (H:Hp) (Q:VK),aI X pins σ H s→t σ H Q→wpAny (model X.prog X.w) X.A (eval e X.env) (EP X pins σ Q) X.xe s
def PT(X:Cx)(e:Expr)(t:TT):Prop:=
  ∀(pins:List (Addr × Obj)) (s:Shared) (σ:St) (H:Hp) (Q:Bool→Hp→Prop),aI X pins σ H s→t σ H Q→wpAny (model X.prog X.w) X.A (isTrue e X.env (eval e X.env)) (TP X pins σ Q) X.xe s
def PW(X:Cx)(e:Expr)(t:TT):Prop:=
  ∀(whole:Sem Value) (pins:List (Addr × Obj)) (s:Shared) (σ:St) (H:Hp) (Q:Bool→Hp→Prop),aI X pins σ H s→t σ H Q→wpAny (model X.prog X.w) X.A (isTrue e X.env whole) (TP X pins σ Q) X.xe s
theorem PW.pt{X:Cx}{e:Expr}{t:TT}(h:PW X e t):PT X e t:=h _
def PA(X:Cx)(es:List Expr)(t:TA):Prop:=
  ∀(pos:Pos) (pins:List (Addr × Obj)) (s:Shared) (σ:St) (H:Hp) (Q:List V→Hp→Prop),aI X pins σ H s→t σ H Q→wpAny (model X.prog X.w) X.A (spliced (backTo pos (starEach es X.env))) (AP X pins σ Q) X.xe s
def PS(X:Cx)(st:Stmt)(t:TS):Prop:=
  ∀(pins:List (Addr × Obj)) (s:Shared) (σ:St) (H:Hp) (D:uC),aI X pins σ H s→t D σ H→wpAny (model X.prog X.w) X.A (exec st X.env) (SP X pins D) X.xe s
def oB(X:Cx)(st:List Stmt)(t:TS):Prop:=
  ∀(pins:List (Addr × Obj)) (s:Shared) (σ:St) (H:Hp) (D:uC),aI X pins σ H s→t D σ H→wpAny (model X.prog X.w) X.A (execs st X.env) (SP X pins D) X.xe s
theorem bN{α:Type}{t:Sem α}{Q Q':α→Shared→Prop}{M:Model}{A:Around}{E:Value→Shared→Prop}{s:Shared}(h:wpAny M A t Q E s)(hQ:∀a s,Q a s→Q' a s):wpAny M A t Q' E s:=wpAny_mono h hQ fun _ _ x=>x
end L2
namespace L2
open PySem PySem.Spec PyProof.Rows
section
variable{X:Cx}
def GQ(i:Nat):TE:=fun σ H Q=>∃v,σ[i]?=some (some v)∧Q v H
def tC(v:V):TE:=fun _ H Q=>Q v H
theorem nj{i:Nat}{x:Str}{pos:Pos}(hN:X.N[i]?=some x)(hv:Az X.env.scope x)(hd:(x==("__debug__":Str))=false:=by decide)(hcd:(x==("__classdict__":Str))=false:=by decide):PE X (.Name x pos) (GQ i):=by
  intro pins s σ H Q I h
  obtain⟨v,e,h⟩:=h
  obtain⟨m,hn,hl⟩:=I.loc
  obtain⟨u,r,l⟩:=hl i x v hN e hv
  have fin:EP X pins σ Q u s:=⟨v,H,I,r,h⟩
  rcases l with ⟨hk,hm⟩ | ⟨hk,c,hc,hcell⟩
  · exact wpAny_Name (wpAny_loadName_local I.ok.kind hk hn hm fin) hd
  · rcases hk with hk | hk
    · exact wpAny_Name (wpAny_loadName_cell I.ok.kind hk hc hcell fin) hd
    · exact wpAny_Name (wpAny_loadName_free I.ok.kind hk hc hcell fin hcd) hd
theorem zh{i j pos}:PE X (.Constant (.int i) j pos) (tC (.int i)):=fun _ _ _ H _ I h=>wpAny_Constant_int ⟨.int i,H,I.tok _,⟨_,rfl⟩,h⟩
theorem Gh{b j pos}:PE X (.Constant (.bool b) j pos) (tC (.bl b)):=fun _ _ _ H _ I h=>Constant_bool ⟨.bl b,H,I,rfl,h⟩
def Gl(X:Cx)(x:Str):Prop:=X.env.kindOf x=some .globalImplicit
theorem wk{E:Value→Shared→Prop}{pins:List (Addr × Obj)}{s:Shared}{σ:St}{H:Hp}{x:Str}{u:Value}{pos:Pos}{Q:Value→Shared→Prop}(I:aI X pins σ H s)(hg:Gl X x)(hm:X.mg x=some u)(h:Q u s)
    (hd:(x==("__debug__":Str))=false:=by decide):wpAny (model X.prog X.w) X.A (eval (.Name x pos) X.env) Q E s:=
  Calls.Name_function_global I.ok.kind hg (Calls.loadGlobal_global (by rw [I.ok.glob];exact I.mod.glob.keeps I.bk) hm h) hd
theorem gD{E:Value→Shared→Prop}{pins:List (Addr × Obj)}{s:Shared}{σ:St}{H:Hp}{x:Str}{u:Value}{pos:Pos}{Q:Value→Shared→Prop}(I:aI X pins σ H s)(hg:Gl X x)(hm:X.mg x=none)(hv:bootBuiltins x=some u)(h:Q u s)
    (hn:x≠"__name__":=by decide)(hd:(x==("__debug__":Str))=false:=by decide):wpAny (model X.prog X.w) X.A (eval (.Name x pos) X.env) Q E s:=by
  obtain⟨mb,h1,h2⟩:=I.mod.blt
  exact Calls.Name_function_global I.ok.kind hg (Calls.loadGlobal_builtin (by rw [I.ok.glob];exact I.mod.glob.keeps I.bk) hm (by rw [I.ok.blt];exact h1.keeps I.bk) ((h2 x hn).trans hv) h) hd
theorem BH{x:Str}{v:V}{u:Value}{pos:Pos}(hg:Gl X x)(hm:X.mg x=some u)(r:bE v u)(hd:(x==("__debug__":Str))=false:=by decide):PE X (.Name x pos) (tC v):=
  fun _ _ _ H _ I h=>wk I hg hm ⟨v,H,I,r,h⟩ hd
variable{a b:Expr}{ta tb:TE}{pos:Pos}
def tB(t:TE):TT:=fun σ H Q=>t σ H fun x H1=>∃c,x=.bl c∧Q c H1
theorem Er{e:Expr}{t:TE}(h:PE X e t)(he:∀whole,isTrue e X.env whole=(do let v ←whole;standAt e.pos;holding [v] (truthy v)):=by intro _;rfl):PT X e (tB t):=by
  intro pins s σ H Q I hw
  refine isTrue_plain (bN (h pins s σ H _ I hw) fun v s1 ⟨x,H1,I1,r1,q1⟩=>?_) (he _)
  obtain⟨d,rfl,q⟩:=q1
  cases r1
  exact wpAny_truthy_bool ⟨H1,I1,q⟩
variable{tA tB':TT}{gn:List Expr}
def GE(t u:TT):TT:=fun σ H Q=>t σ H fun c H1=>if c=true then u σ H1 Q else Q false H1
def HU(t u:TT):TT:=fun σ H Q=>t σ H fun c H1=>if c=true then Q true H1 else u σ H1 Q
def GK(t:TT):TT:=fun σ H Q=>t σ H fun c H1=>Q (!c) H1
theorem B0(ha:PT X a tA):PW X (.BoolOp .And [a] pos) tA:=by
  intro wh pins s σ H Q I h
  refine isTrue_and (bN (ha pins s σ H Q I h) fun c s1 e=>?_)
  cases c with
  | true=>exact isTrue_and_nil e
  | false=>exact e
theorem Et(ha:PT X a tA):PW X (.BoolOp .Or [a] pos) tA:=by
  intro wh pins s σ H Q I h
  refine isTrue_or (bN (ha pins s σ H Q I h) fun c s1 e=>?_)
  cases c with
  | false=>exact isTrue_or_nil e
  | true=>exact e
theorem Es(ha:PT X a tA)(hb:PW X (.BoolOp .And (b::gn) pos) tB'):PW X (.BoolOp .And (a::b::gn) pos) (GE tA tB'):=by
  intro wh pins s σ H Q I h
  refine isTrue_and (bN (ha pins s σ H _ I h) fun c s1 ⟨H1,I1,q1⟩=>?_)
  cases c with
  | true=>exact hb wh pins s1 σ H1 Q I1 q1
  | false=>exact⟨H1,I1,q1⟩
theorem Gn(ha:PT X a tA)(hb:PW X (.BoolOp .Or (b::gn) pos) tB'):PW X (.BoolOp .Or (a::b::gn) pos) (HU tA tB'):=by
  intro wh pins s σ H Q I h
  refine isTrue_or (bN (ha pins s σ H _ I h) fun c s1 ⟨H1,I1,q1⟩=>?_)
  cases c with
  | true=>exact⟨H1,I1,q1⟩
  | false=>exact hb wh pins s1 σ H1 Q I1 q1
theorem Ep(ha:PT X a tA):PT X (.UnaryOp .Not a pos) (GK tA):=by
  intro pins s σ H Q I h
  exact isTrue_not (ha pins s σ H (fun c H1=>Q (!c) H1) I h)
def GF(ta tb:TE):TE:=fun σ H Q=>ta σ H fun x H1=>∃c,x=.bl c∧if c=true then tb σ H1 Q else Q (.bl false) H1
def HD(ta tb:TE):TE:=fun σ H Q=>ta σ H fun x H1=>∃c,x=.bl c∧if c=true then Q (.bl true) H1 else tb σ H1 Q
def GL(ta:TE):TE:=fun σ H Q=>ta σ H fun x H1=>∃c,x=.bl c∧Q (.bl (!c)) H1
theorem Eg{op}{t:TE}(h:PE X a t):PE X (.BoolOp op [a] pos) t:=fun pins s σ H Q I hw=>BoolOp_one (h pins s σ H Q I hw)
theorem Ee(ha:PE X a ta)(hb:PE X (.BoolOp .And (b::gn) pos) tb):PE X (.BoolOp .And (a::b::gn) pos) (GF ta tb):=by
  intro pins s σ H Q I h
  refine BoolOp_and (bN (ha pins s σ H _ I h) fun v s1 ⟨x,H1,I1,r1,q1⟩=>?_)
  obtain⟨c,rfl,q1⟩:=q1
  cases r1
  refine wpAny_truthy_bool ?_
  cases c with
  | true=>exact hb pins s1 σ H1 Q I1 q1
  | false=>exact⟨.bl false,H1,I1,rfl,q1⟩
theorem Gi(ha:PE X a ta)(hb:PE X (.BoolOp .Or (b::gn) pos) tb):PE X (.BoolOp .Or (a::b::gn) pos) (HD ta tb):=by
  intro pins s σ H Q I h
  refine BoolOp_or (bN (ha pins s σ H _ I h) fun v s1 ⟨x,H1,I1,r1,q1⟩=>?_)
  obtain⟨c,rfl,q1⟩:=q1
  cases r1
  refine wpAny_truthy_bool ?_
  cases c with
  | false=>exact hb pins s1 σ H1 Q I1 q1
  | true=>exact⟨.bl true,H1,I1,rfl,q1⟩
theorem Ef(ha:PE X a ta):PE X (.UnaryOp .Not a pos) (GL ta):=by
  intro pins s σ H Q I h
  refine UnaryOp_ (bN (ha pins s σ H _ I h) fun v s1 ⟨x,H1,I1,r1,q1⟩=>?_)
  obtain⟨c,rfl,q1⟩:=q1
  cases r1
  exact not_of (wpAny_truthy_bool ⟨.bl (!c),H1,I1,rfl,q1⟩)
end
end L2
namespace L2
open PySem PySem.Spec PyProof.Rows
def cW(K:PySem.W.Frag)(H:Hp)(a:Addr)(xs:List V):Prop:=
  Rd H a (.lst xs)∨
    ∃(o:Obj) (its:Array Value) (n:Nat),K.lookup a=some o∧o.cls=.type "list"∧o.dict=none∧o.data=.seq its n∧its.size≤sizeLine∧aW xs its.toList
def cg(K:PySem.W.Frag)(H:Hp)(a:Addr)(xs:List V):Prop:=
  Rd H a (.tup xs)∨
    ∃(o:Obj) (its:Array Value) (n:Nat),K.lookup a=some o∧o.cls=.type "tuple"∧o.dict=none∧o.data=.seq its n∧its.size≤sizeLine∧aW xs its.toList
def Hb:Value→Option V
  | .none=>some .non
  | .bool b=>some (.bl b)
  | .int i _=>some (.int i)
  | .str x _=>some (.str x)
  | .bytes b _=>some (.byt b)
  | .float b _=>some (.flt b)
  | .ref a=>some (.ref a)
  | .type n=>some (.ty n)
  | _=>none
theorem bE.abs{x:V}{u:Value}(r:bE x u):Hb u=some x:=by
  cases x with
  | non=>cases r;rfl
  | bl _=>cases r;rfl
  | int _=>obtain⟨t,rfl⟩:=r;rfl
  | str _=>obtain⟨t,rfl⟩:=r;rfl
  | byt _=>obtain⟨t,rfl⟩:=r;rfl
  | flt _=>obtain⟨t,rfl⟩:=r;rfl
  | ref _=>cases r;rfl
  | ty _=>cases r;rfl
theorem bE.inj{x y:V}{u:Value}(r:bE x u)(q:bE y u):x=y:=Option.some.inj (r.abs.symm.trans q.abs)
theorem aW.inj:∀{xs ys:List V} {us:List Value},aW xs us→aW ys us→xs=ys
  | _,_,_,.nil,.nil=>rfl
  | _,_,_,.cons r t,.cons r' t'=>by rw [r.inj r',aW.inj t t']
section
variable{X:Cx}{pins:List (Addr × Obj)}{σ:St}{H:Hp}{s:Shared}{a:Addr}{xs ys:List V}
theorem cW.of{K:PySem.W.Frag}(h:H a=some (.lst xs)):cW K H a xs:=.inl (.inl h)
theorem cg.of{K:PySem.W.Frag}(h:H a=some (.tup xs)):cg K H a xs:=.inl (.inl h)
theorem aI.list(I:aI X pins σ H s)(h:cW X.K H a xs):∃its:List Value,aW xs its∧PlainL s.heap a its.toArray∧xs.length≤sizeLine:=by
  rcases h with h | ⟨o,its,n,hk,hc,hd,hs,hz,r⟩
  · obtain⟨z,its,n,r,e⟩:=h.ok I.hok
    exact⟨its,r,⟨_,n,e,rfl,rfl,rfl⟩,z⟩
  · refine⟨its.toList,r,⟨o,n,I.kIn a o hk,hc,hd,by simpa using hs⟩,?_⟩
    have e:=r.length
    simp only [Array.length_toList] at e
    lia
theorem aI.tuple(I:aI X pins σ H s)(h:cg X.K H a xs):∃its:List Value,aW xs its∧IsTup s.heap a its.toArray∧xs.length≤sizeLine:=by
  rcases h with h | ⟨o,its,n,hk,hc,_,hs,hz,r⟩
  · obtain⟨z,its,r,p⟩:=h.ok I.hok
    exact⟨its,r,p.tup,z⟩
  · refine⟨its.toList,r,⟨o,I.kIn a o hk,hc,n,by simpa using hs⟩,?_⟩
    have e:=r.length
    simp only [Array.length_toList] at e
    lia
theorem aI.list_inj(I:aI X pins σ H s)(h:cW X.K H a xs)(h':cW X.K H a ys):xs=ys:=by
  obtain⟨its,r,⟨o,n,e,_,_,d⟩,_⟩:=I.list h
  obtain⟨its',r',⟨o',n',e',_,_,d'⟩,_⟩:=I.list h'
  rw [e] at e';cases e'
  rw [d] at d'
  injection d' with d1 _
  have:its=its':=by simpa using congrArg Array.toList d1
  subst this
  exact r.inj r'
theorem aI.tuple_inj(I:aI X pins σ H s)(h:cg X.K H a xs)(h':cg X.K H a ys):xs=ys:=by
  obtain⟨its,r,⟨o,e,_,n,d⟩,_⟩:=I.tuple h
  obtain⟨its',r',⟨o',e',_,n',d'⟩,_⟩:=I.tuple h'
  rw [e] at e';cases e'
  rw [d] at d'
  injection d' with d1 _
  have:its=its':=by simpa using congrArg Array.toList d1
  subst this
  exact r.inj r'
end
abbrev Cx.wish(X:Cx)(E:Value→Shared→Prop):Cx:={X with xe:=E}
abbrev Cx.nox(X:Cx):Cx:=X.wish fun _ _=>False
theorem Cx.Ok.wish{X:Cx}(ok:X.Ok)(E:Value→Shared→Prop):(X.wish E).Ok:=
  ⟨ok.mod,ok.kind,ok.glob,ok.blt,ok.above,ok.inj,ok.has,ok.cab,ok.hd,ok.frames,ok.stk,ok.exf,ok.bs,ok.bsz,ok.noex,ok.exfs,ok.funs,ok.frf⟩
theorem Cx.Ok.unwish{X:Cx}{E:Value→Shared→Prop}(ok:(X.wish E).Ok):X.Ok:=
  ⟨ok.mod,ok.kind,ok.glob,ok.blt,ok.above,ok.inj,ok.has,ok.cab,ok.hd,ok.frames,ok.stk,ok.exf,ok.bs,ok.bsz,ok.noex,ok.exfs,ok.funs,ok.frf⟩
section
variable{X:Cx}{pins:List (Addr × Obj)}{σ:St}{H:Hp}{s:Shared}{E:Value→Shared→Prop}
theorem aI.wish(I:aI X pins σ H s)(E:Value→Shared→Prop):aI (X.wish E) pins σ H s:=⟨I.ok.wish E,I.os,I.bare,I.base,I.loc,I.cell,I.free,I.freeC,I.pin,I.hok,I.len⟩
theorem aI.unwish(I:aI (X.wish E) pins σ H s):aI X pins σ H s:=⟨I.ok.unwish,I.os,I.bare,I.base,I.loc,I.cell,I.free,I.freeC,I.pin,I.hok,I.len⟩
theorem SP.unwish{D:uC}{f:Flow}{s':Shared}(h:SP (X.wish E) pins D f s'):SP X pins D f s':=by
  cases f with
  | next=>obtain⟨σ',H',I,q⟩:=h;exact⟨σ',H',I.unwish,q⟩
  | brk=>obtain⟨σ',H',I,q⟩:=h;exact⟨σ',H',I.unwish,q⟩
  | cont=>obtain⟨σ',H',I,q⟩:=h;exact⟨σ',H',I.unwish,q⟩
  | ret u=>obtain⟨v,σ',H',I,r,q⟩:=h;exact⟨v,σ',H',I.unwish,r,q⟩
theorem oB.nox{st:List Stmt}{t:TS}(h:oB X.nox st t):oB X st t:=fun pins s σ H D I hw=>
  wpAny_mono (h pins s σ H D (I.wish _) hw) (fun _ _ q=>q.unwish) fun _ _ z=>False.elim z
end
section
variable{X:Cx}{st:Stmt}{gn:List Stmt}{t u:TS}{e:Expr}{te:TE}{pos:Pos}
def GJ:TS:=fun D σ H=>D.nx σ H
def HH(t u:TS):TS:=fun D σ H=>t {D with nx:=u D} σ H
theorem BV:oB X [] GJ:=fun _ _ σ H _ I h=>wpAny_execs_nil ⟨σ,H,I,h⟩
theorem zB(h1:PS X st t)(h2:oB X gn u):oB X (st::gn) (HH t u):=by
  intro pins s σ H D I h
  refine wpAny_execs_cons (bN (h1 pins s σ H {D with nx:=u D} I h) fun f s1 q=>?_)
  cases f with
  | next=>
    obtain⟨σ',H',I',q⟩:=q
    exact h2 pins s1 σ' H' D I' q
  | ret v=>exact q
  | brk=>exact q
  | cont=>exact q
theorem BW(h1:PS X st t):oB X [st] t:=by
  intro pins s σ H D I h
  refine wpAny_execs_cons (bN (h1 pins s σ H D I h) fun f s1 q=>?_)
  cases f with
  | next=>exact wpAny_execs_nil q
  | ret v=>exact q
  | brk=>exact q
  | cont=>exact q
theorem aI.quiet{pins:List (Addr × Obj)}{σ:St}{H:Hp}{s:Shared}(I:aI X pins σ H s):interactive X.env=false:=by simp [interactive,I.ok.kind]
def GH(te:TE):TS:=fun D σ H=>te σ H fun _ H1=>D.nx σ H1
theorem BU(he:PE X e te)(hs:swapsWith e none pos.line X.env=pure false:=by rfl):PS X (.Expr e pos) (GH te):=by
  intro pins s σ H D I h
  exact wpAny_Expr_any (bN (he pins s σ H _ I h) fun v s1 ⟨x,H1,I1,r1,q1⟩=>⟨σ,H1,I1,q1⟩) I.quiet hs
def HG(te:TE):TS:=fun D σ H=>te σ H D.rt
theorem Eo(he:PE X e te):PS X (.Return (some e) pos) (HG te):=by
  intro pins s σ H D I h
  exact wpAny_Return_some (bN (he pins s σ H _ I h) fun v s1 ⟨x,H1,I1,r1,q1⟩=>⟨x,σ,H1,I1,r1,q1⟩)
def HA(c:TT)(t u:TS):TS:=fun D σ H=>c σ H fun b H1=>if b=true then t D σ H1 else u D σ H1
theorem Gm{c:Expr}{a b:List Stmt}{tc:TT}(hc:PT X c tc)(ha:oB X a t)(hb:oB X b u):PS X (.If c a b pos) (HA tc t u):=by
  intro pins s σ H D I h
  refine wpAny_If (bN (hc pins s σ H _ I h) fun d s1 ⟨H1,I1,q1⟩=>?_)
  cases d with
  | true=>exact ha pins s1 σ H1 D I1 q1
  | false=>exact hb pins s1 σ H1 D I1 q1
end
abbrev TG:=V→St→Hp→(St→Hp→Prop)→Prop
abbrev Ay:=List V→St→Hp→(St→Hp→Prop)→Prop
def PG(X:Cx)(target:Expr)(t:TG):Prop:=
  ∀(pins:List (Addr × Obj)) (s:Shared) (σ:St) (H:Hp) (v:V) (u:Value) (Q:St→Hp→Prop),aI X pins σ H s→bE v u→t v σ H Q→
    wpAny (model X.prog X.w) X.A (assign target X.env u) (fun _ s'=>∃σ' H',aI X pins σ' H' s'∧Q σ' H') X.xe s
def x_(X:Cx)(ts:List Expr)(t:Ay):Prop:=
  ∀(pins:List (Addr × Obj)) (s:Shared) (σ:St) (H:Hp) (vs:List V) (us:List Value) (Q:St→Hp→Prop),aI X pins σ H s→aW vs us→t vs σ H Q→
    wpAny (model X.prog X.w) X.A (assignInOrder ((assignEach ts X.env).map (·.2)) us) (fun _ s'=>∃σ' H',aI X pins σ' H' s'∧Q σ' H') X.xe s
abbrev yd:=V→V→V→Hp→(Hp→Prop)→Prop
def Dn(X:Cx)(t:yd):Prop:=
  ∀(pins:List (Addr × Obj)) (s:Shared) (σ:St) (H:Hp) (o i v:V) (ov iv u:Value) (Q:Hp→Prop),aI X pins σ H s→bE o ov→bE i iv→bE v u→t o i v H Q→
    wpAny (model X.prog X.w) X.A (setItem ov iv u) (fun _ s'=>∃H',aI X pins σ H' s'∧Q H') X.xe s
abbrev G0:=V→V→Hp→VK→Prop
def HL(X:Cx)(op:Operator)(t:G0):Prop:=
  ∀(pins:List (Addr × Obj)) (s:Shared) (σ:St) (H:Hp) (x y:V) (v u:Value) (Q:VK),aI X pins σ H s→bE x v→bE y u→t x y H Q→
    wpAny (model X.prog X.w) X.A (inplaceOp op v u) (EP X pins σ Q) X.xe s
section
variable{X:Cx}{pos:Pos}
def wa(i:Nat):TG:=fun v σ H Q=>Q (σ.set i (some v)) H
theorem BJ{i:Nat}{x:Str}(hN:X.N.Nodup)(hi:X.N[i]?=some x)(hx:Dl X.env.scope x)(hf:X.fn x=true∨X.env.scope.names.lookup x=some .local:=by first | exact .inl rfl | exact .inr rfl | assumption):PG X (.Name x pos) (wa i):=by
  intro pins s σ H v u Q I r h
  exact wpAny_assign_Name (mU I hN hi hx r (fun s' I'=>⟨_,H,I',h⟩) hf)
def Hd:Ay:=fun vs σ H Q=>vs=[]∧Q σ H
def FB(t:TG)(u:Ay):Ay:=fun vs σ H Q=>∃v r,vs=v::r∧t v σ H fun σ' H'=>u r σ' H' Q
theorem BL:x_ X [] Hd:=by
  intro pins s σ H vs us Q I r h
  obtain⟨e,h⟩:=h
  subst e
  cases r
  exact assignInOrder_nil ⟨σ,H,I,h⟩
theorem zp{e:Expr}{es:List Expr}{t:TG}{u:Ay}(h1:PG X e t)(h2:x_ X es u)
    (hs:(assignEach (e::es) X.env).map (·.2)=assign e X.env::(assignEach es X.env).map (·.2):=by rfl):x_ X (e::es) (FB t u):=by
  intro pins s σ H vs us Q I r h
  obtain⟨v,vr,e1,h⟩:=h
  subst e1
  cases r with
  | cons r rr=>
    rw [hs]
    refine assignInOrder_cons (bN (h1 pins s σ H _ _ _ I r h) fun _ s1 ⟨σ1,H1,I1,q1⟩=>?_)
    exact h2 pins s1 σ1 H1 _ _ Q I1 rr q1
def FH(K:PySem.W.Frag)(n:Nat)(t:Ay):TG:=fun v σ H Q=>∃a xs,v=.ref a∧cg K H a xs∧xs.length=n∧t xs σ H Q
theorem Ei{es:List Expr}{k:Nat}{t:Ay}{n:Nat}(hc:X.calm=true)(h:x_ X es t)
    (hn:(assignEach es X.env).length=n:=by rfl)(hst:(assignEach es X.env).findIdx? (·.1)=none:=by rfl):PG X (.Tuple es k pos) (FH X.K n t):=by
  intro pins s σ H v u Q I r hw
  obtain⟨a,xs,e1,hq,hl,hw⟩:=hw
  subst e1
  cases r
  obtain⟨its,rv,ht,hz⟩:=I.tuple hq
  refine assign_Tuple_tuple (I.ok.hd hc) ht (by simp [hn,←hl,rv.length]) hst fun h' hx=>?_
  have I1:aI X pins σ H {s with heap:=h'}:=I.kept (t':=s.toks) fun b o e=>hx b o (Nat.ne_of_lt (Heap.lt_size e)) e
  exact h pins _ σ H xs _ Q I1 (by simpa using rv) hw
def He(to ti:TE)(t:yd):TG:=fun v σ H Q=>to σ H fun o H1=>ti σ H1 fun i H2=>t o i v H2 fun H3=>Q σ H3
theorem zo{o i:Expr}{to ti:TE}{t:yd}(ho:PE X o to)(hi:PE X i ti)(hs:Dn X t)
    (ha:∀v,assign (.Subscript o i pos) X.env v=(do
      let ov ←holding [v] (eval o X.env)
      let iv ←holding [v,ov] (eval i X.env)
      standAt pos
      holding [v,ov,iv] (setItem ov iv v)
      release [v,ov,iv] []):=by intro _;rfl):PG X (.Subscript o i pos) (He to ti t):=by
  intro pins s σ H v u Q I r h
  rw [ha]
  refine wpAny_bind (wpAny_holding (bN (ho pins s σ H _ I h) fun ov s1 ⟨x,H1,I1,r1,q1⟩=>?_))
  refine wpAny_bind (wpAny_holding (bN (hi pins s1 σ H1 _ I1 q1) fun iv s2 ⟨y,H2,I2,r2,q2⟩=>?_))
  refine wpAny_bind (wpAny_standAt (wpAny_bind (wpAny_holding (bN (hs pins s2 σ H2 x y v ov iv u _ I2 r1 r2 r q2) fun _ s3 ⟨H3,I3,q3⟩=>?_))))
  exact wpAny_release ⟨σ,H3,I3,q3⟩
def Ca(te:TE)(g:TG):TS:=fun D σ H=>te σ H fun x H1=>g x σ H1 D.nx
theorem vf{tg e:Expr}{te:TE}{g:TG}(he:PE X e te)(hg:PG X tg g)(hs:swapsWithSole [tg] e pos.line X.env=pure false:=by rfl)(hw:swappedStores [tg] e X.env=pure none:=by rfl)
    (h1:(assignEach [tg] X.env).map (·.2)=[assign tg X.env]:=by rfl):PS X (.Assign [tg] e pos) (Ca te g):=by
  intro pins s σ H D I h
  refine wpAny_Assign_stores (bN (he pins s σ H _ I h) fun v s1 ⟨x,H1,I1,r1,q1⟩=>?_) hs hw
  rw [h1]
  exact bN (hg pins s1 σ H1 x v _ I1 r1 q1) fun _ s2 q=>q
theorem zz{i:Nat}{x:Str}{e:Expr}{te:TE}{pos':Pos}(hN:X.N.Nodup)(hi:X.N[i]?=some x)(hx:Dl X.env.scope x)(he:PE X e te)(hs:swapsWith e (some (.Name x pos')) pos.line X.env=pure false:=by rfl)(hf:X.fn x=true∨X.env.scope.names.lookup x=some .local:=by first | exact .inl rfl | exact .inr rfl | assumption):
    PS X (.Assign [.Name x pos'] e pos) (Ca te (wa i)):=by
  intro pins s σ H D I h
  refine wpAny_Assign_Name (bN (he pins s σ H _ I h) fun v s1 ⟨y,H1,I1,r1,q1⟩=>?_) hs
  exact mU I1 hN hi hx r1 (fun s2 I2=>⟨_,H1,I2,q1⟩) hf
def HF(i j:Nat)(ta:TA):TS:=fun D σ H=>ta σ H fun vs H1=>∃v w,vs=[v,w]∧D.nx ((σ.set i (some v)).set j (some w)) H1
theorem Em{i j:Nat}{x y:Str}{a b:Expr}{ta:TA}{px py pt:Pos}{kt k2 pt2}(hc:X.calm=true)(hN:X.N.Nodup)(hi:X.N[i]?=some x)(hj:X.N[j]?=some y)(hij:i≠j)
    (hx:X.env.scope.names.lookup x=some .local)(hy:X.env.scope.names.lookup y=some .local)(ha:PA X [a,b] ta)
    (hw:swappedStores [.Tuple [.Name x px,.Name y py] kt pt] (.Tuple [a,b] k2 pt2) X.env=pure (some [x,y]))
    (hs:swapsWithSole [.Tuple [.Name x px,.Name y py] kt pt] (.Tuple [a,b] k2 pt2) pos.line X.env=pure false:=by rfl):
    PS X (.Assign [.Tuple [.Name x px,.Name y py] kt pt] (.Tuple [a,b] k2 pt2) pos) (HF i j ta):=by
  intro pins s σ H D I h
  rw [exec_Assign_arm]
  refine wpAny_bind (wpAny_standAt ?_)
  rw [hs]
  refine wpAny_bind (wpAny_pure ?_)
  rw [if_neg (by decide)]
  refine wpAny_bind (Tuple_ (bN (ha _ pins s σ H _ I h) fun us s1 ⟨vs,H1,I1,r1,q1⟩=>?_))
  obtain⟨v,w,e1,q1⟩:=q1
  subst e1
  obtain⟨u1,u2,rfl,rv,rw'⟩:∃u1 u2,us=[u1,u2]∧bE v u1∧bE w u2:=by
    cases r1 with
    | cons p q=>
      cases q with
      | cons p' q'=>
        cases q'
        exact⟨_,_,rfl,p,p'⟩
  refine wpAny_newObj_type ?_ (by show 2≤sizeLine;decide)
  have I2:aI X pins σ H1 {s1 with heap:=s1.heap.push {cls:=.type "tuple",data:=.seq [u1,u2].toArray}}:=I1.kept (t':=s1.toks) fun b o e=>Heap.get?_push_of_some _ e
  rw [hw]
  refine wpAny_bind (wpAny_pure ?_)
  show wpAny (model X.prog X.w) X.A (do rule "assign.swapped-stores";let items ←unpackItems (.ref s1.heap.objs.size) 2 none;assignInOrder [fun v=>bindName X.env y v,fun v=>bindName X.env x v] items.reverse;pure Flow.next) _ _ _
  refine wpAny_bind (wpAny_rule (wpAny_bind (unpackItems_tuple (items:=#[u1,u2]) (I.ok.hd hc) (IsTup.new s1.heap _) fun h' hx'=>?_)))
  have I3:=I2.kept (h':=h') (t':=s1.toks) fun b o e=>hx' b o (Nat.ne_of_lt (Heap.lt_size e)) e
  show wpAny _ _ (assignInOrder [fun v=>bindName X.env y v,fun v=>bindName X.env x v] [u2,u1] >>= fun _=>pure Flow.next) _ _ _
  refine wpAny_bind (assignInOrder_cons (wpAny_bindName (mU I3 hN hj (.inl hy) rw' (fun s2 I4=>?_) (.inr hy))))
  refine assignInOrder_cons (wpAny_bindName (mU I4 hN hi (.inl hx) rv (fun s3 I5=>assignInOrder_nil (wpAny_pure ?_)) (.inr hx)))
  rw [List.set_comm _ _ (Ne.symm hij)] at I5
  exact⟨_,H1,I5,q1⟩
def GG(to ti te:TE)(tget:V→V→Hp→VK→Prop)(tip:G0)(tset:yd):TS:=fun D σ H=>to σ H fun o H1=>ti σ H1 fun i H2=>tget o i H2 fun x H3=>te σ H3 fun y H4=>tip x y H4 fun z H5=>tset o i z H5 fun H6=>D.nx σ H6
def Fk(X:Cx)(t:V→V→Hp→VK→Prop):Prop:=
  ∀(pins:List (Addr × Obj)) (s:Shared) (σ:St) (H:Hp) (o i:V) (ov iv:Value) (Q:VK),aI X pins σ H s→bE o ov→bE i iv→t o i H Q→
    wpAny (model X.prog X.w) X.A (getItem ov iv) (EP X pins σ Q) X.xe s
theorem BS{o i e:Expr}{to ti te:TE}{tget:V→V→Hp→VK→Prop}{tip:G0}{tset:yd}{op:Operator}{tpos:Pos}(ho:PE X o to)(hi:PE X i ti)(hg:Fk X tget)(he:PE X e te)(hp:HL X op tip)(hs:Dn X tset)
    (ha:∀ov iv new,augStore i ov iv new=(do holding [new,ov,iv] (setItem ov iv new);release [new,ov,iv] [];pure .next):=by intros;rfl):PS X (.AugAssign (.Subscript o i tpos) op e pos) (GG to ti te tget tip tset):=by
  intro pins s σ H D I h
  refine wpAny_AugAssign_SubscriptAny (bN (ho pins s σ H _ I h) fun ov s1 ⟨x1,H1,I1,r1,q1⟩=>?_) ha
  refine bN (hi pins s1 σ H1 _ I1 q1) fun iv s2 ⟨x2,H2,I2,r2,q2⟩=>?_
  refine bN (hg pins s2 σ H2 x1 x2 ov iv _ I2 r1 r2 q2) fun old s3 ⟨x3,H3,I3,r3,q3⟩=>?_
  refine bN (he pins s3 σ H3 _ I3 q3) fun v s4 ⟨x4,H4,I4,r4,q4⟩=>?_
  refine bN (hp pins s4 σ H4 x3 x4 old v _ I4 r3 r4 q4) fun new s5 ⟨x5,H5,I5,r5,q5⟩=>?_
  exact bN (hs pins s5 σ H5 x1 x2 x5 ov iv new _ I5 r1 r2 r5 q5) fun _ s6 ⟨H6,I6,q6⟩=>⟨σ,H6,I6,q6⟩
def Ik(f:Int→Int→Int):G0:=fun x y H Q=>∃i j,x=.int i∧y=.int j∧Q (.int (f i j)) H
theorem DD:HL X .Add (Ik fun i j=>i+j):=by
  intro pins s σ H x y v u Q I r1 r2 h
  obtain⟨i,j,e1,e2,q⟩:=h
  subst e1;subst e2
  obtain⟨t,rfl⟩:=r1
  obtain⟨t',rfl⟩:=r2
  exact iadd_int ⟨.int _,H,I.tok _,⟨_,rfl⟩,q⟩
end
section
variable{X:Cx}{pos:Pos}
def ES(c:TT)(tb:TS):TS:=fun D σ H=>∃W:Nat→St→Hp→Prop,(∃m,W m σ H)∧∀m σ H,W m σ H→
  c σ H fun b H1=>if b=true then ∃N:St→Hp→Prop,(∀σ' H',N σ' H'→∃m',m' < m∧W m' σ' H')∧tb {D with nx:=N,ct:=N,bk:=D.nx} σ H1 else D.nx σ H1
theorem zA{c:Expr}{body:List Stmt}{tc:TT}{tb:TS}(hp:PassesOwn (model X.prog X.w) X.A X.env X.xe)(hc:PT X c tc)(hb:oB X body tb):PS X (.While c body [] pos) (ES tc tb):=by
  intro pins s σ H D I h
  obtain⟨W,⟨m0,w0⟩,turn⟩:=h
  refine wpAny_While (codeAny_whileLoop (fun n s'=>∃σ' H',aI X pins σ' H' s'∧W n σ' H') ?_ m0 ⟨σ,H,I,w0⟩)
  rintro n s1 ⟨σ1,H1,I1,w1⟩
  refine wpAny_passesOwn hp (bN (hc pins s1 σ1 H1 _ I1 (turn n σ1 H1 w1)) fun b s2 ⟨H2,I2,q2⟩=>?_)
  cases b with
  | true=>
    obtain⟨N,hN,q2⟩:=q2
    rw [if_pos rfl]
    refine wpAny_passesOwn hp (bN (hb pins s2 σ1 H2 _ I2 q2) fun f s3 q3=>?_)
    cases f with
    | next=>
      obtain⟨σ3,H3,I3,n3⟩:=q3
      obtain⟨m',hm,w3⟩:=hN σ3 H3 n3
      exact⟨m',hm,σ3,H3,I3,w3⟩
    | cont=>
      obtain⟨σ3,H3,I3,n3⟩:=q3
      obtain⟨m',hm,w3⟩:=hN σ3 H3 n3
      exact⟨m',hm,σ3,H3,I3,w3⟩
    | brk=>exact q3
    | ret v=>exact q3
  | false=>
    rw [if_neg Bool.false_ne_true]
    exact wpAny_execs_nil ⟨σ1,H2,I2,q2⟩
end
structure It where
  go:Nat→Hp→Prop
  yld:Nat→Hp→V→Hp→Prop
  stop:Nat→Hp→Prop
def gM(X:Cx)(pins:List (Addr × Obj))(H:Hp)(b:Addr):Prop:=
  H b=none∧b≠X.env.locals∧b∉X.fs∧(b∈X.ex∨X.s₀.heap.objs.size≤b)∧(∀x c,X.env.cells.lookup x=some c→c≠b)∧∀p∈X.pn++pins,p.1≠b
theorem aI.fpOk{X:Cx}{pins:List (Addr × Obj)}{σ:St}{H H':Hp}{s:Shared}{b:Addr}(I:aI X pins σ H s)(hb:s.heap.objs.size≤b)(hn:H' b=none):gM X pins H' b:=by
  refine⟨hn,Nat.ne_of_gt (Nat.lt_of_lt_of_le I.lt hb),I.nofs hb,.inr (Nat.le_trans I.sz hb),fun x c e z=>?_,fun p hp z=>?_⟩
  · obtain⟨v,q⟩:=I.cell x c e
    exact absurd (Nat.lt_of_lt_of_le q.lt (by rw [z];exact hb)) (Nat.lt_irrefl _)
  · exact absurd (Nat.lt_of_lt_of_le (Heap.lt_size (I.pin p hp).1) (by rw [z];exact hb)) (Nat.lt_irrefl _)
structure qf (P:Program) (w:World) (K:PySem.W.Frag) (tg:Expr) (J:It) (fp:List Addr) (it:Addr) (tn:Nat→Heap→Prop):Prop where
  mem:it∈fp
  obj:∀i h,tn i h→∀b∈fp,∃o,h.get? b=some o∧∀v,o.data≠.cell v
  keep:∀i h h',tn i h→(∀b∈fp,∀o,h.get? b=some o→h'.get? b=some o)→tn i h'
  item:∀(X:Cx),X.prog=P→X.w=w→X.K=K→X.calm=true→∀(i:Nat) (pins:List (Addr × Obj)) (s:Shared) (σ:St) (H:Hp) (E:Value→Shared→Prop),aI X pins σ H s→(∀b∈fp,gM X pins H b)→tn i s.heap→J.go i H→
    wpAny (model P w) X.A (pyNext (.ref it)) (fun r s1=>∃u,r=some u∧
      wpAny (model P w) X.A (letOwnedTupleGo tg (.ref it) u) (fun _ s2=>∃x H',aI X pins σ H' s2∧bE x u∧J.yld i H x H'∧tn (i+1) s2.heap∧∀b∈fp,H' b=none) E s1) E s
  done:∀(X:Cx),X.prog=P→X.w=w→X.K=K→X.calm=true→∀(i:Nat) (pins:List (Addr × Obj)) (s:Shared) (σ:St) (H:Hp) (E:Value→Shared→Prop),aI X pins σ H s→(∀b∈fp,gM X pins H b)→tn i s.heap→J.stop i H→
    wpAny (model P w) X.A (pyNext (.ref it)) (fun r s1=>r=none∧aI X pins σ H s1) E s
  self:∀(A:Around) (i:Nat) (s:Shared) (Q:Value→Shared→Prop) (E:Value→Shared→Prop),tn i s.heap→Q (.ref it) s→wpAny (model P w) A (pyIter (.ref it)) Q E s
abbrev TI:=St→Hp→(It→Hp→Prop)→Prop
def HK(X:Cx)(pins:List (Addr × Obj))(σ:St)(tg:Expr)(R:It→Hp→Prop)(itv:Value)(s2:Shared):Prop:=
  ∃(it:Addr) (fp:List Addr) (tn:Nat→Heap→Prop) (J:It) (H':Hp),itv=.ref it∧aI X pins σ H' s2∧qf X.prog X.w X.K tg J fp it tn∧tn 0 s2.heap∧(∀b∈fp,gM X pins H' b)∧R J H'
def PI(X:Cx)(tg iter:Expr)(wi:TI):Prop:=
  ∀(pins:List (Addr × Obj)) (s:Shared) (σ:St) (H:Hp) (R:It→Hp→Prop),aI X pins σ H s→wi σ H R→
    wpAny (model X.prog X.w) X.A (eval iter X.env) (fun v s1=>wpAny (model X.prog X.w) X.A (pyIter v) (HK X pins σ tg R) X.xe s1) X.xe s
theorem yD{M:Model}{A:Around}{E:Value→Shared→Prop}{s:Shared}{tg:Expr}{it:Addr}{u:Value}{o:Obj}{n:String}{vs:Array Value}{Q:Unit→Shared→Prop}(ho:s.heap.get? it=some o)(hc:o.cls=.type n)(hd:o.data=.fields vs)
    (hn:["enumerate","zip","dict_itemiterator","dict_reverseitemiterator","odict_iterator","itertools.zip_longest","itertools.pairwise"].contains n=false)(hQ:Q () s):wpAny M A (letOwnedTupleGo tg (.ref it) u) Q E s:=by
  unfold letOwnedTupleGo
  cases tg<;>first
    | exact wpAny_pure hQ
    | (cases u<;>first
        | exact wpAny_pure hQ
        | (refine wpAny_bind (wpAny_load ho ?_)
           rw [hc,hd]
           show wpAny M A (if (["enumerate","zip","dict_itemiterator","dict_reverseitemiterator","odict_iterator","itertools.zip_longest","itertools.pairwise"].contains n&&vs[0]?==some (rawInt _))=true then _ else _) Q E s
           rw [if_neg (by intro h;rw [hn,Bool.false_and] at h;cases h)]
           exact wpAny_pure hQ))
def G6(K:PySem.W.Frag)(a:Addr):It:=
  ⟨fun i H=>∃xs x,cW K H a xs∧xs[i]?=some x,fun i H x H'=>H'=H∧∀xs,cW K H a xs→xs[i]?=some x,fun i H=>∃xs,cW K H a xs∧xs.length≤i⟩
def G7(K:PySem.W.Frag)(a:Addr):It:=
  ⟨fun i H=>∃xs x,cg K H a xs∧xs[i]?=some x,fun i H x H'=>H'=H∧∀xs,cg K H a xs→xs[i]?=some x,fun i H=>∃xs,cg K H a xs∧xs.length≤i⟩
def GW(lo:Int)(n:Nat):It:=⟨fun i _=>i < n,fun i H x H'=>H'=H∧x=.int (lo+i),fun i _=>n≤i⟩
theorem xW{P:Program}{w:World}{K:PySem.W.Frag}{tg:Expr}(a it:Addr):qf P w K tg (G6 K a) [it] it (fun i h=>h.IsListIter it a i) where
  mem:=by simp
  obj:=fun i h st b hb=>by
    have e:b=it:=by simpa using hb
    subst e
    obtain⟨o,e,c,d⟩:=st
    exact⟨o,e,fun v z=>by rw [d] at z;cases z⟩
  keep:=fun i h h' st k=>st.at fun o e=>k it (by simp) o e
  item:=by
    intro X hP hw hK hc i pins s σ H E I hf st hg
    subst hP hw hK
    obtain⟨xs,x,hq,hx⟩:=hg
    obtain⟨its,rv,p,hz⟩:=I.list hq
    obtain⟨u,hu,ru⟩:=rv.get hx
    obtain⟨f0,f1,f2,f3,f4,f5⟩:=hf it (by simp)
    refine wpAny_pyNext_list_item st p.isList (x:=u) (by simpa using hu) fun h' st' sb=>?_
    have I1:aI X pins σ H {s with heap:=h'}:=I.turned (t':=s.toks) (fun b o hb e=>(sb.2 b hb).trans e) f0 f1 f3 f4 f5
    obtain⟨o,e,c,d⟩:=id st'
    exact⟨u,rfl,yD (s:={s with heap:=h'}) e c d (by decide) ⟨x,H,I1,ru,⟨rfl,fun ys hy=>by rw [I.list_inj hy hq];exact hx⟩,st',fun b hb=>(hf b hb).1⟩⟩
  done:=by
    intro X hP hw hK hc i pins s σ H E I hf st hg
    subst hP hw hK
    obtain⟨xs,hq,hx⟩:=hg
    obtain⟨its,rv,p,hz⟩:=I.list hq
    obtain⟨f0,f1,f2,f3,f4,f5⟩:=hf it (by simp)
    have hl:=rv.length
    exact wpAny_pyNext_list_end (I.ok.hd hc) st p.isList (by simp;lia) fun h' eb=>⟨rfl,I.turned (t':=s.toks) (fun b o hb e=>eb b o hb e) f0 f1 f3 f4 f5⟩
  self:=fun _ _ _ _ _ st h=>wpAny_pyIter_listiter st h
theorem vA{P:Program}{w:World}{K:PySem.W.Frag}{tg:Expr}(a it:Addr):qf P w K tg (G7 K a) [it] it (fun i h=>h.IsTupleIter it a i) where
  mem:=by simp
  obj:=fun i h st b hb=>by
    have e:b=it:=by simpa using hb
    subst e
    obtain⟨o,e,c,d⟩:=st
    exact⟨o,e,fun v z=>by rw [d] at z;cases z⟩
  keep:=fun i h h' st k=>st.at fun o e=>k it (by simp) o e
  item:=by
    intro X hP hw hK hc i pins s σ H E I hf st hg
    subst hP hw hK
    obtain⟨xs,x,hq,hx⟩:=hg
    obtain⟨its,rv,p,hz⟩:=I.tuple hq
    obtain⟨u,hu,ru⟩:=rv.get hx
    obtain⟨f0,f1,f2,f3,f4,f5⟩:=hf it (by simp)
    refine wpAny_pyNext_tuple_item st (show s.heap.IsTuple a its.toArray from p) (x:=u) (by simpa using hu) fun h' st' sb=>?_
    have I1:aI X pins σ H {s with heap:=h'}:=I.turned (t':=s.toks) (fun b o hb e=>(sb.2 b hb).trans e) f0 f1 f3 f4 f5
    obtain⟨o,e,c,d⟩:=id st'
    exact⟨u,rfl,yD (s:={s with heap:=h'}) e c d (by decide) ⟨x,H,I1,ru,⟨rfl,fun ys hy=>by rw [I.tuple_inj hy hq];exact hx⟩,st',fun b hb=>(hf b hb).1⟩⟩
  done:=by
    intro X hP hw hK hc i pins s σ H E I hf st hg
    subst hP hw hK
    obtain⟨xs,hq,hx⟩:=hg
    obtain⟨its,rv,p,hz⟩:=I.tuple hq
    obtain⟨f0,f1,f2,f3,f4,f5⟩:=hf it (by simp)
    have hl:=rv.length
    exact wpAny_pyNext_tuple_end (I.ok.hd hc) st (show s.heap.IsTuple a its.toArray from p) (by simp;lia) fun h' eb=>⟨rfl,I.turned (t':=s.toks) (fun b o hb e=>eb b o hb e) f0 f1 f3 f4 f5⟩
  self:=fun _ _ _ _ _ st h=>wpAny_pyIter_tupleiter st h
theorem vz{P:Program}{w:World}{K:PySem.W.Frag}{tg:Expr}(it:Addr)(lo:Int)(n:Nat):qf P w K tg (GW lo n) [it] it (fun i h=>IsRangeIter h it (lo+(i:Nat)*1) ((n:Int) - (i:Nat)) 1) where
  mem:=by simp
  obj:=fun i h st b hb=>by
    have e:b=it:=by simpa using hb
    subst e
    exact⟨_,st,fun v z=>by
      have z':Data.fields _=Data.cell v:=z
      cases z'⟩
  keep:=fun i h h' st k=>k it (by simp) _ st
  item:=by
    intro X hP hw hK hc i pins s σ H E I hf st hg
    subst hP hw hK
    obtain⟨f0,f1,f2,f3,f4,f5⟩:=hf it (by simp)
    have W:=Walks.range (prog:=X.prog) (w:=X.w) (I.ok.hd hc) it lo 1 n
    refine W.item i s _ _ hg st fun v h' tk hv st' kk=>?_
    obtain⟨t,rfl⟩:=hv
    have I1:aI X pins σ H {s with heap:=h',toks:=tk}:=I.turned (fun b o hb e=>kk b o (by simpa using hb) e) f0 f1 f3 f4 f5
    refine⟨_,rfl,yD (s:={s with heap:=h',toks:=tk}) (n:="range_iterator") st' rfl rfl (by decide) ⟨.int (lo+i),H,I1,⟨t,?_⟩,⟨rfl,rfl⟩,st',fun b hb=>(hf b hb).1⟩⟩
    rw [Int.mul_one]
  done:=by
    intro X hP hw hK hc i pins s σ H E I hf st hg
    subst hP hw hK
    obtain⟨f0,f1,f2,f3,f4,f5⟩:=hf it (by simp)
    exact wpAny_pyNext_range_end (I.ok.hd hc) st (by have:n≤i:=hg;lia) fun h' eb=>⟨rfl,I.turned (t':=s.toks) (fun b o hb e=>eb b o hb e) f0 f1 f3 f4 f5⟩
  self:=fun _ _ _ _ _ st h=>wpAny_pyIter_rangeiter st h
end L2
namespace L2
open PySem PySem.Spec PyProof.Rows
section
variable{X:Cx}{tg:Expr}
def CV(K:PySem.W.Frag)(tl:TE):TI:=fun σ H R=>tl σ H fun x H1=>∃a,x=.ref a∧(∃xs,cW K H1 a xs)∧R (G6 K a) H1
def FK(K:PySem.W.Frag)(tl:TE):TI:=fun σ H R=>tl σ H fun x H1=>∃a,x=.ref a∧(∃xs,cg K H1 a xs)∧R (G7 K a) H1
theorem BM{l:Expr}{tl:TE}(hl:PE X l tl):PI X tg l (CV X.K tl):=by
  intro pins s σ H R I h
  refine bN (hl pins s σ H _ I h) fun v s1 ⟨x,H1,I1,r1,q1⟩=>?_
  obtain⟨a,e,⟨xs,hq⟩,q⟩:=q1
  subst e
  cases r1
  obtain⟨its,rv,p,hz⟩:=I1.list hq
  refine wpAny_pyIter_list p.isList ?_
  refine⟨s1.heap.objs.size,[s1.heap.objs.size],_,_,H1,rfl,I1.kept (t':=s1.toks) fun b o e=>Heap.get?_push_of_some _ e,xW a _,⟨_,Heap.get?_push_size _ rfl,rfl,rfl⟩,fun b hb=>?_,q⟩
  have e:b=s1.heap.objs.size:=by simpa using hb
  subst e
  exact I1.fpOk (Nat.le_refl _) (I1.hok.fresh (Nat.le_refl _))
theorem Ej{l:Expr}{tl:TE}(hl:PE X l tl):PI X tg l (FK X.K tl):=by
  intro pins s σ H R I h
  refine bN (hl pins s σ H _ I h) fun v s1 ⟨x,H1,I1,r1,q1⟩=>?_
  obtain⟨a,e,⟨xs,hq⟩,q⟩:=q1
  subst e
  cases r1
  obtain⟨its,rv,p,hz⟩:=I1.tuple hq
  refine wpAny_pyIter_tuple (show s1.heap.IsTuple a its.toArray from p) ?_
  refine⟨s1.heap.objs.size,[s1.heap.objs.size],_,_,H1,rfl,I1.kept (t':=s1.toks) fun b o e=>Heap.get?_push_of_some _ e,vA a _,⟨_,Heap.get?_push_size _ rfl,rfl,rfl⟩,fun b hb=>?_,q⟩
  have e:b=s1.heap.objs.size:=by simpa using hb
  subst e
  exact I1.fpOk (Nat.le_refl _) (I1.hok.fresh (Nat.le_refl _))
theorem zM{pins:List (Addr × Obj)}{σ:St}{H:Hp}{s:Shared}{R:It→Hp→Prop}{E:Value→Shared→Prop}{lo hi:Int}{t u v:Tok}{tk:Nat}(I:aI X pins σ H s)(h1: -(2 ^ 62)≤lo)(h2:lo < 2 ^ 62)(h3: -(2 ^ 62)≤hi)(h4:hi < 2 ^ 62)
    (q:R (GW lo (hi - lo).toNat) H):wpAny (model X.prog X.w) X.A (pyIter (.ref s.heap.objs.size)) (HK X pins σ tg R) E {s with heap:=s.heap.push {cls:=.type "range",data:=.fields #[.int lo t,.int hi u,.int 1 v]},toks:=tk}:=by
  refine wpAny_pyIter_range (IsRange.new ..) (small_one h1 h2 h3 h4) ?_
  have I1:aI X pins σ H {s with heap:=s.heap.push {cls:=.type "range",data:=.fields #[.int lo t,.int hi u,.int 1 v]},toks:=tk}:=I.kept fun b o e=>Heap.get?_push_of_some _ e
  refine⟨(s.heap.push {cls:=.type "range",data:=.fields #[.int lo t,.int hi u,.int 1 v]}).objs.size,[(s.heap.push {cls:=.type "range",data:=.fields #[.int lo t,.int hi u,.int 1 v]}).objs.size],_,_,H,rfl,
    I1.kept (t':=tk) fun b o e=>Heap.get?_push_of_some _ e,vz _ lo (hi - lo).toNat,?_,fun b hb=>?_,q⟩
  · have e1:lo+((0:Nat):Int)*1=lo:=by simp
    have e2:(((hi - lo).toNat:Nat):Int) - ((0:Nat):Int)=Builtin.Range.rangeSize lo hi 1:=by rw [rangeSize_one];split<;>lia
    show IsRangeIter _ _ (lo+((0:Nat):Int)*1) ((((hi - lo).toNat:Nat):Int) - ((0:Nat):Int)) 1
    rw [e1,e2]
    exact Heap.get?_push_size _ rfl
  · have e:b=(s.heap.push {cls:=.type "range",data:=.fields #[.int lo t,.int hi u,.int 1 v]}).objs.size:=by simpa using hb
    subst e
    exact I1.fpOk (Nat.le_refl _) (I1.hok.fresh (Nat.le_refl _))
def FJ(ta:TA):TI:=fun σ H R=>ta σ H fun vs H1=>∃j:Int,vs=[.int j]∧ -(2 ^ 62)≤j∧j < 2 ^ 62∧R (GW 0 j.toNat) H1
theorem xJ{a:Expr}{ta:TA}{p pos:Pos}(hg:Gl X "range")(hm:X.mg "range"=none)(ha:PA X [a] ta)(hs:starEach [a] X.env=[(false,eval a X.env)]:=by rfl):PI X tg (.Call (.Name "range" p) [a] [] pos) (FJ ta):=by
  intro pins s σ H R I h
  refine Call_ (gD I hg hm boot_range (PyProof.Rows.callWith_type1 (bN (ha pos pins s σ H _ I h) fun us s1 ⟨vs,H1,I1,r1,q1⟩=>?_) hs rfl))
  obtain⟨j,e,q1,q2,q⟩:=q1
  subst e
  cases r1 with
  | cons r rr=>
    cases rr
    obtain⟨t,rfl⟩:=r
    exact call_range_1 (zM I1 (by lia) (by lia) q1 q2 (by simpa using q))
def Hz(wi:TI)(g:TG)(tb:TS):TS:=fun D σ H=>wi σ H fun J H1=>∃W:Nat→Nat→St→Hp→Prop,(∃m,W 0 m σ H1)∧∀i m σ H,W i m σ H→
  (J.stop i H∧D.nx σ H)∨(J.go i H∧∃N:St→Hp→Prop,(∀σ' H',N σ' H'→∃m',m' < m∧W (i+1) m' σ' H')∧∀x H',J.yld i H x H'→g x σ H' fun σ2 H2=>tb {D with nx:=N,ct:=N,bk:=D.nx} σ2 H2)
def kB(fp:List Addr)(h:Heap):List (Addr × Obj):=fp.filterMap fun b=>(h.get? b).map fun o=>(b,o)
theorem cf{fp:List Addr}{h:Heap}{b:Addr}{o:Obj}(hb:b∈fp)(e:h.get? b=some o):(b,o)∈kB fp h:=List.mem_filterMap.mpr ⟨b,hb,by rw [e];rfl⟩
theorem xw{fp:List Addr}{h:Heap}{p:Addr × Obj}(hp:p∈kB fp h):p.1∈fp∧h.get? p.1=some p.2:=by
  obtain⟨b,hb,e⟩:=List.mem_filterMap.mp hp
  cases q:h.get? b with
  | none=>rw [q] at e;cases e
  | some o=>
    rw [q] at e
    have e':(b,o)=p:=Option.some.inj e
    subst e'
    exact⟨hb,q⟩
theorem aI.pinned{pins:List (Addr × Obj)}{σ:St}{H:Hp}{s:Shared}{fp:List Addr}(I:aI X pins σ H s)(hf:∀b∈fp,gM X pins H b)(ho:∀b∈fp,∃o,s.heap.get? b=some o∧∀v,o.data≠.cell v):aI X (pins++kB fp s.heap) σ H s:=
  I.pins_of fun p hp=>(List.mem_append.mp hp).elim (fun z=>I.pin p (List.mem_append_right _ z)) fun z=>by
    obtain⟨hb,e⟩:=xw z
    obtain⟨f0,f1,f2,_⟩:=hf p.1 hb
    obtain⟨o,e',d⟩:=ho p.1 hb
    rw [e] at e';cases e'
    exact⟨e,f0,f1,f2,d⟩
theorem aI.unpinned{pins pl:List (Addr × Obj)}{σ:St}{H:Hp}{s:Shared}(I:aI X (pins++pl) σ H s):aI X pins σ H s:=I.pins_of fun p hp=>I.pin p (List.mem_append_right _ (List.mem_append_left _ hp))
theorem El{iter:Expr}{body:List Stmt}{wi:TI}{g:TG}{tb:TS}{pos:Pos}(hp:PassesOwn (model X.prog X.w) X.A X.env X.xe)(hc:X.calm=true)(hi:PI X tg iter wi)(hg:PG X tg g)(hb:oB X body tb)
    (hs:∀x,foldedSetIterable iter X.env x=pure x:=by intro _;rfl):PS X (.For tg iter body [] pos) (Hz wi g tb):=by
  intro pins s σ H D I h
  refine wpAny_For (bN (hi pins s σ H _ I h) fun v s1 h1=>bN h1 fun itv s2 h2=>?_) hs
  obtain⟨it,fp,tn,J,H2,e,I2,T,st2,f2,W,⟨m0,w0⟩,turn⟩:=h2
  subst e
  have stat:∀{H':Hp},(∀b∈fp,H' b=none)→∀b∈fp,gM X pins H' b:=fun hn b hb=>⟨hn b hb,(f2 b hb).2⟩
  refine codeAny_forLoop_any (fun n s'=>∃i σ' H',aI X pins σ' H' s'∧tn i s'.heap∧(∀b∈fp,H' b=none)∧W i n σ' H') ?_ m0 ⟨0,σ,H2,I2,st2,fun b hb=>(f2 b hb).1,w0⟩
  rintro n s3 ⟨i,σ3,H3,I3,st3,fr3,w3⟩
  rcases turn i n σ3 H3 w3 with ⟨stop,qn⟩ | ⟨go,N,hN,step⟩
  · refine wpAny_passesOwn hp (bN (T.done X rfl rfl rfl hc i pins s3 σ3 H3 X.xe I3 (stat fr3) st3 stop) fun r s4 ⟨hr,I4⟩=>?_)
    subst hr
    exact wpAny_execs_nil ⟨σ3,H3,I4,qn⟩
  · refine wpAny_passesOwn hp (bN (T.item X rfl rfl rfl hc i pins s3 σ3 H3 X.xe I3 (stat fr3) st3 go) fun r s4 ⟨u,hr,h4⟩=>?_)
    subst hr
    refine wpAny_passesOwn hp (bN h4 fun _ s5 ⟨x,H5,I5,r5,y5,st5,fr5⟩=>?_)
    have I5':=I5.pinned (stat fr5) (T.obj _ _ st5)
    refine wpAny_passesOwn hp (bN (hg _ s5 σ3 H5 x u _ I5' r5 (step x H5 y5)) fun _ s6 ⟨σ6,H6,I6,q6⟩=>?_)
    refine wpAny_passesOwn hp (bN (hb _ s6 σ6 H6 _ I6 q6) fun f s7 q7=>?_)
    have again:∀{σ7:St} {H7:Hp},aI X (pins++kB fp s5.heap) σ7 H7 s7→N σ7 H7→∃m,m < n∧∃i σ' H',aI X pins σ' H' s7∧tn i s7.heap∧(∀b∈fp,H' b=none)∧W i m σ' H':=fun{σ7 H7} I7 n7=>by
      obtain⟨m',hm,w7⟩:=hN σ7 H7 n7
      refine⟨m',hm,i+1,σ7,H7,I7.unpinned,T.keep _ _ _ st5 fun b hb o e=>(I7.pin (b,o) (List.mem_append_right _ (List.mem_append_right _ (cf hb e)))).1,fun b hb=>?_,w7⟩
      obtain⟨o,e,d⟩:=T.obj _ _ st5 b hb
      exact(I7.pin (b,o) (List.mem_append_right _ (List.mem_append_right _ (cf hb e)))).2.1
    cases f with
    | next=>obtain⟨σ7,H7,I7,n7⟩:=q7;exact again I7 n7
    | cont=>obtain⟨σ7,H7,I7,n7⟩:=q7;exact again I7 n7
    | brk=>obtain⟨σ7,H7,I7,q7⟩:=q7;exact⟨σ7,H7,I7.unpinned,q7⟩
    | ret v=>obtain⟨x7,σ7,H7,I7,r7,q7⟩:=q7;exact⟨x7,σ7,H7,I7.unpinned,r7,q7⟩
end
end L2
namespace L2
open PySem PySem.Spec PyProof.Rows
abbrev R2:=V→V→Hp→VK→Prop
def ib(X:Cx)(f:Value→Value→Sem Value)(r:R2):Prop:=
  ∀(pins:List (Addr × Obj)) (s:Shared) (σ:St) (H:Hp) (x y:V) (v u:Value) (Q:VK),aI X pins σ H s→bE x v→bE y u→r x y H Q→
    wpAny (model X.prog X.w) X.A (f v u) (EP X pins σ Q) X.xe s
def G1(X:Cx)(f:Value→Sem Value)(r:V→Hp→VK→Prop):Prop:=
  ∀(pins:List (Addr × Obj)) (s:Shared) (σ:St) (H:Hp) (x:V) (v:Value) (Q:VK),aI X pins σ H s→bE x v→r x H Q→
    wpAny (model X.prog X.w) X.A (f v) (EP X pins σ Q) X.xe s
def ed(X:Cx)(f:Value)(r:List V→Hp→VK→Prop):Prop:=
  ∀(pins:List (Addr × Obj)) (s:Shared) (σ:St) (H:Hp) (xs:List V) (us:List Value) (Q:VK),aI X pins σ H s→aW xs us→r xs H Q→
    wpAny (model X.prog X.w) X.A (call f us) (EP X pins σ Q) X.xe s
def GM(r:R2)(ta tb:TE):TE:=fun σ H Q=>ta σ H fun x H1=>tb σ H1 fun y H2=>r x y H2 Q
def HV(r:V→Hp→VK→Prop)(ta:TE):TE:=fun σ H Q=>ta σ H fun x H1=>r x H1 Q
def rI(C:Int→Int→Prop)(g:Int→Int→V):R2:=fun x y H Q=>∃i j,x=.int i∧y=.int j∧C i j∧Q (g i j) H
def vm(g:Int→Int→V):R2:=fun x y H Q=>∃i j,x=.int i∧y=.int j∧Q (g i j) H
def rU(g:Int→V):V→Hp→VK→Prop:=fun x H Q=>∃i,x=.int i∧Q (g i) H
section
variable{X:Cx}{a b c:Expr}{ta tb tc:TE}{pos:Pos}
theorem Dp(ha:PE X a ta)(hb:PE X b tb){pins:List (Addr × Obj)}{s:Shared}{σ:St}{H:Hp}{R:V→V→Hp→Prop}(I:aI X pins σ H s)
    (h:ta σ H fun x H1=>tb σ H1 fun y H2=>R x y H2){Q:Value→Shared→Prop}{f:Value→Value→Sem Value}
    (hf:∀v u s2 x y H2,aI X pins σ H2 s2→bE x v→bE y u→R x y H2→wpAny (model X.prog X.w) X.A (f v u) Q X.xe s2):
    wpAny (model X.prog X.w) X.A (eval a X.env) (fun v s₁=>wpAny (model X.prog X.w) X.A (eval b X.env) (fun u s₂=>wpAny (model X.prog X.w) X.A (f v u) Q X.xe s₂) X.xe s₁) X.xe s:=by
  refine bN (ha pins s σ H _ I h) fun v s1 ⟨x,H1,I1,r1,q1⟩=>?_
  refine bN (hb pins s1 σ H1 _ I1 q1) fun u s2 ⟨y,H2,I2,r2,q2⟩=>?_
  exact hf v u s2 x y H2 I2 r1 r2 q2
theorem C4{op:Operator}{r:R2}(ho:ib X (binaryOp op) r)(ha:PE X a ta)(hb:PE X b tb):PE X (.BinOp a op b pos) (GM r ta tb):=by
  intro pins s σ H Q I h
  exact wpAny_BinOp (Dp ha hb I h fun v u s2 x y H2 I2 rx ry q=>ho pins s2 σ H2 x y v u Q I2 rx ry q)
theorem Gj{op:UnaryOp}{r:V→Hp→VK→Prop}(ho:G1 X (unaryOp op) r)(ha:PE X a ta):PE X (.UnaryOp op a pos) (HV r ta):=by
  intro pins s σ H Q I h
  exact UnaryOp_ (bN (ha pins s σ H _ I h) fun v s1 ⟨x,H1,I1,r1,q1⟩=>ho pins s1 σ H1 x v Q I1 r1 q1)
theorem Ga{f:Value→Value→Sem Value}{C:Int→Int→Prop}{g:Int→Int→Int}
    (rule:∀(i j:Int) (t u:Tok) (s:Shared) (Q:Value→Shared→Prop) (E:Value→Shared→Prop),C i j→Q (.int (g i j) s.toks) {s with toks:=s.toks+1}→wpAny (model X.prog X.w) X.A (f (.int i t) (.int j u)) Q E s):
    ib X f (rI C fun i j=>.int (g i j)):=by
  intro pins s σ H x y v u Q I rx ry h
  obtain⟨i,j,rfl,rfl,hc,q⟩:=h
  obtain⟨t,rfl⟩:=rx
  obtain⟨t',rfl⟩:=ry
  exact rule i j t t' s _ _ hc ⟨.int (g i j),H,I.tok _,⟨_,rfl⟩,q⟩
theorem Gb{f:Value→Value→Sem Value}{g:Int→Int→Int}
    (rule:∀(i j:Int) (t u:Tok) (s:Shared) (Q:Value→Shared→Prop) (E:Value→Shared→Prop),Q (.int (g i j) s.toks) {s with toks:=s.toks+1}→wpAny (model X.prog X.w) X.A (f (.int i t) (.int j u)) Q E s):
    ib X f (vm fun i j=>.int (g i j)):=by
  intro pins s σ H x y v u Q I rx ry h
  obtain⟨i,j,rfl,rfl,q⟩:=h
  obtain⟨t,rfl⟩:=rx
  obtain⟨t',rfl⟩:=ry
  exact rule i j t t' s _ _ ⟨.int (g i j),H,I.tok _,⟨_,rfl⟩,q⟩
theorem Bq{f:Value→Value→Sem Value}{g:Int→Int→Bool}
    (rule:∀(i j:Int) (t u:Tok) (s:Shared) (Q:Value→Shared→Prop) (E:Value→Shared→Prop),Q (.bool (g i j)) s→wpAny (model X.prog X.w) X.A (f (.int i t) (.int j u)) Q E s):
    ib X f (vm fun i j=>.bl (g i j)):=by
  intro pins s σ H x y v u Q I rx ry h
  obtain⟨i,j,rfl,rfl,q⟩:=h
  obtain⟨t,rfl⟩:=rx
  obtain⟨t',rfl⟩:=ry
  exact rule i j t t' s _ _ ⟨.bl (g i j),H,I,rfl,q⟩
def Dh(i j:Int):Prop:=0≤j∧j≤1000000∧i.natAbs < 2 ^ 64
def AC(i j:Int):Prop:=(-(2 ^ 64) < i∧i < 2 ^ 64)∨(-(2 ^ 64) < j∧j < 2 ^ 64)
theorem AC.ok{i j:Int}(h:AC i j):IntMulOk i j:=by
  rcases h with ⟨h1,h2⟩ | ⟨h1,h2⟩
  · exact .of_left (intBits_le_64 h1 h2)
  · exact .of_right (intBits_le_64 h1 h2)
theorem y6:ib X (binaryOp .Add) (vm fun i j=>.int (i+j)):=Gb fun _ _ _ _ _ _ _ q=>add_int q
theorem Ed:ib X (binaryOp .Sub) (vm fun i j=>.int (i - j)):=Gb fun _ _ _ _ _ _ _ q=>sub_int q
theorem D':ib X (binaryOp .Mult) (rI AC fun i j=>.int (i*j)):=Ga fun _ _ _ _ _ _ _ hc q=>mul_int q hc.ok
theorem Bv:ib X (binaryOp .Mod) (rI (fun _ j=>j≠0) fun i j=>.int (i.fmod j)):=Ga fun _ _ _ _ _ _ _ hc q=>mod_int' hc q
theorem Eb:ib X (binaryOp .Pow) (rI Dh fun i j=>.int (i ^ j.toNat)):=Ga fun _ _ _ _ _ _ _ hc q=>pow_int_small hc.1 hc.2.1 hc.2.2 q
theorem Ir{f:Value→Sem Value}{g:Int→Int}
    (rule:∀(i:Int) (t:Tok) (s:Shared) (Q:Value→Shared→Prop) (E:Value→Shared→Prop),Q (.int (g i) s.toks) {s with toks:=s.toks+1}→wpAny (model X.prog X.w) X.A (f (.int i t)) Q E s):
    G1 X f (rU fun i=>.int (g i)):=by
  intro pins s σ H x v Q I rx h
  obtain⟨i,rfl,q⟩:=h
  obtain⟨t,rfl⟩:=rx
  exact rule i t s _ _ ⟨.int (g i),H,I.tok _,⟨_,rfl⟩,q⟩
theorem E7:G1 X (unaryOp .USub) (rU fun i=>.int (-i)):=Ir fun _ _ _ _ _ q=>neg_int q
end
section
variable{X:Cx}{a b c:Expr}{ta tb tc:TE}{pos:Pos}
theorem yw{pins:List (Addr × Obj)}{σ:St}{H:Hp}{s:Shared}{Q:VK}{k k':Bool}(I:aI X pins σ H s)(q:Q (.bl k) H)(e:k=k'):EP X pins σ Q (.bool k') s:=by
  subst e
  exact⟨.bl k,H,I,rfl,q⟩
theorem Gf:ib X (compareOp .Lt) (vm fun i j=>.bl (decide (i < j))):=Bq fun _ _ _ _ _ _ _ q=>lt_int q
theorem Ge:ib X (compareOp .LtE) (vm fun i j=>.bl (decide (i≤j))):=Bq fun _ _ _ _ _ _ _ q=>le_int q
theorem Gd:ib X (compareOp .Gt) (vm fun i j=>.bl (decide (j < i))):=Bq fun _ _ _ _ _ _ _ q=>gt_int q
theorem Gc:ib X (compareOp .GtE) (vm fun i j=>.bl (decide (j≤i))):=Bq fun _ _ _ _ _ _ _ q=>ge_int q
theorem D_:ib X (compareOp .Is) (fun x y H Q=>y=.non∧Q (.bl (decide (x=.non))) H):=by
  intro pins s σ H x y v u Q I rx ry h
  obtain⟨rfl,q⟩:=h
  cases ry
  refine is_none_gen (yw I q ?_)
  cases x<;>first
    | (cases rx;rfl)
    | (obtain⟨t,rfl⟩:=rx;rfl)
theorem Bz:ib X (compareOp .IsNot) (fun x y H Q=>y=.non∧Q (.bl (!decide (x=.non))) H):=by
  intro pins s σ H x y v u Q I rx ry h
  obtain⟨rfl,q⟩:=h
  cases ry
  refine isnot_none_gen (yw I q ?_)
  cases x<;>first
    | (cases rx;rfl)
    | (obtain⟨t,rfl⟩:=rx;rfl)
theorem ib.or{f:Value→Value→Sem Value}{r r':R2}(h:ib X f r)(h':ib X f r'):ib X f (fun x y H Q=>r x y H Q∨r' x y H Q):=by
  intro pins s σ H x y v u Q I rx ry q
  rcases q with q | q
  · exact h pins s σ H x y v u Q I rx ry q
  · exact h' pins s σ H x y v u Q I rx ry q
theorem aO(b:Expr){op:CmpOp}(h:op≠.In:=by decide)(h2:op≠.NotIn:=by decide):behindInMarks op b=false:=by
  have e1:(op==CmpOp.In)=false:=by cases op<;>first | rfl | exact absurd rfl h
  have e2:(op==CmpOp.NotIn)=false:=by cases op<;>first | rfl | exact absurd rfl h2
  cases b<;>simp [behindInMarks,e1,e2]
theorem BF{op:CmpOp}{r:R2}(ho:ib X (compareOp op) r)(ha:PE X a ta)(hb:PE X b tb)(hm:behindInMarks op b=false):PE X (.Compare a [op] [b] pos) (GM r ta tb):=by
  intro pins s σ H Q I h
  exact wpAny_Compare1 (Dp ha hb I h fun v u s2 x y H2 I2 rx ry q=>ho pins s2 σ H2 x y v u Q I2 rx ry q) hm
def GO(t:TE):TT:=fun σ H Q=>t σ H fun x H'=>∃k,x=.bl k∧Q k H'
theorem BX{op:CmpOp}{r:R2}(ho:ib X (compareOp op) r)(ha:PE X a ta)(hb:PE X b tb)(hm:behindInMarks op b=false):PT X (.Compare a [op] [b] pos) (GO (GM r ta tb)):=by
  intro pins s σ H Q I h
  refine wpAny_isTrue_Compare1 (bN (ha pins s σ H _ I h) fun v s1 ⟨x,H1,I1,r1,q1⟩=>bN (hb pins s1 σ H1 _ I1 q1) fun u s2 ⟨y,H2,I2,r2,q2⟩=>
    bN (ho pins s2 σ H2 x y v u _ I2 r1 r2 q2) fun c s3 ⟨z,H3,I3,r3,k,e,q3⟩=>?_) hm
  subst e
  cases r3
  exact wpAny_truthy_bool ⟨H3,I3,q3⟩
def z_(r r':R2)(ta tb tc:TE):TE:=fun σ H Q=>ta σ H fun x H1=>tb σ H1 fun y H2=>r x y H2 fun z H3=>∃k,z=.bl k∧
  (if k=true then tc σ H3 fun w' H4=>r' y w' H4 Q else Q (.bl false) H3)
theorem zg{op op':CmpOp}{r r':R2}(ho:ib X (compareOp op) r)(ho':ib X (compareOp op') r')(ha:PE X a ta)(hb:PE X b tb)(hc:PE X c tc)
    (hm:lastMarks [op,op'] [b,c]=false:=by with_unfolding_all rfl):PE X (.Compare a [op,op'] [b,c] pos) (z_ r r' ta tb tc):=by
  intro pins s σ H Q I h
  refine Compare_chain (bN (ha pins s σ H _ I h) fun v s1 ⟨x,H1,I1,r1,q1⟩=>chain_link (bN (hb pins s1 σ H1 _ I1 q1) fun u s2 ⟨y,H2,I2,r2,q2⟩=>
    bN (ho pins s2 σ H2 x y v u _ I2 r1 r2 q2) fun d s3 ⟨z,H3,I3,r3,k,e,q3⟩=>?_)) hm
  subst e
  cases r3
  refine wpAny_truthy_bool ?_
  cases k with
  | false=>exact ite_ff ⟨.bl false,H3,I3,rfl,q3⟩
  | true=>exact ite_tt (chain_last (bN (hc pins s3 σ H3 _ I3 q3) fun w' s4 ⟨z',H4,I4,r4,q4⟩=>ho' pins s4 σ H4 y z' u w' Q I4 r2 r4 q4))
theorem pG:(sizeLine:Nat) < 2 ^ 63:=by rw [sizeLine_eq];decide
theorem rH{x:V}{us:List Value}(r:aW [x] us):∃u,us=[u]∧bE x u:=by
  cases r with
  | cons r1 r2=>cases r2;exact⟨_,rfl,r1⟩
theorem Df{x y:V}{us:List Value}(r:aW [x,y] us):∃u w',us=[u,w']∧bE x u∧bE y w':=by
  cases r with
  | cons r1 r2=>
    cases r2 with
    | cons r3 r4=>cases r4;exact⟨_,_,rfl,r1,r3⟩
theorem yo:ed X (.builtin "abs") (fun xs H Q=>∃i,xs=[.int i]∧Q (.int (if i < 0 then -i else i)) H):=by
  intro pins s σ H xs us Q I r h
  obtain⟨i,rfl,q⟩:=h
  obtain⟨u,rfl,t,rfl⟩:=rH r
  exact call_abs_int fun u tk=>⟨.int (if i < 0 then -i else i),H,I.tok _,⟨_,rfl⟩,q⟩
theorem wV(hc:X.calm=true):ed X (.builtin "max") (fun xs H Q=>∃i j,xs=[.int i,.int j]∧Q (.int (if j > i then j else i)) H):=by
  intro pins s σ H xs us Q I r h
  obtain⟨i,j,rfl,q⟩:=h
  obtain⟨u,w',rfl,⟨t,rfl⟩,⟨t',rfl⟩⟩:=Df r
  refine max_two_ints (I.ok.hd hc) fun h' tk k=>⟨_,H,I.kept k,?_,q⟩
  by_cases hj:j > i
  · rw [if_pos hj,if_pos hj];exact⟨_,rfl⟩
  · rw [if_neg hj,if_neg hj];exact⟨_,rfl⟩
theorem wW(hc:X.calm=true):ed X (.builtin "min") (fun xs H Q=>∃i j,xs=[.int i,.int j]∧Q (.int (if j < i then j else i)) H):=by
  intro pins s σ H xs us Q I r h
  obtain⟨i,j,rfl,q⟩:=h
  obtain⟨u,w',rfl,⟨t,rfl⟩,⟨t',rfl⟩⟩:=Df r
  refine min_two_ints (I.ok.hd hc) fun h' tk k=>⟨_,H,I.kept k,?_,q⟩
  by_cases hj:j < i
  · rw [if_pos hj,if_pos hj];exact⟨_,rfl⟩
  · rw [if_neg hj,if_neg hj];exact⟨_,rfl⟩
theorem wR:ed X (.type "int") (fun xs H Q=>(∃i,xs=[.int i]∧Q (.int i) H)∨∃k,xs=[.bl k]∧Q (.int (if k then 1 else 0)) H):=by
  intro pins s σ H xs us Q I r h
  rcases h with ⟨i,rfl,q⟩ | ⟨k,rfl,q⟩
  · obtain⟨u,rfl,t,rfl⟩:=rH r
    exact call_int_int ⟨.int i,H,I,⟨_,rfl⟩,q⟩
  · obtain⟨u,rfl,r1⟩:=rH r
    cases r1
    exact call_int_bool ⟨.int (if k then 1 else 0),H,I.tok _,⟨_,rfl⟩,q⟩
end
end L2
namespace L2
open PySem PySem.Spec PyProof.Rows
structure Ib (h:Heap) (x dx C:Addr) (mA:Str→Option Value):Prop where
  obj:h.get? x=some (PySem.W.instObj C dx)
  ns:h.Ns1 dx mA
  ne:dx≠x
section
variable{prog:Program}{w:World}{A:Around}{E:Value→Shared→Prop}{s:Shared}{K:PySem.W.Frag}{x dx C f:Addr}{mA:Str→Option Value}{name:Str}{v:Value}
end
section
variable{P:Program}{w:World}{H H':Hp}{h h':Heap}{a C dx:Addr}{fs fs':List (Str × V)}
end
structure HY (K:PySem.W.Frag) (C:Addr):Prop where
  pg:PySem.W.plainGet K C Str.empty=true
  hd:PySem.W.hasDictIn K C=true
  po:PySem.W.plainOver K C=true
  sa:PySem.W.findIn K (.ref C) "__setattr__"=some (some (.builtin "object.__setattr__"))
structure Iw (K:PySem.W.Frag) (C:Addr) (f:Str) (v:V) (u:Value):Prop where
  at_:PySem.W.findIn K (.ref C) f=some (some u)
  rel:bE v u
  get:PySem.W.specialIn K u "__get__"=some none
  cp:PySem.W.copiedNames.contains f=false
structure Ia (K:PySem.W.Frag) (C:Addr) (m:Str) (f:Addr):Prop where
  at_:PySem.W.findIn K (.ref C) m=some (some (.ref f))
  fn:PySem.W.isFn K (.ref f)=true
  kp:PySem.W.keepIn K (.ref f)=true
section
variable{X:Cx}{pins:List (Addr × Obj)}{σ:St}{H:Hp}{s:Shared}{a C dx:Addr}{fs:List (Str × V)}{f:Str}{v:V}{A:Around}{E:Value→Shared→Prop}
end
section
variable{X:Cx}{o e value:Expr}{f:Str}{pos pos' tpos:Pos}{ta tv:TE}
end
section
variable{X:Cx}{pins:List (Addr × Obj)}{σ:St}{H:Hp}{s:Shared}{A:Around}{E:Value→Shared→Prop}{Q:Value→Shared→Prop}{c:Value}{b:Bool}
inductive o6 (K:PySem.W.Frag) (H:Hp):V→Value→Prop where
  | non:o6 K H .non (.type "NoneType")
  | bl (x:Bool):o6 K H (.bl x) (.type "bool")
  | int (i:Int):o6 K H (.int i) (.type "int")
  | str (x:Str):o6 K H (.str x) (.type "str")
  | flt (x:UInt64):o6 K H (.flt x) (.type "float")
  | lst {a:Addr} {xs:List V} (e:H a=some (.lst xs)):o6 K H (.ref a) (.type "list")
  | frz {a:Addr} {o:Obj} {xs:List V} (e:H a=some (.frz o (.lst xs))):o6 K H (.ref a) (.type "list")
  | tup {a:Addr} {xs:List V} (e:H a=some (.tup xs)):o6 K H (.ref a) (.type "tuple")
  | dK {a:Addr} {kvs:List (qe × V)} (e:H a=some (.dK kvs)):o6 K H (.ref a) (.type "dict")
  | dT {a:Addr} {kvs:List (List qe × V)} (e:H a=some (.dT kvs)):o6 K H (.ref a) (.type "dict")
  | ins {a C dx:Addr} {fs:List (Str × V)} (e:H a=some (.ins C dx fs)) (cl:HY K C) (ha:PySem.W.findIn K (.ref C) "__class__"=some (some (.builtin "object.__class__")))
      (hn:PySem.W.specialIn K (.builtin "object.__class__") "__get__"=some (some (.builtin "getset_descriptor.__get__"))) (htk:PySem.W.takesIn K (.builtin "object.__class__")=some true)
      (hm:PySem.W.mroIn K C (.type "object")=some true):o6 K H (.ref a) (.ref C)
end
end L2
namespace L2
open PySem PySem.Spec PyProof.Rows
structure eB (k:Nat) (A:Around):Prop where
  hd:A.handled=none
  dp:A.depth+3*k+5 < recursionLimit
  un:A.units+16*k+200 < cLine
  gd:A.guards=some []
theorem eB.mono{j k:Nat}{A:Around}(r:eB k A)(h:j≤k):eB j A:=⟨r.hd,by have:=r.dp;lia,by have:=r.un;lia,r.gd⟩
theorem eB.deeper{k:Nat}{A:Around}(r:eB (k+1) A)(env:Env):eB k (A.deeper env):=
  ⟨r.hd,by have:=r.dp;show A.depth+1+3*k+5 < _;lia,by have:=r.un;show A.units+3+16*k+200 < _;lia,r.gd⟩
theorem eB.depth{k:Nat}{A:Around}(r:eB k A):A.depth < recursionLimit:=by have:=r.dp;lia
theorem eB.units{k:Nat}{A:Around}(r:eB k A):A.units+64 < cLine:=by have:=r.un;lia
def ER:TA:=fun _ H Q=>Q [] H
def uj(ta:TE)(tr:TA):TA:=fun σ H Q=>ta σ H fun x H1=>tr σ H1 fun xs H2=>Q (x::xs) H2
section
variable{X:Cx}{e:Expr}{es:List Expr}{te:TE}{t:TA}{pos:Pos}
theorem ni:PA X [] ER:=fun _ _ _ _ H Q I h=>Calls.spliced_nil ⟨[],H,I,.nil,h⟩
theorem sC(ha:PE X e te)(hr:PA X es t)(hs:starEach (e::es) X.env=(false,eval e X.env)::starEach es X.env:=by rfl):PA X (e::es) (uj te t):=by
  intro pos pins s σ H Q I h
  rw [hs]
  show wpAny _ _ (spliced ((false,eval e X.env)::backTo pos (starEach es X.env))) _ _ s
  refine Calls.spliced_cons (bN (ha pins s σ H _ I h) fun u s1 ⟨x,H1,I1,r1,q1⟩=>?_)
  exact bN (hr pos pins s1 σ H1 _ I1 q1) fun us s2 ⟨xs,H2,I2,r2,q2⟩=>⟨x::xs,H2,I2,.cons r1 r2,q2⟩
def GP(t:TA):TE:=fun σ H Q=>t σ H fun xs H1=>xs.length≤sizeLine∧∀p,H1 p=none→Q (.ref p) (bc H1 p (.tup xs))
def HC(t:TA):TE:=fun σ H Q=>t σ H fun xs H1=>xs.length≤sizeLine∧∀p,H1 p=none→Q (.ref p) (bc H1 p (.lst xs))
theorem Eh{x1}(h:PA X es t):PE X (.Tuple es x1 pos) (GP t):=by
  intro pins s σ H Q I hq
  refine wpAny_Tuple_spliced (bN (h pos pins s σ H _ I hq) fun us s1 ⟨xs,H1,I1,r,z,q⟩=>⟨by rw [←r.length];exact z,?_⟩)
  have hf:H1 s1.heap.objs.size=none:=I1.hok.fresh (Nat.le_refl _)
  refine⟨.ref s1.heap.objs.size,bc H1 s1.heap.objs.size (.tup xs),I1.laid (t':=s1.toks) (fun b u e=>Heap.get?_push_of_some _ e) (Nat.le_refl _) ?_,rfl,q _ hf⟩
  exact⟨z,us,r,⟨_,Heap.get?_push_size _ rfl,rfl,_,rfl,rfl⟩⟩
theorem zi(h:PA X es t):PE X (.List es pos) (HC t):=by
  intro pins s σ H Q I hq
  refine wpAny_List_spliced (bN (h pos pins s σ H _ I hq) fun us s1 ⟨xs,H1,I1,r,z,q⟩=>⟨by rw [←r.length];exact z,?_⟩)
  have hf:H1 s1.heap.objs.size=none:=I1.hok.fresh (Nat.le_refl _)
  refine⟨.ref s1.heap.objs.size,bc H1 s1.heap.objs.size (.lst xs),I1.laid (t':=s1.toks) (fun b u e=>Heap.get?_push_of_some _ e) (Nat.le_refl _) ?_,rfl,q _ hf⟩
  exact⟨z,us,0,r,Heap.get?_push_size _ rfl⟩
end
abbrev Sp:=List V→Hp→VK→XK→Prop
abbrev wM:=List Env→Hp→Shared→XK→Value→Shared→Prop
structure AD (P:Program) (w:World) (K:PySem.W.Frag) (mg:Str→Option Value) (base:Heap) (A:Around) (outer:List Env) (s:Shared) (H:Hp):Prop where
  frames:A.frames=some outer
  mod:Mod K mg base
  bs:∀b o,base.get? b=some o→s.heap.get? b=some o∧H b=none
  bsz:base.objs.size≤s.heap.objs.size
  funs:s.heap.FunFrames base outer
  frf:∀b∈yx outer,H b=none
  hok:oZ P w H s.heap
  bare:AllBare s.gens
def CE(outer:List Env)(P:Program)(w:World)(H:Hp)(s:Shared)(Q:VK)(u:Value)(s':Shared):Prop:=
  ∃v H',s'.os=s.os∧AllBare s'.gens∧Un (yx outer) [] H H' s.heap s'.heap∧oZ P w H' s'.heap∧bE v u∧Q v H'
def CR(CX:wM)(outer:List Env)(P:Program)(w:World)(H:Hp)(s:Shared)(Q:VK)(E:XK)(r:Result)(s':Shared):Prop:=
  match r with
  | .ok (.ret u)=>CE outer P w H s Q u s'
  | .ok _=>False
  | .error e=>CX outer H s E e s'
structure aL (P:Program) (w:World) (K:PySem.W.Frag) (mg:Str→Option Value) (base:Heap) (CX:wM) (k:Nat) (f:Addr) (fd:FuncData) (ps:List Str) (sp:Sp):Prop where
  len:∀vs H Q E,sp vs H Q E→vs.length=ps.length
  run:∀(A:Around) (outer:List Env) (s:Shared) (H:Hp) (args:Args) (us:List Value) (vs:List V) (Q:VK) (E:XK),eB k A→AD P w K mg base A outer s H→BindsTo s fd args (ps.zip us)→aW vs us→sp vs H Q E→
    codeAny (model P w) A (.call (.ref f) args) (CR CX outer P w H s Q E) s
section
variable{X:Cx}{pins:List (Addr × Obj)}{σ:St}{H:Hp}{s s':Shared}
theorem aI.env0(I:aI X pins σ H s):AD X.prog X.w X.K X.mg X.base X.A X.stack s H:=
  ⟨I.ok.frames,I.ok.mod,I.bs,Nat.le_trans I.ok.bsz I.sz,I.stack,I.stkFree,I.hok,I.bare⟩
theorem aI.after{Q:VK}{u:Value}(I:aI X pins σ H s)(h:CE X.stack X.prog X.w H s Q u s'):EP X pins σ Q u s':=by
  obtain⟨v,H',os,bare,un,hok,r,q⟩:=h
  obtain⟨hh,g,d,t,os'⟩:=s'
  obtain rfl:os'=s.os:=os
  exact⟨v,H',I.call (h':=hh) (g':=g) (d':=d) (t':=t) (ch:=[]) un hok bare (fun b z=>absurd z (by simp)),r,q⟩
end
def z9(sp:Sp)(dvs:List V)(E:XK)(t:TA):TE:=fun σ H Q=>t σ H fun vs H1=>sp (vs++dvs) H1 Q E
def qu(K:PySem.W.Frag)(fd:FuncData)(ps:List Str)(ds:List Value):Prop:=
  ∀(s:Shared) (us:List Value),K.In s.heap→(us++ds).length=ps.length→BindsTo s fd ⟨us,[]⟩ (ps.zip (us++ds))
theorem qu.all{K:PySem.W.Frag}{fd:FuncData}{ps:List Str}(h:∀us:List Value,us.length=ps.length→bindArgs fd ⟨us,[]⟩=pure (ps.zip us)):qu K fd ps []:=fun s us _ hl=>by
  rw [List.append_nil] at hl ⊢
  exact .of_eq (h us hl)
def uE(CX:wM)(X:Cx)(E:XK):Prop:=∀(pins:List (Addr × Obj)) (σ:St) (H:Hp) (s:Shared) (e:Value) (s':Shared),aI X pins σ H s→CX X.stack H s E e s'→X.xe e s'
section
variable{X:Cx}{CX:wM}{k:Nat}{f C:Addr}{fd:FuncData}{ps:List Str}{sp:Sp}{dvs:List V}{ds:List Value}{E:XK}{x m:Str}{p pos apos:Pos}{e o:Expr}{es:List Expr}{ta:TE}{t:TA}
theorem EL{pins:List (Addr × Obj)}{σ:St}{H:Hp}{s:Shared}{Q:VK}{us:List Value}{vs:List V}(F:aL X.prog X.w X.K X.mg X.base CX k f fd ps sp)(hr:eB k X.A)(hb:qu X.K fd ps ds)(hd:aW dvs ds)(hx:uE CX X E)
    (I:aI X pins σ H s)(r:aW vs us)(h:sp (vs++dvs) H Q E):wpAny (model X.prog X.w) X.A (call (.ref f) us) (EP X pins σ Q) X.xe s:=by
  have r2:aW (vs++dvs) (us++ds):=r.append hd
  have hl:(us++ds).length=ps.length:=by rw [←r2.length];exact F.len _ _ _ _ h
  refine wpAny_call (codeAny_mono (F.run X.A X.stack s H ⟨us,[]⟩ (us++ds) (vs++dvs) Q E hr I.env0 (hb s us I.kIn hl) r2 h) fun r s' hq=>?_)
  cases r with
  | error e=>exact hx pins σ H s e s' I hq
  | ok fl=>
    cases fl with
    | ret u=>exact I.after hq
    | next=>exact False.elim hq
    | brk=>exact False.elim hq
    | cont=>exact False.elim hq
theorem BE(F:aL X.prog X.w X.K X.mg X.base CX k f fd ps sp)(hr:eB k X.A)(hg:Gl X x)(hm:X.mg x=some (.ref f))(hk:PySem.W.keepIn X.K (.ref f)=true)(hb:qu X.K fd ps ds)(hd:aW dvs ds)(hx:uE CX X E)
    (ha:PA X (e::es) t)(hdb:(x==("__debug__":Str))=false:=by decide)(he:starEach (e::es) X.env=(false,eval e X.env)::starEach es X.env:=by rfl)(hpl:(backTo pos (starEach es X.env)).any (·.1)=false:=by rfl):
    PE X (.Call (.Name x p) (e::es) [] pos) (z9 sp dvs E t):=by
  intro pins s σ H Q I h
  refine wpAny_Call_Name_kw (wk I hg hm ?_ hdb)
  refine PySem.W.callWith_K (h₀:=X.base) I.ok.mod.kin hk (bN (ha pos pins s σ H _ I h) fun us s1 ⟨vs,H1,I1,r,q⟩=>⟨I1.kIn,?_⟩) he hpl
  exact EL F hr hb hd hx I1 r q
structure Mk (K:PySem.W.Frag) (C f:Addr):Prop where
  makes:PySem.W.makesIn K C=true
  init:PySem.W.findIn K (.ref C) "__init__"=some (some (.ref f))
  fn:PySem.W.isFn K (.ref f)=true
  kp:PySem.W.keepIn K (.ref C)=true
end
section
variable{X:Cx}{CX:wM}{k:Nat}{f C:Addr}{fd:FuncData}{ps ks:List Str}{sp:Sp}{E:XK}{x m:Str}{p pos apos kpos:Pos}{e o:Expr}{es:List Expr}{kws:List Keyword}{te ta:TE}{t tk:TA}{nm:Option Str}
structure G8 (K:PySem.W.Frag) (fd:FuncData) (ps ks:List Str) (g:List Value→List Value→List Value) (gV:List V→List V→List V):Prop where
  to:∀(s:Shared) (us ws:List Value),K.In s.heap→(g us ws).length=ps.length→BindsTo s fd ⟨us,ks.zip ws⟩ (ps.zip (g us ws))
  rel:∀{vs:List V} {us:List Value} {zs:List V} {ws:List Value},aW vs us→aW zs ws→aW (gV vs zs) (g us ws)
variable{g:List Value→List Value→List Value}{gV:List V→List V→List V}
end
structure aH (N P:List Str) (sc:Scope):Prop where
  kind:sc.kind=.function
  co:sc.isCoroutine=false
  gen:sc.isGenerator=false
  nd:N.Nodup
  pre:N.take P.length=P
  par:∀x∈P,sc.names.lookup x=some .local∨sc.names.lookup x=some .cell
  nofree:∀y∈sc.names,y.2≠.free
theorem qI{kindOf:Str→Option NameKind}{x:Str}:∀{binds:List (Str × Value)} {m:Str→Option Value},(∀v,(x,v)∉binds)→bindL kindOf binds m x=m x
  | [],_,_=>rfl
  | (n,v)::r,m,h=>by
    unfold bindL
    rw [qI fun w hw=>h w (List.mem_cons_of_mem _ hw)]
    split
    · have:x≠n:=by rintro rfl;exact h v List.mem_cons_self
      simp [this]
    · rfl
theorem qG{kindOf:Str→Option NameKind}{x:Str}:∀{binds:List (Str × Value)} {m:Str→Option Value},(∀v,(x,v)∉binds)→bindC kindOf binds m x=m x
  | [],_,_=>rfl
  | (n,v)::r,m,h=>by
    unfold bindC
    rw [qG fun w hw=>h w (List.mem_cons_of_mem _ hw)]
    split
    · rfl
    · have:x≠n:=by rintro rfl;exact h v List.mem_cons_self
      simp [this]
theorem qH{kindOf:Str→Option NameKind}{x:Str}{v:Value}:∀{P:List Str} {vs:List Value} {i:Nat} {m:Str→Option Value},P.Nodup→P[i]?=some x→vs[i]?=some v→kindOf x=some .local→
    bindL kindOf (P.zip vs) m x=some v
  | [],_,_,_,_,h,_,_=>by simp at h
  | _::_,[],_,_,_,_,h,_=>by simp at h
  | p::P,w::vs,0,m,nd,h1,h2,hk=>by
    simp at h1 h2;subst h1;subst h2
    show bindL kindOf ((p,w)::P.zip vs) m p=_
    unfold bindL
    rw [qI fun v hv=>(List.nodup_cons.mp nd).1 (List.of_mem_zip hv).1,if_pos hk]
    simp
  | p::P,w::vs,i+1,m,nd,h1,h2,hk=>by
    show bindL kindOf ((p,w)::P.zip vs) m x=_
    unfold bindL
    exact qH (i:=i) (List.nodup_cons.mp nd).2 (by simpa using h1) (by simpa using h2) hk
theorem qF{kindOf:Str→Option NameKind}{x:Str}{v:Value}:∀{P:List Str} {vs:List Value} {i:Nat} {m:Str→Option Value},P.Nodup→P[i]?=some x→vs[i]?=some v→kindOf x≠some .local→
    bindC kindOf (P.zip vs) m x=some v
  | [],_,_,_,_,h,_,_=>by simp at h
  | _::_,[],_,_,_,_,h,_=>by simp at h
  | p::P,w::vs,0,m,nd,h1,h2,hk=>by
    simp at h1 h2;subst h1;subst h2
    show bindC kindOf ((p,w)::P.zip vs) m p=_
    unfold bindC
    rw [qG fun v hv=>(List.nodup_cons.mp nd).1 (List.of_mem_zip hv).1,if_neg hk]
    simp
  | p::P,w::vs,i+1,m,nd,h1,h2,hk=>by
    show bindC kindOf ((p,w)::P.zip vs) m x=_
    unfold bindC
    exact qF (i:=i) (List.nodup_cons.mp nd).2 (by simpa using h1) (by simpa using h2) hk
def gK(N:List Str)(vs:List V):St:=vs.map some++List.replicate (N.length - vs.length) none
def uL(CX:wM)(P:Program)(w:World)(K:PySem.W.Frag)(mg:Str→Option Value)(base:Heap)(N:List Str)(qual:Str)(scope:Scope)(f:Addr)(cd:Value)(A:Around)(outer:List Env)(s:Shared)(H:Hp)(E:XK):Cx where
  prog:=P
  w:=w
  K:=K
  mg:=mg
  base:=base
  A:=A.deeper (envOfC qual scope s.heap.objs.size f cd)
  N:=N
  s₀:=s
  H₀:=H
  env:=envOfC qual scope s.heap.objs.size f cd
  outer:=outer
  stack:=envOfC qual scope s.heap.objs.size f cd::outer
  ex:=[]
  calm:=true
  fn:=fun _=>true
  pn:=[]
  xe:=fun e s'=>wpAny (model P w) (A.deeper (envOfC qual scope s.heap.objs.size f cd)) (leaving (envOfC qual scope s.heap.objs.size f cd) e) (fun _ s''=>CX outer H s E e s'') (fun e' s''=>CX outer H s E e' s'') s'
theorem tj{sc:Scope}{n:Nat}{x:Str}(h:sc.names.lookup x=some .cell):∃c,(cellsFrom n sc.names []).lookup x=some c:=by
  have q:=PySem.W.cellsFrom_some sc.names n [] (.inl h)
  exact Option.isSome_iff_exists.mp q
theorem xh{CX:wM}{P:Program}{w:World}{K:PySem.W.Frag}{mg:Str→Option Value}{base:Heap}{N ps:List Str}{qual:Str}{scope:Scope}{f:Addr}{cd:Value}{A:Around}{outer:List Env}{s s1:Shared}{H:Hp}{E:XK}{us:List Value}{vs:List V}
    (S:aH N ps scope)(hd:A.handled=none)(e0:AD P w K mg base A outer s H)(hl:vs.length=ps.length)(r:aW vs us)
    (x:InCallC s s.heap.objs.size (bindL (envOfC qual scope s.heap.objs.size f cd).kindOf (ps.zip us) fun _=>none) (cellsFrom (s.heap.objs.size+1) scope.names []) (bindC (envOfC qual scope s.heap.objs.size f cd).kindOf (ps.zip us) fun _=>none) s1):
    aI (uL CX P w K mg base N qual scope f cd A outer s H E) [] (gK N vs) H s1:=by
  have hpl:ps.length≤N.length:=by have:=congrArg List.length S.pre;rw [List.length_take] at this;lia
  obtain⟨h1,tk,rfl,hk⟩:=x.done
  have noA:∀b:Addr,b∉(uL CX P w K mg base N qual scope f cd A outer s H E).ex:=fun b z=>absurd (show b∈([]:List Addr) from z) (by simp)
  refine⟨⟨e0.mod,S.kind,rfl,rfl,Nat.le_refl _,fun y z c h1 h2=>?_,fun y hy=>?_,fun y c _ h=>?_,fun _=>hd,Around.frames_deeper e0.frames,.inr ⟨rfl,rfl⟩,fun b z=>absurd z (noA b),e0.bs,e0.bsz,fun b _ _=>noA b,fun b z=>absurd z (noA b),e0.funs,e0.frf⟩,
    rfl,e0.bare,Un.kept hk,⟨_,x.toInCall.ns,fun i y v h1 h2 h3=>?_⟩,fun y c h=>⟨_,x.cell y c h⟩,e0.hok.fresh (Nat.le_refl _),fun y c h=>?_,fun p hp=>absurd (show p∈([]:List (Addr × Obj)) from hp) (by simp),e0.hok.kept hk,?_⟩
  · exact name_of_addr x.apart (PySem.mem_of_lookup h1) (PySem.mem_of_lookup h2)
  · have hy:scope.names.lookup y=some .cell∨scope.names.lookup y=some .free:=hy
    rcases hy with hy | hy
    · exact tj hy
    · exact absurd rfl (S.nofree _ (PySem.mem_of_lookup hy))
  · exact Nat.le_of_lt (x.above y c (PySem.mem_of_lookup h))
  · have hi:i < vs.length:=by
      unfold gK at h2
      by_cases hi:i < vs.length
      · exact hi
      · rw [List.getElem?_append_right (by simpa using hi)] at h2
        rw [List.getElem?_replicate] at h2
        split at h2<;>cases h2
    have ha:vs[i]?=some v:=by
      unfold gK at h2
      rw [List.getElem?_append_left (by simpa using hi),List.getElem?_map] at h2
      cases e:vs[i]? with
      | none=>rw [e] at h2;cases h2
      | some a=>rw [e] at h2;cases h2;rfl
    obtain⟨u,hu,rv⟩:=r.get ha
    have hp:ps[i]?=some y:=by
      rw [←S.pre,List.getElem?_take_of_lt (by lia)];exact h1
    have ndP:ps.Nodup:=by rw [←S.pre];exact S.nd.sublist (List.take_sublist _ _)
    refine⟨u,rv,?_⟩
    rcases S.par y (List.mem_of_getElem? hp) with k | k
    · exact .inl ⟨k,qH ndP hp hu k⟩
    · obtain⟨c,e⟩:=tj (n:=s.heap.objs.size+1) k
      refine .inr ⟨.inl k,c,e,?_⟩
      have q:=x.cell y c e
      rw [qF ndP hp hu (by show scope.names.lookup y≠_;rw [k];decide)] at q
      exact q
  · exact e0.hok.fresh (Nat.le_of_lt (x.above y c (PySem.mem_of_lookup h)))
  · unfold gK
    show _=N.length
    rw [List.length_append,List.length_map,List.length_replicate]
    lia
theorem Fz{CX:wM}{P:Program}{w:World}{K:PySem.W.Frag}{mg:Str→Option Value}{base:Heap}{k:Nat}{f:Addr}{name qual:Str}{params:Arguments}{body:List Stmt}{scope:Scope}{dV kV doc pm cdv ct oc:Value}{an od:Option Addr}
    {osl:Array (Option Value)}{N ps:List Str}{sp:Sp}(lk:K.lookup f=some ⟨oc,od,.func (PySem.W.fnOf name qual params body scope dV kV doc pm an cdv ct),osl⟩)(hcd:PySem.W.codeIn K cdv qual=true)(S:aH N ps scope)
    (len:∀vs H Q E,sp vs H Q E→vs.length=ps.length)
    (hbody:∀(A:Around) (outer:List Env) (s:Shared) (H:Hp) (vs:List V) (Q:VK) (E:XK),eB k (A.deeper (envOfC qual scope s.heap.objs.size f cdv))→sp vs H Q E→
      ∃t,oB (uL CX P w K mg base N qual scope f cdv A outer s H E) body t∧t {nx:=fun _ H'=>Q .non H',rt:=Q} (gK N vs) H):
    aL P w K mg base CX (k+1) f (PySem.W.fnOf name qual params body scope dV kV doc pm an cdv ct) ps sp:=by
  refine⟨len,fun A outer s H args us vs Q E hr e0 hb r hsp=>?_⟩
  have hl:=len _ _ _ _ hsp
  have KX:K.In s.heap:=e0.mod.kin.keeps fun b o e=>(e0.bs b o e).1
  have lim:s.heap.NoLimit:=e0.mod.nolimit.keeps fun b o e=>(e0.bs b o e).1
  have hkind:∀y∈ps.zip us,scope.names.lookup y.1=some .local∨(scope.names.lookup y.1=some .cell∧((cellsFrom (s.heap.objs.size+1) scope.names []).lookup y.1).isSome=true):=fun⟨n,v⟩ hy=>by
    rcases S.par n (List.of_mem_zip hy).1 with q | q
    · exact .inl q
    · exact .inr ⟨q,PySem.W.cellsFrom_some _ _ _ (.inl q)⟩
  refine codeAny_call_function hr.depth (KX _ _ lk) rfl S.co S.gen rfl (PySem.W.codeRec_of KX hcd) (hb _ _ _ _ ?_)
  refine wpAny_newFunctionEnv_cells S.kind hkind fun env he s1 x=>?_
  subst he
  refine⟨lim.keeps x.toInCall.keep,codeAny_func ?_⟩
  obtain⟨t,ht,hq⟩:=hbody A outer s H vs Q E (hr.deeper _) hsp
  have I:aI (uL CX P w K mg base N qual scope f cdv A outer s H E) [] (gK N vs) H s1:=xh S hr.hd e0 hl r x
  refine wpAny_mono (ht [] s1 (gK N vs) H _ I hq) (fun fl s' hs=>?_) fun e s' hs=>hs
  have fin:∀{σ':St} {H':Hp} {v:V} {u:Value},aI (uL CX P w K mg base N qual scope f cdv A outer s H E) [] σ' H' s'→bE v u→Q v H'→CE outer P w H s Q u s':=
    fun{σ' H' v u} J rv q=>⟨v,H',J.os,J.bare,J.base,J.hok,rv,q⟩
  cases fl with
  | ret u=>
    obtain⟨v,σ',H',J,rv,q⟩:=hs
    exact fin J rv q
  | next=>
    obtain⟨σ',H',J,q⟩:=hs
    exact fin (v:=V.non) (u:=Value.none) J rfl q
  | brk=>
    obtain⟨_,_,_,q⟩:=hs
    exact False.elim q
  | cont=>
    obtain⟨_,_,_,q⟩:=hs
    exact False.elim q
end L2
namespace L2
open PySem PySem.Spec PyProof.Rows
section
variable{X:Cx}{x:Str}{p pos:Pos}{e:Expr}{es:List Expr}{t:TA}{id T:String}{r:List V→Hp→VK→Prop}
def Hy(r:List V→Hp→VK→Prop)(t:TA):TE:=fun σ H Q=>t σ H fun vs H1=>r vs H1 Q
theorem pR(hc:ed X (.builtin id) r)(hg:Gl X x)(hm:X.mg x=none)(hv:bootBuiltins x=some (.builtin id))(ha:PA X (e::es) t)(hn:x≠"__name__":=by decide)(hdb:(x==("__debug__":Str))=false:=by decide)
    (he:starEach (e::es) X.env=(false,eval e X.env)::starEach es X.env:=by rfl)(hpl:(backTo pos (starEach es X.env)).any (·.1)=false:=by rfl):PE X (.Call (.Name x p) (e::es) [] pos) (Hy r t):=by
  intro pins s σ H Q I h
  refine wpAny_Call_Name_kw (gD I hg hm hv ?_ hn hdb)
  exact PyProof.Rows.callWith_builtin1 (bN (ha pos pins s σ H _ I h) fun us s1 ⟨vs,H1,I1,r1,q1⟩=>hc pins s1 σ H1 vs us Q I1 r1 q1) he hpl
theorem xI(hc:ed X (.type T) r)(hg:Gl X x)(hm:X.mg x=none)(hv:bootBuiltins x=some (.type T))(ha:PA X (e::es) t)(hn:x≠"__name__":=by decide)(hdb:(x==("__debug__":Str))=false:=by decide)
    (he:starEach (e::es) X.env=(false,eval e X.env)::starEach es X.env:=by rfl)(hpl:(backTo pos (starEach es X.env)).any (·.1)=false:=by rfl):PE X (.Call (.Name x p) (e::es) [] pos) (Hy r t):=by
  intro pins s σ H Q I h
  refine wpAny_Call_Name_kw (gD I hg hm hv ?_ hn hdb)
  exact PyProof.Rows.callWith_type1 (bN (ha pos pins s σ H _ I h) fun us s1 ⟨vs,H1,I1,r1,q1⟩=>hc pins s1 σ H1 vs us Q I1 r1 q1) he hpl
end
end L2
namespace HT
open PySem PyProof.Rows
section
open PySem.SeqAt
open PySem.AutoSeq1 (wpAny_loadPart')
open PySem.MeetsSeq PySem.MeetsSeq2 PySem.MeetsSeq3
end
section
variable{prog:Program}{w:World}{A:Around}{E:Value→Shared→Prop}{s:Shared}
theorem cat_tup{t b:Addr}{vs ws:List Value}{Q:Value→Shared→Prop}(ht:IsTup s.heap t vs.toArray)(hb:IsTup s.heap b ws.toArray)(hv:vs≠[])
    (h1:ws=[]→Q (.ref t) s)(h2:ws≠[]→Q (.ref s.heap.objs.size) {s with heap:=s.heap.push {cls:=.type "tuple",data:=.seq (vs++ws).toArray}})
    (hsz:vs.length+ws.length≤sizeLine):wpAny (model prog w) A (binaryOp .Add (.ref t) (.ref b)) Q E s:=by
  obtain⟨⟨cls,dd,data,sl⟩,ho,hc,n,hd⟩:=id ht
  obtain⟨⟨cls2,dd2,data2,sl2⟩,ho2,hc2,n2,hd2⟩:=id hb
  simp only at hc hd hc2 hd2
  subst hc hd hc2 hd2
  have e:vs.toArray++ws.toArray=(vs++ws).toArray:=by simp
  by_cases hw:ws=[]
  · exact concat_meets ⟨_,ho,rfl⟩ ⟨_,ho2,rfl⟩ noFill_tuple_add seq_tuple_add PySem.F.slot_tuple_add PySem.F.entry_tuple_add (PySem.F.args_tuple_add_2 _ _)
      (tuple_addW1 t b vs.toArray ws.toArray n n2 dd dd2 sl sl2 (by simpa using hv) (by simp [hw])) ⟨ho,ho2,h1 hw⟩
  · refine concat_meets ⟨_,ho,rfl⟩ ⟨_,ho2,rfl⟩ noFill_tuple_add seq_tuple_add PySem.F.slot_tuple_add PySem.F.entry_tuple_add (PySem.F.args_tuple_add_2 _ _)
      (tuple_addW2 t b vs.toArray ws.toArray n n2 dd dd2 sl sl2 (by simpa using hv) (by simpa using hw) (by rw [List.size_toArray,List.size_toArray];exact hsz)) ⟨ho,ho2,?_⟩
    rw [e]
    exact h2 hw
def sIx(n d:Nat):Option Int→Nat
  | none=>d
  | some v=>if v < 0 then(v+(n:Int)).toNat else min v.toNat n
theorem sIx_none(n d:Nat):sIx n d none=d:=rfl
theorem sIx_nat(n d k:Nat):sIx n d (some (k:Int))=min k n:=by
  show(if (k:Int) < 0 then((k:Int)+(n:Int)).toNat else min (k:Int).toNat n)=min k n
  rw [if_neg (by lia),Int.toNat_natCast]
theorem EM(n d:Nat)(hd:d≤n)(o:Option Int):sIx n d o≤n:=by
  cases o with
  | none=>exact hd
  | some v=>
    show(if v < 0 then(v+(n:Int)).toNat else min v.toNat n)≤n
    by_cases hv:v < 0
    · rw [if_pos hv];lia
    · rw [if_neg hv];exact Nat.min_le_right _ _
theorem vU(v:Int)(n d:Nat):(if v < 0 then max (v+(n:Int)) 0 else min v (n:Int))=((sIx n d (some v):Nat):Int):=by
  show(if v < 0 then max (v+(n:Int)) 0 else min v (n:Int))=(((if v < 0 then(v+(n:Int)).toNat else min v.toNat n):Nat):Int)
  by_cases hv:v < 0
  · simp only [if_pos hv];lia
  · simp only [if_neg hv];lia
theorem uG(lo hi:Option Int)(n:Nat):Builtin.Slice.sliceAdjust lo hi 1 (n:Int)=(((sIx n 0 lo:Nat):Int),((sIx n n hi:Nat):Int)):=by
  have h1:¬((1:Int) < 0):=by lia
  unfold Builtin.Slice.sliceAdjust
  simp only [h1,if_false]
  refine Prod.ext ?_ ?_
  · cases lo with
    | none=>rfl
    | some v=>exact vU v n 0
  · cases hi with
    | none=>rfl
    | some v=>exact vU v n n
theorem ve(i j:Nat):Builtin.Slice.slicePlaces (i:Int) (j:Int) 1=j - i:=by
  unfold Builtin.Slice.slicePlaces
  have h1:(1:Int) > 0:=by lia
  simp only [h1,if_true,Int.ediv_one]
  split<;>lia
theorem p9{v:Value}{o:Option Int}{Q:Option Int→Shared→Prop}(p:IsPart v o)(h:Q o s):wpAny (model prog w) A (Builtin.Slice.slicePartIndex v) Q E s:=by
  cases p with
  | none=>exact slicePart_none h
  | int i t=>exact slicePart_int h
theorem jj{sl:Addr}{vl vu:Value}{lo hi:Option Int}{n:Nat}{Q:Int × Int × Nat→Shared→Prop}(hs:s.heap.IsSliceOf sl vl vu .none)(pl:IsPart vl lo)(pu:IsPart vu hi)
    (h:Q (((sIx n 0 lo:Nat):Int),1,sIx n n hi - sIx n 0 lo) s):wpAny (model prog w) A (Builtin.Slice.sliceApplied (.ref sl) (pure (n:Int))) Q E s:=by
  obtain⟨os,hos,hcs,hds⟩:=id hs
  unfold Builtin.Slice.sliceApplied Builtin.Slice.sliceFields
  refine wpAny_bind (wpAny_bind (wpAny_field hos hds (x:=vl) rfl (wpAny_bind (wpAny_field hos hds (x:=vu) rfl (wpAny_bind (wpAny_field hos hds (x:=.none) rfl (wpAny_pure ?_)))))))
  refine wpAny_bind (slicePart_none ?_)
  show wpAny _ _ (if ((1:Int)==0)=true then _ else _) _ _ s
  rw [if_neg (by decide)]
  refine wpAny_bind (p9 pl (wpAny_bind (p9 pu (wpAny_bind (wpAny_pure ?_)))))
  show wpAny _ _ (match Builtin.Slice.sliceAdjust lo hi 1 (n:Int) with | (lo,hi)=>pure (lo,(1:Int),Builtin.Slice.slicePlaces lo hi 1)) _ _ s
  rw [uG lo hi n]
  show wpAny _ _ (pure (((sIx n 0 lo:Nat):Int),(1:Int),Builtin.Slice.slicePlaces ((sIx n 0 lo:Nat):Int) ((sIx n n hi:Nat):Int) 1)) _ _ s
  rw [ve]
  exact wpAny_pure h
theorem zw(xs:Array Value)(i k:Nat):((List.range k).filterMap fun(m:Nat)=>xs[((i:Int)+(m:Int)*1).toNat]?).toArray=((xs.toList.drop i).take k).toArray:=by
  have e:(fun(m:Nat)=>xs[((i:Int)+(m:Int)*1).toNat]?)=fun m=>xs[i+m]?:=by
    funext m
    have:((i:Int)+(m:Int)*1).toNat=i+m:=by lia
    rw [this]
  rw [e]
  have:=pick_run xs i k
  rw [List.filterMap_map] at this
  have e2:((fun x=>xs[x]?) ∘ fun x=>i+x)=fun m=>xs[i+m]?:=rfl
  rw [e2] at this
  rw [this]
theorem getItem_tuple_cut{t sl:Addr}{items:Array Value}{vl vu:Value}{lo hi:Option Int}{Q:Value→Shared→Prop}(ht:IsTup s.heap t items)(hs:s.heap.IsSliceOf sl vl vu .none)(pl:IsPart vl lo)(pu:IsPart vu hi)
    (hw:¬(sIx items.size 0 lo=0∧sIx items.size items.size hi=items.size))
    (h:Q (.ref s.heap.objs.size) {s with heap:=s.heap.push {cls:=.type "tuple",data:=.seq ((items.toList.drop (sIx items.size 0 lo)).take (sIx items.size items.size hi - sIx items.size 0 lo)).toArray}})
    (hsz:items.size≤sizeLine):wpAny (model prog w) A (getItem (.ref t) (.ref sl)) Q E s:=by
  have htake:sizeOk (.seq ((items.toList.drop (sIx items.size 0 lo)).take (sIx items.size items.size hi - sIx items.size 0 lo)).toArray):=by
    show((items.toList.drop (sIx items.size 0 lo)).take (sIx items.size items.size hi - sIx items.size 0 lo)).toArray.size≤sizeLine
    rw [List.size_toArray,List.length_take,List.length_drop,Array.length_toList]
    lia
  have hj:sIx items.size items.size hi≤items.size:=EM _ _ (Nat.le_refl _) hi
  obtain⟨os,hos,hcs,hds⟩:=id hs
  have hTs:s.TypeIs (.ref sl) "slice":=⟨os,hos,hcs⟩
  unfold getItem
  try with_reducible refine wpAny_holding ?_
  first | refine wpAny_bind (wpAny_pure ?_) | skip
  refine wpAny_bind (wpAny_sequenceKey ht.typeIs (by decide) ?_)
  refine wpAny_bind (wpAny_callSpecial?_slot (name:=Str.ofString "__getitem__") ht.typeIs PyProof.Rows.slot_tuple_getitem
    (wpAny_call_entry PyProof.Rows.slot_tuple_getitem ht.typeIs entry_tuple_getitem ?_ (args_tuple_getitem _ _)))
  show wpAny _ _ (Builtin.Tuple.tupleItemsOf (.ref t) >>= _) _ _ s
  refine wpAny_bind (tupleItemsOf_ ht ?_)
  refine wpAny_bind (wpAny_typeOf hTs ?_)
  rw [if_pos (by decide)]
  refine wpAny_bind (jj hs pl pu ?_)
  have hno:¬((((sIx items.size 0 lo:Nat):Int)==0&&(1:Int)==1&&(sIx items.size items.size hi - sIx items.size 0 lo)==items.size)=true):=by
    intro q
    rw [Bool.and_eq_true,Bool.and_eq_true] at q
    have q1:((sIx items.size 0 lo:Nat):Int)=0:=eq_of_beq q.1.1
    have q2:sIx items.size items.size hi - sIx items.size 0 lo=items.size:=eq_of_beq q.2
    exact hw ⟨by lia,by lia⟩
  show wpAny _ _ (if (((sIx items.size 0 lo:Nat):Int)==0&&(1:Int)==1&&(sIx items.size items.size hi - sIx items.size 0 lo)==items.size)=true then _ else _) _ _ s
  rw [if_neg hno,zw]
  first
    | exact wpAny_bind (m:=Builtin.Tuple.tupleExact _) (wpAny_newObj_type (wpAny_pure ⟨_,rfl,wpAny_pure h⟩) htake)
    | exact wpAny_bind (m:=Builtin.Tuple.tupleExact _) (wpAny_newObj_type (wpAny_bind (wpAny_pure (wpAny_pure ⟨_,rfl,wpAny_pure h⟩))) htake)
    | exact wpAny_bind (wpAny_bind (m:=Builtin.Tuple.tupleExact _) (wpAny_newObj_type (wpAny_pure (wpAny_pure ⟨_,rfl,wpAny_pure h⟩)) htake))
    | exact wpAny_bind (wpAny_bind (m:=Builtin.Tuple.tupleExact _) (wpAny_newObj_type (wpAny_pure ⟨_,rfl,wpAny_pure h⟩) htake))
end
end HT
namespace L2
open PySem PySem.Spec PyProof.Rows
abbrev TO:=St→Hp→(Option Int→Hp→Prop)→Prop
def PO(X:Cx)(e:Option Expr)(t:TO):Prop:=
  ∀(pins:List (Addr × Obj)) (s:Shared) (σ:St) (H:Hp) (Q:Option Int→Hp→Prop),aI X pins σ H s→t σ H Q→
    wpAny (model X.prog X.w) X.A (evalPart e X.env) (fun u s'=>∃o H',aI X pins σ H' s'∧IsPart u o∧Q o H') X.xe s
def Cb:TO:=fun _ H Q=>Q none H
def GN(t:TE):TO:=fun σ H Q=>t σ H fun x H1=>∃i,x=.int i∧Q (some i) H1
theorem pE{ns:List Int}:∀{us:List Value},aW (ns.map V.int) us→IntsAre us ns:=by
  induction ns with
  | nil=>intro us r;rw [List.map_nil] at r;cases r;exact .nil
  | cons n ns ih=>
    intro us r
    rw [List.map_cons] at r
    cases r with
    | cons r1 r2=>
      obtain⟨t,e⟩:=r1
      subst e
      exact .cons n t (ih r2)
section
variable{X:Cx}{e:Expr}{te:TE}{lo hi:Option Expr}{tl th:TO}{pos p2:Pos}
theorem BO:PO X none Cb:=by
  intro pins s σ H Q I h
  rw [evalPart_none]
  exact wpAny_pure ⟨none,H,I,.none,h⟩
theorem BP(h:PE X e te):PO X (some e) (GN te):=by
  intro pins s σ H Q I hw
  rw [evalPart_some]
  refine bN (h pins s σ H _ I hw) fun u s1 ⟨x,H1,I1,r1,q1⟩=>?_
  obtain⟨i,rfl,q⟩:=q1
  obtain⟨t,rfl⟩:=r1
  exact⟨some i,H1,I1,.int i t,q⟩
def AH(X:Cx)(r:V→Option Int→Option Int→Hp→VK→Prop):Prop:=
  ∀(pins:List (Addr × Obj)) (s:Shared) (σ:St) (H:Hp) (x:V) (v vl vu:Value) (lo hi:Option Int) (sl:Addr) (Q:VK),aI X pins σ H s→bE x v→s.heap.IsSliceOf sl vl vu .none→IsPart vl lo→IsPart vu hi→r x lo hi H Q→
    ∃T id,typeLookup (.type T) "__getitem__"=pure (some (.builtin id))∧s.TypeIs v T∧wpAny (model X.prog X.w) X.A (getItem v (.ref sl)) (EP X pins σ Q) X.xe s
theorem AH.or{r r':V→Option Int→Option Int→Hp→VK→Prop}(h:AH X r)(h':AH X r'):AH X (fun x lo hi H Q=>r x lo hi H Q∨r' x lo hi H Q):=by
  intro pins s σ H x v vl vu lo hi sl Q I rx hs pl pu q
  rcases q with q | q
  · exact h pins s σ H x v vl vu lo hi sl Q I rx hs pl pu q
  · exact h' pins s σ H x v vl vu lo hi sl Q I rx hs pl pu q
def Iq(r:V→Option Int→Option Int→Hp→VK→Prop)(te:TE)(tl th:TO):TE:=fun σ H Q=>te σ H fun x H1=>tl σ H1 fun l H2=>th σ H2 fun u H3=>r x l u H3 Q
theorem zl{r:V→Option Int→Option Int→Hp→VK→Prop}(hr:AH X r)(he:PE X e te)(hl:PO X lo tl)(hu:PO X hi th):PE X (.Subscript e (.Slice lo hi none p2) pos) (Iq r te tl th):=by
  intro pins s σ H Q I h
  refine Subscript_ (bN (he pins s σ H _ I h) fun v s1 ⟨x,H1,I1,r1,q1⟩=>?_)
  refine wpAny_Slice (bN (hl pins s1 σ H1 _ I1 q1) fun vl s2 ⟨l,H2,I2,pl,q2⟩=>bN (hu pins s2 σ H2 _ I2 q2) fun vu s3 ⟨u,H3,I3,pu,q3⟩=>?_)
  rw [evalPart_none]
  refine wpAny_pure ?_
  have I4:aI X pins σ H3 {s3 with heap:=s3.heap.push {cls:=.type "slice",data:=.fields #[vl,vu,.none]}}:=I3.kept (t':=s3.toks) fun b ob q=>Heap.get?_push_of_some _ q
  obtain⟨T,id,hT,ht,hg⟩:=hr pins {s3 with heap:=s3.heap.push {cls:=.type "slice",data:=.fields #[vl,vu,.none]}} σ H3 x v vl vu l u s3.heap.objs.size Q I4 r1 (Heap.IsSliceOf.new ..) pl pu q3
  show wpAny (model X.prog X.w) X.A (subscriptTail e (.Slice lo hi none p2) v (.ref s3.heap.objs.size)) (EP X pins σ Q) X.xe {s3 with heap:=s3.heap.push {cls:=.type "slice",data:=.fields #[vl,vu,.none]}}
  exact tail_any (ops:=[.ref s3.heap.objs.size,v]) ht hT hg (by with_unfolding_all rfl)
def qi(xs:List V)(lo hi:Option Int):List V:=(xs.drop (HT.sIx xs.length 0 lo)).take (HT.sIx xs.length xs.length hi - HT.sIx xs.length 0 lo)
theorem nU(xs:List V)(lo hi:Option Int):(qi xs lo hi).length≤xs.length:=by
  unfold qi
  rw [List.length_take,List.length_drop]
  lia
def GA(K:PySem.W.Frag):V→Option Int→Option Int→Hp→VK→Prop:=fun x lo hi H Q=>∃a xs,x=.ref a∧cg K H a xs∧
  ¬(HT.sIx xs.length 0 lo=0∧HT.sIx xs.length xs.length hi=xs.length)∧∀p,H p=none→Q (.ref p) (bc H p (.tup (qi xs lo hi)))
theorem EO:AH X (GA X.K):=by
  intro pins s σ H x v vl vu lo hi sl Q I rx hs pl pu h
  obtain⟨a,xs,rfl,hx,hw,q⟩:=h
  cases rx
  obtain⟨its,r,ht,hz⟩:=I.tuple hx
  have hlen:its.toArray.size=xs.length:=by rw [List.size_toArray];exact r.length.symm
  refine⟨"tuple",_,PyProof.Rows.slot_tuple_getitem.lookup,ht.typeIs,?_⟩
  refine HT.getItem_tuple_cut ht hs pl pu (by rw [hlen];exact hw) ?_ (by rw [hlen];exact hz)
  rw [hlen]
  refine⟨.ref s.heap.objs.size,_,I.laid (t':=s.toks) (o:=.tup (qi xs lo hi)) (fun b ob q=>Heap.get?_push_of_some _ q) (Nat.le_refl _) ?_,rfl,q _ (I.hok.fresh (Nat.le_refl _))⟩
  exact⟨Nat.le_trans (nU xs lo hi) hz,_,(r.drop (HT.sIx xs.length 0 lo)).take (HT.sIx xs.length xs.length hi - HT.sIx xs.length 0 lo),lM.new _ _⟩
def Gs(K:PySem.W.Frag):R2:=fun x y H Q=>∃a b xs ys,x=.ref a∧y=.ref b∧cg K H a xs∧cg K H b ys∧xs≠[]∧xs.length+ys.length≤sizeLine∧
  (ys=[]→Q (.ref a) H)∧(ys≠[]→∀p,H p=none→Q (.ref p) (bc H p (.tup (xs++ys))))
theorem aW.nil_iff{xs:List V}{us:List Value}(r:aW xs us):us=[]↔ xs=[]:=by
  cases r with
  | nil=>simp
  | cons _ _=>simp
theorem Bu:ib X (binaryOp .Add) (Gs X.K):=by
  intro pins s σ H x y v u Q I rx ry h
  obtain⟨a,b,xs,ys,rfl,rfl,ha,hb,hx,hz,q1,q2⟩:=h
  cases rx
  cases ry
  obtain⟨its,r1,p1,_⟩:=I.tuple ha
  obtain⟨its2,r2,p2,_⟩:=I.tuple hb
  refine HT.cat_tup p1 p2 (fun z=>hx (r1.nil_iff.mp z)) (fun z=>⟨.ref a,H,I,rfl,q1 (r2.nil_iff.mp z)⟩) (fun z=>?_) (by rw [←r1.length,←r2.length];exact hz)
  refine⟨.ref s.heap.objs.size,_,I.laid (t':=s.toks) (o:=.tup (xs++ys)) (fun b ob q=>Heap.get?_push_of_some _ q) (Nat.le_refl _) ?_,rfl,q2 (fun w=>z (r2.nil_iff.mpr w)) _ (I.hok.fresh (Nat.le_refl _))⟩
  exact⟨by rw [List.length_append];exact hz,_,r1.append r2,lM.new _ _⟩
end
end L2
namespace L2
open PySem PySem.Spec PyProof.Rows
def mq(n:Nat)(i:Int):Option Nat:=if 0≤i then(if i < n then some i.toNat else none) else if -(n:Int)≤i then some (i+n).toNat else none
def atI{α:Type}(xs:List α)(i:Int):Option α:=(mq xs.length i).bind fun j=>xs[j]?
theorem wg{n:Nat}{i:Int}{j:Nat}(h:mq n i=some j):seqIndex? i n=some j∧j < n∧ -(n:Int)≤i∧i < n:=by
  unfold mq at h
  by_cases h0:0≤i
  · rw [if_pos h0] at h
    by_cases h1:i < n
    · rw [if_pos h1] at h
      have e:i.toNat=j:=Option.some.inj h
      exact⟨by rw [seqIndex_of h0 h1,e],by lia,by lia,h1⟩
    · rw [if_neg h1] at h;cases h
  · rw [if_neg h0] at h
    by_cases h1: -(n:Int)≤i
    · rw [if_pos h1] at h
      have e:(i+n).toNat=j:=Option.some.inj h
      exact⟨by rw [seqIndex_neg (by lia) h1,e],by lia,h1,by lia⟩
    · rw [if_neg h1] at h;cases h
theorem vN{α:Type}{xs:List α}{i:Int}{v:α}(h:atI xs i=some v):∃j,seqIndex? i xs.length=some j∧xs[j]?=some v∧j < xs.length∧ -(xs.length:Int)≤i∧i < xs.length:=by
  unfold atI at h
  cases e:mq xs.length i with
  | none=>rw [e] at h;cases h
  | some j=>
    rw [e] at h
    obtain⟨h1,h2,h3,h4⟩:=wg e
    exact⟨j,h1,h,h2,h3,h4⟩
def oJ(b:Expr):Prop:=∀o i,subscripted b false o i=operate [o,i] (getItem o i)
def Ax(X:Cx)(r:R2):Prop:=
  ∀(value slice:Expr) (pins:List (Addr × Obj)) (s:Shared) (σ:St) (H:Hp) (x y:V) (v u:Value) (Q:VK),aI X pins σ H s→bE x v→bE y u→r x y H Q→
    subscripted slice false v u=operate [v,u] (getItem v u)→wpAny (model X.prog X.w) X.A (subscriptTail value slice v u) (EP X pins σ Q) X.xe s
def HJ(X:Cx)(id:String)(r:V→List V→Hp→VK→Prop):Prop:=
  ∀(pins:List (Addr × Obj)) (s:Shared) (σ:St) (H:Hp) (x:V) (xs:List V) (v:Value) (us:List Value) (Q:VK),aI X pins σ H s→bE x v→aW xs us→r x xs H Q→
    wpAny (model X.prog X.w) X.A (call (.builtin id) (v::us)) (EP X pins σ Q) X.xe s
section
variable{X:Cx}{a b:Expr}{ta tb:TE}{pos:Pos}
theorem Ax.or{r r':R2}(h:Ax X r)(h':Ax X r'):Ax X (fun x y H Q=>r x y H Q∨r' x y H Q):=by
  intro value slice pins s σ H x y v u Q I rx ry q hs
  rcases q with q | q
  · exact h value slice pins s σ H x y v u Q I rx ry q hs
  · exact h' value slice pins s σ H x y v u Q I rx ry q hs
theorem C3{r:R2}(hr:Ax X r)(ha:PE X a ta)(hb:PE X b tb)(hs:oJ b):PE X (.Subscript a b pos) (GM r ta tb):=by
  intro pins s σ H Q I h
  exact Subscript_ (Dp ha hb I h fun v u s2 x y H2 I2 rx ry q=>hr a b pins s2 σ H2 x y v u Q I2 rx ry q (hs _ _))
def EF(K:PySem.W.Frag):R2:=fun x y H Q=>∃p xs i v,x=.ref p∧y=.int i∧cW K H p xs∧atI xs i=some v∧Q v H
def Gx(K:PySem.W.Frag):R2:=fun x y H Q=>∃p xs i v,x=.ref p∧y=.int i∧cg K H p xs∧atI xs i=some v∧Q v H
theorem wj:Ax X (EF X.K):=by
  intro value slice pins s σ H x y v u Q I rx ry h hs
  obtain⟨p,xs,i,z,rfl,rfl,hq,he,q⟩:=h
  cases rx
  obtain⟨t,rfl⟩:=ry
  obtain⟨its,r,pl,hz⟩:=I.list hq
  obtain⟨j,h1,h2,h3,h4,h5⟩:=vN he
  obtain⟨w,ew,rw'⟩:=r.get h2
  have hl:=r.length
  have hn:=pG
  have fin:EP X pins σ Q w s:=⟨z,H,I,rw',q⟩
  by_cases h0:0≤i
  · have hj:i.toNat=j:=by
      rw [seqIndex_of h0 h5] at h1
      exact Option.some.inj h1
    exact item_listR pl.isList h0 (by lia) (by rw [hj];simpa using ew) fin hs
  · have hj:(i+(its.toArray.size:Int)).toNat=j:=by
      rw [seqIndex_neg (by lia) h4] at h1
      rw [List.size_toArray,←hl]
      exact Option.some.inj h1
    exact subscriptTail_builtinR (x:=w) pl.isList.typeIs slot_list_getitem.lookup
      (wpAny_getItem_list_neg (Q:=fun r s'=>r=w∧EP X pins σ Q r s') pl.isList (by lia) (by rw [List.size_toArray]<;>lia) (by lia) (by rw [hj];simpa using ew) ⟨rfl,fin⟩) hs
theorem DE:Ax X (Gx X.K):=by
  intro value slice pins s σ H x y v u Q I rx ry h hs
  obtain⟨p,xs,i,z,rfl,rfl,hq,he,q⟩:=h
  cases rx
  obtain⟨t,rfl⟩:=ry
  obtain⟨its,r,pl,hz⟩:=I.tuple hq
  obtain⟨j,h1,h2,h3,h4,h5⟩:=vN he
  obtain⟨w,ew,rw'⟩:=r.get h2
  have hl:=r.length
  have hn:=pG
  have fin:EP X pins σ Q w s:=⟨z,H,I,rw',q⟩
  exact subscriptTail_builtinR (x:=w) pl.typeIs slot_tuple_getitem.lookup
    (getItem_tuple (j:=j) (Q:=fun r s'=>r=w∧EP X pins σ Q r s') pl (by lia) (by lia) (by rw [List.size_toArray,←hl];exact h1) (by simpa using ew) ⟨rfl,fin⟩) hs
theorem uW(its:List Value)(n j:Nat)(u:Value):Obj.mapSeq (·.setIfInBounds j u) {cls:=.type "list",data:=.seq its.toArray n}={cls:=.type "list",data:=.seq (its.set j u).toArray n}:=by
  simp [Obj.mapSeq]
theorem aI.lst{pins:List (Addr × Obj)}{σ:St}{H:Hp}{s:Shared}{p:Addr}{xs:List V}(I:aI X pins σ H s)(h:H p=some (.lst xs)):
    ∃(its:List Value) (n:Nat),aW xs its∧s.heap.get? p=some {cls:=.type "list",data:=.seq its.toArray n}∧xs.length≤sizeLine:=by
  obtain⟨z,its,n,r,e⟩:=I.hok p _ h
  exact⟨its,n,r,e,z⟩
theorem aI.lstUpd{pins:List (Addr × Obj)}{σ:St}{H:Hp}{s:Shared}{p:Addr}{xs ys:List V}{its its':List Value}{n n':Nat}{f:Obj→Obj}(I:aI X pins σ H s)(h:H p=some (.lst xs))
    (ho:s.heap.get? p=some {cls:=.type "list",data:=.seq its.toArray n})(hf:f {cls:=.type "list",data:=.seq its.toArray n}={cls:=.type "list",data:=.seq its'.toArray n'})(r:aW ys its')(hz:ys.length≤sizeLine)(t:Nat):
    aI X pins σ (bc H p (.lst ys)) {s with heap:=s.heap.update p f,toks:=t}:=by
  have e:(s.heap.update p f).get? p=some {cls:=.type "list",data:=.seq its'.toArray n'}:=by
    rw [Heap.get?_update_self f ho (by rw [hf]<;>rfl),hf]
  refine I.write (x:=p) (e:=p) (by rw [h];trivial) (.inl rfl) (fun b u hb q=>(Heap.get?_update_other _ _ (Ne.symm hb)).trans q) ⟨_,e⟩ ?_
  exact⟨hz,its',n',r,e⟩
def Gy:V→V→V→Hp→(Hp→Prop)→Prop:=fun o i v H Q=>∃p xs k j,o=.ref p∧i=.int k∧H p=some (.lst xs)∧mq xs.length k=some j∧Q (bc H p (.lst (xs.set j v)))
theorem p8:Dn X Gy:=by
  intro pins s σ H o i v ov iv u Q I ro ri rv h
  obtain⟨p,xs,k,j,rfl,rfl,hp,hj,q⟩:=h
  cases ro
  obtain⟨t,rfl⟩:=ri
  obtain⟨its,n,r,ho,hz⟩:=I.lst hp
  obtain⟨h1,h2,h3,h4⟩:=wg hj
  have hl:=r.length
  have hn:=pG
  have I':aI X pins σ (bc H p (.lst (xs.set j v))) {s with heap:=s.heap.update p (Obj.mapSeq (·.setIfInBounds j u))}:=
    I.lstUpd hp ho (uW its n j u) (r.set rv j) (by rw [List.length_set];exact hz) s.toks
  by_cases h0:0≤k
  · have hk:k.toNat=j:=by
      rw [seqIndex_of h0 h4] at h1
      exact Option.some.inj h1
    exact PySem.W.ki_setAt ho h0 (by lia) (by rw [List.size_toArray,←hl];exact h4) (by rw [hk];exact⟨_,I',q⟩)
  · have hk:(k+(its.toArray.size:Int)).toNat=j:=by
      rw [seqIndex_neg (by lia) h3] at h1
      rw [List.size_toArray,←hl]
      exact Option.some.inj h1
    exact PySem.W.ki_setBack ho (by lia) (by rw [List.size_toArray,←hl];exact h3) (by lia) (by rw [hk];exact⟨_,I',q⟩)
theorem sL(lo hi:Option Int)(n:Nat):(sliceBounds lo hi none n).1=((HT.sIx n 0 lo:Nat):Int)∧(sliceBounds lo hi none n).2.1=((HT.sIx n n hi:Nat):Int)∧(sliceBounds lo hi none n).2.2=1:=by
  refine⟨?_,?_,rfl⟩
  · cases lo with
    | none=>simp [sliceBounds,HT.sIx]
    | some i=>
      simp only [sliceBounds,HT.sIx,Option.getD_none,show(1:Int) > 0 by decide,if_true]
      by_cases h:i < 0
      · simp only [h,if_true]<;>lia
      · simp only [h,if_false]<;>lia
  · cases hi with
    | none=>simp [sliceBounds,HT.sIx]
    | some i=>
      simp only [sliceBounds,HT.sIx,Option.getD_none,show(1:Int) > 0 by decide,if_true]
      by_cases h:i < 0
      · simp only [h,if_true]<;>lia
      · simp only [h,if_false]<;>lia
theorem qt(its:List Value)(lo hi:Option Int):slicePick its.toArray lo hi none=((its.drop (HT.sIx its.length 0 lo)).take (HT.sIx its.length its.length hi - HT.sIx its.length 0 lo)).toArray:=by
  obtain⟨h1,h2,h3⟩:=sL lo hi its.toArray.size
  unfold slicePick
  rw [h1,h2,h3]
  simp only [sliceRange_one,pick_run,List.size_toArray]<;>rfl
def Gz(K:PySem.W.Frag):V→Option Int→Option Int→Hp→VK→Prop:=fun x lo hi H Q=>∃a xs,x=.ref a∧cW K H a xs∧∀p,H p=none→Q (.ref p) (bc H p (.lst (qi xs lo hi)))
theorem B8:AH X (Gz X.K):=by
  intro pins s σ H x v vl vu lo hi sl Q I rx hs pl pu h
  obtain⟨a,xs,rfl,hx,q⟩:=h
  cases rx
  obtain⟨its,r,ht,hz⟩:=I.list hx
  have hlen:=r.length
  refine⟨"list",_,slot_list_getitem.lookup,ht.isList.typeIs,?_⟩
  refine wpAny_getItem_list_slice ht.isList hs pl pu .none (by simp) ?_ (by rw [List.size_toArray]<;>lia)
  rw [qt,←hlen]
  refine⟨.ref s.heap.objs.size,_,I.laid (t':=s.toks) (o:=.lst (qi xs lo hi)) (fun b ob q=>Heap.get?_push_of_some _ q) (Nat.le_refl _) ?_,rfl,q _ (I.hok.fresh (Nat.le_refl _))⟩
  exact⟨Nat.le_trans (nU xs lo hi) hz,_,0,(r.drop (HT.sIx xs.length 0 lo)).take (HT.sIx xs.length xs.length hi - HT.sIx xs.length 0 lo),Heap.get?_push_size _ rfl⟩
theorem l7:ed X (.builtin "len") (fun xs H Q=>∃p ys,xs=[.ref p]∧(cW X.K H p ys∨cg X.K H p ys)∧Q (.int ys.length) H):=by
  intro pins s σ H xs us Q I r h
  obtain⟨p,ys,rfl,hq,q⟩:=h
  obtain⟨u,rfl,rx⟩:=rH r
  cases rx
  have hn:=pG
  rcases hq with hq | hq
  · obtain⟨its,r',pl,hz⟩:=I.list hq
    have hlen:=r'.length
    exact Calls.call_len_list pl.isList (by simp only [List.size_toArray]<;>lia) ⟨.int ys.length,H,I.tok _,⟨s.toks+1,by rw [List.size_toArray,hlen]⟩,q⟩
  · obtain⟨its,r',pl,hz⟩:=I.tuple hq
    have hlen:=r'.length
    exact len_tuple pl (by simp only [List.size_toArray]<;>lia) ⟨.int ys.length,H,I.tok _,⟨s.toks+1,by rw [List.size_toArray,hlen]⟩,q⟩
theorem rQ:ed X (.type "list") (fun xs H Q=>∃p ys,xs=[.ref p]∧(cW X.K H p ys∨cg X.K H p ys)∧∀l,H l=none→Q (.ref l) (bc H l (.lst ys))):=by
  intro pins s σ H xs us Q I r h
  obtain⟨p,ys,rfl,hq,q⟩:=h
  obtain⟨u,rfl,rx⟩:=rH r
  cases rx
  have fin:∀(its:List Value),aW ys its→ys.length≤sizeLine→∀(h':Heap) (c':Nat),(∀b o',s.heap.get? b=some o'→h'.get? b=some o')→
      h'.get? s.heap.objs.size=some {cls:=.type "list",dict:=none,data:=.seq its.toArray c',slots:=#[]}→EP X pins σ Q (.ref s.heap.objs.size) {s with heap:=h'}:=fun its r' hz h' c' kp e=>
    ⟨.ref s.heap.objs.size,_,I.laid (t':=s.toks) kp (Nat.le_refl _) (show h_ X.prog X.w _ h' _ (.lst ys) from⟨hz,its,c',r',e⟩),rfl,q _ (I.hok.fresh (Nat.le_refl _))⟩
  rcases hq with hq | hq
  · obtain⟨its,r',pl,hz⟩:=I.list hq
    have hlen:=r'.length
    obtain⟨o,ho,hc,n,hd⟩:=pl.isList
    exact call_list_seq p (.inl rfl) ho hc hd (fun h' c' kp e=>fin its r' hz h' c' kp e) (by simp only [List.size_toArray]<;>lia)
  · obtain⟨its,r',pl,hz⟩:=I.tuple hq
    have hlen:=r'.length
    obtain⟨o,ho,hc,n,hd⟩:=pl
    exact call_list_seq p (.inr rfl) ho hc hd (fun h' c' kp e=>fin its r' hz h' c' kp e) (by simp only [List.size_toArray]<;>lia)
theorem qh:ed X (.type "tuple") (fun xs H Q=>∃p ys,xs=[.ref p]∧((cW X.K H p ys∧∀l,H l=none→Q (.ref l) (bc H l (.tup ys)))∨(cg X.K H p ys∧Q (.ref p) H))):=by
  intro pins s σ H xs us Q I r h
  obtain⟨p,ys,rfl,h⟩:=h
  obtain⟨u,rfl,rx⟩:=rH r
  cases rx
  rcases h with ⟨hq,q⟩ | ⟨hq,q⟩
  · obtain⟨its,r',pl,hz⟩:=I.list hq
    have hlen:=r'.length
    refine call_tuple_list pl.isList (fun h' kp=>?_) (by simp only [List.size_toArray]<;>lia)
    have I1:aI X pins σ H {s with heap:=h'}:=I.kept (t':=s.toks) kp
    have I2:aI X pins σ (bc H h'.objs.size (.tup ys)) {s with heap:=h'.push {cls:=.type "tuple",data:=.seq its.toArray}}:=
      I1.laid (t':=s.toks) (fun b o e=>Heap.get?_push_of_some _ e) (Nat.le_refl _) (show h_ X.prog X.w _ _ _ (.tup ys) from⟨hz,its,r',lM.new _ _⟩)
    exact⟨.ref h'.objs.size,_,I2,rfl,q _ (I1.hok.fresh (Nat.le_refl _))⟩
  · obtain⟨its,r',pl,hz⟩:=I.tuple hq
    exact call_tuple_same pl ⟨.ref p,H,I,rfl,q⟩
def HW(K:PySem.W.Frag)(T:String)(x:V)(H:Hp):Prop:=match x with
  | .str _=>T="str"
  | .int _=>T="int"
  | .ref p=>(T="list"∧∃xs,cW K H p xs)∨(T="tuple"∧∃o,K.lookup p=some o∧o.cls=.type "tuple"∧o.dict=none)∨
      (T="dict"∧((∃kvs,H p=some (.dK kvs))∨∃kvs,H p=some (.dT kvs)))∨(T="set"∧∃S n,H p=some (.set S n))
  | _=>False
theorem E6{pins:List (Addr × Obj)}{σ:St}{H:Hp}{s:Shared}{T:String}{x:V}{v:Value}(I:aI X pins σ H s)(r:bE x v)(ty:HW X.K T x H):
    s.TypeIs v T∧∀a,v=.ref a→∃ob,s.heap.get? a=some ob∧ob.dict=none:=by
  cases x with
  | str z=>
    obtain⟨t,rfl⟩:=r
    cases (show T="str" from ty)
    exact⟨typeIs_str s z t,fun _ e=>nomatch e⟩
  | int i=>
    obtain⟨t,rfl⟩:=r
    cases (show T="int" from ty)
    exact⟨typeIs_int s i t,fun _ e=>nomatch e⟩
  | ref p=>
    cases r
    rcases ty with ⟨rfl,xs,hq⟩ | ⟨rfl,o,hk,hc,hd⟩ | ⟨rfl,hk⟩ | ⟨rfl,S,n,hk⟩
    · obtain⟨its,_,pl,_⟩:=I.list hq
      refine⟨pl.isList.typeIs,fun a e=>?_⟩
      cases e
      obtain⟨o,n,e,c,hd,_⟩:=pl
      exact⟨o,e,hd⟩
    · refine⟨⟨o,I.kIn p o hk,hc⟩,fun a e=>?_⟩
      cases e
      exact⟨o,I.kIn _ o hk,hd⟩
    · have z:∃o,s.heap.get? p=some o∧o.ExactDict:=by
        rcases hk with ⟨kvs,hk⟩ | ⟨kvs,hk⟩
        · obtain⟨_,_,_,_,o,_,_,e,ex,_⟩:=I.hok p _ hk
          exact⟨o,e,ex⟩
        · obtain⟨_,_,_,_,o,_,_,e,ex,_⟩:=I.hok p _ hk
          exact⟨o,e,ex⟩
      obtain⟨o,e,ex⟩:=z
      refine⟨⟨o,e,ex.1⟩,fun a e2=>?_⟩
      cases e2
      exact⟨o,e,ex.2.1⟩
    · obtain⟨o,_,_,_,e,ex,_⟩:=I.hok p _ hk
      refine⟨⟨o,e,ex.1⟩,fun a e2=>?_⟩
      cases e2
      exact⟨o,e,ex.2.1⟩
  | _=>exact False.elim ty
def HS(K:PySem.W.Frag)(T:String)(r:V→List V→Hp→VK→Prop)(to:TE)(t:TA):TE:=fun σ H Q=>to σ H fun x H1=>HW K T x H1∧t σ H1 fun xs H2=>r x xs H2 Q
variable{o e:Expr}{es:List Expr}{to:TE}{t:TA}{name:Str}{apos cpos:Pos}{T id:String}{r:V→List V→Hp→VK→Prop}
theorem ze(pa:PlainAttrs T)(slot:Slot T name id)(hty:typeOf (.builtin id)=pure (.type "method_descriptor"))(hm:HJ X id r)(ho:PE X o to)(ha:PA X (e::es) t)
    (hbase:attributeBase o name X.env (eval o X.env)=eval o X.env:=by rfl)
    (hfew:((backTo cpos (starEach (e::es) X.env)).all (fun x=> !x.1)&&(backToKw cpos (keywordEach [] X.env)).all (fun x=>x.1.isSome)
      &&decide ((e::es).length+([]:List Keyword).length+(if ([]:List Keyword).isEmpty then 0 else 1) < 30))=true:=by rfl)
    (hline:(apos.endLine==cpos.line)=true:=by rfl)(hs:starEach (e::es) X.env=(false,eval e X.env)::starEach es X.env:=by rfl)(hplain:(backTo cpos (starEach es X.env)).any (·.1)=false:=by rfl):
    PE X (.Call (.Attribute o name apos) (e::es) [] cpos) (HS X.K T r to t):=by
  intro pins s σ H Q I h
  refine wpAny_Call_method_late hbase hfew hline rfl (bN (ho pins s σ H _ I h) fun v s1 ⟨x,H1,I1,r1,ty,q1⟩=>?_)
  obtain⟨h1,h2⟩:=E6 I1 r1 ty
  refine⟨T,id,pa,slot,hty,h1,h2,?_⟩
  have hA:=ha cpos pins s1 σ H1 _ I1 q1
  rw [hs] at hA ⊢
  refine Calls.callWith_builtin (by show(false || (backTo cpos (starEach es X.env)).any (·.1))=false;rw [hplain]<;>rfl) (Calls.evalArgs_plain ?_)
  exact bN hA fun us s2 ⟨vs,H2,I2,r2,q2⟩=>hm pins s2 σ H2 x vs v us Q I2 r1 r2 q2
end
end L2
namespace L2
open PySem PySem.Spec PyProof.Rows
def G_(X:Cx)(id:String)(r:V→List V→Hp→VK→Prop):Prop:=
  ∀(pins:List (Addr × Obj)) (s:Shared) (σ:St) (H:Hp) (x:V) (xs:List V) (v:Value) (us:List Value) (Q:VK),aI X pins σ H s→bE x v→aW xs us→r x xs H Q→
    wpAny (model X.prog X.w) X.A (call (.builtin id) (v::us)) (EP X pins σ Q) X.xe s
theorem aW.one:∀{x:V} {us:List Value},aW [x] us→∃u,us=[u]∧bE x u
  | _,_,.cons r .nil=>⟨_,rfl,r⟩
theorem aW.eraseIdx:∀{xs:List V} {us:List Value} (i:Nat),aW xs us→aW (xs.eraseIdx i) (us.eraseIdx i)
  | _,_,_,.nil=>.nil
  | _,_,0,.cons _ t=>t
  | _,_,i+1,.cons r t=>.cons r (aW.eraseIdx i t)
theorem aW.rep{xs:List V}{us:List Value}(h:aW xs us):∀k:Nat,aW (List.replicate k xs).flatten (List.replicate k us).flatten
  | 0=>.nil
  | k+1=>by
    rw [List.replicate_succ,List.replicate_succ,List.flatten_cons,List.flatten_cons]
    exact aW.append h (aW.rep h k)
theorem qU{α:Type}:∀(l:List α) (i:Nat),(l.eraseIdx i).length≤l.length
  | [],_=>Nat.le_refl _
  | _::_,0=>Nat.le_succ _
  | _::r,i+1=>Nat.succ_le_succ (qU r i)
theorem qP(its:List Value):∀(k:Nat) (acc:List Value),
    List.foldl (fun x1 x2=>x1++x2) acc.toArray (List.replicate k its.toArray)=(acc++(List.replicate k its).flatten).toArray
  | 0,acc=>by simp
  | k+1,acc=>by
    have e:acc.toArray++its.toArray=(acc++its).toArray:=by simp
    have e2:(acc++its)++(List.replicate k its).flatten=acc++(List.replicate (k+1) its).flatten:=by
      rw [List.replicate_succ,List.flatten_cons,List.append_assoc]
    rw [←e2,←qP its k (acc++its),←e,List.replicate_succ,List.foldl_cons]
section
variable{X:Cx}{pins:List (Addr × Obj)}{σ:St}{H:Hp}{s:Shared}{l b:Addr}{xs ys zs:List V}
theorem aI.lset{its its':List Value}{n:Nat}{f:Array Value→Array Value}{t':Nat}(I:aI X pins σ H s)(hH:H l=some (.lst xs))
    (e:s.heap.get? l=some {cls:=.type "list",data:=.seq its.toArray n})(hf:f its.toArray=its'.toArray)(hv:aW ys its')(hz:ys.length≤sizeLine):
    aI X pins σ (bc H l (.lst ys)) {s with heap:=s.heap.update l (Obj.mapSeq f),toks:=t'}:=by
  have q:=PySem.IsL.update e f
  rw [hf] at q
  refine I.write (x:=l) (e:=l) (by rw [hH];exact trivial) (.inl rfl) (fun b' u hb hu=>(Heap.get?_update_other s.heap (Obj.mapSeq f) (Ne.symm hb)).trans hu) ⟨_,q⟩ ?_
  exact⟨hz,its',_,hv,q⟩
theorem aI.lnew{its:List Value}{t':Nat}(I:aI X pins σ H s)(hv:aW ys its)(hz:ys.length≤sizeLine):
    aI X pins σ (bc H s.heap.objs.size (.lst ys)) {s with heap:=s.heap.push {cls:=.type "list",data:=.seq its.toArray},toks:=t'}:=
  I.laid (fun _ _ q=>Heap.get?_push_of_some _ q) (Nat.le_refl _) ⟨hz,its,0,hv,Heap.get?_push_size _ rfl⟩
theorem aI.fresh(I:aI X pins σ H s):H s.heap.objs.size=none:=I.hok.fresh (Nat.le_refl _)
theorem aI.lstM(I:aI X pins σ H s)(hH:H l=some (.lst xs)):xs.length≤sizeLine∧∃(its:List Value) (n:Nat),aW xs its∧xs.length=its.length∧s.heap.get? l=some {cls:=.type "list",data:=.seq its.toArray n}:=by
  obtain⟨z,its,n,r,e⟩:=I.hok l _ hH
  exact⟨z,its,n,r,r.length,e⟩
theorem tV{n:Nat}(h:n≤sizeLine):Builtin.List.listTooLong n=false:=by
  unfold Builtin.List.listTooLong
  exact decide_eq_false (by lia)
end
section
variable{X:Cx}
def ww:V→List V→Hp→VK→Prop:=fun x vs H Q=>∃l xs y,x=.ref l∧vs=[y]∧H l=some (.lst xs)∧xs.length < sizeLine∧Q .non (bc H l (.lst (xs++[y])))
theorem jc:G_ X "list.append" ww:=by
  intro pins s σ H x vs v us Q I rx rv h
  obtain⟨l,xs,y,rfl,rfl,hH,hz,q⟩:=h
  cases rx
  obtain⟨u,rfl,ru⟩:=rv.one
  obtain⟨z,its,n,r,hl,e⟩:=I.lstM hH
  refine call_meets F.slot_list_append ⟨_,e,rfl⟩ F.entry_list_append (F.args_list_append_2 _ _) (PySem.list_append l its.toArray n u (by rw [List.size_toArray];lia)) ⟨e,?_⟩
  refine⟨.non,_,I.lset (its':=its++[u]) hH e (by simp) (r.append (.cons ru .nil)) ?_,rfl,q⟩
  rw [List.length_append,List.length_singleton]
  lia
def B5:V→List V→Hp→VK→Prop:=fun x vs H Q=>∃l b xs zs,x=.ref l∧vs=[.ref b]∧H l=some (.lst xs)∧H b=some (.lst zs)∧xs.length+zs.length≤sizeLine∧Q .non (bc H l (.lst (xs++zs)))
theorem xq:G_ X "list.extend" B5:=by
  intro pins s σ H x vs v us Q I rx rv h
  obtain⟨l,b,xs,zs,rfl,rfl,hH,hB,hz,q⟩:=h
  cases rx
  obtain⟨u,rfl,ru⟩:=rv.one
  cases ru
  obtain⟨z,its,n,r,hl,e⟩:=I.lstM hH
  obtain⟨z2,its2,n2,r2,hl2,e2⟩:=I.lstM hB
  have hsz:its.toArray.size+its2.toArray.size≤sizeLine:=by rw [List.size_toArray,List.size_toArray];lia
  have hlong:¬(!its.toArray.isEmpty&&Builtin.List.listTooLong (its.toArray.size+its2.toArray.size))=true:=by
    rw [tV hsz,Bool.and_false]
    exact Bool.false_ne_true
  refine call_meets F.slot_list_extend ⟨_,e,rfl⟩ F.entry_list_extend (F.args_list_extend_2 _ _)
    (AutoSeq1.list_extend_list_list_0 l its.toArray n b its2.toArray n2 hlong (by rw [List.size_toArray];lia) (by lia)) ⟨e,e2,?_⟩
  refine⟨.non,_,I.lset (its':=its++its2) hH e (by simp) (r.append r2) ?_,rfl,q⟩
  rw [List.length_append]
  lia
def zI:V→List V→Hp→VK→Prop:=fun x vs H Q=>∃l xs i k y,x=.ref l∧vs=[.int i]∧H l=some (.lst xs)∧ -(2 ^ 63)≤i∧i < 2 ^ 63∧seqIndex? i xs.length=some k∧xs[k]?=some y∧Q y (bc H l (.lst (xs.eraseIdx k)))
theorem yV:G_ X "list.pop" zI:=by
  intro pins s σ H x vs v us Q I rx rv h
  obtain⟨l,xs,i,k,y,rfl,rfl,hH,h1,h2,hk,hy,q⟩:=h
  cases rx
  obtain⟨u,rfl,ru⟩:=rv.one
  obtain⟨t,rfl⟩:=ru
  obtain⟨z,its,n,r,hl,e⟩:=I.lstM hH
  obtain⟨w,hw,rw'⟩:=r.get hy
  refine call_meets F.slot_list_pop ⟨_,e,rfl⟩ F.entry_list_pop (F.args_list_pop_2 _ _)
    (MeetsSeq.list_pop_at l its.toArray n i t k w (fitsIndex_both h1 h2) (by rw [List.size_toArray,←hl];exact hk) (by rw [←Array.getElem?_toList];exact hw) (by rw [List.size_toArray];lia)) ⟨e,?_⟩
  refine⟨y,_,I.lset (its':=its.eraseIdx k) hH e ?_ (r.eraseIdx k) ?_,rw',q⟩
  · show its.toArray.eraseIdxIfInBounds k=(its.eraseIdx k).toArray
    rw [List.eraseIdxIfInBounds_toArray]
  · have:=qU xs k
    lia
def EC:R2:=fun x y H Q=>∃l b xs zs,x=.ref l∧y=.ref b∧H l=some (.lst xs)∧H b=some (.lst zs)∧xs.length+zs.length≤sizeLine∧∀p,H p=none→Q (.ref p) (bc H p (.lst (xs++zs)))
theorem D5:ib X (binaryOp .Add) EC:=by
  intro pins s σ H x y v u Q I rx ry h
  obtain⟨l,b,xs,zs,rfl,rfl,hH,hB,hz,q⟩:=h
  cases rx
  cases ry
  obtain⟨z,its,n,r,hl,e⟩:=I.lstM hH
  obtain⟨z2,its2,n2,r2,hl2,e2⟩:=I.lstM hB
  refine PySem.P.add_list e e2 ?_ (by rw [List.size_toArray,List.size_toArray];lia)
  have ea:its.toArray++its2.toArray=(its++its2).toArray:=by simp
  rw [ea]
  exact⟨.ref _,_,I.lnew (t':=s.toks) (r.append r2) (by rw [List.length_append];lia),rfl,q _ I.fresh⟩
def EG:R2:=fun x y H Q=>∃l k xs,x=.ref l∧y=.int k∧H l=some (.lst xs)∧ -(2 ^ 63)≤k∧k < 2 ^ 63∧xs.length*k.toNat≤sizeLine∧
  ∀p,H p=none→Q (.ref p) (bc H p (.lst (List.replicate k.toNat xs).flatten))
theorem Be{α:Type}(xs:List α)(k:Nat):(List.replicate k xs).flatten.length=k*xs.length:=by
  induction k with
  | zero=>simp
  | succ k ih=>rw [List.replicate_succ,List.flatten_cons,List.length_append,ih,Nat.succ_mul,Nat.add_comm]
theorem Ec:ib X (binaryOp .Mult) EG:=by
  intro pins s σ H x y v u Q I rx ry h
  obtain⟨l,k,xs,rfl,rfl,hH,h1,h2,hz,q⟩:=h
  cases rx
  obtain⟨t,rfl⟩:=ry
  obtain⟨z,its,n,r,hl,e⟩:=I.lstM hH
  have hlen:its.toArray.size*k.toNat≤sizeLine:=by rw [List.size_toArray,←hl];exact hz
  have hcap:¬its.toArray.size*k.toNat > (2 ^ 63 - 1) / 8:=by
    have:(sizeLine:Nat)≤(2 ^ 63 - 1) / 8:=by decide
    lia
  have hfit:¬(!Builtin.List.listFitsIndex k)=true:=by
    rw [fitsIndex_both h1 h2]
    exact Bool.false_ne_true
  have hlong:¬Builtin.List.listTooLong (its.toArray.size*k.toNat)=true:=by
    rw [tV hlen]
    exact Bool.false_ne_true
  have hnew:List.foldl (fun x1 x2=>x1++x2) #[] (List.replicate (if its.toArray.isEmpty=true then 0 else k.toNat) its.toArray)=(List.replicate k.toNat its).flatten.toArray:=by
    have f0:∀m:Nat,List.foldl (fun x1 x2=>x1++x2) #[] (List.replicate m its.toArray)=(List.replicate m its).flatten.toArray:=fun m=>by
      have:=qP its m []
      rw [List.nil_append] at this
      exact this
    rw [f0]
    cases its with
    | nil=>simp
    | cons a r'=>rw [if_neg (by simp)]
  refine wpAny_binaryOp_repeat_ref (T:="list") (U:="int") (by decide) ⟨_,e,rfl⟩ (fun s'=>typeIs_int s' k t) noFill_list_mul F.fills_int_mul F.slot_int_rmul repeat_list F.slot_int_index.lookup
    (call_meets F.slot_int_rmul (typeIs_int s k t) F.entry_int_rmul (F.args_int_rmul_2 _ _) (int___rmul___int_list k t l its.toArray n)
      ⟨e,rfl,⟨_,e,rfl⟩,call_meets F.slot_list_mul ⟨_,e,rfl⟩ F.entry_list_mul (F.args_list_mul_2 _ _) (AutoListH.list___mul___list_int_3 l its.toArray n k t hfit hcap hlong) ⟨e,?_⟩⟩)
  rw [hnew]
  exact⟨.ref _,_,I.lnew (t':=s.toks) (r.rep k.toNat) (by rw [Be,Nat.mul_comm];exact hz),rfl,q _ I.fresh⟩
end
section
variable{prog:Program}{w:World}{A:Around}{E:Value→Shared→Prop}{s:Shared}
end
section
variable{X:Cx}
end
end L2
namespace Att
open PySem PySem.W PySem.Calls PyProof.Rows
theorem oF{P:Params}{h:Heap}:∀(ns:List Int) (vs:List Value),WellAll P h vs (ns.map WData.int)→IntsAre vs ns:=by
  intro ns
  induction ns with
  | nil=>
    intro vs w
    rw [List.map_nil] at w
    cases w
    exact .nil
  | cons n ns ih=>
    intro vs w
    rw [List.map_cons] at w
    cases w with
    | cons a b=>
      cases a
      exact .cons _ _ (ih _ b)
theorem xO{l:OpenLaw}{n:Nat}(hn:l.most=some n){P:Params}{h:Heap}{args:List WData}{vals:List Value}
    (hpre:l.row.toRowW.claim.pre args=true)(hwl:WellAll P h vals args):
    ∃a vs ns,vals=[Value.ref a]∧args=[WData.list (ns.map WData.int)]∧h.get? a=some {cls:=.type "list",data:=.seq vs.toArray}∧IntsAre vs ns∧ns.length≤n:=by
  have hsh:WShape.hasAll [] args [.list .int]=true:=(pre_splitW hpre).1
  have hc:l.pre.holds [] {args:=args}=true:=(pre_splitW hpre).2
  obtain⟨d,r,rfl,h1,h2⟩:=hasAllW_cons hsh
  obtain rfl:=hasAllW_nil h2
  obtain⟨xs,rfl,h3⟩:=hasW_list h1
  obtain⟨ns,rfl⟩:=items_int h3
  have hlen:ns.length≤n:=by
    unfold OpenLaw.pre at hc
    have h4:(WTm.not (.lt (.lit (.int (n:Int))) (.len (.arg 0)))).holds [] {args:=[.list (ns.map .int)]}=true:=by
      have h4:=(holds_andW hc).1
      rw [hn] at h4
      exact h4
    have h5:=condW_of h4 (w_not (w_lt w_lit (w_len_list (w_arg rfl))))
    rw [List.length_map] at h5
    refine Nat.le_of_not_lt fun q=>?_
    have q':(n:Int) < ((ns.length:Nat):Int):=by lia
    first
      | (rw [decide_eq_true q'] at h5;exact absurd h5 (by decide))
      | (simp at h5;lia)
  cases hwl with
  | cons w1 w2=>
    cases w2
    cases w1 with
    | list ho hall=>exact⟨_,_,ns,rfl,rfl,ho,oF ns _ hall,hlen⟩
theorem xK(l:OpenLaw)(args:List WData):l.row.toRowW.claim.post args (.bool true) args=true:=
  postW_of (r:=l.row.toRowW) (X:=(true==true))
    (show WShape.has [] (.bool true) .bool=true by first | rfl | decide | simp [WShape.has,WShape.arms,WShape.armsAll])
    (show(WTm.eq .res (.lit (.bool true))).value [] {args:=args,res:=some (.bool true),after:=args}=some (.bool (true==true)) from w_eq_bool (w_res rfl) w_lit) rfl
theorem attach_call{l:OpenLaw}{n:Nat}{q:Program}{loose:List Str}{XP:(Str→Option Value)→Heap→Prop}{YP:World→Heap→Prop}{d:DefRec}
    (hn:l.most=some n)(hdf:d.params.defaults=[])
    (call:∀(w:World) (s₀ s₁:Shared) (mg mb:Str→Option Value) (fa:Addr) (o:Obj) (pm cd doc:Value) (a:Addr) (vs:List Value) (ns:List Int),
      Ground q loose [] XP w s₀ mg mb s₁.heap→YP w s₁.heap→
      s₁.heap.get? fa=some o→o.data=.func (docDef d.name d.params d.body d.scope pm cd doc)→s₁.heap.CodeRec cd d.name→mg d.name=some (.ref fa)→
      s₁.heap.get? a=some {cls:=.type "list",data:=.seq vs.toArray}→IntsAre vs ns→ns.length≤n→s₁.gens=#[]→
      codeAny (model l.prog w) callerA (.call (.ref fa) ⟨[.ref a],[]⟩) (fun r s'=>r=.ok (.ret (.bool true))∧OldK s₁.heap s'.heap∧s'.os=s₁.os∧AllBare s'.gens) s₁):
    WalkO q loose XP YP l.row.toRowW d [] (fun f vs=>PySem.call f vs):=by
  intro w s₀ s₁ mg mb G Y fa o pm cd doc dV kV ho hd hcd hD hmg hg args vals as hpre hlay hrd hwl hlo
  obtain rfl:dV=.none:=Dflts.none hD hdf
  obtain rfl:kV=.none:=Dflts.noKw hD
  obtain⟨a,vs,ns,rfl,rfl,hobj,hints,hlen⟩:=xO hn hpre hwl
  refine enter_call (codeAny_mono (call w s₀ s₁ mg mb fa o pm cd doc a vs ns G Y ho (fd_plain hd) hcd hmg hobj hints hlen hg) fun r s' hq=>?_)
  obtain⟨rfl,h2,h3,h4⟩:=hq
  exact⟨.inl ⟨.bool true,.bool true,[],rfl,fun _=>rfl,.bool true,xK l _,fun _=>⟨List.Pairwise.nil,fun _ hm=>(nomatch hm)⟩⟩,h2,h3,h4⟩
section
variable{prog:Program}{w:World}{A:Around}{E:Value→Shared→Prop}{s:Shared}{K:Frag}
end
end Att
namespace L2
open PySem PySem.Spec PyProof.Rows
theorem lm:∀{vs:List Value} {ns:List Int},IntsAre vs ns→aW (ns.map V.int) vs
  | _,_,.nil=>.nil
  | _,_,.cons n t h=>.cons ⟨t,rfl⟩ (lm h)
def Dm(H:Hp):Prop:=∀b,H b=none∨∃o xs,H b=some (.frz o (.lst xs))
theorem yK{P:Program}{w:World}{K:PySem.W.Frag}{mg mb:Str→Option Value}{CX:wM}{k:Nat}{fa a:Addr}{fd:FuncData}{x:Str}{sp:Sp}{s₁:Shared}{vs:List Value}{ns:List Int}
    (KX:K.In s₁.heap)(hns:s₁.heap.Ns mainGlobals mg)(hb:s₁.heap.Ns builtinsNs mb)(hbb:∀x:Str,x≠"__name__"→mb x=bootBuiltins x)(hlim:s₁.heap.NoLimit)(hg:s₁.gens=#[])
    (ha:s₁.heap.get? a=some {cls:=.type "list",data:=.seq vs.toArray})(hi:IntsAre vs ns)(hl:ns.length≤sizeLine)(hr:eB k callerA)
    (F:∀base:Heap,K.In base→base.Ns mainGlobals mg→aL P w K mg base CX k fa fd [x] sp)(hbind:∀(s:Shared) (u:Value),BindsTo s fd ⟨[u],[]⟩ [(x,u)])
    (hsp:∀H:Hp,Dm H→cW K H a (ns.map V.int)→sp [.ref a] H (fun v _=>v=.bl true) fun _ _ _=>False)
    (hCX:∀H e s',CX [] H s₁ (fun _ _ _=>False) e s'→False):
    codeAny (model P w) callerA (.call (.ref fa) ⟨[.ref a],[]⟩) (fun r s'=>r=.ok (.ret (.bool true))∧OldK s₁.heap s'.heap∧s'.os=s₁.os∧AllBare s'.gens) s₁:=by
  have rv:=lm hi
  have lenV:=hi.length
  have core:∀H:Hp,Dm H→cW K H a (ns.map V.int)→oZ P w H s₁.heap→(∀b,H b≠none→b=a)→(H a≠none→K.lookup a=none)→
      codeAny (model P w) callerA (.call (.ref fa) ⟨[.ref a],[]⟩) (fun r s'=>r=.ok (.ret (.bool true))∧OldK s₁.heap s'.heap∧s'.os=s₁.os∧AllBare s'.gens) s₁:=by
    intro H hO hS hok hA hK
    have base_of:∀{b:Addr} {o:Obj},s₁.heap.get? b=some o→H b=none→(rZ s₁.heap H).get? b=some o:=fun e n=>yE e n
    have noA:∀{b:Addr} {o:Obj} {es:Array DictEntry} {ep:Nat},s₁.heap.get? b=some o→o.data=.dict es ep→H b=none:=fun{b o es ep} e d=>by
      cases q:H b with
      | none=>rfl
      | some u=>
        have e':b=a:=hA b (by rw [q];simp)
        subst e'
        rw [ha] at e;cases e
        have d':Data.seq vs.toArray _=Data.dict es ep:=d
        cases d'
    have nsK:∀{b:Addr} {m:Str→Option Value},s₁.heap.Ns b m→(rZ s₁.heap H).Ns b m:=fun{b m} ⟨o,es,ep,e,d,r⟩=>⟨o,es,ep,base_of e (noA e d),d,r⟩
    have hKb:K.In (rZ s₁.heap H):=fun b o e=>base_of (KX b o e) (by
      cases q:H b with
      | none=>rfl
      | some u=>
        have e':b=a:=hA b (by rw [q];simp)
        subst e'
        rw [hK (by rw [q];simp)] at e;cases e)
    have hM:Mod K mg (rZ s₁.heap H):=⟨hKb,nsK hns,⟨mb,nsK hb,hbb⟩,let ⟨mc,h1,h2⟩:=hlim;⟨mc,nsK h1,h2⟩⟩
    have e0:AD P w K mg (rZ s₁.heap H) callerA [] s₁ H:=⟨rfl,hM,fun b o e=>Bl e,Nat.le_of_eq (xg _ _),trivial,fun b hb=>absurd (show b∈([]:List Addr) from hb) (by simp),hok,.of_eq hg⟩
    refine codeAny_mono ((F _ hKb (nsK hns)).run callerA [] s₁ H ⟨[.ref a],[]⟩ [.ref a] [.ref a] _ _ hr e0 (hbind s₁ (.ref a)) (.cons rfl .nil) (hsp H hO hS)) fun r s' h=>?_
    cases r with
    | error e=>exact(hCX H e s' h).elim
    | ok fl=>
      cases fl with
      | next=>exact False.elim h
      | brk=>exact False.elim h
      | cont=>exact False.elim h
      | ret u=>
        obtain⟨v,H',os,bare,un,hok',r',q⟩:=h
        have q':v=.bl true:=q
        subst q'
        obtain rfl:u=Value.bool true:=r'
        refine⟨rfl,OldK.of_keep fun b o e=>?_,os,bare⟩
        cases q:H b with
        | none=>exact un.keep b o e q (by intro z;exact absurd (show b∈([]:List Addr) from z) (by simp)) (by simp)
        | some u=>
          rcases hO b with z | ⟨ob,xs,z⟩
          · rw [q] at z;cases z
          · have z2:=un.frzs b ob _ z
            obtain⟨e1,_⟩:=hok b _ z
            obtain⟨e2,_⟩:=hok' b _ z2
            rw [e] at e1;cases e1
            exact e2
  cases hk:K.lookup a with
  | some o=>
    have e:=KX a o hk
    rw [ha] at e
    cases e
    refine core (fun _=>none) (fun _=>.inl rfl) (.inr ⟨_,vs.toArray,_,hk,rfl,rfl,rfl,by rw [List.size_toArray,lenV];exact hl,by simpa using rv⟩) (fun b u z=>by have z':(none:Option HO)=some u:=z;cases z') (fun b z=>absurd rfl z) fun z=>absurd rfl z
  | none=>
    refine core (fun b=>if b=a then some (.frz {cls:=.type "list",data:=.seq vs.toArray} (.lst (ns.map V.int))) else none) (fun b=>?_) (.inl (.inr ⟨{cls:=.type "list",data:=.seq vs.toArray},if_pos rfl⟩)) (fun b u z=>?_) (fun b z=>?_) fun _=>hk
    · by_cases hb:b=a
      · exact .inr ⟨_,_,if_pos hb⟩
      · exact .inl (if_neg hb)
    · by_cases hb:b=a
      · have z':=(if_pos hb).symm.trans z
        cases z'
        subst hb
        exact⟨ha,by rw [List.length_map];exact hl,vs,_,rv,ha⟩
      · have z':=(if_neg hb).symm.trans z
        cases z'
    · by_cases hb:b=a
      · exact hb
      · exact absurd (if_neg hb) z
end L2
namespace L2
open PySem PySem.Spec PyProof.Rows
theorem walk_of{l:PySem.W.OpenLaw}{n k:Nat}{q:Program}{loose:List Str}{XP:(Str→Option Value)→Heap→Prop}{YP:World→Heap→Prop}{d:DefRec}{K:Params→PySem.W.Frag}{CX:World→wM}{sp:World→Sp}{x:Str}
    (hn:l.most=some n)(hn2:n≤sizeLine)(hdf:d.params.defaults=[])(hr:eB k callerA)
    (hY:∀(w:World) (h:Heap),YP w h→(K w.params).In h)
    (F:∀(w:World) (mg:Str→Option Value) (fa:Addr) (h:Heap),(K w.params).In h→h.Ns mainGlobals mg→mg d.name=some (.ref fa)→
      ∃fd:FuncData,(∀(s:Shared) (u:Value),BindsTo s fd ⟨[u],[]⟩ [(x,u)])∧
        ∀base:Heap,(K w.params).In base→base.Ns mainGlobals mg→aL l.prog w (K w.params) mg base (CX w) k fa fd [x] (sp w))
    (hsp:∀(w:World) (H:Hp) (a:Addr) (ns:List Int),ns.length≤n→Dm H→cW (K w.params) H a (ns.map V.int)→sp w [.ref a] H (fun v _=>v=.bl true) fun _ _ _=>False)
    (hCX:∀(w:World) (H:Hp) (s:Shared) (e:Value) (s':Shared),CX w [] H s (fun _ _ _=>False) e s'→False):
    PySem.W.WalkO q loose XP YP l.row.toRowW d [] (fun f vs=>PySem.call f vs):=by
  refine Att.attach_call hn hdf fun w s₀ s₁ mg mb fa o pm cd doc a vs ns G Y ho hd hcd hmg hobj hints hlen hg=>?_
  have KX:=hY w _ Y
  obtain⟨fd,hb,hF⟩:=F w mg fa _ KX G.T.g hmg
  exact yK KX G.T.g G.T.b G.T.builtins G.T.nolimit hg hobj hints (Nat.le_trans hlen hn2) hr hF hb (fun H hO hS=>hsp w H a ns hlen hO hS) fun H e s'=>hCX w H s₁ e s'
end L2
namespace L2
open PySem PySem.Spec PyProof.Rows
def eG(s:Stmt):Arguments:=match s with
  | .FunctionDef _ a _ _ _ _ _ _ _ _=>a
  | _=>{posonlyargs:=[],args:=[],vararg:=none,kwonlyargs:=[],kw_defaults:=[],kwarg:=none,defaults:=[]}
def dw(s:Stmt):List Stmt:=match s with
  | .FunctionDef _ _ b _ _ _ _ _ _ _=>b
  | _=>[]
def am(s:Stmt):Scope:=match s with
  | .FunctionDef _ _ _ _ _ _ sc _ _ _=>sc
  | _=>{kind:=.function,names:=[],isGenerator:=false,isCoroutine:=false}
abbrev bH:wM:=fun _ _ _ _ _ _=>False
abbrev E0:XK:=fun _ _ _=>False
theorem Gg{X:Cx}:uE bH X E0:=fun _ _ _ _ _ _ _ h=>h.elim
structure Fe (K:PySem.W.Frag) (x qual:Str) (st:Stmt) (f:Addr) (fd:FuncData):Prop where
  ex:∃(oc:Value) (od:Option Addr) (kV doc pm:Value) (an:Option Addr) (cdv ct:Value) (osl:Array (Option Value)),
    fd=PySem.W.fnOf x qual (eG st) (dw st) (am st) .none kV doc pm an cdv ct∧K.lookup f=some ⟨oc,od,.func fd,osl⟩∧PySem.W.codeIn K cdv qual=true
  kp:PySem.W.keepIn K (.ref f)=true
section
variable{P:Program}{w:World}{K:PySem.W.Frag}{mg:Str→Option Value}{base:Heap}
theorem Fe.ok{x qual:Str}{st:Stmt}{f:Addr}{fd:FuncData}{N ps:List Str}{k:Nat}{sp:Sp}(F:Fe K x qual st f fd)(S:aH N ps (am st))(len:∀vs H Q E,sp vs H Q E→vs.length=ps.length)
    (hbody:∀(cdv:Value) (A:Around) (outer:List Env) (s:Shared) (H:Hp) (vs:List V) (Q:VK) (E:XK),eB k (A.deeper (envOfC qual (am st) s.heap.objs.size f cdv))→sp vs H Q E→
      ∃t,oB (uL bH P w K mg base N qual (am st) f cdv A outer s H E).nox (dw st) t∧t {nx:=fun _ H'=>Q .non H',rt:=Q} (gK N vs) H):aL P w K mg base bH (k+1) f fd ps sp:=by
  obtain⟨oc,od,kV,doc,pm,an,cdv,ct,osl,rfl,lk,hcd⟩:=F.ex
  refine Fz lk hcd S len fun A outer s H vs Q E hr hsp=>?_
  obtain⟨t,h,q⟩:=hbody cdv A outer s H vs Q E hr hsp
  exact⟨t,h.nox,q⟩
theorem Fe.binds{x qual:Str}{st:Stmt}{f:Addr}{fd:FuncData}{ps:List Str}(F:Fe K x qual st f fd)
    (h:∀(kV doc pm:Value) (an:Option Addr) (cdv ct:Value) (us:List Value),us.length=ps.length→bindArgs (PySem.W.fnOf x qual (eG st) (dw st) (am st) .none kV doc pm an cdv ct) ⟨us,[]⟩=pure (ps.zip us)):qu K fd ps []:=by
  obtain⟨oc,od,kV,doc,pm,an,cdv,ct,osl,rfl,lk,hcd⟩:=F.ex
  exact .all (h kV doc pm an cdv ct)
theorem yy{x qual:Str}{st:Stmt}{f:Addr}{oc:Value}{od an:Option Addr}{osl:Array (Option Value)}{kV doc pm cdv ct:Value}(l:K.lookup f=some ⟨oc,od,.func (PySem.W.fnOf x qual (eG st) (dw st) (am st) .none kV doc pm an cdv ct),osl⟩)
    (c:PySem.W.codeIn K cdv qual=true)(k:PySem.W.keepIn K (.ref f)=true):Fe K x qual st f (PySem.W.fnOf x qual (eG st) (dw st) (am st) .none kV doc pm an cdv ct):=⟨⟨oc,od,kV,doc,pm,an,cdv,ct,osl,rfl,l,c⟩,k⟩
end
theorem rA{n:Nat}(h:n≤1000):n < sizeLine:=Nat.lt_of_le_of_lt h (by decide)
section
variable{X:Cx}
end
theorem Bc{A B:Prop}(h:B):if false=true then A else B:=by
  rw [if_neg Bool.false_ne_true]
  exact h
theorem Bd{A B:Prop}(h:A):if true=true then A else B:=by
  rw [if_pos rfl]
  exact h
def aD(H H':Hp):Prop:=∀b o,H b=some o→H' b=some o
theorem aD.refl(H:Hp):aD H H:=fun _ _ h=>h
theorem aD.trans{H H1 H2:Hp}(a:aD H H1)(b:aD H1 H2):aD H H2:=fun c o h=>b c o (a c o h)
theorem aD.free{H H':Hp}(e:aD H H'){l:Addr}(h:H' l=Option.none):H l=Option.none:=by
  cases q:H l with
  | none=>rfl
  | some o=>
    rw [e l o q] at h
    cases h
theorem aD.seq{K:PySem.W.Frag}{H H':Hp}{a:Addr}{xs:List V}(e:aD H H')(h:cW K H a xs):cW K H' a xs:=by
  rcases h with (h | ⟨o,h⟩) | h
  · exact .inl (.inl (e _ _ h))
  · exact .inl (.inr ⟨o,e _ _ h⟩)
  · exact .inr h
end L2
set_option maxHeartbeats 4000000
namespace L2
open PySem PySem.Spec PyProof.Rows
def Bt(n:Nat)(i:Int):Prop:=i.natAbs < 2 ^ n
theorem Bt.mono{m n:Nat}{i:Int}(h:Bt m i)(hm:m≤n):Bt n i:=Nat.lt_of_lt_of_le h (Nat.pow_le_pow_right (by decide) hm)
theorem Bt.log{m:Nat}{i:Int}(h:Bt m i)(hm:0 < m):i.natAbs.log2 < m:=by
  unfold Bt at h
  rcases Nat.eq_zero_or_pos i.natAbs with h0 | hp
  · rw [h0];exact hm
  · exact(Nat.log2_lt (by lia)).mpr h
theorem Bt.bits{m:Nat}{i:Int}(h:Bt m i)(hm:0 < m):Builtin.Int.intBits i≤m:=by
  unfold Builtin.Int.intBits
  split
  · exact Nat.zero_le _
  · exact h.log hm
theorem Bt.of_le{m:Nat}{i:Int}{j:Int}(h:Bt m j)(e:i.natAbs≤j.natAbs):Bt m i:=Nat.lt_of_le_of_lt e h
section
variable{X:Cx}
def Cv(i j:Int):Prop:=Bt 4000 i∧Bt 4000 j
theorem By:ib X (binaryOp .Mult) (rI Cv fun i j=>.int (i*j)):=Ga fun _ _ _ _ _ _ _ hc q=>
  mul_int q (.of_bits (Nat.le_trans (hc.1.bits (by decide)) (by decide)) (Nat.le_trans (hc.2.bits (by decide)) (by decide)))
def Cu(i j:Int):Prop:=j≠0∧Bt 8000 j
theorem y8:ib X (binaryOp .FloorDiv) (rI Cu fun i j=>.int (i.fdiv j)):=Ga fun _ _ _ _ _ _ _ hc q=>
  floordiv_int hc.1 q (.inl (PyProof.noPylong_of_log2 (Nat.lt_trans (hc.2.log (by decide)) (by decide))))
theorem D9:ib X (compareOp .Is) (fun x y H Q=>∃b c,x=.bl b∧y=.bl c∧Q (.bl (b==c)) H):=by
  intro pins s σ H x y v u Q I rx ry h
  obtain⟨b,c,rfl,rfl,q⟩:=h
  cases rx;cases ry
  exact is_bool ⟨.bl _,H,I,rfl,q⟩
end
def nJ(H H':Hp):Prop:=∀a o,H a=some o→(∀xs,o≠.lst xs)→(∀ob xs,o≠.frz ob (.lst xs))→H' a=some o
theorem nJ.trans{H H1 H2:Hp}(a:nJ H H1)(b:nJ H1 H2):nJ H H2:=fun c o h n m=>b c o (a c o h n m) n m
theorem aD.ts{H H':Hp}(h:aD H H'):nJ H H':=fun a o e _ _=>h a o e
theorem nJ.tup{K:PySem.W.Frag}{H H':Hp}(h:nJ H H'){a:Addr}{xs:List V}(q:cg K H a xs):cg K H' a xs:=by
  rcases q with (q | ⟨o,q⟩) | q
  · exact .inl (.inl (h _ _ q (fun _ e=>nomatch e) (fun _ _ e=>nomatch e)))
  · exact .inl (.inr ⟨o,h _ _ q (fun _ e=>nomatch e) (fun _ _ e=>nomatch e)⟩)
  · exact .inr q
section
variable{X:Cx}
end
end L2
namespace L2
open PySem PySem.Spec PyProof.Rows
structure be (K:PySem.W.Frag) (mg:Str→Option Value) (x:Str) (st:Stmt) (f:Addr) (fd:FuncData) (ps:List Str):Prop where
  F:Fe K x x st f fd
  m:mg x=some (.ref f)
  b:qu K fd ps []
theorem Dy{K:PySem.W.Frag}{mg:Str→Option Value}{h:Heap}{x:Str}{st:Stmt}{f:Addr}{ps:List Str}{oc:Value}{od an:Option Addr}{osl:Array (Option Value)}{kV doc pm cdv ct:Value}(X:K.In h)(G:h.Ns mainGlobals mg)(a:PySem.W.nsIn K mainGlobals x=some (some (.ref f)))
    (l:K.lookup f=some ⟨oc,od,.func (PySem.W.fnOf x x (eG st) (dw st) (am st) .none kV doc pm an cdv ct),osl⟩)(c:PySem.W.codeIn K cdv x=true)(k:PySem.W.keepIn K (.ref f)=true)
    (hb:∀(kV doc pm:Value) (an:Option Addr) (cdv ct:Value) (us:List Value),us.length=ps.length→bindArgs (PySem.W.fnOf x x (eG st) (dw st) (am st) .none kV doc pm an cdv ct) ⟨us,[]⟩=pure (ps.zip us)):
    be K mg x st f (PySem.W.fnOf x x (eG st) (dw st) (am st) .none kV doc pm an cdv ct) ps:=⟨yy l c k,PySem.W.mg_of X G a,(yy l c k).binds hb⟩
theorem Hu{X:Cx}{x:Str}{st:Stmt}{f:Addr}{fd:FuncData}{ps:List Str}{k:Nat}{sp:Sp}{e:Expr}{es:List Expr}{t:TA}{p pos:Pos}(h:be X.K X.mg x st f fd ps)(G:aL X.prog X.w X.K X.mg X.base bH k f fd ps sp)(hr:eB k X.A)(ha:PA X (e::es) t)
    (hg:Gl X x:=by rfl)(hdb:(x==("__debug__":Str))=false:=by decide)(he:starEach (e::es) X.env=(false,eval e X.env)::starEach es X.env:=by rfl)(hpl:(backTo pos (starEach es X.env)).any (·.1)=false:=by rfl):
    PE X (.Call (.Name x p) (e::es) [] pos) (z9 sp [] E0 t):=BE G hr hg h.m h.F.kp h.b .nil Gg ha hdb he hpl
theorem aD.new{H:Hp}{p:Addr}{o:HO}(h:H p=none):aD H (bc H p o):=fun b u e=>by
  rw [aF (fg e h)];exact e
theorem aD.tup{K:PySem.W.Frag}{H H':Hp}{a:Addr}{xs:List V}(e:aD H H')(h:cg K H a xs):cg K H' a xs:=e.ts.tup h
end L2
namespace L2
open PySem PySem.Spec PyProof.Rows
def gF(t b:Int):Int × Int:=if b < 0 then(t.fdiv (-(Int.gcd t b:Int)),b.fdiv (-(Int.gcd t b:Int))) else(t.fdiv (Int.gcd t b:Int),b.fdiv (Int.gcd t b:Int))
theorem yC(x y:Int):Int.gcd y (x.fmod y)=Int.gcd x y:=by
  rw [Int.fmod_def,Int.gcd_sub_mul_left_right,Int.gcd_comm]
theorem oi(x:Int){y:Int}(h:y≠0):(x.fmod y).natAbs < y.natAbs:=by
  rcases Int.lt_or_gt_of_ne h with h | h
  · have h1:x.fmod y= -((-x).fmod (-y)):=by
      have:=Int.neg_fmod_neg x y
      lia
    have h2:=Int.fmod_nonneg_of_pos (-x) (b:= -y) (by lia)
    have h3:=Int.fmod_lt_of_pos (-x) (b:= -y) (by lia)
    lia
  · have h2:=Int.fmod_nonneg_of_pos x h
    have h3:=Int.fmod_lt_of_pos x h
    lia
theorem wc{t b:Int}(h:b≠0):(0:Int) < Int.gcd t b:=by
  have:=Int.gcd_pos_of_ne_zero_right t h
  lia
theorem qW{t b:Int}(h:b≠0):∃d:Int,d.natAbs=Int.gcd t b∧d≠0∧(gF t b).1*d=t∧(gF t b).2*d=b∧0 < (gF t b).2:=by
  have hg:=wc (t:=t) h
  have d1:(Int.gcd t b:Int) ∣ t:=Int.gcd_dvd_left ..
  have d2:(Int.gcd t b:Int) ∣ b:=Int.gcd_dvd_right ..
  unfold gF
  split
  · rename_i hb
    have e1:t.fdiv (-(Int.gcd t b:Int))*(-(Int.gcd t b:Int))=t:=Int.fdiv_mul_cancel (Int.neg_dvd.mpr d1)
    have e2:b.fdiv (-(Int.gcd t b:Int))*(-(Int.gcd t b:Int))=b:=Int.fdiv_mul_cancel (Int.neg_dvd.mpr d2)
    refine⟨-(Int.gcd t b:Int),by lia,by lia,e1,e2,?_⟩
    show 0 < b.fdiv (-(Int.gcd t b:Int))
    have h3:b.fdiv (-(Int.gcd t b:Int))*(Int.gcd t b:Int)= -b:=by rw [Int.mul_neg] at e2;lia
    exact Int.pos_of_mul_pos_left (by lia) (by lia) (b:=(Int.gcd t b:Int))
  · rename_i hb
    have e1:t.fdiv (Int.gcd t b:Int)*(Int.gcd t b:Int)=t:=Int.fdiv_mul_cancel d1
    have e2:b.fdiv (Int.gcd t b:Int)*(Int.gcd t b:Int)=b:=Int.fdiv_mul_cancel d2
    refine⟨(Int.gcd t b:Int),by lia,by lia,e1,e2,?_⟩
    show 0 < b.fdiv (Int.gcd t b:Int)
    exact Int.pos_of_mul_pos_left (by lia) (by lia) (b:=(Int.gcd t b:Int))
theorem yT{t b:Int}(h:b≠0):Int.gcd (gF t b).1 (gF t b).2=1:=by
  obtain⟨d,h1,h2,h3,h4,h5⟩:=qW (t:=t) h
  have e:Int.gcd ((gF t b).1*d) ((gF t b).2*d)=Int.gcd (gF t b).1 (gF t b).2*d.natAbs:=Int.gcd_mul_right ..
  rw [h3,h4,←h1] at e
  have hd:0 < d.natAbs:=by lia
  exact(Nat.eq_of_mul_eq_mul_right hd (by rw [Nat.one_mul];exact e)).symm
theorem Dx{t b:Int}(h:b≠0){n:Nat}(hb:Bt n b):Bt n (Int.gcd t b:Int):=by
  refine hb.of_le ?_
  have h1:=Nat.le_of_dvd (show 0 < b.natAbs by lia) (Int.ofNat_dvd.mp (by rw [Int.dvd_natAbs];exact Int.gcd_dvd_right t b))
  lia
mutual
def cnt:PyData→Nat
  | .tuple ds=>1+lO ds
  | .str _=>0
  | _=>1
def lO:List PyData→Nat
  | []=>0
  | d::ds=>cnt d+lO ds
end
mutual
def pM:PyData→Bool
  | .tuple ds=>jd ds
  | .str _=>false
  | .list _=>false
  | .dict _=>false
  | _=>true
def jd:List PyData→Bool
  | []=>true
  | d::ds=>pM d&&jd ds
end
theorem qk{a:Int}(h:a.natAbs.log2 < 1920):(Str.ofString (toString a)).length≤1921:=by
  have e:=int_text_length_le (k:=1920) (by decide) h
  rw [PySem.ofString_length];lia
theorem vd(x:Str)(r:List Str):piled (x::r)=x.length+2+piled r:=by
  simp [piled]
theorem xV(ts:List Str):(tupleText ts).length≤piled ts+3:=by
  unfold tupleText
  rw [strLen_append,strLen_append]
  have h1:(("(":Str)).length=1:=by decide
  have h2:(Str.ofString (if (ts.length==1)=true then ",)" else ")")).length≤2:=by split<;>decide
  have h3:(Str.join ", " ts).length≤piled ts:=by
    cases ts with
    | nil=>show(Str.join ", " []).length≤0;decide
    | cons x r=>have:=join_length_add (x::r) (by simp);lia
  lia
mutual
theorem rq:∀{d:PyData},pM d=true→d.showable=true→d.shown.length+2≤2000*cnt d
  | .none,_,_=>by show(Str.ofString "None").length+2≤2000*1;decide
  | .bool b,_,_=>by
    cases b
    · show(Str.ofString "False").length+2≤2000*1;decide
    · show(Str.ofString "True").length+2≤2000*1;decide
  | .int i,_,hs=>by
    simp only [PyData.showable,decide_eq_true_eq] at hs
    have:=qk hs
    show(Str.ofString (toString i)).length+2≤2000*1
    lia
  | .tuple ds,hn,hs=>by
    simp only [PyData.showable] at hs
    simp only [pM] at hn
    have h1:=mR hn hs
    have h2:=xV (PyData.shownAll ds)
    simp only [PyData.shown,cnt]
    lia
  | .str _,hn,_=>by simp [pM] at hn
  | .list _,hn,_=>by simp [pM] at hn
  | .dict _,hn,_=>by simp [pM] at hn
theorem mR:∀{ds:List PyData},jd ds=true→PyData.showableAll ds=true→piled (PyData.shownAll ds)≤2000*lO ds
  | [],_,_=>by simp [PyData.shownAll,piled]
  | d::ds,hn,hs=>by
    simp only [jd,Bool.and_eq_true] at hn
    simp only [PyData.showableAll,Bool.and_eq_true] at hs
    have h1:=rq hn.1 hs.1
    have h2:=mR hn.2 hs.2
    simp only [PyData.shownAll,lO,vd]
    lia
end
end L2
namespace L2
open PySem PySem.Spec PyProof.Rows
def ig(env:Env):List (Str × NameKind)→List (Str × Addr)→List (Str × Addr)
  | [],cs=>cs
  | (n,k)::r,cs=>ig env r (if k==.free then(n,(env.cells.lookup n).getD 0)::cs else cs)
theorem l9{env:Env}:∀(names:List (Str × NameKind)) (cs:List (Str × Addr)),(∀y∈names,y.2=.free→∃c,env.cells.lookup y.1=some c)→
    (forIn names cs (fun(x:Str × NameKind) (r:List (Str × Addr))=>(if (x.2==NameKind.free)=true then do let a ←cellOf env x.1;pure (ForInStep.yield ((x.1,a)::r)) else pure (ForInStep.yield r):Sem (ForInStep (List (Str × Addr))))):Sem (List (Str × Addr)))=pure (ig env names cs)
  | [],cs,_=>rfl
  | (n,k)::r,cs,h=>by
    rw [List.forIn_cons]
    have ih:=fun cs'=>l9 (env:=env) r cs' (fun y hy=>h y (List.mem_cons_of_mem _ hy))
    by_cases hk:(k==NameKind.free)=true
    · have hk':k=.free:=by simpa using hk
      obtain⟨c,hc⟩:=h (n,k) List.mem_cons_self hk'
      have e:cellOf env n=pure c:=by unfold cellOf;rw [hc]
      simp only [hk,if_true,e,pure_bind,ig,hc,Option.getD_some]
      exact ih _
    · have hk':(k==NameKind.free)=false:=by simpa using hk
      simp only [hk',Bool.false_eq_true,if_false,pure_bind,ig]
      exact ih _
theorem lN{scope:Scope}{env:Env}(h:∀y∈scope.names,y.2=.free→∃c,env.cells.lookup y.1=some c):closureFor scope env=pure (ig env scope.names []):=by
  have e:=l9 (env:=env) scope.names [] h
  unfold closureFor
  simp only [pure_bind,bind_pure] at e ⊢
  exact e
theorem jw{env:Env}:∀(names:List (Str × NameKind)) (cs:List (Str × Addr)) (x:Str) (c:Addr),(∀y∈names,y.2=.free→∃c,env.cells.lookup y.1=some c)→(∀x c,cs.lookup x=some c→env.cells.lookup x=some c)→(ig env names cs).lookup x=some c→env.cells.lookup x=some c
  | [],cs,x,c,_,hs,h=>hs x c h
  | (n,k)::r,cs,x,c,hn,hs,h=>by
    refine jw r _ x c (fun y hy=>hn y (List.mem_cons_of_mem _ hy)) (fun x' c' e=>?_) h
    by_cases hk:(k==NameKind.free)=true
    · rw [if_pos hk] at e
      obtain⟨c0,hc⟩:=hn (n,k) List.mem_cons_self (by simpa using hk)
      rw [List.lookup_cons] at e
      cases hx:x'==n with
      | true=>
        rw [hx] at e
        have e1:x'=n:=by simpa using hx
        subst e1
        simp only [hc,Option.getD_some,Option.some.injEq] at e
        rw [←e];exact hc
      | false=>rw [hx] at e;exact hs x' c' e
    · rw [if_neg hk] at e
      exact hs x' c' e
theorem l8{env:Env}:∀(names:List (Str × NameKind)) (cs:List (Str × Addr)) (x:Str),((∃y∈names,y.1=x∧y.2=.free)∨∃c,cs.lookup x=some c)→∃c,(ig env names cs).lookup x=some c
  | [],cs,x,h=>by
    rcases h with ⟨y,hy,_⟩ | h
    · cases hy
    · exact h
  | (n,k)::r,cs,x,h=>by
    refine l8 r _ x ?_
    by_cases hk:(k==NameKind.free)=true
    · rw [if_pos hk,List.lookup_cons]
      cases hx:x==n with
      | true=>exact .inr ⟨_,rfl⟩
      | false=>
        rcases h with ⟨y,hy,e1,e2⟩ | h
        · rcases List.mem_cons.mp hy with z | z
          · subst z;subst e1;simp at hx
          · exact .inl ⟨y,z,e1,e2⟩
        · exact .inr h
    · rw [if_neg hk]
      rcases h with ⟨y,hy,e1,e2⟩ | h
      · rcases List.mem_cons.mp hy with z | z
        · subst z;exact absurd (by simpa using e2) hk
        · exact .inl ⟨y,z,e1,e2⟩
      · exact .inr h
theorem cI{env:Env}:∀{names:List (Str × NameKind)} {x:Str},(∀y∈names,y.2≠.cell)→(names.map fun(n,k)=>if (k==NameKind.free&&env.scope.kind==.function&&env.kindOf n==some .cell) then(n,NameKind.cell) else(n,k)).lookup x=some .cell∨
    (names.map fun(n,k)=>if (k==NameKind.free&&env.scope.kind==.function&&env.kindOf n==some .cell) then(n,NameKind.cell) else(n,k)).lookup x=some .free→∃y∈names,y.1=x∧y.2=.free
  | [],x,_,h=>by simp at h
  | (n,k)::r,x,hc,h=>by
    have ih:=@cI env r x (fun y hy=>hc y (List.mem_cons_of_mem _ hy))
    have nc:k≠.cell:=hc (n,k) List.mem_cons_self
    rw [List.map_cons] at h
    cases hx:x==n with
    | true=>
      have e1:x=n:=by simpa using hx
      subst e1
      refine⟨(x,k),List.mem_cons_self,rfl,?_⟩
      by_cases q:(k==NameKind.free&&env.scope.kind==.function&&env.kindOf x==some .cell)=true
      · simp only [Bool.and_eq_true,beq_iff_eq] at q;exact q.1.1
      · simp only [q,Bool.false_eq_true,if_false,List.lookup_cons,beq_self_eq_true,Option.some.injEq] at h
        rcases h with h | h
        · exact absurd h nc
        · exact h
    | false=>
      have e2:∀(l:List (Str × NameKind)),((if (k==NameKind.free&&env.scope.kind==.function&&env.kindOf n==some .cell)=true then(n,NameKind.cell) else(n,k))::l).lookup x=l.lookup x:=fun l=>by
        split<;>simp [List.lookup_cons,hx]
      simp only [e2] at h
      obtain⟨y,hy,z⟩:=ih h
      exact⟨y,List.mem_cons_of_mem _ hy,z⟩
theorem dY{env:Env}:∀{names:List (Str × NameKind)} {x:Str},names.lookup x=some .free→
    (names.map fun(n,k)=>if (k==NameKind.free&&env.scope.kind==.function&&env.kindOf n==some .cell) then(n,NameKind.cell) else(n,k)).lookup x≠some .local
  | [],x,h=>by simp at h
  | (n,k)::r,x,h=>by
    rw [List.map_cons]
    cases hx:x==n with
    | true=>
      simp only [hx,List.lookup_cons] at h
      cases h
      show List.lookup x ((if (NameKind.free==NameKind.free&&env.scope.kind==.function&&env.kindOf n==some .cell)=true then(n,NameKind.cell) else(n,NameKind.free))::_)≠_
      split<;>simp [List.lookup_cons,hx]
    | false=>
      simp only [hx,List.lookup_cons] at h
      have ih:=@dY env r x h
      have e2:∀(l:List (Str × NameKind)),((if (k==NameKind.free&&env.scope.kind==.function&&env.kindOf n==some .cell)=true then(n,NameKind.cell) else(n,k))::l).lookup x=l.lookup x:=fun l=>by
        split<;>simp [List.lookup_cons,hx]
      simp only [e2]
      exact ih
def aw(X:Cx)(scope:Scope)(cp:List (Nat × Str))(tgN:List Str)(C:Addr)(s0:Shared)(H0:Hp)(fp:List Addr):Cx where
  prog:=X.prog
  w:=X.w
  K:=X.K
  mg:=X.mg
  base:=X.base
  A:=X.A
  N:=cp.map (·.2)++tgN
  s₀:=s0
  H₀:=H0
  env:=compEnvC scope (ig X.env scope.names []) C X.env
  outer:=X.stack
  stack:=X.stack
  ex:=fp
  fn:=fun x=>scope.names.lookup x==some .local
  calm:=X.calm
  pn:=[]
  xe:=fun _ _=>False
def uB(X:Cx)(ifs:List Expr)(t:TT):Prop:=
  ∀(pins:List (Addr × Obj)) (s:Shared) (σ:L2.St) (H:Hp) (Q:Bool→Hp→Prop),aI X pins σ H s→t σ H Q→
    wpAny (model X.prog X.w) X.A (forIn ifs true fun c r=>if r=true then do let ok ←isTrue c X.env (eval c X.env);pure (ForInStep.yield ok) else pure (ForInStep.yield r)) (TP X pins σ Q) X.xe s
theorem BY{X:Cx}:uB X [] (fun _ H Q=>Q true H):=fun _ _ _ H _ I h=>wpAny_tests_nil ⟨H,I,h⟩
theorem BZ{X:Cx}{c:Expr}{t:TT}(h:PT X c t):uB X [c] t:=fun pins s σ H Q I q=>wpAny_tests_one (h pins s σ H Q I q)
abbrev wq:Value→Shared→Prop:=fun _ _=>False
def yt(prog:Program)(w:World)(A:Around)(elt tg:Expr)(ifs:List Expr)(env:Env)(it acc:Value)(onward:Shared→Prop)(v:Value)(u:Shared):Prop:=
  wpAny (model prog w) A (letOwnedTupleGo tg it v) (fun _ u1=>wpAny (model prog w) A (assign tg env v) (fun _ u2=>wpAny (model prog w) A
    (forIn ifs true fun c r=>if r=true then do let ok ←isTrue c env (eval c env);pure (ForInStep.yield ok) else pure (ForInStep.yield r)) (fun ok u3=>if ok=true then wpAny (model prog w) A (eval elt env) (fun x u4=>wpAny (model prog w) A (call (.builtin "list.append") [acc,x]) (fun _ u5=>onward u5) wq u4) wq u3 else onward u3) wq u2) wq u1) wq u
theorem l_{prog:Program}{w:World}{A:Around}{R:Result→Shared→Prop}{elt tg iter:Expr}{ifs:List Expr}{scope:Scope}{pos:Pos}{it acc:Value}{env:Env}(J:Nat→Shared→Prop)
    (turn:∀n u,J n u→wpAny (model prog w) A (pyNext it) (fun r u1=>(r=none→R (.ok .next) u1)∧∀v,r=some v→yt prog w A elt tg ifs env it acc (fun u2=>∃m,m < n∧J m u2) v u1) wq u){n0:Nat}{u0:Shared}(gK:J n0 u0):
    codeAny (model prog w) A (.compLoop (.ListComp elt [⟨tg,iter,ifs,0⟩] scope pos) 0 it acc env) R u0:=by
  refine codeAny_loop rfl J (fun n u ju=>?_) n0 gK
  show wpAny _ A ((compTurn (.ListComp elt [⟨tg,iter,ifs,0⟩] scope pos) 0 it acc env).onRaise _) _ _ u;refine wpAny_noted ?_;rw [compTurn_list]
  refine wpAny_bind (wpAny_standAt (wpAny_bind (wpAny_mono (turn n u ju) (fun r u1 k1=>?_) fun _ _ z=>z.elim)))
  cases r with
  | none=>exact wpAny_pure (k1.1 rfl)
  | some v=>
    refine wpAny_bind (wpAny_mono (k1.2 v rfl) (fun _ u2 k2=>wpAny_bind (wpAny_mono k2 (fun _ u3 k3=>wpAny_bind (wpAny_mono k3 (fun ok u4 k4=>?_) fun _ _ z=>z.elim)) fun _ _ z=>z.elim)) fun _ _ z=>z.elim)
    cases ok with
    | false=>rw [if_neg Bool.false_ne_true] at k4;exact wpAny_pure ⟨rfl,k4⟩
    | true=>
      rw [if_pos rfl] at k4
      refine wpAny_bind (wpAny_bind (wpAny_mono k4 (fun x u5 k5=>wpAny_bind (wpAny_mono k5 (fun _ u6 k6=>?_) fun _ _ z=>z.elim)) fun _ _ z=>z.elim));exact wpAny_pure (wpAny_pure ⟨rfl,k6⟩)
def eR(cp:List (Nat × Str))(nT:Nat)(σ:L2.St):L2.St:=cp.map (fun p=>(σ[p.1]?).join)++List.replicate nT none
structure wC (cp:List (Nat × Str)) (nT:Nat) (wi:TI) (g:TG) (tc:TT) (te:TE) (σ:L2.St) (H:Hp) (Q:VK):Prop where
  go:wi σ H fun J H1=>∀l,H1 l=none→
  ∃W:Nat→Nat→L2.St→Hp→Prop,(∃m,W 0 m (eR cp nT σ) (bc H1 l (.lst [])))∧∀i m σ' H',W i m σ' H'→
    (J.stop i H'∧Q (.ref l) H')∨(J.go i H'∧∃N:L2.St→Hp→Prop,(∀σ2 H2,N σ2 H2→∃m',m' < m∧W (i+1) m' σ2 H2)∧
      ∀x H2,J.yld i H' x H2→g x σ' H2 fun σ2 H3=>tc σ2 H3 fun b H4=>if b=true then te σ2 H4 fun v H5=>∃ys,H5 l=some (.lst ys)∧ys.length < sizeLine∧N σ2 (bc H5 l (.lst (ys++[v]))) else N σ2 H4)
theorem BG{X:Cx}{elt iter tg:Expr}{ifs:List Expr}{scope:Scope}{pos:Pos}{wi:TI}{g:TG}{tc:TT}{te:TE}(sc0:Scope)(N0:List Str)(cp:List (Nat × Str))(tgN:List Str)
    (hc:X.calm=true)(hsc:X.env.scope=sc0)(hN0:X.N=N0)(hi:PI X tg iter wi)
    (hg:∀C s0 H0 fp,PG (aw X scope cp tgN C s0 H0 fp) tg g)
    (ht:∀C s0 H0 fp,uB (aw X scope cp tgN C s0 H0 fp) ifs tc)
    (he:∀C s0 H0 fp,PE (aw X scope cp tgN C s0 H0 fp) elt te)
    (hk:scope.kind=.function)(hcell:∀y∈scope.names,y.2≠.cell)(hnames:∀y∈scope.names,y.2=.local→scope.names.lookup y.1=some .local)
    (hfr:∀y∈scope.names,y.2=.free→scope.names.lookup y.1=some .free∧sc0.names.lookup y.1=some .cell)
    (hcp:∀p∈cp,N0[p.1]?=some p.2)(hcq:∀p∈cp,sc0.names.lookup p.2=some .cell∧scope.names.lookup p.2=some .free)
    (hs:∀x,foldedSetIterable iter X.env x=pure x:=by intro _;rfl):
    PE X (.ListComp elt [⟨tg,iter,ifs,0⟩] scope pos) (wC cp tgN.length wi g tc te):=by
  intro pins s σ H Q I h
  have hkind:∀x,X.env.kindOf x=sc0.names.lookup x:=fun x=>by unfold Env.kindOf;rw [hsc]
  have hfree:∀y∈scope.names,y.2=.free→∃c,X.env.cells.lookup y.1=some c:=fun y hy e=>I.ok.has y.1 (.inl (by rw [hkind];exact(hfr y hy e).2))
  rw [eval_ListComp]
  refine wpAny_comprehension_free (use:=none) rfl hs (lN hfree) hk hnames (wpAny_mono (hi pins s σ H _ I h.go) (fun xv s₁ h₁=>wpAny_mono h₁ (fun itv s₂ h₂=>?_) fun _ _ e=>e) fun _ _ e=>e)
  obtain⟨it,fp,tn,J,H2,rfl,I2,T,st2,f2,hq⟩:=h₂
  refine wpAny_newObj_type ?_
  have hlF:H2 s₂.heap.objs.size=none:=I2.hok.fresh (Nat.le_refl _)
  have I3:aI X pins σ (bc H2 s₂.heap.objs.size (.lst [])) {s₂ with heap:=s₂.heap.push {cls:=.type "list",data:=.seq ([]:List Value).toArray}}:=I2.lnew (t':=s₂.toks) .nil (Nat.zero_le _)
  obtain⟨W,⟨m0,w0⟩,turn⟩:=hq _ hlF
  have f3:∀b∈fp,gM X pins (bc H2 s₂.heap.objs.size (.lst [])) b:=fun b hb=>by
    obtain⟨f0,fr⟩:=f2 b hb
    obtain⟨o,ho,_⟩:=T.obj _ _ st2 b hb
    exact⟨by rw [aF (Nat.ne_of_lt (Heap.lt_size ho))];exact f0,fr⟩
  have st3:tn 0 (s₂.heap.push {cls:=.type "list",data:=.seq ([]:List Value).toArray}):=T.keep _ _ _ st2 fun b _ o e=>Heap.get?_push_of_some _ e
  generalize hD:s₂.heap.objs.size=D at*
  generalize hs3:({s₂ with heap:=s₂.heap.push {cls:=.type "list",data:=.seq ([]:List Value).toArray}}:Shared)=s₃ at*
  have hst3:tn 0 s₃.heap:=by rw [←hs3];exact st3
  refine wpAny_newFunctionEnv hcell (by intro y hy;simp at hy) (fun h₁ hns₁ hsb₁=>?_) hk
  generalize hC:s₃.heap.objs.size=C at*
  have old:∀b o,s₃.heap.get? b=some o→h₁.get? b=some o:=fun b o e=>hsb₁.extBut b o (by rw [←hC];exact Nat.ne_of_lt (Heap.lt_size e)) (Heap.get?_push_of_some _ e)
  have nC:∀b o,s₃.heap.get? b=some o→b≠C:=fun b o e=>by rw [←hC];exact Nat.ne_of_lt (Heap.lt_size e)
  have hHC:(bc H2 D (.lst [])) C=none:=I3.hok.fresh (by rw [hC];exact Nat.le_refl _)
  have clS:∀x c,(ig X.env scope.names []).lookup x=some c→X.env.cells.lookup x=some c:=fun x c e=>jw _ _ x c hfree (fun _ _ z=>by simp at z) e
  have clH:∀x,(∃y∈scope.names,y.1=x∧y.2=.free)→∃c,(ig X.env scope.names []).lookup x=some c:=fun x e=>l8 _ _ x (.inl e)
  have ok':(aw X scope cp tgN C s₃ (bc H2 D (.lst [])) fp).Ok:=by
    refine⟨I.ok.mod,hk,I.ok.glob,I.ok.blt,by rw [←hC];exact Nat.le_refl _,fun x y c e1 e2=>I.ok.inj x y c (clS _ _ e1) (clS _ _ e2),fun x e=>clH x (cI hcell e),fun x c e1 e2=>?_,I.ok.hd,I.ok.frames,.inl rfl,fun b hb=>?_,fun b o e=>I3.bs b o e,?_,fun b o e hb=>?_,fun b hb z=>?_,I3.stack,fun b hb=>I3.stkFree b hb⟩
    · exfalso
      have e1':scope.names.lookup x=some .local:=by simpa [aw] using e1
      have e2':=clS x c e2
      obtain⟨c',hc'⟩:∃y∈scope.names,y.1=x∧y.2=.free:=by
        by_cases q:∃y∈scope.names,y.1=x∧y.2=.free
        · exact q
        · exfalso
          have:∀(names:List (Str × NameKind)) (cs:List (Str × Addr)),(¬∃y∈names,y.1=x∧y.2=.free)→cs.lookup x=none→(ig X.env names cs).lookup x=none:=by
            intro names
            induction names with
            | nil=>intro cs _ h;exact h
            | cons y r ih=>
              intro cs hn hcs
              obtain⟨n,k⟩:=y
              refine ih _ (fun⟨y,hy,z⟩=>hn ⟨y,List.mem_cons_of_mem _ hy,z⟩) ?_
              by_cases hk:(k==NameKind.free)=true
              · rw [if_pos hk,List.lookup_cons]
                cases hx:x==n with
                | true=>exact absurd ⟨(n,k),List.mem_cons_self,(by simpa using hx:x=n).symm,by simpa using hk⟩ hn
                | false=>exact hcs
              · rw [if_neg hk];exact hcs
          have z:=this scope.names [] q rfl
          have e2'':(ig X.env scope.names []).lookup x=some c:=e2
          rw [z] at e2'';cases e2''
      have z:=(hfr c' hc'.1 hc'.2.2).1
      rw [hc'.2.1,e1'] at z;cases z
    · obtain⟨f0,f1,f4,f5,f6,f7⟩:=f3 b hb
      obtain⟨o,ho,_⟩:=T.obj _ _ hst3 b hb
      exact⟨nC b o ho,fun x c e=>f6 x c (clS x c e)⟩
    · exact Nat.le_trans I.ok.bsz I3.sz
    · obtain⟨f0,f1,f4,f5,f6,f7⟩:=f3 b hb
      rcases f5 with z | z
      · exact I.ok.noex b o e z
      · have:=(I.ok.bs b o e).1
        exact absurd (Nat.lt_of_lt_of_le (Heap.lt_size this) z) (Nat.lt_irrefl _)
    · obtain⟨f0,f1,f4,f5,f6,f7⟩:=f3 b hb
      rcases List.mem_cons.mp (I3.stkSub b z) with z | z
      · exact f1 z
      · exact f4 z
  have I4:aI (aw X scope cp tgN C s₃ (bc H2 D (.lst [])) fp) [] (eR cp tgN.length σ) (bc H2 D (.lst [])) {s₃ with heap:=h₁,toks:=s₃.toks+([]:List (Str × Value)).length}:=by
    refine⟨ok',rfl,I3.bare,Un.kept old,⟨_,hns₁,fun i x v e1 e2 e3=>?_⟩,fun x c e=>?_,hHC,fun x c e=>I3.freeC x c (clS x c e),fun p hp=>by simp [aw] at hp,I3.hok.kept old,by simp [eR,aw]⟩
    · have hlt:i < cp.length:=by
        by_cases q:i < cp.length
        · exact q
        · exfalso
          unfold eR at e2
          rw [List.getElem?_append_right (by simp;lia)] at e2
          rw [List.getElem?_replicate] at e2
          split at e2<;>cases e2
      have e1':(cp.map (·.2))[i]?=some x:=by
        have e1'':(cp.map (·.2)++tgN)[i]?=some x:=e1
        rwa [List.getElem?_append_left (by simp;exact hlt)] at e1''
      have e2':(cp.map (fun p=>(σ[p.1]?).join))[i]?=some (some v):=by
        unfold eR at e2
        rwa [List.getElem?_append_left (by simp;exact hlt)] at e2
      rw [List.getElem?_map,List.getElem?_eq_getElem hlt] at e1' e2'
      have ex:(cp[i]).2=x:=by simpa using e1'
      have ev:(σ[(cp[i]).1]?).join=some v:=by simpa using e2'
      have ev':σ[(cp[i]).1]?=some (some v):=by
        cases q:σ[(cp[i]).1]? with
        | none=>rw [q] at ev;cases ev
        | some z=>rw [q] at ev;simp only [Option.join_some] at ev;rw [ev]
      have hN:=hcp cp[i] (List.getElem_mem hlt)
      rw [←hN0] at hN
      obtain⟨hcl,hcf⟩:=hcq cp[i] (List.getElem_mem hlt)
      rw [ex] at hN hcl hcf
      obtain⟨m,hn,hl⟩:=I3.loc
      obtain⟨u,r,l⟩:=hl _ x v hN ev' (.inr (.inl (by rw [hsc];exact hcl)))
      refine⟨u,r,.inr ?_⟩
      rcases l with ⟨k1,_⟩ | ⟨k1,c,hcc,o,ho,hd⟩
      · rw [hkind,hcl] at k1;cases k1
      · have e3':(relabel scope X.env).names.lookup x=some .local∨(relabel scope X.env).names.lookup x=some .cell∨(relabel scope X.env).names.lookup x=some .free:=e3
        have nl:(relabel scope X.env).names.lookup x=some .cell∨(relabel scope X.env).names.lookup x=some .free:=by
          rcases e3' with z | z | z
          · exact absurd z (dY hcf)
          · exact .inl z
          · exact .inr z
        obtain⟨c',hc'⟩:=clH x (cI hcell nl)
        have:=clS x c' hc'
        rw [hcc] at this;cases this
        exact⟨nl,c,hc',o,old c o ho,hd⟩
    · obtain⟨v,o,ho,hd⟩:=I3.cell x c (clS x c e)
      exact⟨v,o,old c o ho,hd⟩
  have hst4:tn 0 h₁:=T.keep _ _ _ hst3 fun b _ o e=>old b o e
  have loop:codeAny (model X.prog X.w) X.A (.compLoop (.ListComp elt [⟨tg,iter,ifs,0⟩] scope pos) 0 (.ref it) (.ref D) (compEnvC scope (ig X.env scope.names []) C X.env))
      (compPost (model X.prog X.w) X.A X.xe none (EP X pins σ Q) (.ref D) C) {s₃ with heap:=h₁,toks:=s₃.toks+([]:List (Str × Value)).length}:=by
    refine l_ (fun n s'=>∃i σ' H',aI (aw X scope cp tgN C s₃ (bc H2 D (.lst [])) fp) [] σ' H' s'∧tn i s'.heap∧(∀b∈fp,H' b=none)∧W i n σ' H') ?_ (n0:=m0) ⟨0,_,_,I4,hst4,fun b hb=>(f3 b hb).1,w0⟩
    rintro n s5 ⟨i,σ5,H5,I5,st5,fr5,w5⟩
    have stat:∀{H':Hp},(∀b∈fp,H' b=none)→∀b∈fp,gM (aw X scope cp tgN C s₃ (bc H2 D (.lst [])) fp) [] H' b:=fun hn b hb=>
      ⟨hn b hb,(ok'.exf b hb).1,ok'.exfs b hb,.inl hb,(ok'.exf b hb).2,fun p hp=>by simp [aw] at hp⟩
    rcases turn i n σ5 H5 w5 with ⟨stop,qn⟩ | ⟨go,N,hN,step⟩
    · refine bN (T.done (aw X scope cp tgN C s₃ (bc H2 D (.lst [])) fp) rfl rfl rfl hc i [] s5 σ5 H5 (fun _ _=>False) I5 (stat fr5) st5 stop) fun r s6 ⟨hr,I6⟩=>?_
      subst hr
      refine⟨fun _=>?_,fun v z=>by cases z⟩
      obtain⟨m,hn,_⟩:=I6.loc
      refine⟨m,hn,fun h' sb=>⟨.ref D,H5,?_,rfl,qn⟩⟩
      have ub:=I6.base
      have kp:∀b u,b≠C→s6.heap.get? b=some u→h'.get? b=some u:=fun b u ne e=>sb.extBut b u ne e
      have nit:∀b u,H5 b=some u→b≠C:=fun b u e z=>by
        have:=I6.free
        rw [z] at e
        rw [show H5 C=none from this] at e;cases e
      refine I3.call' (s':={s6 with heap:=h'}) (ch:=fp) I6.os ⟨fun b o e n hb hx=>kp b o (nC b o e) (ub.keep b o e n hb hx),fun b o e n hb hx=>?_,ub.free,fun b o e hx=>?_,ub.tups,ub.frzs,ub.tbls⟩ (fun b u e=>?_) I6.bare (fun b hb=>?_)
      · obtain⟨sl,q⟩:=ub.slot b o e n hb hx
        exact⟨sl,kp b _ (nC b o e) q⟩
      · obtain⟨o',q⟩:=ub.there b o e hx
        exact⟨o',kp b _ (nC b o e) q⟩
      · refine(I6.hok b u e).stay (fun c v hc q=>kp c v ?_ q) (fun _ q=>q) fun _ _ q=>q
        rcases hc with z | z
        · rw [z];exact nit b u e
        · exact nit c _ z
      · obtain⟨f0,f1,f4,f5,f6,f7⟩:=f3 b hb
        exact⟨f5,f1,f6,f7⟩
    · refine bN (T.item (aw X scope cp tgN C s₃ (bc H2 D (.lst [])) fp) rfl rfl rfl hc i [] s5 σ5 H5 (fun _ _=>False) I5 (stat fr5) st5 go) fun r s6 ⟨u,hr,h6⟩=>?_
      subst hr
      refine⟨fun z=>(by cases z),fun v z=>?_⟩
      cases z
      refine bN h6 fun _ s7 ⟨x,H7,I7,r7,y7,st7,fr7⟩=>?_
      have I7':=I7.pinned (stat fr7) (T.obj _ _ st7)
      have again:∀{σ8:L2.St} {H8:Hp} {s8:Shared},aI (aw X scope cp tgN C s₃ (bc H2 D (.lst [])) fp) ([]++kB fp s7.heap) σ8 H8 s8→N σ8 H8→∃m,m < n∧∃i σ' H',aI (aw X scope cp tgN C s₃ (bc H2 D (.lst [])) fp) [] σ' H' s8∧tn i s8.heap∧(∀b∈fp,H' b=none)∧W i m σ' H':=fun{σ8 H8 s8} I8 n8=>by
        obtain⟨m',hm,w8⟩:=hN σ8 H8 n8
        refine⟨m',hm,i+1,σ8,H8,I8.unpinned,T.keep _ _ _ st7 fun b hb o e=>(I8.pin (b,o) (List.mem_append_right _ (List.mem_append_right _ (cf hb e)))).1,fun b hb=>?_,w8⟩
        obtain⟨o,e,d⟩:=T.obj _ _ st7 b hb
        exact(I8.pin (b,o) (List.mem_append_right _ (List.mem_append_right _ (cf hb e)))).2.1
      refine bN (hg C s₃ (bc H2 D (.lst [])) fp _ s7 σ5 H7 x u _ I7' r7 (step x H7 y7)) fun _ s8 ⟨σ8,H8,I8,q8⟩=>?_
      refine bN (ht C s₃ (bc H2 D (.lst [])) fp _ s8 σ8 H8 _ I8 q8) fun ok s9 ⟨H9,I9,q9⟩=>?_
      cases ok with
      | false=>
        rw [if_neg Bool.false_ne_true] at q9 ⊢
        exact again I9 q9
      | true=>
        rw [if_pos rfl] at q9 ⊢
        refine bN (he C s₃ (bc H2 D (.lst [])) fp _ s9 σ8 H9 _ I9 q9) fun v s10 ⟨xv,H10,I10,r10,ys,hl,hz,n10⟩=>?_
        refine bN (jc _ s10 σ8 H10 (.ref D) [xv] (.ref D) [v] (fun _ H=>N σ8 H) I10 rfl (.cons r10 .nil) ⟨D,ys,xv,rfl,rfl,hl,hz,n10⟩) fun _ s11 ⟨_,H11,I11,_,q11⟩=>?_
        exact again I11 q11
  exact codeAny_compStart_list loop (T.self X.A 0 _ _ _ hst4 loop)
end L2
namespace L2
open PySem PySem.Spec PyProof.Rows
section
variable{X:Cx}
def zH(K:PySem.W.Frag):R2:=fun x y H Q=>∃a b xs ys,x=.ref a∧y=.ref b∧cg K H a xs∧cg K H b ys∧xs.length+ys.length≤sizeLine∧∀p H',aD H H'→cg K H' p (xs++ys)→Q (.ref p) H'
theorem Bs:ib X (binaryOp .Add) (zH X.K):=by
  intro pins s σ H x y v u Q I rx ry h
  obtain⟨a,b,xs,ys,rfl,rfl,ha,hb,hz,q⟩:=h
  cases rx;cases ry
  by_cases hx:xs=[]
  · obtain⟨i1,r1,p1,_⟩:=I.tuple ha
    obtain⟨i2,r2,p2,_⟩:=I.tuple hb
    obtain⟨m,F⟩:=I.fr
    have e1:i1=[]:=by subst hx;cases r1;rfl
    refine add_tuples F (yY (g:=X.base)) p1 p2 (fun _=>?_) (fun z1 _=>absurd e1 z1) (fun z1 _ _ _ _=>absurd e1 z1) (by rw [←r1.length,←r2.length];exact hz)
    exact⟨.ref b,H,I,rfl,q b H (aD.refl H) (by rw [hx];exact hb)⟩
  · exact Bu pins s σ H (.ref a) (.ref b) _ _ Q I rfl rfl ⟨a,b,xs,ys,rfl,rfl,ha,hb,hx,hz,fun z=>q a H (aD.refl H) (by rw [z,List.append_nil];exact ha),fun _ p hp=>q p _ (aD.new hp) (cg.of ay)⟩
theorem nh{x:V}{us:List Value}(r:aW [x] us):∃u,us=[u]∧bE x u:=by
  cases r with
  | cons p p'=>cases p';exact⟨_,rfl,p⟩
theorem tD{prog:Program}{w:World}{A:Around}{E:Value→Shared→Prop}{s:Shared}{t:Addr}{vs:List Value}{Q:List Value→Shared→Prop}(ht:IsTup s.heap t vs.toArray)
    (h:Q vs {s with heap:=(s.heap.push (seqObj "list" #[] 0)).update s.heap.objs.size (Obj.mapSeq (· ++vs.toArray))})(hsz:vs.length≤sizeLine):wpAny (model prog w) A (collect (.ref t)) Q E s:=by
  obtain⟨o,ho,hc,n,hd⟩:=id ht;unfold collect;refine wpAny_bind (wpAny_runValue (codeAny_builtin entry_proto_collect' ?_))
  show wpAny _ _ (do again (.builtin "list.__iadd__" ⟨[←newList [],.ref t],[]⟩)) _ _ s
  refine wpAny_bind (wpAny_newList (wpAny_pure ⟨Code.quiet_builtin _ (by decide+kernel),?_⟩));refine codeAny_builtin entry_list_iadd' ?_
  show wpAny _ _ (Builtin.List.listExtendWith (.ref s.heap.objs.size) (.ref t) (.ref s.heap.objs.size)) _ _ {s with heap:=s.heap.push (seqObj "list" #[] 0)}
  unfold Builtin.List.listExtendWith;have ho':(s.heap.push (seqObj "list" #[] 0)).get? t=some o:=Heap.get?_push_of_some _ ho
  refine wpAny_bind (wpAny_typeOf (T:="tuple") ⟨o,ho',hc⟩ ?_)
  rw [if_pos (by rw [show(Value.type "tuple"==Value.type "tuple")=true from rfl,Bool.or_true])]
  refine wpAny_bind (listItems_at ho' hd ?_);refine wpAny_bind (listItems_at (xs:=#[]) (n:=0) (Heap.get?_push_size _ rfl) rfl ?_)
  rw [if_neg (by simp)];refine wpAny_bind (listUpdate_at (xs:=#[]) (n:=0) (Heap.get?_push_size _ rfl) rfl ?_ (Nat.zero_le _) (by show(#[]++vs.toArray).size≤sizeLine+1;simp only [Array.size_append,List.size_toArray,List.length_nil];lia))
  refine wpAny_pure ?_
  show wpAny (model prog w) A (load s.heap.objs.size >>= fun o=>match o.data with | .seq xs _=>pure xs.toList | _=>unsupported "internal:collect") Q E {s with heap:=(s.heap.push (seqObj "list" #[] 0)).update s.heap.objs.size (Obj.mapSeq (· ++vs.toArray))}
  refine wpAny_bind (wpAny_load (get?_update_seq (Heap.get?_push_size _ rfl) _) ?_);show wpAny _ _ (pure ((#[]:Array Value)++vs.toArray).toList) Q E _;rw [show((#[]:Array Value)++vs.toArray).toList=vs by simp];exact wpAny_pure h
theorem vo{prog:Program}{w:World}{A:Around}{E:Value→Shared→Prop}{s:Shared}{t:Addr}{vs:List Value}{ns:List Int}{Q:Value→Shared→Prop}(ht:IsTup s.heap t vs.toArray)(hI:IntsAre vs ns)(h64:vs.length < 64)
    (h:∀(out:Array Value) (ns':List Int),IntsAre out.toList ns'→ns'.Perm ns→ns'.Pairwise (· ≤·)→Q (.ref (s.heap.objs.size+1)) {s with heap:=sortedAll s.heap vs out}):wpAny (model prog w) A (call (.builtin "sorted") [.ref t]) Q E s:=by
  refine Calls.call_function_entry kind_sorted plain_sorted entry_sorted (args_sorted1 _) ?_;unfold Builtin.«sorted»
  refine wpAny_bind (m:=checkCount "sorted" 1 1 _) (wpAny_pure ?_);refine wpAny_bind (tD ht ?_ (Nat.le_trans (Nat.le_of_lt h64) (by decide)))
  have z:((s.heap.push (seqObj "list" #[] 0)).update s.heap.objs.size (Obj.mapSeq (· ++vs.toArray))).objs.size=s.heap.objs.size+1:=by rw [Heap.size_update,size_push']
  have o:(((s.heap.push (seqObj "list" #[] 0)).update s.heap.objs.size (Obj.mapSeq (· ++vs.toArray))).push (seqObj "list" vs.toArray 0)).get? (s.heap.objs.size+1)=some (seqObj "list" vs.toArray 0):=by rw [←z];exact Heap.get?_push_size _ rfl
  refine wpAny_bind (wpAny_newList ?_);show wpAny _ _ _ _ _ {s with heap:=((s.heap.push (seqObj "list" #[] 0)).update s.heap.objs.size (Obj.mapSeq (· ++vs.toArray))).push (seqObj "list" vs.toArray 0)}
  rw [z];refine wpAny_bind (wpAny_holding (wpAny_call_entry slot_list_sort ⟨_,o,rfl⟩ entry_list_sort (list_sort_tree o hI h64 fun out ns' b1 b2 b3=>⟨_,rfl,?_⟩) (args_list_sort _)))
  exact wpAny_pure ⟨_,rfl,h out ns' b1 b2 b3⟩
theorem nR:ed X (.builtin "sorted") (fun xs H Q=>∃(a:Addr) (ns:List Int),xs=[.ref a]∧cg X.K H a (ns.map V.int)∧ns.length < 64∧∀(l:Addr) (ns':List Int) (H':Hp),aD H H'→H l=none→H' l=some (.lst (ns'.map V.int))→ns'.Perm ns→ns'.Pairwise (· ≤·)→Q (.ref l) H'):=by
  intro pins s σ H xs us Q I r h
  obtain⟨a,ns,rfl,hs,h64,q⟩:=h
  obtain⟨u,rfl,ru⟩:=nh r
  cases ru
  obtain⟨its,rv,p,hz⟩:=I.tuple hs
  have hl:=rv.length
  rw [List.length_map] at hl
  refine vo p (pE rv) (by lia) fun out ns' a1 a2 a3=>?_
  obtain⟨e,he⟩:=sortedAll_at s.heap its out
  have hf:H (s.heap.objs.size+1)=none:=I.hok.fresh (Nat.le_succ _)
  refine⟨.ref (s.heap.objs.size+1),bc H (s.heap.objs.size+1) (.lst (ns'.map V.int)),I.laid (t':=s.toks) (fun _ _=>sortedAll_old) (Nat.le_succ _) ⟨?_,out.toList,e,lm a1,?_⟩,rfl,q _ ns' _ (aD.new hf) hf ay a2 a3⟩
  · rw [List.length_map,a2.length_eq]
    exact Nat.le_trans (Nat.le_of_lt h64) (by decide)
  · simpa [seqObj] using he
end
end L2
namespace L2
open PySem PySem.Spec PyProof.Rows
section
variable{X:Cx}
end
theorem xR{e:Expr}{es:List Expr}{env:Env}(h:PySem.W.isStarred e=false):starEach (e::es) env=(false,eval e env)::starEach es env:=by
  cases e<;>first | rfl | cases h
theorem BC{X:Cx}{e:Expr}{es:List Expr}{te:TE}{t:TA}(ha:PE X e te)(hr:PA X es t)(h:PySem.W.isStarred e=false:=by rfl):PA X (e::es) (uj te t):=sC ha hr (xR h)
def wD:List (Int × Int)→TA
  | []=>ER
  | p::r=>uj (GP (uj (tC (.int p.1)) (uj (tC (.int p.2)) ER))) (wD r)
@[irreducible] def HE(ps:List (Int × Int)):TA:=wD ps
structure oC where
  one:Int
  other:Int
  top:Int
  bot:Int
  worth:Int
structure aM where
  things:Int
  ties:List oC
  pat:List Int
  asks:Int
structure oC.Ok (n:Int) (t:oC):Prop where
  o0:0≤t.one
  o1:t.one < t.other
  o2:t.other < n
  c0:0≤t.top
  c1:t.top≤t.bot
  b0:1≤t.bot
  b1:t.bot≤100
  w0:0≤t.worth
  w1:t.worth≤1000
  cop:Int.gcd t.top t.bot=1
structure aM.Ok (w:aM):Prop where
  t0:0≤w.things
  t1:w.things≤12
  ties:∀t∈w.ties,t.Ok w.things
  len:w.ties.length≤16
  pl:(w.pat.length:Int)=w.things
  pat:∀p∈w.pat,0≤p∧p≤20
  a0:0≤w.asks
  a1:w.asks≤40
def Fn(K:PySem.W.Frag)(H:Hp)(v:V)(t:oC):Prop:=∃p q,v=.ref p∧cg K H p [.int t.one,.int t.other,.ref q,.int t.worth]∧cg K H q [.int t.top,.int t.bot]
inductive rO (K:PySem.W.Frag) (H:Hp):List V→List oC→Prop
  | nil:rO K H [] []
  | cons {v vs t ts}:Fn K H v t→rO K H vs ts→rO K H (v::vs) (t::ts)
structure HP (K:PySem.W.Frag) (H:Hp) (v:V) (w:aM):Prop where
  ex:∃a b c ts,v=.ref a∧cg K H a [.int w.things,.ref b,.ref c,.int w.asks]∧cg K H b ts∧rO K H ts w.ties∧cg K H c (w.pat.map V.int)
section
variable{K:PySem.W.Frag}{H H':Hp}
end
theorem uV{t b:Int}(hb:0 < b)(h0:0≤t)(h1:t≤b)(h2:b≤100):0≤(gF t b).1∧(gF t b).1≤(gF t b).2∧1≤(gF t b).2∧(gF t b).2≤100:=by
  obtain⟨d,e1,e2,e3,e4,e5⟩:=qW (t:=t) (b:=b) (by lia)
  generalize (gF t b).1=x at*
  generalize (gF t b).2=y at*
  have dp:0 < d:=by
    rcases Int.lt_or_gt_of_ne e2 with z | z
    · exfalso
      have:y*d < 0:=Int.mul_neg_of_pos_of_neg e5 z
      lia
    · exact z
  have x0:0≤x:=by
    rcases Int.lt_or_le x 0 with z | z
    · have:x*d < 0:=Int.mul_neg_of_neg_of_pos z dp
      lia
    · exact z
  have xy:x≤y:=by
    rcases Int.lt_or_le y x with z | z
    · have:y*d < x*d:=Int.mul_lt_mul_of_pos_right z dp
      lia
    · exact z
  have yb:y≤y*d:=by
    have:=Int.mul_le_mul_of_nonneg_left (show(1:Int)≤d by lia) (show 0≤y by lia)
    lia
  exact⟨x0,xy,by lia,by lia⟩
end L2
namespace L2
open PySem PySem.Spec PyProof.Rows
inductive qd {α β:Type} (R:α→β→Prop):List α→List β→Prop
  | nil:qd R [] []
  | cons {a b as bs}:R a b→qd R as bs→qd R (a::as) (b::bs)
namespace qd
variable{α β:Type}{R S:α→β→Prop}
theorem mono(h:∀a b,R a b→S a b):∀{as:List α} {bs:List β},qd R as bs→qd S as bs
  | _,_,.nil=>.nil
  | _,_,.cons x r=>.cons (h _ _ x) (mono h r)
theorem len:∀{as:List α} {bs:List β},qd R as bs→as.length=bs.length
  | _,_,.nil=>rfl
  | _,_,.cons _ r=>by simp [len r]
theorem get:∀{as:List α} {bs:List β} {i:Nat} {b:β},qd R as bs→bs[i]?=some b→∃a,as[i]?=some a∧R a b
  | _,_,_,_,.nil,e=>by simp at e
  | _,_,0,_,.cons x _,e=>by simp at e;subst e;exact⟨_,rfl,x⟩
  | _,_,i+1,b,.cons _ r,e=>by
    obtain⟨v,h1,h2⟩:=get (i:=i) (b:=b) r (by simpa using e)
    exact⟨v,by simpa using h1,h2⟩
end qd
section
variable{K:PySem.W.Frag}{a l:Addr}{xs:List V}{g:TG}{tc:TT}{te:TE}{Q:VK}{σ:L2.St}{H:Hp}{α β:Type}{us:List α}{cp:List (Nat × Str)}{nT:Nat}
def GY(bh:Hp→V→β→Prop)(SI:L2.St→Prop)(us:List α)(f:α→Option β)(H:Hp)(l:Addr)(i:Nat)(σ:L2.St)(H':Hp):Prop:=SI σ∧aD H H'∧∃vs,H' l=some (.lst vs)∧vs.length≤i∧qd (bh H') vs ((us.take i).filterMap f)
end
theorem oA:∀{a b:List Int},a.Perm b→a.Pairwise (· ≤·)→b.Pairwise (· ≤·)→a=b
  | [],b,p,_,_=>by
    have:=p.length_eq
    exact(List.length_eq_zero_iff.mp this.symm).symm
  | x::a,b,p,h1,h2=>by
    cases b with
    | nil=>have:=p.length_eq;simp at this
    | cons y b=>
      have h1':=List.pairwise_cons.mp h1
      have h2':=List.pairwise_cons.mp h2
      have e:x=y:=by
        have m1:y∈x::a:=p.mem_iff.mpr (by simp)
        have m2:x∈y::b:=p.mem_iff.mp (by simp)
        rcases List.mem_cons.mp m1 with z | z
        · exact z.symm
        · rcases List.mem_cons.mp m2 with z2 | z2
          · exact z2
          · have:=h1'.1 y z
            have:=h2'.1 x z2
            lia
      subst e
      rw [oA ((List.perm_cons x).mp p) h1'.2 h2'.2]
def eX(ns:List Int):List Int:=ns.mergeSort
theorem mT{ns ns':List Int}(p:ns'.Perm ns)(h:ns'.Pairwise (· ≤·)):ns'=eX ns:=by
  refine oA (p.trans (List.mergeSort_perm ns _).symm) h ?_
  have:=List.pairwise_mergeSort (le:=fun a b:Int=>decide (a≤b)) (fun a b c h1 h2=>by simp at*;lia) (fun a b=>by simp;lia) ns
  exact this.imp fun h=>by simpa using h
theorem iy(ns:List Int):(eX ns).Perm ns:=List.mergeSort_perm ns _
theorem lg{ns:List Int}{x:Int}:x∈eX ns↔ x∈ns:=(iy ns).mem_iff
theorem nD(ns:List Int):(eX ns).length=ns.length:=(iy ns).length_eq
section
variable{X:Cx}{K:PySem.W.Frag}{pos:Pos}
theorem yJ(h:X.K=K):Ax X (EF K):=h ▸ wj
theorem wU(h:X.K=K):ed X (.builtin "len") (fun xs H Q=>∃p ys,xs=[.ref p]∧(cW K H p ys∨cg K H p ys)∧Q (.int ys.length) H):=h ▸ l7
theorem BK{es:List Expr}{k:Nat}{t:Ay}{n:Nat}(hK:X.K=K)(hc:X.calm=true)(h:x_ X es t)(hn:(assignEach es X.env).length=n:=by rfl)(hst:(assignEach es X.env).findIdx? (·.1)=none:=by rfl):PG X (.Tuple es k pos) (FH K n t):=hK ▸ Ei hc h hn hst
theorem BN{tg l:Expr}{tl:TE}(h:X.K=K)(hl:PE X l tl):PI X tg l (FK K tl):=h ▸ Ej hl
theorem tX{tg l:Expr}{tl:TE}(h:X.K=K)(hl:PE X l tl):PI X tg l (CV K tl):=h ▸ BM hl
end
instance:Inhabited oC:=⟨⟨0,1,1,1,0⟩⟩
def aM.tie(W:aM)(k:Int):oC:=W.ties.getD k.toNat default
def aM.has(W:aM)(k thing:Int):Bool:=(W.tie k).one==thing || (W.tie k).other==thing
def aM.many(W:aM)(asked:List Int)(thing:Int):Int:=((asked.filter fun k=>W.has k thing).length:Nat)
def aM.bears(W:aM)(asked taken:List Int)(thing:Int):Bool:= !taken.contains thing&&decide (W.many asked thing < W.pat.getD thing.toNat 0)
def aM.may(W:aM)(asked taken:List Int)(k:Int):Bool:= !(asked.contains k || decide (W.asks≤(asked.length:Int)))&&(W.bears asked taken (W.tie k).one&&W.bears asked taken (W.tie k).other)
def aM.askd(asked:List Int)(k:Int):List Int:=eX (asked++[k])
def aM.took(W:aM)(taken:List Int)(k:Int)(truth:Bool):List Int:=if truth then eX (taken++[(W.tie k).one,(W.tie k).other]) else taken
def aM.rng(W:aM):List Int:=(List.range W.ties.length).map Int.ofNat
def aM.can(W:aM)(asked taken:List Int):List Int:=W.rng.filter fun k=>W.may asked taken k
def jO(W:aM)(k:Int):Prop:=0≤k∧k < (W.ties.length:Int)
theorem jO.get{W:aM}{k:Int}(h:jO W k):W.ties[k.toNat]?=some (W.tie k):=by
  have hk:k.toNat < W.ties.length:=by have:=h.1;have:=h.2;lia
  unfold aM.tie
  rw [List.getD_eq_getElem?_getD,List.getElem?_eq_getElem hk];rfl
theorem jO.ok{W:aM}{k:Int}(h:jO W k)(o:W.Ok):(W.tie k).Ok W.things:=o.ties _ (List.mem_of_getElem? h.get)
theorem Bh{W:aM}{k:Int}:k∈W.rng↔ jO W k:=by
  unfold aM.rng jO
  rw [List.mem_map]
  constructor
  · rintro⟨n,hn,rfl⟩
    have:=List.mem_range.mp hn
    exact⟨Int.natCast_nonneg n,by simp;lia⟩
  · rintro⟨h0,h1⟩
    exact⟨k.toNat,List.mem_range.mpr (by lia),by simp;lia⟩
def Do(K:PySem.W.Frag)(H:Hp)(v:V)(asked taken:List Int):Prop:=∃a b c,v=.ref a∧cg K H a [.ref b,.ref c]∧cg K H b (asked.map V.int)∧cg K H c (taken.map V.int)
theorem Do.ts{K:PySem.W.Frag}{H H':Hp}(s:nJ H H'){v:V}{asked taken:List Int}(h:Do K H v asked taken):Do K H' v asked taken:=by
  obtain⟨a,b,c,e,h1,h2,h3⟩:=h
  exact⟨a,b,c,e,s.tup h1,s.tup h2,s.tup h3⟩
section
variable{K:PySem.W.Frag}{σ:L2.St}{H:Hp}{Q:VK}{i j:Nat}{vW:V}{W:aM}{k:Int}
end
def small(k:Int):Prop:= -1000000≤k∧k≤1000000
def Dk(n dep:Nat)(d:PyData):Prop:=d.showable=true∧pM d=true∧L2.cnt d≤n∧d.depth≤dep
theorem Dk.mono{n m dep e:Nat}{d:PyData}(h:Dk n dep d)(h1:n≤m)(h2:dep≤e):Dk m e d:=⟨h.1,h.2.1,Nat.le_trans h.2.2.1 h1,Nat.le_trans h.2.2.2 h2⟩
theorem Dk.int{k:Int}(h:small k):Dk 1 2 (.int k):=by
  refine⟨?_,rfl,Nat.le_refl _,by simp [PyData.depth]⟩
  show decide (k.natAbs.log2 < 1920)=true
  rw [decide_eq_true_eq]
  exact Nat.lt_trans ((show Bt 64 k by have:=h.1;have:=h.2;unfold Bt;lia).log (by decide)) (by decide)
theorem Dk.bool(b:Bool):Dk 1 2 (.bool b):=⟨rfl,rfl,Nat.le_refl _,by simp [PyData.depth]⟩
theorem Dk.none:Dk 1 2 .none:=⟨rfl,rfl,Nat.le_refl _,by simp [PyData.depth]⟩
theorem Dk.all{n dep:Nat}:∀{ds:List PyData},(∀d∈ds,Dk n dep d)→PyData.showableAll ds=true∧jd ds=true∧lO ds≤ds.length*n∧PyData.depthAll ds≤dep
  | [],_=>⟨rfl,rfl,by simp [lO],by simp [PyData.depthAll]⟩
  | d::r,h=>by
    obtain⟨a1,a2,a3,a4⟩:=h d (by simp)
    obtain⟨b1,b2,b3,b4⟩:=Dk.all (ds:=r) fun x hx=>h x (by simp [hx])
    refine⟨?_,?_,?_,?_⟩
    · simp only [PyData.showableAll,a1,b1,Bool.and_self]
    · simp only [jd,a2,b2,Bool.and_self]
    · simp only [lO,List.length_cons,Nat.succ_mul]
      lia
    · simp only [PyData.depthAll];lia
theorem Dk.tup{n dep m:Nat}{ds:List PyData}(h:∀d∈ds,Dk n dep d)(hl:ds.length≤m):Dk (1+m*n) (dep+2) (.tuple ds):=by
  obtain⟨b1,b2,b3,b4⟩:=Dk.all h
  refine⟨b1,b2,?_,?_⟩
  · simp only [L2.cnt]
    have:=Nat.mul_le_mul_right n hl
    lia
  · simp only [PyData.depth];lia
theorem Dk.ok{n dep:Nat}{d:PyData}(h:Dk n dep d)(h1:n≤8000)(h2:dep≤60):d.showable=true∧d.depth≤60∧d.shown.length≤sizeLine:=by
  have:=rq h.2.1 h.1
  have sl:sizeLine=16777216:=sizeLine_eq
  have:=h.2.2.1
  exact⟨h.1,Nat.le_trans h.2.2.2 h2,by lia⟩
theorem Dk.ints{ns:List Int}{m:Nat}(hl:ns.length≤m)(h:∀r∈ns,small r):Dk (1+m) 4 (.tuple (ns.map .int)):=by
  have:=Dk.tup (n:=1) (dep:=2) (m:=m) (ds:=ns.map PyData.int) (fun d hd=>by
    obtain⟨x,hx,rfl⟩:=List.mem_map.mp hd
    exact Dk.int (h x hx)) (by rw [List.length_map];exact hl)
  simpa using this
section
variable{K:PySem.W.Frag}{H:Hp}
theorem Dk.bools{ns:List Bool}{m:Nat}(hl:ns.length≤m):Dk (1+m) 4 (.tuple (ns.map .bool)):=by
  have:=Dk.tup (n:=1) (dep:=2) (m:=m) (ds:=ns.map PyData.bool) (fun d hd=>by
    obtain⟨x,hx,rfl⟩:=List.mem_map.mp hd
    exact Dk.bool x) (by rw [List.length_map];exact hl)
  simpa using this
def aQ(t:oC):PyData:=.tuple [.int t.one,.int t.other,.tuple [.int t.top,.int t.bot],.int t.worth]
def aq(W:aM):PyData:=.tuple [.int W.things,.tuple (W.ties.map aQ),.tuple (W.pat.map .int),.int W.asks]
def gv(asked taken:List Int):PyData:=.tuple [.tuple (asked.map .int),.tuple (taken.map .int)]
end
end L2
namespace L2
open PySem PySem.Spec PyProof.Rows
theorem yl:∀{bs:List Bool} {us:List Value} {i:Nat} {v:Value},aW (bs.map V.bl) us→us[i]?=some v→∃b,bs[i]?=some b∧v=.bool b
  | [],us,i,v,r,e=>by cases r;simp at e
  | b::bs,us,i,v,r,e=>by
    cases r with
    | cons p q=>
      cases i with
      | zero=>simp at e;subst e;cases p;exact⟨b,rfl,rfl⟩
      | succ i=>
        obtain⟨c,h1,h2⟩:=yl (bs:=bs) (i:=i) (v:=v) q (by simpa using e)
        exact⟨c,by simpa using h1,h2⟩
theorem B7(bs:List Bool):((List.range bs.length).all fun i=>(bs[i]?).getD true)=bs.all id:=by
  rw [Bool.eq_iff_iff,List.all_eq_true,List.all_eq_true]
  constructor
  · intro h b hb
    obtain⟨i,hi,rfl⟩:=List.getElem_of_mem hb
    have:=h i (List.mem_range.mpr hi)
    rw [List.getElem?_eq_getElem hi] at this
    exact this
  · intro h i hi
    have hi':=List.mem_range.mp hi
    rw [List.getElem?_eq_getElem hi']
    exact h _ (List.getElem_mem hi')
section
variable{X:Cx}
theorem yp{k:Nat}{K:PySem.W.Frag}(hr:eB k X.A)(hK:X.K=K):ed X (.builtin "all") (fun xs H Q=>∃(l:Addr) (bs:List Bool),xs=[.ref l]∧cW K H l (bs.map V.bl)∧Q (.bl (bs.all id)) H):=by
  intro pins s σ H xs us Q I r h
  subst hK
  obtain⟨l,bs,rfl,hs,q⟩:=h
  obtain⟨u,rfl,ru⟩:=nh r
  cases ru
  obtain⟨its,rv,p,hz⟩:=I.list hs
  have hl:=p.isList
  have lt:l < s.heap.objs.size:=by obtain⟨_,e,_⟩:=hl;exact Heap.lt_size e
  refine PySem.call_all_walk (wpAny_pyIter_list hl ?_)
  refine⟨s.heap.objs.size,[s.heap.objs.size,l],[s.heap.objs.size],its.toArray.size,_,_,fun i=>(bs[i]?).getD true,rfl,Walks.list (A:=X.A.in1) hr.hd _ l (Nat.ne_of_lt lt) its.toArray,⟨⟨_,Heap.get?_push_size _ rfl,rfl,rfl⟩,hl.push _⟩,fun i v s' Q' E' hP hQ=>?_,fun h' tk hk=>?_⟩
  · obtain⟨b,e,rfl⟩:=yl rv (by simpa using hP)
    simp only [e,Option.getD_some] at hQ
    exact wpAny_truthy_bool hQ
  · have e:its.toArray.size=bs.length:=by have:=rv.length;rw [List.length_map] at this;simpa using this.symm
    rw [e,B7]
    refine⟨.bl (bs.all id),H,I.kept fun b x e=>hk b x (fun hm=>?_) (Heap.get?_push_of_some _ e),rfl,q⟩
    rw [List.mem_singleton.mp hm] at e
    exact Nat.lt_irrefl _ (Heap.lt_size e)
end
end L2
namespace L2
theorem ym:PySem.bootBuiltins "all"=some (.builtin "all"):=by decide+kernel
end L2
namespace L2
open PySem PySem.Spec PyProof.Rows
section
variable{prog:Program}{w:World}{A:Around}{E:Value→Shared→Prop}{s:Shared}
theorem Ao{it t:Addr}{i:Nat}{ys}{x:Value}{Q:Value→Shared→Prop}(hi:s.heap.IsTupleIter it t i)(ht:s.heap.IsTuple t ys)(hx:ys[i]?=some x)
    (q:∀g,g.IsTupleIter it t (i+1)→Heap.SameBut it s.heap g→Q x {s with heap:=g}):wpAny (model prog w) A (Builtin.SmallTypes.nextOf (.ref it)) Q E s:=by
  obtain⟨o,ho,hc,hd⟩:=id hi;obtain⟨p,hp,_,n,hpd⟩:=ht;unfold Builtin.SmallTypes.nextOf
  refine wpAny_bind (wpAny_callSpecial?_slot (name:=Str.ofString "__next__") hi.typeIs F.slot_tuple_iterator_next (wpAny_call_entry F.slot_tuple_iterator_next hi.typeIs F.entry_tuple_iterator_next ?_ (F.args_tuple_iterator_next_1 _)))
  show wpAny _ _ (field (.ref it) 0 >>= _) _ _ s;refine wpAny_bind (wpAny_field ho hd (x:=.ref t) rfl ?_)
  show wpAny _ _ (if (Value.ref t==Value.none)=true then _ else _) _ _ s;rw [if_neg (show ¬((Value.ref t==Value.none)=true) from Bool.false_ne_true)]
  show wpAny _ _ (field (.ref it) 1 >>= _) _ _ s;refine wpAny_bind (wpAny_field ho hd (x:=.int i 0) rfl ?_)
  show wpAny _ _ (seqItems? (.ref t) >>= _) _ _ s;refine wpAny_bind (wpAny_seqItems hp hpd ?_)
  simp only [Int.toNat_natCast,hx];refine wpAny_bind (wpAny_setField ho hd (by simp) (wpAny_pure ⟨x,rfl,wpAny_pure (q _ ?_ (Heap.SameBut.update ..))⟩))
  refine⟨_,Heap.get?_update_self _ ho (Obj.isFreed_of_fields (Obj.data_mapFields hd _)),(Obj.cls_mapFields ..).trans hc,?_⟩;rw [Obj.data_mapFields hd];simp [rawInt]
theorem An{it t:Addr}{i:Nat}{ys}{Q:Value→Shared→Prop}(hh:A.handled=none)(hi:s.heap.IsTupleIter it t i)(ht:s.heap.IsTuple t ys)(hx:ys[i]?=none)
    (q:∀g e,Heap.ExtBut it s.heap g→(∃o,g.get? e=some o∧o.cls=.type "StopIteration")→E (.ref e) {s with heap:=g}):wpAny (model prog w) A (Builtin.SmallTypes.nextOf (.ref it)) Q E s:=by
  obtain⟨o,ho,hc,hd⟩:=id hi;obtain⟨p,hp,_,n,hpd⟩:=ht;unfold Builtin.SmallTypes.nextOf
  refine wpAny_bind (wpAny_callSpecial?_slot (name:=Str.ofString "__next__") hi.typeIs F.slot_tuple_iterator_next (wpAny_call_entry F.slot_tuple_iterator_next hi.typeIs F.entry_tuple_iterator_next ?_ (F.args_tuple_iterator_next_1 _)))
  show wpAny _ _ (field (.ref it) 0 >>= _) _ _ s;refine wpAny_bind (wpAny_field ho hd (x:=.ref t) rfl ?_)
  show wpAny _ _ (if (Value.ref t==Value.none)=true then _ else _) _ _ s;rw [if_neg (show ¬((Value.ref t==Value.none)=true) from Bool.false_ne_true)]
  show wpAny _ _ (field (.ref it) 1 >>= _) _ _ s;refine wpAny_bind (wpAny_field ho hd (x:=.int i 0) rfl ?_)
  show wpAny _ _ (seqItems? (.ref t) >>= _) _ _ s;refine wpAny_bind (wpAny_seqItems hp hpd ?_)
  simp only [Int.toNat_natCast,hx];refine wpAny_bind (wpAny_rule (wpAny_bind (wpAny_setField ho hd (by simp) ?_)))
  show wpAny _ _ (newExc (.type "StopIteration") [] >>= _) _ _ _;refine wpAny_bind ?_;simp only [newExc,newTuple]
  refine wpAny_bind (wpAny_newObj_type ?_ (by size_fits));refine wpAny_bind (m:=firstArgMember _ _) (wpAny_of_eq (a:=Value.none) (by first | rfl | (simp only [firstArgMember];rfl)) ?_)
  refine wpAny_newObj_type ?_ (by size_fits);simp only [raiseNew];refine wpAny_bind (wpAny_handled ?_);first | rw [show A.in1.handled=none from hh] | rw [hh]
  refine wpAny_bind (wpAny_pure (wpAny_throw ?_));exact q _ _ (((Heap.SameBut.update ..).extBut.push _).push _) ⟨_,Heap.get?_push_size _ rfl,rfl⟩
end
structure Sc (prog:Program) (w:World) (it l:Addr) (St:Nat→Heap→Prop) (Sq:Heap→Array Value→Prop):Prop where
  stay:∀{k h h'},St k h→(∀o,h.get? it=some o→h'.get? it=some o)→St k h'
  live:∀{k h},St k h→∃o,h.get? it=some o∧∀v,o.data≠.cell v
  row:∀{h h' xs},Sq h xs→(∀o,h.get? l=some o→h'.get? l=some o)→Sq h' xs
  next:∀{A:Around} {s:Shared} {E:Value→Shared→Prop} {Q:Value→Shared→Prop} {k:Nat} {xs:Array Value} {x:Value},St k s.heap→Sq s.heap xs→xs[k]?=some x→(∀g,St (k+1) g→Heap.SameBut it s.heap g→Q x {s with heap:=g})→wpAny (model prog w) A (Builtin.SmallTypes.nextOf (.ref it)) Q E s
  last:∀{A:Around} {s:Shared} {E:Value→Shared→Prop} {Q:Value→Shared→Prop} {k:Nat} {xs:Array Value},A.handled=none→St k s.heap→Sq s.heap xs→xs[k]?=none→(∀g e,Heap.ExtBut it s.heap g→(∃o,g.get? e=some o∧o.cls=.type "StopIteration")→E (.ref e) {s with heap:=g})→wpAny (model prog w) A (Builtin.SmallTypes.nextOf (.ref it)) Q E s
theorem iV{prog:Program}{w:World}(it l:Addr):Sc prog w it l (fun k h=>h.IsTupleIter it l k) (fun h xs=>h.IsTuple l xs) where
  stay:=fun st k=>st.at fun o e=>k o e
  live:=fun st=>by
    obtain⟨o,e,c,d⟩:=st
    exact⟨o,e,fun v z=>by rw [d] at z;cases z⟩
  row:=fun q k=>by
    obtain⟨o,e,r⟩:=q
    exact⟨o,k o e,r⟩
  next:=fun st sq hx q=>Ao st sq hx q
  last:=fun hh st sq hx q=>An hh st sq hx q
theorem fH{prog:Program}{w:World}(it l:Addr):Sc prog w it l (fun k h=>h.IsListIter it l k) (fun h xs=>h.IsList l xs) where
  stay:=fun st k=>st.at fun o e=>k o e
  live:=fun st=>by
    obtain⟨o,e,c,d⟩:=st
    exact⟨o,e,fun v z=>by rw [d] at z;cases z⟩
  row:=fun q k=>by
    obtain⟨o,e,r⟩:=q
    exact⟨o,k o e,r⟩
  next:=fun st sq hx q=>wpAny_nextOf_list_item st sq hx q
  last:=fun hh st sq hx q=>wpAny_nextOf_list_end hh st sq hx q
structure jN (z TI TO i1 i2 l1 l2:Addr):Prop where
  a1:TO≠z
  a2:i1≠z
  a3:i2≠z
  a4:TO≠i1
  a5:TO≠i2
  a6:i1≠i2
  b1:l1≠z
  b2:l1≠TO
  b3:l1≠i1
  b4:l1≠i2
  c1:l2≠z
  c2:l2≠TO
  c3:l2≠i1
  c4:l2≠i2
section
variable{prog:Program}{w:World}{A:Around}{E:Value→Shared→Prop}{s:Shared}{z TI TO i1 i2 l1 l2:Addr}{k:Nat}{xs ys:Array Value}{a b:Value}{S1 S2:Nat→Heap→Prop}{R1 R2:Heap→Array Value→Prop}
theorem Fd{x y:Value}{Q:Value→Shared→Prop}(P1:Sc prog w i1 l1 S1 R1)(P2:Sc prog w i2 l2 S2 R2)(D:jN z TI TO i1 i2 l1 l2)(hz:IsZip s.heap z TI TO .none)(hI:IsPair s.heap TI (.ref i1) (.ref i2))(hO:IsPair s.heap TO a b)(u1:S1 k s.heap)(u2:S2 k s.heap)(r1:R1 s.heap xs)(r2:R2 s.heap ys)(hx:xs[k]?=some x)(hy:ys[k]?=some y)
    (q:∀g,IsZip g z TI TO (rawInt s.heap.objs.size)→IsPair g TO x y→S1 (k+1) g→S2 (k+1) g→IsPair g s.heap.objs.size x y→g.objs.size=s.heap.objs.size+1→(∀c o,c≠z→c≠TO→c≠i1→c≠i2→s.heap.get? c=some o→g.get? c=some o)→Q (.ref s.heap.objs.size) {s with heap:=g}):
    wpAny (model prog w) A (Builtin.«zip.__next__» ⟨[.ref z],[]⟩) (fun f s'=>∃v,f=.done (.ret v)∧Q v s') E s:=by
  show wpAny _ _ (field (.ref z) 2 >>= _) _ _ _;refine wpAny_bind (wpAny_field hz rfl (x:=.bool false) rfl ?_)
  show wpAny _ _ (field (.ref z) 3 >>= _) _ _ _;refine wpAny_bind (wpAny_field hz rfl (x:=.ref TI) rfl ?_);refine wpAny_bind (wpAny_seqItems hI rfl ?_)
  show wpAny _ _ (Builtin.SmallTypes.ownedTupleIsFree (.ref z) >>= _) _ _ _;refine wpAny_bind ?_;unfold Builtin.SmallTypes.ownedTupleIsFree
  refine wpAny_bind (wpAny_field hz rfl (x:=.none) rfl (wpAny_pure ?_));simp only [if_true];refine wpAny_bind (wpAny_rule ?_)
  refine wpAny_bind (wpAny_field hz rfl (x:=.ref TO) rfl ?_);refine wpAny_bind (wpAny_setField_rec hz (by simp) fun g1 z1 e1=>?_)
  replace z1:IsZip g1 z TI TO .ellipsis:=z1;refine wpAny_bind ?_;simp only [List.zipIdx_cons,List.zipIdx_nil,List.forIn_cons,List.forIn_nil]
  refine wpAny_bind (wpAny_bind (wpAny_onRaise ?_));show wpAny _ _ (Builtin.SmallTypes.nextOf (.ref i1) >>= _) _ _ _
  refine wpAny_bind (P1.next (P1.stay u1 fun o e=>e1.extBut _ _ D.a2 e) (P1.row r1 fun o e=>e1.extBut _ _ D.b1 e) hx fun g2 v1 e2=>wpAny_pure ?_)
  have O2:IsPair g2 TO a b:=e2.extBut _ _ D.a4 (e1.extBut _ _ D.a1 hO)
  refine wpAny_bind (wpAny_seqItems O2 rfl ?_);refine wpAny_bind (wpAny_updateSeq_pair O2 fun g3 O3 e3=>?_);replace O3:IsPair g3 TO x b:=O3;refine wpAny_bind (wpAny_letGo (wpAny_pure ?_))
  refine wpAny_bind (wpAny_bind (wpAny_onRaise ?_));show wpAny _ _ (Builtin.SmallTypes.nextOf (.ref i2) >>= _) _ _ _
  have up3:∀c o,c≠z→c≠i1→c≠TO→s.heap.get? c=some o→g3.get? c=some o:=fun c o n1 n2 n3 e=>e3.extBut _ _ n3 (e2.extBut _ _ n2 (e1.extBut _ _ n1 e))
  refine wpAny_bind (P2.next (P2.stay u2 fun o e=>up3 _ _ D.a3 D.a6.symm D.a5.symm e) (P2.row r2 fun o e=>up3 _ _ D.c1 D.c3 D.c2 e) hy fun g4 v2 e4=>wpAny_pure ?_)
  have O4:IsPair g4 TO x b:=e4.extBut _ _ D.a5 O3
  refine wpAny_bind (wpAny_seqItems O4 rfl ?_);refine wpAny_bind (wpAny_updateSeq_pair O4 fun g5 O5 e5=>?_);replace O5:IsPair g5 TO x y:=O5;refine wpAny_bind (wpAny_letGo (wpAny_pure (wpAny_pure ?_)))
  refine wpAny_bind (wpAny_seqItems O5 rfl ?_);refine wpAny_bind (wpAny_newTuple ?_)
  have sz:g5.objs.size=s.heap.objs.size:=by rw [e5.1,e4.1,e3.1,e2.1,e1.1]
  have z5:IsZip g5 z TI TO .ellipsis:=e5.extBut _ _ D.a1.symm (e4.extBut _ _ D.a3.symm (e3.extBut _ _ D.a1.symm (e2.extBut _ _ D.a2.symm z1)))
  have k5:∀c o,c≠z→c≠TO→c≠i1→c≠i2→s.heap.get? c=some o→g5.get? c=some o:=fun c o n1 n2 n3 n4 e=>e5.extBut _ _ n2 (e4.extBut _ _ n4 (up3 c o n1 n3 n2 e))
  have w1:S1 (k+1) g5:=P1.stay v1 fun o e=>e5.extBut _ _ D.a4.symm (e4.extBut _ _ D.a6 (e3.extBut _ _ D.a4.symm e))
  have w2:S2 (k+1) g5:=P2.stay v2 fun o e=>e5.extBut _ _ D.a5.symm e
  have lz:z < g5.objs.size:=Heap.lt_size z5
  show wpAny _ _ (Builtin.SmallTypes.ownedTupleHandOut (.ref z) (.ref g5.objs.size) >>= _) _ _ _;refine wpAny_bind ?_;unfold Builtin.SmallTypes.ownedTupleHandOut
  have z6:IsZip (g5.push {cls:=.type "tuple",data:=.seq #[x,y]}) z TI TO .ellipsis:=Heap.get?_push_of_some _ z5
  refine wpAny_bind (wpAny_setField_rec z6 (by simp) fun g7 z7 e7=>?_);replace z7:IsZip g7 z TI TO (rawInt g5.objs.size):=z7
  refine wpAny_setField_rec z7 (by simp) fun g8 z8 e8=>?_;replace z8:IsZip g8 z TI TO (rawInt g5.objs.size):=z8
  have up:∀c o,c≠z→g5.get? c=some o→g8.get? c=some o:=fun c o n e=>e8.extBut _ _ n (e7.extBut _ _ n (Heap.get?_push_of_some _ e))
  have T8:IsPair g8 g5.objs.size x y:=e8.extBut _ _ (Nat.ne_of_gt lz) (e7.extBut _ _ (Nat.ne_of_gt lz) (Heap.get?_push_size _ rfl))
  have n8:g8.objs.size=g5.objs.size+1:=by rw [e8.1,e7.1,Heap.size_push]
  rw [sz] at z8 T8 n8;refine wpAny_pure ⟨_,rfl,?_⟩;show Q (.ref g5.objs.size) _;rw [sz]
  exact q g8 z8 (up _ _ D.a1 O5) (P1.stay w1 fun o e=>up _ o D.a2 e) (P2.stay w2 fun o e=>up _ o D.a3 e) T8 n8 fun c o n1 n2 n3 n4 e=>up c o n1 (k5 c o n1 n2 n3 n4 e)
theorem Cs{Q:Fin→Shared→Prop}(hh:A.handled=none)(P1:Sc prog w i1 l1 S1 R1)(P2:Sc prog w i2 l2 S2 R2)(D:jN z TI TO i1 i2 l1 l2)(hz:IsZip s.heap z TI TO .none)(hI:IsPair s.heap TI (.ref i1) (.ref i2))(hO:IsPair s.heap TO a b)(u1:S1 k s.heap)(u2:S2 k s.heap)(r1:R1 s.heap xs)(r2:R2 s.heap ys)(hn:xs[k]?=none∨ys[k]?=none)
    (q:∀g e,(∀c o,c≠z→c≠TO→c≠i1→c≠i2→s.heap.get? c=some o→g.get? c=some o)→(∃o,g.get? e=some o∧o.cls=.type "StopIteration")→E (.ref e) {s with heap:=g}):
    wpAny (model prog w) A (Builtin.«zip.__next__» ⟨[.ref z],[]⟩) Q E s:=by
  show wpAny _ _ (field (.ref z) 2 >>= _) _ _ _;refine wpAny_bind (wpAny_field hz rfl (x:=.bool false) rfl ?_)
  show wpAny _ _ (field (.ref z) 3 >>= _) _ _ _;refine wpAny_bind (wpAny_field hz rfl (x:=.ref TI) rfl ?_);refine wpAny_bind (wpAny_seqItems hI rfl ?_)
  show wpAny _ _ (Builtin.SmallTypes.ownedTupleIsFree (.ref z) >>= _) _ _ _;refine wpAny_bind ?_;unfold Builtin.SmallTypes.ownedTupleIsFree
  refine wpAny_bind (wpAny_field hz rfl (x:=.none) rfl (wpAny_pure ?_));simp only [if_true];refine wpAny_bind (wpAny_rule ?_)
  refine wpAny_bind (wpAny_field hz rfl (x:=.ref TO) rfl ?_);refine wpAny_bind (wpAny_setField_rec hz (by simp) fun g1 z1 e1=>?_)
  replace z1:IsZip g1 z TI TO .ellipsis:=z1;refine wpAny_bind ?_;simp only [List.zipIdx_cons,List.zipIdx_nil,List.forIn_cons,List.forIn_nil]
  refine wpAny_bind (wpAny_bind (wpAny_onRaise ?_));show wpAny _ _ (Builtin.SmallTypes.nextOf (.ref i1) >>= _) _ _ _
  cases hx:xs[k]? with
  | none=>
    refine wpAny_bind (P1.last hh (P1.stay u1 fun o e=>e1.extBut _ _ D.a2 e) (P1.row r1 fun o e=>e1.extBut _ _ D.b1 e) hx fun g2 e e2 he=>?_)
    obtain⟨oe,h1,h2⟩:=he;have z2:IsZip g2 z TI TO .ellipsis:=e2 _ _ D.a2.symm z1
    have nz:e≠z:=fun x=>by subst x;rw [z2] at h1;cases h1;simp at h2
    refine wpAny_setField_rec z2 (by simp) fun g3 _ e3=>q g3 e (fun c o n1 _ n3 _ x=>e3.extBut _ _ n1 (e2 _ _ n3 (e1.extBut _ _ n1 x))) ⟨oe,e3.extBut _ _ nz h1,h2⟩
  | some x=>
    have hy:ys[k]?=none:=by
      rcases hn with h | h
      · rw [hx] at h;cases h
      · exact h
    refine wpAny_bind (P1.next (P1.stay u1 fun o e=>e1.extBut _ _ D.a2 e) (P1.row r1 fun o e=>e1.extBut _ _ D.b1 e) hx fun g2 v1 e2=>wpAny_pure ?_)
    have O2:IsPair g2 TO a b:=e2.extBut _ _ D.a4 (e1.extBut _ _ D.a1 hO)
    refine wpAny_bind (wpAny_seqItems O2 rfl ?_);refine wpAny_bind (wpAny_updateSeq_pair O2 fun g3 O3 e3=>?_);refine wpAny_bind (wpAny_letGo (wpAny_pure ?_))
    refine wpAny_bind (wpAny_bind (wpAny_onRaise ?_));show wpAny _ _ (Builtin.SmallTypes.nextOf (.ref i2) >>= _) _ _ _
    have up3:∀c o,c≠z→c≠i1→c≠TO→s.heap.get? c=some o→g3.get? c=some o:=fun c o n1 n2 n3 e=>e3.extBut _ _ n3 (e2.extBut _ _ n2 (e1.extBut _ _ n1 e))
    refine wpAny_bind (P2.last hh (P2.stay u2 fun o e=>up3 _ _ D.a3 D.a6.symm D.a5.symm e) (P2.row r2 fun o e=>up3 _ _ D.c1 D.c3 D.c2 e) hy fun g4 e e4 he=>?_)
    obtain⟨oe,h1,h2⟩:=he;have z4:IsZip g4 z TI TO .ellipsis:=e4 _ _ D.a3.symm (e3.extBut _ _ D.a1.symm (e2.extBut _ _ D.a2.symm z1))
    have nz:e≠z:=fun x=>by subst x;rw [z4] at h1;cases h1;simp at h2
    refine wpAny_setField_rec z4 (by simp) fun g5 _ e5=>q g5 e (fun c o n1 n2 n3 n4 x=>e5.extBut _ _ n1 (e4 _ _ n4 (up3 c o n1 n3 n2 x))) ⟨oe,e5.extBut _ _ nz h1,h2⟩
theorem mV{x y:Value}{Q:Option Value→Shared→Prop}(P1:Sc prog w i1 l1 S1 R1)(P2:Sc prog w i2 l2 S2 R2)(D:jN z TI TO i1 i2 l1 l2)(hz:IsZip s.heap z TI TO .none)(hI:IsPair s.heap TI (.ref i1) (.ref i2))(hO:IsPair s.heap TO a b)(u1:S1 k s.heap)(u2:S2 k s.heap)(r1:R1 s.heap xs)(r2:R2 s.heap ys)(hx:xs[k]?=some x)(hy:ys[k]?=some y)
    (q:∀g,IsZip g z TI TO (rawInt s.heap.objs.size)→IsPair g TO x y→S1 (k+1) g→S2 (k+1) g→IsPair g s.heap.objs.size x y→g.objs.size=s.heap.objs.size+1→(∀c o,c≠z→c≠TO→c≠i1→c≠i2→s.heap.get? c=some o→g.get? c=some o)→Q (some (.ref s.heap.objs.size)) {s with heap:=g}):
    wpAny (model prog w) A (pyNext (.ref z)) Q E s:=by
  have hT:s.TypeIs (.ref z) "zip":=⟨_,hz,rfl⟩;unfold pyNext
  refine wpAny_bind (wpAny_attempt (wpAny_callSpecial?_slot (name:=Str.ofString "__next__") hT F.slot_zip_next (wpAny_call_entry F.slot_zip_next hT F.entry_zip_next ?_ (F.args_zip_next_1 _))))
  exact Fd P1 P2 D hz hI hO u1 u2 r1 r2 hx hy fun g b1 b2 b3 b4 b5 b6 b7=>wpAny_pure (q g b1 b2 b3 b4 b5 b6 b7)
theorem mW{Q:Option Value→Shared→Prop}(hh:A.handled=none)(P1:Sc prog w i1 l1 S1 R1)(P2:Sc prog w i2 l2 S2 R2)(D:jN z TI TO i1 i2 l1 l2)(hz:IsZip s.heap z TI TO .none)(hI:IsPair s.heap TI (.ref i1) (.ref i2))(hO:IsPair s.heap TO a b)(u1:S1 k s.heap)(u2:S2 k s.heap)(r1:R1 s.heap xs)(r2:R2 s.heap ys)(hn:xs[k]?=none∨ys[k]?=none)
    (q:∀g,(∀c o,c≠z→c≠TO→c≠i1→c≠i2→s.heap.get? c=some o→g.get? c=some o)→Q none {s with heap:=g}):wpAny (model prog w) A (pyNext (.ref z)) Q E s:=by
  have hT:s.TypeIs (.ref z) "zip":=⟨_,hz,rfl⟩;unfold pyNext
  refine wpAny_bind (wpAny_attempt (wpAny_callSpecial?_slot (name:=Str.ofString "__next__") hT F.slot_zip_next (wpAny_call_entry F.slot_zip_next hT F.entry_zip_next (Cs hh P1 P2 D hz hI hO u1 u2 r1 r2 hn fun g e hk he=>?_) (F.args_zip_next_1 _))))
  obtain⟨o,ho,hc⟩:=he;refine wpAny_bind (wpAny_isInstance (T:="StopIteration") (b:=true) ⟨o,ho,hc⟩ isSubtype_stop ?_);exact wpAny_pure (q _ hk)
end
end L2
namespace L2
open PySem PySem.Spec PyProof.Rows
section
variable{X:Cx}{pins:List (Addr × Obj)}{σ:L2.St}{H:Hp}{s:Shared}{h':Heap}
theorem aI.turnedL{t':Nat}{fp:List Addr}(I:aI X pins σ H s)(hf:∀b∈fp,gM X pins H b)(k:∀b o,b∉fp→s.heap.get? b=some o→h'.get? b=some o):aI X pins σ H {s with heap:=h',toks:=t'}:=by
  have hL:X.env.locals∉fp:=fun z=>(hf _ z).2.1 rfl
  have nit:∀b u,H b=some u→b∉fp:=fun b u e z=>by have:=(hf b z).1;rw [this] at e;cases e
  refine I.step (g':=s.gens) (d':=s.drawn) (ch:=fp) (fun b hb=>?_) (fun b o _ _ hc e _=>k b o hc e) (fun b o _ _ hc e _=>⟨o.slots,k b o hc e⟩) (fun _ _ _ _ n=>n) (fun b o hc e=>⟨o,k b o hc e⟩) (fun _ _ e=>e) (fun _ _ _ e=>e) (fun b ps e=>⟨#[],by rw [e];simp⟩) (fun m hm=>?_) (fun b u e=>?_) I.bare
  · obtain⟨f0,f1,f2,f3,f4,f5⟩:=hf b hb
    exact⟨f3,f1,f4,f5⟩
  · obtain⟨o,es,ep,ho,r⟩:=hm
    exact⟨o,es,ep,k _ o hL ho,r⟩
  · refine(I.hok b u e).stay (fun c v hc q=>k c v ?_ q) (fun _ q=>q) fun _ _ q=>q
    rcases hc with z | z
    · rw [z];exact nit b u e
    · exact nit c _ z
theorem aJ(I:aI X pins σ H s){b l:Addr}{xs:List V}(f:gM X pins H b)(q:cg X.K H l xs):l≠b:=by
  intro z
  subst z
  rcases q with (q | ⟨o,q⟩) | ⟨o,its,n,hk,_⟩
  · rw [f.1] at q;cases q
  · rw [f.1] at q;cases q
  · have hb:X.base.get? l=some o:=I.ok.mod.kin l o hk
    rcases f.2.2.2.1 with z | z
    · exact I.ok.noex l o hb z
    · exact absurd (Nat.lt_of_lt_of_le (Heap.lt_size (I.ok.bs l o hb).1) z) (Nat.lt_irrefl _)
end
def HI(K:PySem.W.Frag)(l1 l2:Addr):It:=
  ⟨fun i H=>∃xs ys x y,cg K H l1 xs∧cg K H l2 ys∧xs[i]?=some x∧ys[i]?=some y,
   fun i H v H'=>∃p x y,v=.ref p∧H p=none∧H'=bc H p (.tup [x,y])∧∀xs ys,cg K H l1 xs→cg K H l2 ys→xs[i]?=some x∧ys[i]?=some y,
   fun i H=>∃xs ys,cg K H l1 xs∧cg K H l2 ys∧(xs.length≤i∨ys.length≤i)⟩
def Dg(z TI TO i1 i2 l1 l2:Addr)(i:Nat)(h:Heap):Prop:=IsZip h z TI TO .none∧IsPair h TI (.ref i1) (.ref i2)∧(∃a b,IsPair h TO a b)∧h.IsTupleIter i1 l1 i∧h.IsTupleIter i2 l2 i
theorem Ap{P:Program}{w:World}{K:PySem.W.Frag}{es:List Expr}{k0:Nat}{pos:Pos}{z TI TO i1 i2:Addr}(l1 l2:Addr)(n1:TO≠z)(n2:i1≠z)(n3:i2≠z)(n4:TO≠i1)(n5:TO≠i2)(n6:i1≠i2)(n7:TI≠z)(n8:TI≠TO)(n9:TI≠i1)(n10:TI≠i2):
    qf P w K (.Tuple es k0 pos) (HI K l1 l2) [z,TI,TO,i1,i2] z (Dg z TI TO i1 i2 l1 l2) where
  mem:=by simp
  obj:=fun i h st b hb=>by
    obtain⟨hz,hI,⟨a,c,hO⟩,u1,u2⟩:=st
    simp only [List.mem_cons,List.not_mem_nil,or_false] at hb
    rcases hb with rfl | rfl | rfl | rfl | rfl
    · exact⟨_,hz,fun v z=>by cases z⟩
    · exact⟨_,hI,fun v z=>by cases z⟩
    · exact⟨_,hO,fun v z=>by cases z⟩
    · obtain⟨o,e,c,d⟩:=u1
      exact⟨o,e,fun v z=>by rw [d] at z;cases z⟩
    · obtain⟨o,e,c,d⟩:=u2
      exact⟨o,e,fun v z=>by rw [d] at z;cases z⟩
  keep:=fun i h h' st k=>by
    obtain⟨hz,hI,⟨a,c,hO⟩,u1,u2⟩:=st
    exact⟨k _ (by simp) _ hz,k _ (by simp) _ hI,⟨a,c,k _ (by simp) _ hO⟩,u1.at fun o e=>k _ (by simp) o e,u2.at fun o e=>k _ (by simp) o e⟩
  item:=by
    intro X hP hw hK hc i pins s σ H E I hf st hg
    subst hP hw hK
    obtain⟨xs,ys,x,y,q1,q2,hx,hy⟩:=hg
    obtain⟨hz,hI,⟨a,b,hO⟩,u1,u2⟩:=id st
    obtain⟨its1,rv1,p1,z1⟩:=I.tuple q1
    obtain⟨its2,rv2,p2,z2⟩:=I.tuple q2
    obtain⟨ux,hux,rux⟩:=rv1.get hx
    obtain⟨uy,huy,ruy⟩:=rv2.get hy
    have fz:=hf z (by simp);have fO:=hf TO (by simp);have f1:=hf i1 (by simp);have f2:=hf i2 (by simp)
    have D:jN z TI TO i1 i2 l1 l2:=⟨n1,n2,n3,n4,n5,n6,aJ I fz q1,aJ I fO q1,aJ I f1 q1,aJ I f2 q1,aJ I fz q2,aJ I fO q2,aJ I f1 q2,aJ I f2 q2⟩
    refine mV (xs:=its1.toArray) (ys:=its2.toArray) (iV i1 l1) (iV i2 l2) D hz hI hO u1 u2 p1 p2 (by simpa using hux) (by simpa using huy) fun g gz gO g1 g2 gT gs gk=>?_
    refine⟨_,rfl,wpAny_letOwnedTupleGo_zip gz fun g' gz' ge=>?_⟩
    have lt:∀b∈[z,TI,TO,i1,i2],b < s.heap.objs.size:=fun b hb=>by
      simp only [List.mem_cons,List.not_mem_nil,or_false] at hb
      rcases hb with rfl | rfl | rfl | rfl | rfl
      · exact Heap.lt_size hz
      · exact Heap.lt_size hI
      · exact Heap.lt_size hO
      · obtain⟨o,e,_⟩:=u1;exact Heap.lt_size e
      · obtain⟨o,e,_⟩:=u2;exact Heap.lt_size e
    have hT:H s.heap.objs.size=none:=I.hok.fresh (Nat.le_refl _)
    have vv:aW [x,y] [ux,uy]:=.cons rux (.cons ruy .nil)
    have I1:aI X pins σ (bc H s.heap.objs.size (.tup [x,y])) {s with heap:=s.heap.push {cls:=.type "tuple",data:=.seq #[ux,uy]},toks:=s.toks}:=
      I.laid (t':=s.toks) (fun b u e=>Heap.get?_push_of_some _ e) (Nat.le_refl _) ⟨(by show 2≤sizeLine;decide),[ux,uy],vv,lM.new _ _⟩
    have hf1:∀b∈[z,TI,TO,i1,i2],gM X pins (bc H s.heap.objs.size (.tup [x,y])) b:=fun b hb=>by
      obtain⟨f0,fr⟩:=hf b hb
      exact⟨by rw [aF (Nat.ne_of_lt (lt b hb))];exact f0,fr⟩
    have nzT:s.heap.objs.size≠z:=Nat.ne_of_gt (lt z (by simp))
    have I2:aI X pins σ (bc H s.heap.objs.size (.tup [x,y])) {s with heap:=g',toks:=s.toks}:=by
      refine I1.turnedL (t':=s.toks) hf1 fun b o nb e=>?_
      have nb':b≠z∧b≠TI∧b≠TO∧b≠i1∧b≠i2:=by simpa using nb
      refine ge.extBut _ _ nb'.1 ?_
      rcases Heap.get?_push_cases e with ⟨rfl,rfl⟩ | e
      · exact gT
      · exact gk b o nb'.1 nb'.2.2.1 nb'.2.2.2.1 nb'.2.2.2.2 e
    refine⟨.ref s.heap.objs.size,_,I2,rfl,⟨_,x,y,rfl,hT,rfl,fun xs' ys' w1 w2=>?_⟩,⟨gz',ge.extBut _ _ n7 (gk _ _ n7 n8 n9 n10 hI),⟨ux,uy,ge.extBut _ _ n1 gO⟩,g1.at fun o e=>ge.extBut _ _ n2 e,g2.at fun o e=>ge.extBut _ _ n3 e⟩,fun b hb=>(hf1 b hb).1⟩
    rw [I.tuple_inj w1 q1,I.tuple_inj w2 q2]
    exact⟨hx,hy⟩
  done:=by
    intro X hP hw hK hc i pins s σ H E I hf st hg
    subst hP hw hK
    obtain⟨xs,ys,q1,q2,hn⟩:=hg
    obtain⟨hz,hI,⟨a,b,hO⟩,u1,u2⟩:=id st
    obtain⟨its1,rv1,p1,z1⟩:=I.tuple q1
    obtain⟨its2,rv2,p2,z2⟩:=I.tuple q2
    have fz:=hf z (by simp);have fO:=hf TO (by simp);have f1:=hf i1 (by simp);have f2:=hf i2 (by simp)
    have D:jN z TI TO i1 i2 l1 l2:=⟨n1,n2,n3,n4,n5,n6,aJ I fz q1,aJ I fO q1,aJ I f1 q1,aJ I f2 q1,aJ I fz q2,aJ I fO q2,aJ I f1 q2,aJ I f2 q2⟩
    have e1:=rv1.length
    have e2:=rv2.length
    refine mW (xs:=its1.toArray) (ys:=its2.toArray) (I.ok.hd hc) (iV i1 l1) (iV i2 l2) D hz hI hO u1 u2 p1 p2 ?_ fun g gk=>⟨rfl,I.turnedL (t':=s.toks) hf fun b o nb e=>?_⟩
    · rcases hn with hn | hn
      · exact .inl (by simp;lia)
      · exact .inr (by simp;lia)
    · have nb':b≠z∧b≠TI∧b≠TO∧b≠i1∧b≠i2:=by simpa using nb
      exact gk b o nb'.1 nb'.2.2.1 nb'.2.2.2.1 nb'.2.2.2.2 e
  self:=fun A i s Q E st h=>wpAny_pyIter_zip st.1 h
theorem Ct(l1 l2:Addr)(xs ys:Array Value):
    Meets (Builtin.«zip.__new__» ⟨[.type "zip",.ref l1,.ref l2],[]⟩) (fun _ R s=>s.heap.IsTuple l1 xs∧s.heap.IsTuple l2 ys∧
      R (.ok (.ret (.ref (s.heap.objs.size+4)))) {s with heap:=((((s.heap.push {cls:=.type "tuple_iterator",data:=.fields #[.ref l1,.int 0 0]}).push {cls:=.type "tuple_iterator",data:=.fields #[.ref l2,.int 0 0]}).push {cls:=.type "tuple",data:=.seq #[.ref s.heap.objs.size,.ref (s.heap.objs.size+1)]}).push {cls:=.type "tuple",data:=.seq #[.none,.none]}).push {cls:=.type "zip",data:=.fields #[.none,.bool false,.bool false,.ref (s.heap.objs.size+2),.ref (s.heap.objs.size+3)]}}):=
  .of_wp fun prog w A R s h=>by
    obtain⟨hp,g,d,tk,os⟩:=s;obtain⟨t1,t2,h⟩:=h;have sz:=PySem.sub_zip
    have T1:Heap.IsTuple (Shared.heap ⟨hp,g,d,tk,os⟩) l1 xs:=t1
    have T2:Heap.IsTuple (Shared.heap ⟨hp.push {cls:=.type "tuple_iterator",data:=.fields #[.ref l1,.int 0 0]},g,d,tk,os⟩) l2 ys:=Heap.IsTuple.push t2 _
    wp_walk using wpAny_pyIter_tuple T1,wpAny_pyIter_tuple T2
    refine⟨_,rfl,?_⟩
    simp only [Heap.size_push]
    exact h
section
variable{prog:Program}{w:World}{A:Around}{E:Value→Shared→Prop}{s:Shared}
theorem Av{l1 l2:Addr}{xs ys:Array Value}{Q:Value→Shared→Prop}(t1:s.heap.IsTuple l1 xs)(t2:s.heap.IsTuple l2 ys)
    (h:∀g,Dg (s.heap.objs.size+4) (s.heap.objs.size+2) (s.heap.objs.size+3) s.heap.objs.size (s.heap.objs.size+1) l1 l2 0 g→(∀c o,s.heap.get? c=some o→g.get? c=some o)→Q (.ref (s.heap.objs.size+4)) {s with heap:=g}):
    wpAny (model prog w) A (call (.type "zip") [.ref l1,.ref l2]) Q E s:=by
  refine callType_new F.called_zip (by decide) (F.typeCall_zip_2 _ _) (F.newCall_zip_2 _ _) (fun obj=>F.args_object_init_3 obj _ _) F.entry_zip_new (Ct l1 l2 xs ys) ⟨t1,t2,?_⟩
  have at5:∀(g:Heap) (o:Obj) (a:Addr),o.isFreed=false→a=g.objs.size→(g.push o).get? a=some o:=fun g o a hf e=>by rw [e];exact Heap.get?_push_size _ hf
  have g5:=at5 ((((s.heap.push {cls:=.type "tuple_iterator",data:=.fields #[.ref l1,.int 0 0]}).push {cls:=.type "tuple_iterator",data:=.fields #[.ref l2,.int 0 0]}).push {cls:=.type "tuple",data:=.seq #[.ref s.heap.objs.size,.ref (s.heap.objs.size+1)]}).push {cls:=.type "tuple",data:=.seq #[.none,.none]}) {cls:=.type "zip",data:=.fields #[.none,.bool false,.bool false,.ref (s.heap.objs.size+2),.ref (s.heap.objs.size+3)]} (s.heap.objs.size+4) rfl (by simp only [Heap.size_push])
  have g4:=at5 (((s.heap.push {cls:=.type "tuple_iterator",data:=.fields #[.ref l1,.int 0 0]}).push {cls:=.type "tuple_iterator",data:=.fields #[.ref l2,.int 0 0]}).push {cls:=.type "tuple",data:=.seq #[.ref s.heap.objs.size,.ref (s.heap.objs.size+1)]}) {cls:=.type "tuple",data:=.seq #[.none,.none]} (s.heap.objs.size+3) rfl (by simp only [Heap.size_push])
  have g3:=at5 ((s.heap.push {cls:=.type "tuple_iterator",data:=.fields #[.ref l1,.int 0 0]}).push {cls:=.type "tuple_iterator",data:=.fields #[.ref l2,.int 0 0]}) {cls:=.type "tuple",data:=.seq #[.ref s.heap.objs.size,.ref (s.heap.objs.size+1)]} (s.heap.objs.size+2) rfl (by simp only [Heap.size_push])
  have g2:=at5 (s.heap.push {cls:=.type "tuple_iterator",data:=.fields #[.ref l1,.int 0 0]}) {cls:=.type "tuple_iterator",data:=.fields #[.ref l2,.int 0 0]} (s.heap.objs.size+1) rfl (by simp only [Heap.size_push])
  have g1:=at5 s.heap {cls:=.type "tuple_iterator",data:=.fields #[.ref l1,.int 0 0]} s.heap.objs.size rfl rfl
  have up:∀{g:Heap} {a:Addr} {u:Obj} (o:Obj),g.get? a=some u→(g.push o).get? a=some u:=fun o e=>Heap.get?_push_of_some o e
  refine⟨⟨_,g5,rfl⟩,h _ ⟨g5,up _ (up _ g3),⟨_,_,up _ g4⟩,⟨_,up _ (up _ (up _ (up _ g1))),rfl,rfl⟩,⟨_,up _ (up _ (up _ g2)),rfl,rfl⟩⟩ fun c o x=>up _ (up _ (up _ (up _ (up _ x))))⟩
end
theorem lZ:PySem.bootBuiltins "zip"=some (.type "zip"):=by decide+kernel
def Hk(K:PySem.W.Frag)(ta:TA):TI:=fun σ H R=>ta σ H fun vs H1=>∃a b,vs=[.ref a,.ref b]∧(∃xs,cg K H1 a xs)∧(∃ys,cg K H1 b ys)∧R (HI K a b) H1
theorem Ek{X:Cx}{K:PySem.W.Frag}{es:List Expr}{k0:Nat}{tp:Pos}{a b:Expr}{ta:TA}{p pos:Pos}(hK:X.K=K)(hg:Gl X "zip")(hm:X.mg "zip"=none)(ha:PA X [a,b] ta)(hs:starEach [a,b] X.env=[(false,eval a X.env),(false,eval b X.env)]:=by rfl)(hs2:starEach [b] X.env=[(false,eval b X.env)]:=by rfl):
    PI X (.Tuple es k0 tp) (.Call (.Name "zip" p) [a,b] [] pos) (Hk K ta):=by
  intro pins s σ H R I h
  subst hK
  refine Call_ (gD I hg hm lZ (PyProof.Rows.callWith_type1 (bN (ha pos pins s σ H _ I h) fun us s1 ⟨vs,H1,I1,r1,q1⟩=>?_) (by rw [hs,hs2]) (by rw [hs2];rfl)))
  obtain⟨a,b,e,⟨xs,qx⟩,⟨ys,qy⟩,q⟩:=q1
  subst e
  cases r1 with
  | cons r rr=>
    cases rr with
    | cons r' rr=>
      cases rr
      cases r
      cases r'
      obtain⟨i1,v1,p1,_⟩:=I1.tuple qx
      obtain⟨i2,v2,p2,_⟩:=I1.tuple qy
      refine Av p1 p2 fun g st hk=>wpAny_pyIter_zip st.1 ?_
      have I2:aI X pins σ H1 {s1 with heap:=g,toks:=s1.toks}:=I1.kept (t':=s1.toks) fun b o e=>hk b o e
      refine⟨s1.heap.objs.size+4,[s1.heap.objs.size+4,s1.heap.objs.size+2,s1.heap.objs.size+3,s1.heap.objs.size,s1.heap.objs.size+1],_,_,H1,rfl,I2,Ap a b (show((s1.heap.objs.size+3:Nat)≠s1.heap.objs.size+4) by lia) (show((s1.heap.objs.size:Nat)≠s1.heap.objs.size+4) by lia) (show((s1.heap.objs.size+1:Nat)≠s1.heap.objs.size+4) by lia) (show((s1.heap.objs.size+3:Nat)≠s1.heap.objs.size) by lia) (show((s1.heap.objs.size+3:Nat)≠s1.heap.objs.size+1) by lia) (show((s1.heap.objs.size:Nat)≠s1.heap.objs.size+1) by lia) (show((s1.heap.objs.size+2:Nat)≠s1.heap.objs.size+4) by lia) (show((s1.heap.objs.size+2:Nat)≠s1.heap.objs.size+3) by lia) (show((s1.heap.objs.size+2:Nat)≠s1.heap.objs.size) by lia) (show((s1.heap.objs.size+2:Nat)≠s1.heap.objs.size+1) by lia),st,fun c hc=>?_,q⟩
      have le:s1.heap.objs.size≤c:=by
        simp only [List.mem_cons,List.not_mem_nil,or_false] at hc
        rcases hc with rfl | rfl | rfl | rfl | rfl
        · exact Nat.le_add_right _ 4
        · exact Nat.le_add_right _ 2
        · exact Nat.le_add_right _ 3
        · exact Nat.le_refl _
        · exact Nat.le_add_right _ 1
      have f:=I1.fpOk (H':=H1) le (I1.hok.fresh le)
      exact f
end L2
namespace L2
open PySem PySem.Spec PyProof.Rows
section
variable{prog:Program}{w:World}{A:Around}{E:Value→Shared→Prop}{s:Shared}{e it l:Addr}{k:Nat}{xs:Array Value}{S:Nat→Heap→Prop}{R:Heap→Array Value→Prop}
theorem ug(P1:Sc prog w it l S R)(hh:A.handled=none)(hne:l≠it)(xs:Array Value):Draws prog w A it [it,l] xs.size (fun i v=>xs[i]?=some v) (fun i h=>S i h∧R h xs) where
  live:=fun _ _ st=>let ⟨o,ho,_⟩:=P1.live st.1;⟨o,ho⟩
  frame:=fun _ _ _ st hk=>⟨P1.stay st.1 fun o e=>hk it (by simp) o e,P1.row st.2 fun o e=>hk l (by simp) o e⟩
  item:=fun i s Q E hi st hQ=>P1.next st.1 st.2 (x:=xs[i]) (by simp [hi]) fun g h1 h2=>hQ _ g s.toks (by simp [hi]) ⟨h1,P1.row st.2 fun o e=>h2.extBut _ _ hne e⟩ h2
  done:=fun s Q E st hE=>P1.last hh st.1 st.2 (by simp) hE
theorem qM{i:Int}{old:Value}{Q:Option Value→Shared→Prop}(P1:Sc prog w it l S R)(hh:A.handled=none)(he:IsEnum s.heap e it i old)(st:S k s.heap)(sq:R s.heap xs)(hx:xs[k]?=none)(q:∀g,Heap.ExtBut it s.heap g→Q none {s with heap:=g}):wpAny (model prog w) A (pyNext (.ref e)) Q E s:=by
  have hT:s.TypeIs (.ref e) "enumerate":=⟨_,he,rfl⟩;unfold pyNext
  refine wpAny_bind (wpAny_attempt (wpAny_callSpecial?_slot (name:=Str.ofString "__next__") hT F.slot_enumerate_next (wpAny_call_entry F.slot_enumerate_next hT F.entry_enumerate_next ?_ (F.args_enumerate_next_1 _))))
  show wpAny _ _ (field (.ref e) 2 >>= _) _ _ _;refine wpAny_bind (wpAny_field he rfl (x:=.ref it) rfl ?_)
  refine wpAny_bind (P1.last hh st sq hx fun g x hk hx'=>?_);obtain⟨o,ho,hc⟩:=hx'
  refine wpAny_bind (wpAny_isInstance (T:="StopIteration") (b:=true) ⟨o,ho,hc⟩ isSubtype_stop ?_);exact wpAny_pure (q _ hk)
theorem k8{i:Int}{old:Value}{Q:Value→Shared→Prop}(he:IsEnum s.heap e it i old)(h:Q (.ref e) s):wpAny (model prog w) A (pyIter (.ref e)) Q E s:=by
  have hT:s.TypeIs (.ref e) "enumerate":=⟨_,he,rfl⟩
  refine wpAny_pyIter_slot hT F.slot_enumerate_iter (wpAny_call_entry F.slot_enumerate_iter hT F.entry_enumerate_iter ?_ (F.args_enumerate_iter_1 _))
  show wpAny _ _ (ret (.ref e)) _ _ s;exact wpAny_pure ⟨_,rfl,"enumerate",_,hT,F.slot_enumerate_next.lookup,h⟩
end
section
variable{X:Cx}{pins:List (Addr × Obj)}{σ:L2.St}{H:Hp}{s:Shared}
theorem az(I:aI X pins σ H s){b l:Addr}{xs:List V}(f:gM X pins H b)(q:cW X.K H l xs):l≠b:=by
  intro z
  subst z
  rcases q with (q | ⟨o,q⟩) | ⟨o,its,n,hk,_⟩
  · rw [f.1] at q;cases q
  · rw [f.1] at q;cases q
  · have hb:X.base.get? l=some o:=I.ok.mod.kin l o hk
    rcases f.2.2.2.1 with z | z
    · exact I.ok.noex l o hb z
    · exact absurd (Nat.lt_of_lt_of_le (Heap.lt_size (I.ok.bs l o hb).1) z) (Nat.lt_irrefl _)
end
def Dj(K:PySem.W.Frag)(l:Addr):It:=
  ⟨fun i H=>∃xs x,cg K H l xs∧xs[i]?=some x,fun i H v H'=>∃p x,v=.ref p∧H p=none∧H'=bc H p (.tup [.int i,x])∧∀xs,cg K H l xs→xs[i]?=some x,fun i H=>∃xs,cg K H l xs∧xs.length≤i⟩
def vY(e it l:Addr)(i:Nat)(h:Heap):Prop:=(∃old,IsEnum h e it i old)∧h.IsTupleIter it l i
theorem vy{P:Program}{w:World}{K:PySem.W.Frag}{es:List Expr}{k0:Nat}{pos:Pos}{e it:Addr}(l:Addr)(ne:e≠it):qf P w K (.Tuple es k0 pos) (Dj K l) [e,it] e (vY e it l) where
  mem:=by simp
  obj:=fun i h st b hb=>by
    obtain⟨⟨old,he⟩,u⟩:=st
    simp only [List.mem_cons,List.not_mem_nil,or_false] at hb
    rcases hb with rfl | rfl
    · exact⟨_,he,fun v z=>by cases z⟩
    · obtain⟨o,e,c,d⟩:=u
      exact⟨o,e,fun v z=>by rw [d] at z;cases z⟩
  keep:=fun i h h' st k=>by
    obtain⟨⟨old,he⟩,u⟩:=st
    exact⟨⟨old,k _ (by simp) _ he⟩,u.at fun o e=>k _ (by simp) o e⟩
  item:=by
    intro X hP hw hK hc i pins s σ H E I hf st hg
    subst hP hw hK
    obtain⟨xs,x,q1,hx⟩:=hg
    obtain⟨⟨old,he⟩,u⟩:=id st
    obtain⟨its,rv,p,hz⟩:=I.tuple q1
    obtain⟨ux,hux,rux⟩:=rv.get hx
    have fe:=hf e (by simp);have ft:=hf it (by simp)
    have n1:l≠e:=aJ I fe q1
    have n2:l≠it:=aJ I ft q1
    have hi:i < its.toArray.size:=by have:=(List.getElem?_eq_some_iff.mp hux).1;simpa using this
    refine wpAny_pyNext_enum_itemD (ug (A:=X.A.in1) (iV it l) (show X.A.in1.handled=none from I.ok.hd hc) n2 its.toArray) he ⟨u,p⟩ hi ne (by simpa using ⟨ne,fun z=>n1 z.symm⟩) fun x' g tk hP ho hs hT hsz hk=>?_
    have ex:x'=ux:=by
      have:its[i]?=some x':=by simpa using hP
      rw [hux] at this;exact(Option.some.inj this).symm
    subst ex
    refine⟨_,rfl,wpAny_letOwnedTupleGo_enum ho fun g' he' ge=>?_⟩
    have lt:∀b∈[e,it],b < s.heap.objs.size:=fun b hb=>by
      simp only [List.mem_cons,List.not_mem_nil,or_false] at hb
      rcases hb with rfl | rfl
      · exact Heap.lt_size he
      · obtain⟨o,e,_⟩:=u;exact Heap.lt_size e
    have hTn:H s.heap.objs.size=none:=I.hok.fresh (Nat.le_refl _)
    have vv:aW [.int i,x] [.int i tk,x']:=.cons ⟨tk,rfl⟩ (.cons rux .nil)
    have I1:aI X pins σ (bc H s.heap.objs.size (.tup [.int i,x])) {s with heap:=s.heap.push {cls:=.type "tuple",data:=.seq #[.int i tk,x']},toks:=s.toks}:=
      I.laid (t':=s.toks) (fun b u e=>Heap.get?_push_of_some _ e) (Nat.le_refl _) ⟨(by show 2≤sizeLine;decide),[.int i tk,x'],vv,lM.new _ _⟩
    have hf1:∀b∈[e,it],gM X pins (bc H s.heap.objs.size (.tup [.int i,x])) b:=fun b hb=>by
      obtain⟨f0,fr⟩:=hf b hb
      exact⟨by rw [aF (Nat.ne_of_lt (lt b hb))];exact f0,fr⟩
    have I2:aI X pins σ (bc H s.heap.objs.size (.tup [.int i,x])) {s with heap:=g',toks:=tk+1}:=by
      refine I1.turnedL (t':=tk+1) hf1 fun b o nb eb=>?_
      have nb':b≠e∧b≠it:=by simpa using nb
      refine ge.extBut _ _ nb'.1 ?_
      rcases Heap.get?_push_cases eb with ⟨rfl,rfl⟩ | eb
      · exact hT
      · exact hk b o nb'.1 nb'.2 eb
    refine⟨.ref s.heap.objs.size,_,I2,rfl,⟨_,x,rfl,hTn,rfl,fun xs' w1=>by rw [I.tuple_inj w1 q1];exact hx⟩,⟨⟨_,by simpa using he'⟩,hs.1.at fun o e=>ge.extBut _ _ (fun z=>ne z.symm) e⟩,fun b hb=>(hf1 b hb).1⟩
  done:=by
    intro X hP hw hK hc i pins s σ H E I hf st hg
    subst hP hw hK
    obtain⟨xs,q1,hn⟩:=hg
    obtain⟨⟨old,he⟩,u⟩:=id st
    obtain⟨its,rv,p,hz⟩:=I.tuple q1
    have e1:=rv.length
    refine qM (xs:=its.toArray) (iV it l) (I.ok.hd hc) he u p (by simp;lia) fun g gk=>⟨rfl,I.turnedL (t':=s.toks) hf fun b o nb eb=>?_⟩
    have nb':b≠e∧b≠it:=by simpa using nb
    exact gk b o nb'.2 eb
  self:=fun A i s Q E st h=>by
    obtain⟨⟨old,he⟩,u⟩:=st
    exact k8 he h
def Di(K:PySem.W.Frag)(l:Addr):It:=
  ⟨fun i H=>∃xs x,cW K H l xs∧xs[i]?=some x,fun i H v H'=>∃p x,v=.ref p∧H p=none∧H'=bc H p (.tup [.int i,x])∧∀xs,cW K H l xs→xs[i]?=some x,fun i H=>∃xs,cW K H l xs∧xs.length≤i⟩
def AW(e it l:Addr)(i:Nat)(h:Heap):Prop:=(∃old,IsEnum h e it i old)∧h.IsListIter it l i
theorem vx{P:Program}{w:World}{K:PySem.W.Frag}{es:List Expr}{k0:Nat}{pos:Pos}{e it:Addr}(l:Addr)(ne:e≠it):qf P w K (.Tuple es k0 pos) (Di K l) [e,it] e (AW e it l) where
  mem:=by simp
  obj:=fun i h st b hb=>by
    obtain⟨⟨old,he⟩,u⟩:=st
    simp only [List.mem_cons,List.not_mem_nil,or_false] at hb
    rcases hb with rfl | rfl
    · exact⟨_,he,fun v z=>by cases z⟩
    · obtain⟨o,e,c,d⟩:=u
      exact⟨o,e,fun v z=>by rw [d] at z;cases z⟩
  keep:=fun i h h' st k=>by
    obtain⟨⟨old,he⟩,u⟩:=st
    exact⟨⟨old,k _ (by simp) _ he⟩,u.at fun o e=>k _ (by simp) o e⟩
  item:=by
    intro X hP hw hK hc i pins s σ H E I hf st hg
    subst hP hw hK
    obtain⟨xs,x,q1,hx⟩:=hg
    obtain⟨⟨old,he⟩,u⟩:=id st
    obtain⟨its,rv,p,hz⟩:=I.list q1
    obtain⟨ux,hux,rux⟩:=rv.get hx
    have fe:=hf e (by simp);have ft:=hf it (by simp)
    have n1:l≠e:=az I fe q1
    have n2:l≠it:=az I ft q1
    have hi:i < its.toArray.size:=by have:=(List.getElem?_eq_some_iff.mp hux).1;simpa using this
    refine wpAny_pyNext_enum_itemD (ug (A:=X.A.in1) (fH it l) (show X.A.in1.handled=none from I.ok.hd hc) n2 its.toArray) he ⟨u,p.isList⟩ hi ne (by simpa using ⟨ne,fun z=>n1 z.symm⟩) fun x' g tk hP ho hs hT hsz hk=>?_
    have ex:x'=ux:=by
      have:its[i]?=some x':=by simpa using hP
      rw [hux] at this;exact(Option.some.inj this).symm
    subst ex
    refine⟨_,rfl,wpAny_letOwnedTupleGo_enum ho fun g' he' ge=>?_⟩
    have lt:∀b∈[e,it],b < s.heap.objs.size:=fun b hb=>by
      simp only [List.mem_cons,List.not_mem_nil,or_false] at hb
      rcases hb with rfl | rfl
      · exact Heap.lt_size he
      · obtain⟨o,e,_⟩:=u;exact Heap.lt_size e
    have hTn:H s.heap.objs.size=none:=I.hok.fresh (Nat.le_refl _)
    have vv:aW [.int i,x] [.int i tk,x']:=.cons ⟨tk,rfl⟩ (.cons rux .nil)
    have I1:aI X pins σ (bc H s.heap.objs.size (.tup [.int i,x])) {s with heap:=s.heap.push {cls:=.type "tuple",data:=.seq #[.int i tk,x']},toks:=s.toks}:=
      I.laid (t':=s.toks) (fun b u e=>Heap.get?_push_of_some _ e) (Nat.le_refl _) ⟨(by show 2≤sizeLine;decide),[.int i tk,x'],vv,lM.new _ _⟩
    have hf1:∀b∈[e,it],gM X pins (bc H s.heap.objs.size (.tup [.int i,x])) b:=fun b hb=>by
      obtain⟨f0,fr⟩:=hf b hb
      exact⟨by rw [aF (Nat.ne_of_lt (lt b hb))];exact f0,fr⟩
    have I2:aI X pins σ (bc H s.heap.objs.size (.tup [.int i,x])) {s with heap:=g',toks:=tk+1}:=by
      refine I1.turnedL (t':=tk+1) hf1 fun b o nb eb=>?_
      have nb':b≠e∧b≠it:=by simpa using nb
      refine ge.extBut _ _ nb'.1 ?_
      rcases Heap.get?_push_cases eb with ⟨rfl,rfl⟩ | eb
      · exact hT
      · exact hk b o nb'.1 nb'.2 eb
    refine⟨.ref s.heap.objs.size,_,I2,rfl,⟨_,x,rfl,hTn,rfl,fun xs' w1=>by rw [I.list_inj w1 q1];exact hx⟩,⟨⟨_,by simpa using he'⟩,hs.1.at fun o e=>ge.extBut _ _ (fun z=>ne z.symm) e⟩,fun b hb=>(hf1 b hb).1⟩
  done:=by
    intro X hP hw hK hc i pins s σ H E I hf st hg
    subst hP hw hK
    obtain⟨xs,q1,hn⟩:=hg
    obtain⟨⟨old,he⟩,u⟩:=id st
    obtain⟨its,rv,p,hz⟩:=I.list q1
    have e1:=rv.length
    refine qM (xs:=its.toArray) (fH it l) (I.ok.hd hc) he u p.isList (by simp;lia) fun g gk=>⟨rfl,I.turnedL (t':=s.toks) hf fun b o nb eb=>?_⟩
    have nb':b≠e∧b≠it:=by simpa using nb
    exact gk b o nb'.2 eb
  self:=fun A i s Q E st h=>by
    obtain⟨⟨old,he⟩,u⟩:=st
    exact k8 he h
end L2
namespace L2
open PySem PySem.Spec PyProof.Rows
theorem wH:∀(us:List Value) (f:Nat→Int),(∀(j:Nat) (v:Value),us[j]?=some v→∃t,v=Value.int (f j) t)→aW ((List.range us.length).map fun j=>V.int (f j)) us
  | [],_,_=>.nil
  | u::us,f,h=>by
    rw [List.length_cons,List.range_succ_eq_map,List.map_cons,List.map_map]
    refine .cons (h 0 u rfl) (wH us (fun j=>f (j+1)) fun j v e=>h (j+1) v (by simpa using e))
section
variable{X:Cx}{a:Expr}{ta:TA}{p p2 pos pos2:Pos}
end
end L2
namespace L2
open PySem PySem.Spec PyProof.Rows
theorem xu:fillsNumberSlot (.type "tuple") "mul"=pure false:=
  PySem.fillsNumberSlot_seq (id:="tuple.__mul__") (r:=some (.builtin "tuple.__rmul__")) F.slot_tuple_mul.lookup (by decide+kernel) F.slot_tuple_rmul.lookup (by decide+kernel)
theorem EJ:seqRepeat? (.type "tuple")=pure (some (.builtin "tuple.__mul__")):=by
  unfold seqRepeat?;rw [PySem.seqSlot_of (T:="tuple") (name:="__mul__") (id:="tuple.__mul__") F.slot_tuple_mul.lookup (by decide+kernel),PySem.seqSlot_of (T:="tuple") (name:="__rmul__") (id:="tuple.__rmul__") F.slot_tuple_rmul.lookup (by decide+kernel)];rfl
theorem B6(a:Int)(t:Tok)(l:Addr)(items:Array Value)(n:Nat)(dd:Option Addr)(sl:Array (Option Value)):
    Meets (Builtin.«int.__rmul__» ⟨[.int a t,.ref l],[]⟩) (fun _ R s=>s.heap.get? l=some {cls:=.type "tuple",dict:=dd,data:=.seq items n,slots:=sl}∧R (.ok (.ret Value.notImplemented)) s):=
  .of_wp fun prog w A R s h=>by obtain⟨hp,g,d,tk,os⟩:=s;obtain⟨hl,h⟩:=h;wp_walk;exact⟨_,rfl,h⟩
theorem DU(l:Addr)(x:Value)(n:Nat)(k:Int)(u:Tok)(dd:Option Addr)(sl:Array (Option Value))(h0:2≤k)(h1:k≤100000):
    Meets (Builtin.«tuple.__mul__» ⟨[.ref l,.int k u],[]⟩) (fun _ R s=>s.heap.get? l=some {cls:=.type "tuple",dict:=dd,data:=.seq #[x] n,slots:=sl}∧
      R (.ok (.ret (.ref s.heap.objs.size))) {s with heap:=s.heap.push {cls:=.type "tuple",data:=.seq (List.replicate k.toNat x).toArray}}):=
  .of_wp fun prog w A R s h=>by
    obtain⟨hp,g,d,tk,os⟩:=s;obtain⟨hl,h⟩:=h
    have f1:=AutoSeq1.idx_int
    have c1:¬(decide (k < -(2 ^ 63)) || decide (k≥2 ^ 63))=true:=by simp;lia
    have c2:¬((#[x]:Array Value).isEmpty || k==1)=true:=by simp;lia
    have c3:¬(decide (k≤0) || (#[x]:Array Value).isEmpty)=true:=by simp;lia
    have c4:¬(((#[x]:Array Value).size:Int)*k > (2 ^ 63 - 1) / 8):=by simp;lia
    have c5:¬Builtin.Tuple.tupleTooMany (((#[x]:Array Value).size:Int)*k)=true:=by
      unfold Builtin.Tuple.tupleTooMany;rw [sizeLine_eq];simp;lia
    wp_walk using wpAny_loadPart' hl
    rw [if_neg c1]
    wp_walk using wpAny_loadPart' hl
    rw [if_neg c2]
    wp_walk using wpAny_loadPart' hl
    rw [if_neg c3]
    wp_walk using wpAny_loadPart' hl
    rw [if_neg c4]
    show wpAny _ _ (if Builtin.Tuple.tupleTooMany (((#[x]:Array Value).size:Int)*k)=true then _ else _) _ _ _
    rw [if_neg c5]
    have f0:∀(m:Nat) (acc:Array Value),List.foldl (fun x1 x2=>x1++x2) acc (List.replicate m #[x])=acc++(List.replicate m x).toArray:=by
      intro m
      induction m with
      | zero=>intro acc;simp
      | succ m ih=>intro acc;rw [List.replicate_succ,List.foldl_cons,ih,List.replicate_succ];apply Array.toList_inj.mp;simp
    have e:List.foldl (fun x1 x2=>x1++x2) #[] (List.replicate k.toNat #[x])=(List.replicate k.toNat x).toArray:=by rw [f0];simp
    show wpAny _ _ (Builtin.Tuple.tupleExact (List.foldl (fun x1 x2=>x1++x2) #[] (List.replicate k.toNat #[x])) >>= fun v=>ret v) _ _ _
    rw [e]
    unfold Builtin.Tuple.tupleExact
    refine wpAny_bind (wpAny_newObj_type ?_ (by show(List.replicate k.toNat x).toArray.size≤sizeLine;rw [List.size_toArray,List.length_replicate,sizeLine_eq];lia))
    exact wpAny_pure ⟨_,rfl,h⟩
theorem Bi(l:Addr)(x:Value)(n:Nat)(u:Tok)(dd:Option Addr)(sl:Array (Option Value)):
    Meets (Builtin.«tuple.__mul__» ⟨[.ref l,.int 0 u],[]⟩) (fun _ R s=>s.heap.get? l=some {cls:=.type "tuple",dict:=dd,data:=.seq #[x] n,slots:=sl}∧R (.ok (.ret (.ref s.heap.objs.size))) {s with heap:=s.heap.push {cls:=.type "tuple",data:=.seq #[]}}):=
  .of_wp fun prog w A R s h=>by
    obtain⟨hp,g,d,tk,os⟩:=s;obtain⟨hl,h⟩:=h;have f1:=AutoSeq1.idx_int
    have c2:¬((#[x]:Array Value).isEmpty || (0:Int)==1)=true:=by simp
    wp_walk using wpAny_loadPart' hl
    first | rw [if_neg c2] | skip
    wp_walk using wpAny_loadPart' hl
    exact⟨_,rfl,h⟩
theorem Bj(l:Addr)(x:Value)(n:Nat)(u:Tok)(dd:Option Addr)(sl:Array (Option Value)):
    Meets (Builtin.«tuple.__mul__» ⟨[.ref l,.int 1 u],[]⟩) (fun _ R s=>s.heap.get? l=some {cls:=.type "tuple",dict:=dd,data:=.seq #[x] n,slots:=sl}∧R (.ok (.ret (.ref l))) s):=
  .of_wp fun prog w A R s h=>by
    obtain⟨hp,g,d,tk,os⟩:=s;obtain⟨hl,h⟩:=h;have f1:=AutoSeq1.idx_int
    wp_walk using wpAny_loadPart' hl
    exact⟨_,rfl,h⟩
section
variable{X:Cx}
def zJ(K:PySem.W.Frag):R2:=fun x y H Q=>∃a k v,x=.ref a∧y=.int k∧cg K H a [v]∧0≤k∧k≤100000∧∀p H',aD H H'→cg K H' p (List.replicate k.toNat v)→Q (.ref p) H'
theorem BA:ib X (binaryOp .Mult) (zJ X.K):=by
  intro pins s σ H x y v u Q I rx ry h
  obtain⟨a,k,z,rfl,rfl,ha,k0,k1,q⟩:=h
  cases rx
  obtain⟨t,rfl⟩:=ry
  obtain⟨its,r,p,hz⟩:=I.tuple ha
  obtain⟨uz,rfl,rz⟩:=nh r
  obtain⟨⟨cls,dd,data,sl⟩,ho,hc,n,hd⟩:=id p
  simp only at hc hd
  subst hc hd
  refine wpAny_binaryOp_repeat_ref (T:="tuple") (U:="int") (by decide) ⟨_,ho,rfl⟩ (fun s'=>PySem.typeIs_int s' k t) xu F.fills_int_mul F.slot_int_rmul EJ F.slot_int_index.lookup (call_meets F.slot_int_rmul (PySem.typeIs_int s k t) F.entry_int_rmul (F.args_int_rmul_2 _ _) (B6 k t a #[uz] n dd sl) ⟨ho,rfl,⟨_,ho,rfl⟩,?_⟩)
  have new:∀m:Nat,m=k.toNat→EP X pins σ Q (.ref s.heap.objs.size) {s with heap:=s.heap.push {cls:=.type "tuple",data:=.seq (List.replicate m uz).toArray},toks:=s.toks}:=fun m hm=>by
    have hf:H s.heap.objs.size=none:=I.hok.fresh (Nat.le_refl _)
    have vv:∀j:Nat,aW (List.replicate j z) (List.replicate j uz):=fun j=>by
      induction j with
      | zero=>exact .nil
      | succ j ih=>exact .cons rz ih
    refine⟨.ref s.heap.objs.size,_,I.laid (t':=s.toks) (o:=.tup (List.replicate m z)) (fun b ob q=>Heap.get?_push_of_some _ q) (Nat.le_refl _) ⟨by rw [List.length_replicate,sizeLine_eq];lia,_,vv m,lM.new _ _⟩,rfl,q _ _ (aD.new hf) (cg.of (by rw [ay,hm]))⟩
  rcases(by lia:k=0∨k=1∨2≤k) with e | e | e
  · subst e
    exact call_meets F.slot_tuple_mul ⟨_,ho,rfl⟩ F.entry_tuple_mul (F.args_tuple_mul_2 _ _) (Bi a uz n t dd sl) ⟨ho,new 0 rfl⟩
  · subst e
    exact call_meets F.slot_tuple_mul ⟨_,ho,rfl⟩ F.entry_tuple_mul (F.args_tuple_mul_2 _ _) (Bj a uz n t dd sl) ⟨ho,⟨.ref a,H,I,rfl,q a H (aD.refl H) ha⟩⟩
  · exact call_meets F.slot_tuple_mul ⟨_,ho,rfl⟩ F.entry_tuple_mul (F.args_tuple_mul_2 _ _) (DU a uz n k t dd sl e k1) ⟨ho,new _ rfl⟩
end
end L2
namespace L2
open PySem PySem.Spec PyProof.Rows
section
variable{prog:Program}{w:World}{A:Around}{E:Value→Shared→Prop}{s:Shared}
end
section
variable{X:Cx}{a:Expr}{ta:TA}{p p2 p3 pos pos2 pos3:Pos}
end
end L2
namespace L2
open PySem PySem.Spec PyProof.Rows
theorem wX(l:Addr)(xs:Array Value):
    Meets (Builtin.«enumerate.__new__» ⟨[.type "enumerate",.ref l],[]⟩) (fun _ R s=>s.heap.IsTuple l xs∧R (.ok (.ret (.ref (s.heap.objs.size+1)))) {s with heap:=(s.heap.push {cls:=.type "tuple_iterator",data:=.fields #[.ref l,.int 0 0]}).push {cls:=.type "enumerate",data:=.fields #[.none,.bool false,.ref s.heap.objs.size,rawInt 0,.none,.none]}}):=
  .of_wp fun prog w A R s h=>by
    obtain⟨hp,g,d,tk,os⟩:=s;obtain⟨ht,h⟩:=h;have a1:=sub_enumerate
    have T1:Heap.IsTuple (Shared.heap ⟨hp,g,d,tk,os⟩) l xs:=ht
    obtain⟨⟨cls,dd,data,sl⟩,ho,hc,n,hd⟩:=id ht
    simp only at hc hd
    subst hc hd
    wp_walk using wpAny_loadPart' ho
    refine wpAny_stack_any fun st=>wpAny_pure ?_
    split
    · rename_i c _ _ _ _ _
      cases (c==Value.type "enumerate")
      · wp_walk using wpAny_loadPart' ho,wpAny_pyIter_tuple T1
        refine⟨_,rfl,?_⟩
        simp only [Heap.size_push]
        exact h
      · wp_walk using wpAny_loadPart' ho,wpAny_pyIter_tuple T1
        refine⟨_,rfl,?_⟩
        simp only [Heap.size_push]
        exact h
    · wp_walk using wpAny_loadPart' ho,wpAny_pyIter_tuple T1
      refine⟨_,rfl,?_⟩
      simp only [Heap.size_push]
      exact h
section
variable{prog:Program}{w:World}{A:Around}{E:Value→Shared→Prop}{s:Shared}
theorem uM{l:Addr}{xs:Array Value}{Q:Value→Shared→Prop}(t1:s.heap.IsTuple l xs)(h:∀g,vY (s.heap.objs.size+1) s.heap.objs.size l 0 g→(∀c o,s.heap.get? c=some o→g.get? c=some o)→Q (.ref (s.heap.objs.size+1)) {s with heap:=g}):wpAny (model prog w) A (call (.type "enumerate") [.ref l]) Q E s:=by
  refine callType_new F.called_enumerate (by decide) (F.typeCall_enumerate_1 _) (F.newCall_enumerate_1 _) (fun obj=>F.args_object_init_2 obj _) F.entry_enumerate_new (wX l xs) ⟨t1,?_⟩
  have g2:((s.heap.push {cls:=.type "tuple_iterator",data:=.fields #[.ref l,.int 0 0]}).push {cls:=.type "enumerate",data:=.fields #[.none,.bool false,.ref s.heap.objs.size,rawInt 0,.none,.none]}).get? (s.heap.objs.size+1)=some {cls:=.type "enumerate",data:=.fields #[.none,.bool false,.ref s.heap.objs.size,rawInt 0,.none,.none]}:=by
    have e:s.heap.objs.size+1=(s.heap.push {cls:=.type "tuple_iterator",data:=.fields #[.ref l,.int 0 0]}).objs.size:=by simp only [Heap.size_push]
    rw [e];exact Heap.get?_push_size _ rfl
  exact⟨⟨_,g2,rfl⟩,h _ ⟨⟨.none,g2⟩,⟨_,Heap.get?_push_of_some _ (Heap.get?_push_size _ rfl),rfl,rfl⟩⟩ fun c o x=>Heap.get?_push_of_some _ (Heap.get?_push_of_some _ x)⟩
end
theorem kb:PySem.bootBuiltins "enumerate"=some (.type "enumerate"):=by decide+kernel
def Hj(K:PySem.W.Frag)(ta:TA):TI:=fun σ H R=>ta σ H fun vs H1=>∃a,vs=[.ref a]∧(∃xs,cg K H1 a xs)∧R (Dj K a) H1
def Hi(K:PySem.W.Frag)(ta:TA):TI:=fun σ H R=>ta σ H fun vs H1=>∃a,vs=[.ref a]∧(∃xs,cW K H1 a xs)∧R (Di K a) H1
section
variable{X:Cx}{K:PySem.W.Frag}{es:List Expr}{k0:Nat}{tp:Pos}{a:Expr}{ta:TA}{p pos:Pos}
theorem zr(hK:X.K=K)(hg:Gl X "enumerate")(hm:X.mg "enumerate"=none)(ha:PA X [a] ta)(hs:starEach [a] X.env=[(false,eval a X.env)]:=by rfl):PI X (.Tuple es k0 tp) (.Call (.Name "enumerate" p) [a] [] pos) (Hj K ta):=by
  intro pins s σ H R I h
  subst hK
  refine Call_ (gD I hg hm kb (PyProof.Rows.callWith_type1 (bN (ha pos pins s σ H _ I h) fun us s1 ⟨vs,H1,I1,r1,q1⟩=>?_) hs rfl))
  obtain⟨a,e,⟨xs,qx⟩,q⟩:=q1
  subst e
  obtain⟨u,rfl,ru⟩:=nh r1
  cases ru
  obtain⟨i1,v1,p1,_⟩:=I1.tuple qx
  refine uM p1 fun g st hk=>?_
  obtain⟨⟨old,he⟩,hit⟩:=id st
  refine k8 he ?_
  have I2:aI X pins σ H1 {s1 with heap:=g,toks:=s1.toks}:=I1.kept (t':=s1.toks) fun b o e=>hk b o e
  refine⟨s1.heap.objs.size+1,[s1.heap.objs.size+1,s1.heap.objs.size],_,_,H1,rfl,I2,vy a (show((s1.heap.objs.size+1:Nat)≠s1.heap.objs.size) by lia),st,fun c hc=>?_,q⟩
  have le:s1.heap.objs.size≤c:=by
    simp only [List.mem_cons,List.not_mem_nil,or_false] at hc
    rcases hc with rfl | rfl
    · exact Nat.le_add_right _ 1
    · exact Nat.le_refl _
  exact I1.fpOk (H':=H1) le (I1.hok.fresh le)
theorem zq(hK:X.K=K)(hg:Gl X "enumerate")(hm:X.mg "enumerate"=none)(ha:PA X [a] ta)(hs:starEach [a] X.env=[(false,eval a X.env)]:=by rfl):PI X (.Tuple es k0 tp) (.Call (.Name "enumerate" p) [a] [] pos) (Hi K ta):=by
  intro pins s σ H R I h
  subst hK
  refine Call_ (gD I hg hm kb (PyProof.Rows.callWith_type1 (bN (ha pos pins s σ H _ I h) fun us s1 ⟨vs,H1,I1,r1,q1⟩=>?_) hs rfl))
  obtain⟨a,e,⟨xs,qx⟩,q⟩:=q1
  subst e
  obtain⟨u,rfl,ru⟩:=nh r1
  cases ru
  obtain⟨i1,v1,p1,_⟩:=I1.list qx
  refine call_enumerate_list p1.isList fun g he hit hsz hk=>?_
  refine k8 he ?_
  have I2:aI X pins σ H1 {s1 with heap:=g,toks:=s1.toks}:=I1.kept (t':=s1.toks) fun b o e=>hk b o e
  refine⟨s1.heap.objs.size+1,[s1.heap.objs.size+1,s1.heap.objs.size],_,_,H1,rfl,I2,vx a (show((s1.heap.objs.size+1:Nat)≠s1.heap.objs.size) by lia),⟨⟨_,he⟩,hit⟩,fun c hc=>?_,q⟩
  have le:s1.heap.objs.size≤c:=by
    simp only [List.mem_cons,List.not_mem_nil,or_false] at hc
    rcases hc with rfl | rfl
    · exact Nat.le_add_right _ 1
    · exact Nat.le_refl _
  exact I1.fpOk (H':=H1) le (I1.hok.fresh le)
end
end L2
namespace L2
open PySem PySem.Spec PyProof.Rows
theorem xF{X:Cx}:ib X (compareOp .IsNot) (fun x y H Q=>∃b c,x=.bl b∧y=.bl c∧Q (.bl (!(b==c))) H):=by
  intro pins s σ H x y v u Q I rx ry h
  obtain⟨b,c,rfl,rfl,q⟩:=h
  cases rx;cases ry
  refine wpAny_isNot_plain (by cases b<;>cases c<;>rfl) ⟨.bl (!(b==c)),H,I,?_,q⟩
  show Value.bool _=Value.bool _
  cases b<;>cases c<;>rfl
def CA(K:PySem.W.Frag)(l1 l2:Addr):It:=
  ⟨fun i H=>∃xs ys x y,cW K H l1 xs∧cg K H l2 ys∧xs[i]?=some x∧ys[i]?=some y,
   fun i H v H'=>∃p x y,v=.ref p∧H p=none∧H'=bc H p (.tup [x,y])∧∀xs ys,cW K H l1 xs→cg K H l2 ys→xs[i]?=some x∧ys[i]?=some y,
   fun i H=>∃xs ys,cW K H l1 xs∧cg K H l2 ys∧(xs.length≤i∨ys.length≤i)⟩
def wK(z TI TO i1 i2 l1 l2:Addr)(i:Nat)(h:Heap):Prop:=IsZip h z TI TO .none∧IsPair h TI (.ref i1) (.ref i2)∧(∃a b,IsPair h TO a b)∧h.IsListIter i1 l1 i∧h.IsTupleIter i2 l2 i
theorem vD{P:Program}{w:World}{K:PySem.W.Frag}{es:List Expr}{k0:Nat}{pos:Pos}{z TI TO i1 i2:Addr}(l1 l2:Addr)(n1:TO≠z)(n2:i1≠z)(n3:i2≠z)(n4:TO≠i1)(n5:TO≠i2)(n6:i1≠i2)(n7:TI≠z)(n8:TI≠TO)(n9:TI≠i1)(n10:TI≠i2):
    qf P w K (.Tuple es k0 pos) (CA K l1 l2) [z,TI,TO,i1,i2] z (wK z TI TO i1 i2 l1 l2) where
  mem:=by simp
  obj:=fun i h st b hb=>by
    obtain⟨hz,hI,⟨a,c,hO⟩,u1,u2⟩:=st
    simp only [List.mem_cons,List.not_mem_nil,or_false] at hb
    rcases hb with rfl | rfl | rfl | rfl | rfl
    · exact⟨_,hz,fun v z=>by cases z⟩
    · exact⟨_,hI,fun v z=>by cases z⟩
    · exact⟨_,hO,fun v z=>by cases z⟩
    · obtain⟨o,e,c,d⟩:=u1
      exact⟨o,e,fun v z=>by rw [d] at z;cases z⟩
    · obtain⟨o,e,c,d⟩:=u2
      exact⟨o,e,fun v z=>by rw [d] at z;cases z⟩
  keep:=fun i h h' st k=>by
    obtain⟨hz,hI,⟨a,c,hO⟩,u1,u2⟩:=st
    exact⟨k _ (by simp) _ hz,k _ (by simp) _ hI,⟨a,c,k _ (by simp) _ hO⟩,u1.at fun o e=>k _ (by simp) o e,u2.at fun o e=>k _ (by simp) o e⟩
  item:=by
    intro X hP hw hK hc i pins s σ H E I hf st hg
    subst hP hw hK
    obtain⟨xs,ys,x,y,q1,q2,hx,hy⟩:=hg
    obtain⟨hz,hI,⟨a,b,hO⟩,u1,u2⟩:=id st
    obtain⟨its1,rv1,p1,z1⟩:=I.list q1
    obtain⟨its2,rv2,p2,z2⟩:=I.tuple q2
    obtain⟨ux,hux,rux⟩:=rv1.get hx
    obtain⟨uy,huy,ruy⟩:=rv2.get hy
    have fz:=hf z (by simp);have fO:=hf TO (by simp);have f1:=hf i1 (by simp);have f2:=hf i2 (by simp)
    have D:jN z TI TO i1 i2 l1 l2:=⟨n1,n2,n3,n4,n5,n6,az I fz q1,az I fO q1,az I f1 q1,az I f2 q1,aJ I fz q2,aJ I fO q2,aJ I f1 q2,aJ I f2 q2⟩
    refine mV (xs:=its1.toArray) (ys:=its2.toArray) (fH i1 l1) (iV i2 l2) D hz hI hO u1 u2 p1.isList p2 (by simpa using hux) (by simpa using huy) fun g gz gO g1 g2 gT gs gk=>?_
    refine⟨_,rfl,wpAny_letOwnedTupleGo_zip gz fun g' gz' ge=>?_⟩
    have lt:∀b∈[z,TI,TO,i1,i2],b < s.heap.objs.size:=fun b hb=>by
      simp only [List.mem_cons,List.not_mem_nil,or_false] at hb
      rcases hb with rfl | rfl | rfl | rfl | rfl
      · exact Heap.lt_size hz
      · exact Heap.lt_size hI
      · exact Heap.lt_size hO
      · obtain⟨o,e,_⟩:=u1;exact Heap.lt_size e
      · obtain⟨o,e,_⟩:=u2;exact Heap.lt_size e
    have hT:H s.heap.objs.size=none:=I.hok.fresh (Nat.le_refl _)
    have vv:aW [x,y] [ux,uy]:=.cons rux (.cons ruy .nil)
    have I1:aI X pins σ (bc H s.heap.objs.size (.tup [x,y])) {s with heap:=s.heap.push {cls:=.type "tuple",data:=.seq #[ux,uy]},toks:=s.toks}:=
      I.laid (t':=s.toks) (fun b u e=>Heap.get?_push_of_some _ e) (Nat.le_refl _) ⟨(by show 2≤sizeLine;decide),[ux,uy],vv,lM.new _ _⟩
    have hf1:∀b∈[z,TI,TO,i1,i2],gM X pins (bc H s.heap.objs.size (.tup [x,y])) b:=fun b hb=>by
      obtain⟨f0,fr⟩:=hf b hb
      exact⟨by rw [aF (Nat.ne_of_lt (lt b hb))];exact f0,fr⟩
    have nzT:s.heap.objs.size≠z:=Nat.ne_of_gt (lt z (by simp))
    have I2:aI X pins σ (bc H s.heap.objs.size (.tup [x,y])) {s with heap:=g',toks:=s.toks}:=by
      refine I1.turnedL (t':=s.toks) hf1 fun b o nb e=>?_
      have nb':b≠z∧b≠TI∧b≠TO∧b≠i1∧b≠i2:=by simpa using nb
      refine ge.extBut _ _ nb'.1 ?_
      rcases Heap.get?_push_cases e with ⟨rfl,rfl⟩ | e
      · exact gT
      · exact gk b o nb'.1 nb'.2.2.1 nb'.2.2.2.1 nb'.2.2.2.2 e
    refine⟨.ref s.heap.objs.size,_,I2,rfl,⟨_,x,y,rfl,hT,rfl,fun xs' ys' w1 w2=>?_⟩,⟨gz',ge.extBut _ _ n7 (gk _ _ n7 n8 n9 n10 hI),⟨ux,uy,ge.extBut _ _ n1 gO⟩,g1.at fun o e=>ge.extBut _ _ n2 e,g2.at fun o e=>ge.extBut _ _ n3 e⟩,fun b hb=>(hf1 b hb).1⟩
    rw [I.list_inj w1 q1,I.tuple_inj w2 q2]
    exact⟨hx,hy⟩
  done:=by
    intro X hP hw hK hc i pins s σ H E I hf st hg
    subst hP hw hK
    obtain⟨xs,ys,q1,q2,hn⟩:=hg
    obtain⟨hz,hI,⟨a,b,hO⟩,u1,u2⟩:=id st
    obtain⟨its1,rv1,p1,z1⟩:=I.list q1
    obtain⟨its2,rv2,p2,z2⟩:=I.tuple q2
    have fz:=hf z (by simp);have fO:=hf TO (by simp);have f1:=hf i1 (by simp);have f2:=hf i2 (by simp)
    have D:jN z TI TO i1 i2 l1 l2:=⟨n1,n2,n3,n4,n5,n6,az I fz q1,az I fO q1,az I f1 q1,az I f2 q1,aJ I fz q2,aJ I fO q2,aJ I f1 q2,aJ I f2 q2⟩
    have e1:=rv1.length
    have e2:=rv2.length
    refine mW (xs:=its1.toArray) (ys:=its2.toArray) (I.ok.hd hc) (fH i1 l1) (iV i2 l2) D hz hI hO u1 u2 p1.isList p2 ?_ fun g gk=>⟨rfl,I.turnedL (t':=s.toks) hf fun b o nb e=>?_⟩
    · rcases hn with hn | hn
      · exact .inl (by simp;lia)
      · exact .inr (by simp;lia)
    · have nb':b≠z∧b≠TI∧b≠TO∧b≠i1∧b≠i2:=by simpa using nb
      exact gk b o nb'.1 nb'.2.2.1 nb'.2.2.2.1 nb'.2.2.2.2 e
  self:=fun A i s Q E st h=>wpAny_pyIter_zip st.1 h
theorem x8(l1 l2:Addr)(xs ys:Array Value):
    Meets (Builtin.«zip.__new__» ⟨[.type "zip",.ref l1,.ref l2],[]⟩) (fun _ R s=>s.heap.IsList l1 xs∧s.heap.IsTuple l2 ys∧
      R (.ok (.ret (.ref (s.heap.objs.size+4)))) {s with heap:=((((s.heap.push {cls:=.type "list_iterator",data:=.fields #[.ref l1,.int 0 0]}).push {cls:=.type "tuple_iterator",data:=.fields #[.ref l2,.int 0 0]}).push {cls:=.type "tuple",data:=.seq #[.ref s.heap.objs.size,.ref (s.heap.objs.size+1)]}).push {cls:=.type "tuple",data:=.seq #[.none,.none]}).push {cls:=.type "zip",data:=.fields #[.none,.bool false,.bool false,.ref (s.heap.objs.size+2),.ref (s.heap.objs.size+3)]}}):=
  .of_wp fun prog w A R s h=>by
    obtain⟨hp,g,d,tk,os⟩:=s;obtain⟨t1,t2,h⟩:=h;have sz:=PySem.sub_zip
    have T1:Heap.IsList (Shared.heap ⟨hp,g,d,tk,os⟩) l1 xs:=t1
    have T2:Heap.IsTuple (Shared.heap ⟨hp.push {cls:=.type "list_iterator",data:=.fields #[.ref l1,.int 0 0]},g,d,tk,os⟩) l2 ys:=Heap.IsTuple.push t2 _
    wp_walk using wpAny_pyIter_list T1,wpAny_pyIter_tuple T2
    refine⟨_,rfl,?_⟩
    simp only [Heap.size_push]
    exact h
section
variable{prog:Program}{w:World}{A:Around}{E:Value→Shared→Prop}{s:Shared}
theorem vH{l1 l2:Addr}{xs ys:Array Value}{Q:Value→Shared→Prop}(t1:s.heap.IsList l1 xs)(t2:s.heap.IsTuple l2 ys)
    (h:∀g,wK (s.heap.objs.size+4) (s.heap.objs.size+2) (s.heap.objs.size+3) s.heap.objs.size (s.heap.objs.size+1) l1 l2 0 g→(∀c o,s.heap.get? c=some o→g.get? c=some o)→Q (.ref (s.heap.objs.size+4)) {s with heap:=g}):
    wpAny (model prog w) A (call (.type "zip") [.ref l1,.ref l2]) Q E s:=by
  refine callType_new F.called_zip (by decide) (F.typeCall_zip_2 _ _) (F.newCall_zip_2 _ _) (fun obj=>F.args_object_init_3 obj _ _) F.entry_zip_new (x8 l1 l2 xs ys) ⟨t1,t2,?_⟩
  have at5:∀(g:Heap) (o:Obj) (a:Addr),o.isFreed=false→a=g.objs.size→(g.push o).get? a=some o:=fun g o a hf e=>by rw [e];exact Heap.get?_push_size _ hf
  have g5:=at5 ((((s.heap.push {cls:=.type "list_iterator",data:=.fields #[.ref l1,.int 0 0]}).push {cls:=.type "tuple_iterator",data:=.fields #[.ref l2,.int 0 0]}).push {cls:=.type "tuple",data:=.seq #[.ref s.heap.objs.size,.ref (s.heap.objs.size+1)]}).push {cls:=.type "tuple",data:=.seq #[.none,.none]}) {cls:=.type "zip",data:=.fields #[.none,.bool false,.bool false,.ref (s.heap.objs.size+2),.ref (s.heap.objs.size+3)]} (s.heap.objs.size+4) rfl (by simp only [Heap.size_push])
  have g4:=at5 (((s.heap.push {cls:=.type "list_iterator",data:=.fields #[.ref l1,.int 0 0]}).push {cls:=.type "tuple_iterator",data:=.fields #[.ref l2,.int 0 0]}).push {cls:=.type "tuple",data:=.seq #[.ref s.heap.objs.size,.ref (s.heap.objs.size+1)]}) {cls:=.type "tuple",data:=.seq #[.none,.none]} (s.heap.objs.size+3) rfl (by simp only [Heap.size_push])
  have g3:=at5 ((s.heap.push {cls:=.type "list_iterator",data:=.fields #[.ref l1,.int 0 0]}).push {cls:=.type "tuple_iterator",data:=.fields #[.ref l2,.int 0 0]}) {cls:=.type "tuple",data:=.seq #[.ref s.heap.objs.size,.ref (s.heap.objs.size+1)]} (s.heap.objs.size+2) rfl (by simp only [Heap.size_push])
  have g2:=at5 (s.heap.push {cls:=.type "list_iterator",data:=.fields #[.ref l1,.int 0 0]}) {cls:=.type "tuple_iterator",data:=.fields #[.ref l2,.int 0 0]} (s.heap.objs.size+1) rfl (by simp only [Heap.size_push])
  have g1:=at5 s.heap {cls:=.type "list_iterator",data:=.fields #[.ref l1,.int 0 0]} s.heap.objs.size rfl rfl
  have up:∀{g:Heap} {a:Addr} {u:Obj} (o:Obj),g.get? a=some u→(g.push o).get? a=some u:=fun o e=>Heap.get?_push_of_some o e
  refine⟨⟨_,g5,rfl⟩,h _ ⟨g5,up _ (up _ g3),⟨_,_,up _ g4⟩,⟨_,up _ (up _ (up _ (up _ g1))),rfl,rfl⟩,⟨_,up _ (up _ (up _ g2)),rfl,rfl⟩⟩ fun c o x=>up _ (up _ (up _ (up _ (up _ x))))⟩
end
def DB(K:PySem.W.Frag)(ta:TA):TI:=fun σ H R=>ta σ H fun vs H1=>∃a b,vs=[.ref a,.ref b]∧(∃xs,cW K H1 a xs)∧(∃ys,cg K H1 b ys)∧R (CA K a b) H1
theorem zu{X:Cx}{K:PySem.W.Frag}{es:List Expr}{k0:Nat}{tp:Pos}{a b:Expr}{ta:TA}{p pos:Pos}(hK:X.K=K)(hg:Gl X "zip")(hm:X.mg "zip"=none)(ha:PA X [a,b] ta)(hs:starEach [a,b] X.env=[(false,eval a X.env),(false,eval b X.env)]:=by rfl)(hs2:starEach [b] X.env=[(false,eval b X.env)]:=by rfl):
    PI X (.Tuple es k0 tp) (.Call (.Name "zip" p) [a,b] [] pos) (DB K ta):=by
  intro pins s σ H R I h
  subst hK
  refine Call_ (gD I hg hm lZ (PyProof.Rows.callWith_type1 (bN (ha pos pins s σ H _ I h) fun us s1 ⟨vs,H1,I1,r1,q1⟩=>?_) (by rw [hs,hs2]) (by rw [hs2];rfl)))
  obtain⟨a,b,e,⟨xs,qx⟩,⟨ys,qy⟩,q⟩:=q1
  subst e
  cases r1 with
  | cons r rr=>
    cases rr with
    | cons r' rr=>
      cases rr
      cases r
      cases r'
      obtain⟨i1,v1,p1,_⟩:=I1.list qx
      obtain⟨i2,v2,p2,_⟩:=I1.tuple qy
      refine vH p1.isList p2 fun g st hk=>wpAny_pyIter_zip st.1 ?_
      have I2:aI X pins σ H1 {s1 with heap:=g,toks:=s1.toks}:=I1.kept (t':=s1.toks) fun b o e=>hk b o e
      refine⟨s1.heap.objs.size+4,[s1.heap.objs.size+4,s1.heap.objs.size+2,s1.heap.objs.size+3,s1.heap.objs.size,s1.heap.objs.size+1],_,_,H1,rfl,I2,vD a b (show((s1.heap.objs.size+3:Nat)≠s1.heap.objs.size+4) by lia) (show((s1.heap.objs.size:Nat)≠s1.heap.objs.size+4) by lia) (show((s1.heap.objs.size+1:Nat)≠s1.heap.objs.size+4) by lia) (show((s1.heap.objs.size+3:Nat)≠s1.heap.objs.size) by lia) (show((s1.heap.objs.size+3:Nat)≠s1.heap.objs.size+1) by lia) (show((s1.heap.objs.size:Nat)≠s1.heap.objs.size+1) by lia) (show((s1.heap.objs.size+2:Nat)≠s1.heap.objs.size+4) by lia) (show((s1.heap.objs.size+2:Nat)≠s1.heap.objs.size+3) by lia) (show((s1.heap.objs.size+2:Nat)≠s1.heap.objs.size) by lia) (show((s1.heap.objs.size+2:Nat)≠s1.heap.objs.size+1) by lia),st,fun c hc=>?_,q⟩
      have le:s1.heap.objs.size≤c:=by
        simp only [List.mem_cons,List.not_mem_nil,or_false] at hc
        rcases hc with rfl | rfl | rfl | rfl | rfl
        · exact Nat.le_add_right _ 4
        · exact Nat.le_add_right _ 2
        · exact Nat.le_add_right _ 3
        · exact Nat.le_refl _
        · exact Nat.le_add_right _ 1
      have f:=I1.fpOk (H':=H1) le (I1.hok.fresh le)
      exact f
def CB(K:PySem.W.Frag)(l1 l2:Addr):It:=
  ⟨fun i H=>∃xs ys x y,cg K H l1 xs∧cW K H l2 ys∧xs[i]?=some x∧ys[i]?=some y,
   fun i H v H'=>∃p x y,v=.ref p∧H p=none∧H'=bc H p (.tup [x,y])∧∀xs ys,cg K H l1 xs→cW K H l2 ys→xs[i]?=some x∧ys[i]?=some y,
   fun i H=>∃xs ys,cg K H l1 xs∧cW K H l2 ys∧(xs.length≤i∨ys.length≤i)⟩
def wL(z TI TO i1 i2 l1 l2:Addr)(i:Nat)(h:Heap):Prop:=IsZip h z TI TO .none∧IsPair h TI (.ref i1) (.ref i2)∧(∃a b,IsPair h TO a b)∧h.IsTupleIter i1 l1 i∧h.IsListIter i2 l2 i
theorem vE{P:Program}{w:World}{K:PySem.W.Frag}{es:List Expr}{k0:Nat}{pos:Pos}{z TI TO i1 i2:Addr}(l1 l2:Addr)(n1:TO≠z)(n2:i1≠z)(n3:i2≠z)(n4:TO≠i1)(n5:TO≠i2)(n6:i1≠i2)(n7:TI≠z)(n8:TI≠TO)(n9:TI≠i1)(n10:TI≠i2):
    qf P w K (.Tuple es k0 pos) (CB K l1 l2) [z,TI,TO,i1,i2] z (wL z TI TO i1 i2 l1 l2) where
  mem:=by simp
  obj:=fun i h st b hb=>by
    obtain⟨hz,hI,⟨a,c,hO⟩,u1,u2⟩:=st
    simp only [List.mem_cons,List.not_mem_nil,or_false] at hb
    rcases hb with rfl | rfl | rfl | rfl | rfl
    · exact⟨_,hz,fun v z=>by cases z⟩
    · exact⟨_,hI,fun v z=>by cases z⟩
    · exact⟨_,hO,fun v z=>by cases z⟩
    · obtain⟨o,e,c,d⟩:=u1
      exact⟨o,e,fun v z=>by rw [d] at z;cases z⟩
    · obtain⟨o,e,c,d⟩:=u2
      exact⟨o,e,fun v z=>by rw [d] at z;cases z⟩
  keep:=fun i h h' st k=>by
    obtain⟨hz,hI,⟨a,c,hO⟩,u1,u2⟩:=st
    exact⟨k _ (by simp) _ hz,k _ (by simp) _ hI,⟨a,c,k _ (by simp) _ hO⟩,u1.at fun o e=>k _ (by simp) o e,u2.at fun o e=>k _ (by simp) o e⟩
  item:=by
    intro X hP hw hK hc i pins s σ H E I hf st hg
    subst hP hw hK
    obtain⟨xs,ys,x,y,q1,q2,hx,hy⟩:=hg
    obtain⟨hz,hI,⟨a,b,hO⟩,u1,u2⟩:=id st
    obtain⟨its1,rv1,p1,z1⟩:=I.tuple q1
    obtain⟨its2,rv2,p2,z2⟩:=I.list q2
    obtain⟨ux,hux,rux⟩:=rv1.get hx
    obtain⟨uy,huy,ruy⟩:=rv2.get hy
    have fz:=hf z (by simp);have fO:=hf TO (by simp);have f1:=hf i1 (by simp);have f2:=hf i2 (by simp)
    have D:jN z TI TO i1 i2 l1 l2:=⟨n1,n2,n3,n4,n5,n6,aJ I fz q1,aJ I fO q1,aJ I f1 q1,aJ I f2 q1,az I fz q2,az I fO q2,az I f1 q2,az I f2 q2⟩
    refine mV (xs:=its1.toArray) (ys:=its2.toArray) (iV i1 l1) (fH i2 l2) D hz hI hO u1 u2 p1 p2.isList (by simpa using hux) (by simpa using huy) fun g gz gO g1 g2 gT gs gk=>?_
    refine⟨_,rfl,wpAny_letOwnedTupleGo_zip gz fun g' gz' ge=>?_⟩
    have lt:∀b∈[z,TI,TO,i1,i2],b < s.heap.objs.size:=fun b hb=>by
      simp only [List.mem_cons,List.not_mem_nil,or_false] at hb
      rcases hb with rfl | rfl | rfl | rfl | rfl
      · exact Heap.lt_size hz
      · exact Heap.lt_size hI
      · exact Heap.lt_size hO
      · obtain⟨o,e,_⟩:=u1;exact Heap.lt_size e
      · obtain⟨o,e,_⟩:=u2;exact Heap.lt_size e
    have hT:H s.heap.objs.size=none:=I.hok.fresh (Nat.le_refl _)
    have vv:aW [x,y] [ux,uy]:=.cons rux (.cons ruy .nil)
    have I1:aI X pins σ (bc H s.heap.objs.size (.tup [x,y])) {s with heap:=s.heap.push {cls:=.type "tuple",data:=.seq #[ux,uy]},toks:=s.toks}:=
      I.laid (t':=s.toks) (fun b u e=>Heap.get?_push_of_some _ e) (Nat.le_refl _) ⟨(by show 2≤sizeLine;decide),[ux,uy],vv,lM.new _ _⟩
    have hf1:∀b∈[z,TI,TO,i1,i2],gM X pins (bc H s.heap.objs.size (.tup [x,y])) b:=fun b hb=>by
      obtain⟨f0,fr⟩:=hf b hb
      exact⟨by rw [aF (Nat.ne_of_lt (lt b hb))];exact f0,fr⟩
    have nzT:s.heap.objs.size≠z:=Nat.ne_of_gt (lt z (by simp))
    have I2:aI X pins σ (bc H s.heap.objs.size (.tup [x,y])) {s with heap:=g',toks:=s.toks}:=by
      refine I1.turnedL (t':=s.toks) hf1 fun b o nb e=>?_
      have nb':b≠z∧b≠TI∧b≠TO∧b≠i1∧b≠i2:=by simpa using nb
      refine ge.extBut _ _ nb'.1 ?_
      rcases Heap.get?_push_cases e with ⟨rfl,rfl⟩ | e
      · exact gT
      · exact gk b o nb'.1 nb'.2.2.1 nb'.2.2.2.1 nb'.2.2.2.2 e
    refine⟨.ref s.heap.objs.size,_,I2,rfl,⟨_,x,y,rfl,hT,rfl,fun xs' ys' w1 w2=>?_⟩,⟨gz',ge.extBut _ _ n7 (gk _ _ n7 n8 n9 n10 hI),⟨ux,uy,ge.extBut _ _ n1 gO⟩,g1.at fun o e=>ge.extBut _ _ n2 e,g2.at fun o e=>ge.extBut _ _ n3 e⟩,fun b hb=>(hf1 b hb).1⟩
    rw [I.tuple_inj w1 q1,I.list_inj w2 q2]
    exact⟨hx,hy⟩
  done:=by
    intro X hP hw hK hc i pins s σ H E I hf st hg
    subst hP hw hK
    obtain⟨xs,ys,q1,q2,hn⟩:=hg
    obtain⟨hz,hI,⟨a,b,hO⟩,u1,u2⟩:=id st
    obtain⟨its1,rv1,p1,z1⟩:=I.tuple q1
    obtain⟨its2,rv2,p2,z2⟩:=I.list q2
    have fz:=hf z (by simp);have fO:=hf TO (by simp);have f1:=hf i1 (by simp);have f2:=hf i2 (by simp)
    have D:jN z TI TO i1 i2 l1 l2:=⟨n1,n2,n3,n4,n5,n6,aJ I fz q1,aJ I fO q1,aJ I f1 q1,aJ I f2 q1,az I fz q2,az I fO q2,az I f1 q2,az I f2 q2⟩
    have e1:=rv1.length
    have e2:=rv2.length
    refine mW (xs:=its1.toArray) (ys:=its2.toArray) (I.ok.hd hc) (iV i1 l1) (fH i2 l2) D hz hI hO u1 u2 p1 p2.isList ?_ fun g gk=>⟨rfl,I.turnedL (t':=s.toks) hf fun b o nb e=>?_⟩
    · rcases hn with hn | hn
      · exact .inl (by simp;lia)
      · exact .inr (by simp;lia)
    · have nb':b≠z∧b≠TI∧b≠TO∧b≠i1∧b≠i2:=by simpa using nb
      exact gk b o nb'.1 nb'.2.2.1 nb'.2.2.2.1 nb'.2.2.2.2 e
  self:=fun A i s Q E st h=>wpAny_pyIter_zip st.1 h
theorem x9(l1 l2:Addr)(xs ys:Array Value):
    Meets (Builtin.«zip.__new__» ⟨[.type "zip",.ref l1,.ref l2],[]⟩) (fun _ R s=>s.heap.IsTuple l1 xs∧s.heap.IsList l2 ys∧
      R (.ok (.ret (.ref (s.heap.objs.size+4)))) {s with heap:=((((s.heap.push {cls:=.type "tuple_iterator",data:=.fields #[.ref l1,.int 0 0]}).push {cls:=.type "list_iterator",data:=.fields #[.ref l2,.int 0 0]}).push {cls:=.type "tuple",data:=.seq #[.ref s.heap.objs.size,.ref (s.heap.objs.size+1)]}).push {cls:=.type "tuple",data:=.seq #[.none,.none]}).push {cls:=.type "zip",data:=.fields #[.none,.bool false,.bool false,.ref (s.heap.objs.size+2),.ref (s.heap.objs.size+3)]}}):=
  .of_wp fun prog w A R s h=>by
    obtain⟨hp,g,d,tk,os⟩:=s;obtain⟨t1,t2,h⟩:=h;have sz:=PySem.sub_zip
    have T1:Heap.IsTuple (Shared.heap ⟨hp,g,d,tk,os⟩) l1 xs:=t1
    have T2:Heap.IsList (Shared.heap ⟨hp.push {cls:=.type "tuple_iterator",data:=.fields #[.ref l1,.int 0 0]},g,d,tk,os⟩) l2 ys:=Heap.IsList.push t2 _
    wp_walk using wpAny_pyIter_tuple T1,wpAny_pyIter_list T2
    refine⟨_,rfl,?_⟩
    simp only [Heap.size_push]
    exact h
section
variable{prog:Program}{w:World}{A:Around}{E:Value→Shared→Prop}{s:Shared}
theorem vI{l1 l2:Addr}{xs ys:Array Value}{Q:Value→Shared→Prop}(t1:s.heap.IsTuple l1 xs)(t2:s.heap.IsList l2 ys)
    (h:∀g,wL (s.heap.objs.size+4) (s.heap.objs.size+2) (s.heap.objs.size+3) s.heap.objs.size (s.heap.objs.size+1) l1 l2 0 g→(∀c o,s.heap.get? c=some o→g.get? c=some o)→Q (.ref (s.heap.objs.size+4)) {s with heap:=g}):
    wpAny (model prog w) A (call (.type "zip") [.ref l1,.ref l2]) Q E s:=by
  refine callType_new F.called_zip (by decide) (F.typeCall_zip_2 _ _) (F.newCall_zip_2 _ _) (fun obj=>F.args_object_init_3 obj _ _) F.entry_zip_new (x9 l1 l2 xs ys) ⟨t1,t2,?_⟩
  have at5:∀(g:Heap) (o:Obj) (a:Addr),o.isFreed=false→a=g.objs.size→(g.push o).get? a=some o:=fun g o a hf e=>by rw [e];exact Heap.get?_push_size _ hf
  have g5:=at5 ((((s.heap.push {cls:=.type "tuple_iterator",data:=.fields #[.ref l1,.int 0 0]}).push {cls:=.type "list_iterator",data:=.fields #[.ref l2,.int 0 0]}).push {cls:=.type "tuple",data:=.seq #[.ref s.heap.objs.size,.ref (s.heap.objs.size+1)]}).push {cls:=.type "tuple",data:=.seq #[.none,.none]}) {cls:=.type "zip",data:=.fields #[.none,.bool false,.bool false,.ref (s.heap.objs.size+2),.ref (s.heap.objs.size+3)]} (s.heap.objs.size+4) rfl (by simp only [Heap.size_push])
  have g4:=at5 (((s.heap.push {cls:=.type "tuple_iterator",data:=.fields #[.ref l1,.int 0 0]}).push {cls:=.type "list_iterator",data:=.fields #[.ref l2,.int 0 0]}).push {cls:=.type "tuple",data:=.seq #[.ref s.heap.objs.size,.ref (s.heap.objs.size+1)]}) {cls:=.type "tuple",data:=.seq #[.none,.none]} (s.heap.objs.size+3) rfl (by simp only [Heap.size_push])
  have g3:=at5 ((s.heap.push {cls:=.type "tuple_iterator",data:=.fields #[.ref l1,.int 0 0]}).push {cls:=.type "list_iterator",data:=.fields #[.ref l2,.int 0 0]}) {cls:=.type "tuple",data:=.seq #[.ref s.heap.objs.size,.ref (s.heap.objs.size+1)]} (s.heap.objs.size+2) rfl (by simp only [Heap.size_push])
  have g2:=at5 (s.heap.push {cls:=.type "tuple_iterator",data:=.fields #[.ref l1,.int 0 0]}) {cls:=.type "list_iterator",data:=.fields #[.ref l2,.int 0 0]} (s.heap.objs.size+1) rfl (by simp only [Heap.size_push])
  have g1:=at5 s.heap {cls:=.type "tuple_iterator",data:=.fields #[.ref l1,.int 0 0]} s.heap.objs.size rfl rfl
  have up:∀{g:Heap} {a:Addr} {u:Obj} (o:Obj),g.get? a=some u→(g.push o).get? a=some u:=fun o e=>Heap.get?_push_of_some o e
  refine⟨⟨_,g5,rfl⟩,h _ ⟨g5,up _ (up _ g3),⟨_,_,up _ g4⟩,⟨_,up _ (up _ (up _ (up _ g1))),rfl,rfl⟩,⟨_,up _ (up _ (up _ g2)),rfl,rfl⟩⟩ fun c o x=>up _ (up _ (up _ (up _ (up _ x))))⟩
end
def DC(K:PySem.W.Frag)(ta:TA):TI:=fun σ H R=>ta σ H fun vs H1=>∃a b,vs=[.ref a,.ref b]∧(∃xs,cg K H1 a xs)∧(∃ys,cW K H1 b ys)∧R (CB K a b) H1
theorem zv{X:Cx}{K:PySem.W.Frag}{es:List Expr}{k0:Nat}{tp:Pos}{a b:Expr}{ta:TA}{p pos:Pos}(hK:X.K=K)(hg:Gl X "zip")(hm:X.mg "zip"=none)(ha:PA X [a,b] ta)(hs:starEach [a,b] X.env=[(false,eval a X.env),(false,eval b X.env)]:=by rfl)(hs2:starEach [b] X.env=[(false,eval b X.env)]:=by rfl):
    PI X (.Tuple es k0 tp) (.Call (.Name "zip" p) [a,b] [] pos) (DC K ta):=by
  intro pins s σ H R I h
  subst hK
  refine Call_ (gD I hg hm lZ (PyProof.Rows.callWith_type1 (bN (ha pos pins s σ H _ I h) fun us s1 ⟨vs,H1,I1,r1,q1⟩=>?_) (by rw [hs,hs2]) (by rw [hs2];rfl)))
  obtain⟨a,b,e,⟨xs,qx⟩,⟨ys,qy⟩,q⟩:=q1
  subst e
  cases r1 with
  | cons r rr=>
    cases rr with
    | cons r' rr=>
      cases rr
      cases r
      cases r'
      obtain⟨i1,v1,p1,_⟩:=I1.tuple qx
      obtain⟨i2,v2,p2,_⟩:=I1.list qy
      refine vI p1 p2.isList fun g st hk=>wpAny_pyIter_zip st.1 ?_
      have I2:aI X pins σ H1 {s1 with heap:=g,toks:=s1.toks}:=I1.kept (t':=s1.toks) fun b o e=>hk b o e
      refine⟨s1.heap.objs.size+4,[s1.heap.objs.size+4,s1.heap.objs.size+2,s1.heap.objs.size+3,s1.heap.objs.size,s1.heap.objs.size+1],_,_,H1,rfl,I2,vE a b (show((s1.heap.objs.size+3:Nat)≠s1.heap.objs.size+4) by lia) (show((s1.heap.objs.size:Nat)≠s1.heap.objs.size+4) by lia) (show((s1.heap.objs.size+1:Nat)≠s1.heap.objs.size+4) by lia) (show((s1.heap.objs.size+3:Nat)≠s1.heap.objs.size) by lia) (show((s1.heap.objs.size+3:Nat)≠s1.heap.objs.size+1) by lia) (show((s1.heap.objs.size:Nat)≠s1.heap.objs.size+1) by lia) (show((s1.heap.objs.size+2:Nat)≠s1.heap.objs.size+4) by lia) (show((s1.heap.objs.size+2:Nat)≠s1.heap.objs.size+3) by lia) (show((s1.heap.objs.size+2:Nat)≠s1.heap.objs.size) by lia) (show((s1.heap.objs.size+2:Nat)≠s1.heap.objs.size+1) by lia),st,fun c hc=>?_,q⟩
      have le:s1.heap.objs.size≤c:=by
        simp only [List.mem_cons,List.not_mem_nil,or_false] at hc
        rcases hc with rfl | rfl | rfl | rfl | rfl
        · exact Nat.le_add_right _ 4
        · exact Nat.le_add_right _ 2
        · exact Nat.le_add_right _ 3
        · exact Nat.le_refl _
        · exact Nat.le_add_right _ 1
      have f:=I1.fpOk (H':=H1) le (I1.hok.fresh le)
      exact f
def Cz(K:PySem.W.Frag)(l1 l2:Addr):It:=
  ⟨fun i H=>∃xs ys x y,cW K H l1 xs∧cW K H l2 ys∧xs[i]?=some x∧ys[i]?=some y,
   fun i H v H'=>∃p x y,v=.ref p∧H p=none∧H'=bc H p (.tup [x,y])∧∀xs ys,cW K H l1 xs→cW K H l2 ys→xs[i]?=some x∧ys[i]?=some y,
   fun i H=>∃xs ys,cW K H l1 xs∧cW K H l2 ys∧(xs.length≤i∨ys.length≤i)⟩
def wJ(z TI TO i1 i2 l1 l2:Addr)(i:Nat)(h:Heap):Prop:=IsZip h z TI TO .none∧IsPair h TI (.ref i1) (.ref i2)∧(∃a b,IsPair h TO a b)∧h.IsListIter i1 l1 i∧h.IsListIter i2 l2 i
theorem vB{P:Program}{w:World}{K:PySem.W.Frag}{es:List Expr}{k0:Nat}{pos:Pos}{z TI TO i1 i2:Addr}(l1 l2:Addr)(n1:TO≠z)(n2:i1≠z)(n3:i2≠z)(n4:TO≠i1)(n5:TO≠i2)(n6:i1≠i2)(n7:TI≠z)(n8:TI≠TO)(n9:TI≠i1)(n10:TI≠i2):
    qf P w K (.Tuple es k0 pos) (Cz K l1 l2) [z,TI,TO,i1,i2] z (wJ z TI TO i1 i2 l1 l2) where
  mem:=by simp
  obj:=fun i h st b hb=>by
    obtain⟨hz,hI,⟨a,c,hO⟩,u1,u2⟩:=st
    simp only [List.mem_cons,List.not_mem_nil,or_false] at hb
    rcases hb with rfl | rfl | rfl | rfl | rfl
    · exact⟨_,hz,fun v z=>by cases z⟩
    · exact⟨_,hI,fun v z=>by cases z⟩
    · exact⟨_,hO,fun v z=>by cases z⟩
    · obtain⟨o,e,c,d⟩:=u1
      exact⟨o,e,fun v z=>by rw [d] at z;cases z⟩
    · obtain⟨o,e,c,d⟩:=u2
      exact⟨o,e,fun v z=>by rw [d] at z;cases z⟩
  keep:=fun i h h' st k=>by
    obtain⟨hz,hI,⟨a,c,hO⟩,u1,u2⟩:=st
    exact⟨k _ (by simp) _ hz,k _ (by simp) _ hI,⟨a,c,k _ (by simp) _ hO⟩,u1.at fun o e=>k _ (by simp) o e,u2.at fun o e=>k _ (by simp) o e⟩
  item:=by
    intro X hP hw hK hc i pins s σ H E I hf st hg
    subst hP hw hK
    obtain⟨xs,ys,x,y,q1,q2,hx,hy⟩:=hg
    obtain⟨hz,hI,⟨a,b,hO⟩,u1,u2⟩:=id st
    obtain⟨its1,rv1,p1,z1⟩:=I.list q1
    obtain⟨its2,rv2,p2,z2⟩:=I.list q2
    obtain⟨ux,hux,rux⟩:=rv1.get hx
    obtain⟨uy,huy,ruy⟩:=rv2.get hy
    have fz:=hf z (by simp);have fO:=hf TO (by simp);have f1:=hf i1 (by simp);have f2:=hf i2 (by simp)
    have D:jN z TI TO i1 i2 l1 l2:=⟨n1,n2,n3,n4,n5,n6,az I fz q1,az I fO q1,az I f1 q1,az I f2 q1,az I fz q2,az I fO q2,az I f1 q2,az I f2 q2⟩
    refine mV (xs:=its1.toArray) (ys:=its2.toArray) (fH i1 l1) (fH i2 l2) D hz hI hO u1 u2 p1.isList p2.isList (by simpa using hux) (by simpa using huy) fun g gz gO g1 g2 gT gs gk=>?_
    refine⟨_,rfl,wpAny_letOwnedTupleGo_zip gz fun g' gz' ge=>?_⟩
    have lt:∀b∈[z,TI,TO,i1,i2],b < s.heap.objs.size:=fun b hb=>by
      simp only [List.mem_cons,List.not_mem_nil,or_false] at hb
      rcases hb with rfl | rfl | rfl | rfl | rfl
      · exact Heap.lt_size hz
      · exact Heap.lt_size hI
      · exact Heap.lt_size hO
      · obtain⟨o,e,_⟩:=u1;exact Heap.lt_size e
      · obtain⟨o,e,_⟩:=u2;exact Heap.lt_size e
    have hT:H s.heap.objs.size=none:=I.hok.fresh (Nat.le_refl _)
    have vv:aW [x,y] [ux,uy]:=.cons rux (.cons ruy .nil)
    have I1:aI X pins σ (bc H s.heap.objs.size (.tup [x,y])) {s with heap:=s.heap.push {cls:=.type "tuple",data:=.seq #[ux,uy]},toks:=s.toks}:=
      I.laid (t':=s.toks) (fun b u e=>Heap.get?_push_of_some _ e) (Nat.le_refl _) ⟨(by show 2≤sizeLine;decide),[ux,uy],vv,lM.new _ _⟩
    have hf1:∀b∈[z,TI,TO,i1,i2],gM X pins (bc H s.heap.objs.size (.tup [x,y])) b:=fun b hb=>by
      obtain⟨f0,fr⟩:=hf b hb
      exact⟨by rw [aF (Nat.ne_of_lt (lt b hb))];exact f0,fr⟩
    have nzT:s.heap.objs.size≠z:=Nat.ne_of_gt (lt z (by simp))
    have I2:aI X pins σ (bc H s.heap.objs.size (.tup [x,y])) {s with heap:=g',toks:=s.toks}:=by
      refine I1.turnedL (t':=s.toks) hf1 fun b o nb e=>?_
      have nb':b≠z∧b≠TI∧b≠TO∧b≠i1∧b≠i2:=by simpa using nb
      refine ge.extBut _ _ nb'.1 ?_
      rcases Heap.get?_push_cases e with ⟨rfl,rfl⟩ | e
      · exact gT
      · exact gk b o nb'.1 nb'.2.2.1 nb'.2.2.2.1 nb'.2.2.2.2 e
    refine⟨.ref s.heap.objs.size,_,I2,rfl,⟨_,x,y,rfl,hT,rfl,fun xs' ys' w1 w2=>?_⟩,⟨gz',ge.extBut _ _ n7 (gk _ _ n7 n8 n9 n10 hI),⟨ux,uy,ge.extBut _ _ n1 gO⟩,g1.at fun o e=>ge.extBut _ _ n2 e,g2.at fun o e=>ge.extBut _ _ n3 e⟩,fun b hb=>(hf1 b hb).1⟩
    rw [I.list_inj w1 q1,I.list_inj w2 q2]
    exact⟨hx,hy⟩
  done:=by
    intro X hP hw hK hc i pins s σ H E I hf st hg
    subst hP hw hK
    obtain⟨xs,ys,q1,q2,hn⟩:=hg
    obtain⟨hz,hI,⟨a,b,hO⟩,u1,u2⟩:=id st
    obtain⟨its1,rv1,p1,z1⟩:=I.list q1
    obtain⟨its2,rv2,p2,z2⟩:=I.list q2
    have fz:=hf z (by simp);have fO:=hf TO (by simp);have f1:=hf i1 (by simp);have f2:=hf i2 (by simp)
    have D:jN z TI TO i1 i2 l1 l2:=⟨n1,n2,n3,n4,n5,n6,az I fz q1,az I fO q1,az I f1 q1,az I f2 q1,az I fz q2,az I fO q2,az I f1 q2,az I f2 q2⟩
    have e1:=rv1.length
    have e2:=rv2.length
    refine mW (xs:=its1.toArray) (ys:=its2.toArray) (I.ok.hd hc) (fH i1 l1) (fH i2 l2) D hz hI hO u1 u2 p1.isList p2.isList ?_ fun g gk=>⟨rfl,I.turnedL (t':=s.toks) hf fun b o nb e=>?_⟩
    · rcases hn with hn | hn
      · exact .inl (by simp;lia)
      · exact .inr (by simp;lia)
    · have nb':b≠z∧b≠TI∧b≠TO∧b≠i1∧b≠i2:=by simpa using nb
      exact gk b o nb'.1 nb'.2.2.1 nb'.2.2.2.1 nb'.2.2.2.2 e
  self:=fun A i s Q E st h=>wpAny_pyIter_zip st.1 h
theorem x6(l1 l2:Addr)(xs ys:Array Value):
    Meets (Builtin.«zip.__new__» ⟨[.type "zip",.ref l1,.ref l2],[]⟩) (fun _ R s=>s.heap.IsList l1 xs∧s.heap.IsList l2 ys∧
      R (.ok (.ret (.ref (s.heap.objs.size+4)))) {s with heap:=((((s.heap.push {cls:=.type "list_iterator",data:=.fields #[.ref l1,.int 0 0]}).push {cls:=.type "list_iterator",data:=.fields #[.ref l2,.int 0 0]}).push {cls:=.type "tuple",data:=.seq #[.ref s.heap.objs.size,.ref (s.heap.objs.size+1)]}).push {cls:=.type "tuple",data:=.seq #[.none,.none]}).push {cls:=.type "zip",data:=.fields #[.none,.bool false,.bool false,.ref (s.heap.objs.size+2),.ref (s.heap.objs.size+3)]}}):=
  .of_wp fun prog w A R s h=>by
    obtain⟨hp,g,d,tk,os⟩:=s;obtain⟨t1,t2,h⟩:=h;have sz:=PySem.sub_zip
    have T1:Heap.IsList (Shared.heap ⟨hp,g,d,tk,os⟩) l1 xs:=t1
    have T2:Heap.IsList (Shared.heap ⟨hp.push {cls:=.type "list_iterator",data:=.fields #[.ref l1,.int 0 0]},g,d,tk,os⟩) l2 ys:=Heap.IsList.push t2 _
    wp_walk using wpAny_pyIter_list T1,wpAny_pyIter_list T2
    refine⟨_,rfl,?_⟩
    simp only [Heap.size_push]
    exact h
section
variable{prog:Program}{w:World}{A:Around}{E:Value→Shared→Prop}{s:Shared}
theorem vG{l1 l2:Addr}{xs ys:Array Value}{Q:Value→Shared→Prop}(t1:s.heap.IsList l1 xs)(t2:s.heap.IsList l2 ys)
    (h:∀g,wJ (s.heap.objs.size+4) (s.heap.objs.size+2) (s.heap.objs.size+3) s.heap.objs.size (s.heap.objs.size+1) l1 l2 0 g→(∀c o,s.heap.get? c=some o→g.get? c=some o)→Q (.ref (s.heap.objs.size+4)) {s with heap:=g}):
    wpAny (model prog w) A (call (.type "zip") [.ref l1,.ref l2]) Q E s:=by
  refine callType_new F.called_zip (by decide) (F.typeCall_zip_2 _ _) (F.newCall_zip_2 _ _) (fun obj=>F.args_object_init_3 obj _ _) F.entry_zip_new (x6 l1 l2 xs ys) ⟨t1,t2,?_⟩
  have at5:∀(g:Heap) (o:Obj) (a:Addr),o.isFreed=false→a=g.objs.size→(g.push o).get? a=some o:=fun g o a hf e=>by rw [e];exact Heap.get?_push_size _ hf
  have g5:=at5 ((((s.heap.push {cls:=.type "list_iterator",data:=.fields #[.ref l1,.int 0 0]}).push {cls:=.type "list_iterator",data:=.fields #[.ref l2,.int 0 0]}).push {cls:=.type "tuple",data:=.seq #[.ref s.heap.objs.size,.ref (s.heap.objs.size+1)]}).push {cls:=.type "tuple",data:=.seq #[.none,.none]}) {cls:=.type "zip",data:=.fields #[.none,.bool false,.bool false,.ref (s.heap.objs.size+2),.ref (s.heap.objs.size+3)]} (s.heap.objs.size+4) rfl (by simp only [Heap.size_push])
  have g4:=at5 (((s.heap.push {cls:=.type "list_iterator",data:=.fields #[.ref l1,.int 0 0]}).push {cls:=.type "list_iterator",data:=.fields #[.ref l2,.int 0 0]}).push {cls:=.type "tuple",data:=.seq #[.ref s.heap.objs.size,.ref (s.heap.objs.size+1)]}) {cls:=.type "tuple",data:=.seq #[.none,.none]} (s.heap.objs.size+3) rfl (by simp only [Heap.size_push])
  have g3:=at5 ((s.heap.push {cls:=.type "list_iterator",data:=.fields #[.ref l1,.int 0 0]}).push {cls:=.type "list_iterator",data:=.fields #[.ref l2,.int 0 0]}) {cls:=.type "tuple",data:=.seq #[.ref s.heap.objs.size,.ref (s.heap.objs.size+1)]} (s.heap.objs.size+2) rfl (by simp only [Heap.size_push])
  have g2:=at5 (s.heap.push {cls:=.type "list_iterator",data:=.fields #[.ref l1,.int 0 0]}) {cls:=.type "list_iterator",data:=.fields #[.ref l2,.int 0 0]} (s.heap.objs.size+1) rfl (by simp only [Heap.size_push])
  have g1:=at5 s.heap {cls:=.type "list_iterator",data:=.fields #[.ref l1,.int 0 0]} s.heap.objs.size rfl rfl
  have up:∀{g:Heap} {a:Addr} {u:Obj} (o:Obj),g.get? a=some u→(g.push o).get? a=some u:=fun o e=>Heap.get?_push_of_some o e
  refine⟨⟨_,g5,rfl⟩,h _ ⟨g5,up _ (up _ g3),⟨_,_,up _ g4⟩,⟨_,up _ (up _ (up _ (up _ g1))),rfl,rfl⟩,⟨_,up _ (up _ (up _ g2)),rfl,rfl⟩⟩ fun c o x=>up _ (up _ (up _ (up _ (up _ x))))⟩
end
def Dz(K:PySem.W.Frag)(ta:TA):TI:=fun σ H R=>ta σ H fun vs H1=>∃a b,vs=[.ref a,.ref b]∧(∃xs,cW K H1 a xs)∧(∃ys,cW K H1 b ys)∧R (Cz K a b) H1
theorem zt{X:Cx}{K:PySem.W.Frag}{es:List Expr}{k0:Nat}{tp:Pos}{a b:Expr}{ta:TA}{p pos:Pos}(hK:X.K=K)(hg:Gl X "zip")(hm:X.mg "zip"=none)(ha:PA X [a,b] ta)(hs:starEach [a,b] X.env=[(false,eval a X.env),(false,eval b X.env)]:=by rfl)(hs2:starEach [b] X.env=[(false,eval b X.env)]:=by rfl):
    PI X (.Tuple es k0 tp) (.Call (.Name "zip" p) [a,b] [] pos) (Dz K ta):=by
  intro pins s σ H R I h
  subst hK
  refine Call_ (gD I hg hm lZ (PyProof.Rows.callWith_type1 (bN (ha pos pins s σ H _ I h) fun us s1 ⟨vs,H1,I1,r1,q1⟩=>?_) (by rw [hs,hs2]) (by rw [hs2];rfl)))
  obtain⟨a,b,e,⟨xs,qx⟩,⟨ys,qy⟩,q⟩:=q1
  subst e
  cases r1 with
  | cons r rr=>
    cases rr with
    | cons r' rr=>
      cases rr
      cases r
      cases r'
      obtain⟨i1,v1,p1,_⟩:=I1.list qx
      obtain⟨i2,v2,p2,_⟩:=I1.list qy
      refine vG p1.isList p2.isList fun g st hk=>wpAny_pyIter_zip st.1 ?_
      have I2:aI X pins σ H1 {s1 with heap:=g,toks:=s1.toks}:=I1.kept (t':=s1.toks) fun b o e=>hk b o e
      refine⟨s1.heap.objs.size+4,[s1.heap.objs.size+4,s1.heap.objs.size+2,s1.heap.objs.size+3,s1.heap.objs.size,s1.heap.objs.size+1],_,_,H1,rfl,I2,vB a b (show((s1.heap.objs.size+3:Nat)≠s1.heap.objs.size+4) by lia) (show((s1.heap.objs.size:Nat)≠s1.heap.objs.size+4) by lia) (show((s1.heap.objs.size+1:Nat)≠s1.heap.objs.size+4) by lia) (show((s1.heap.objs.size+3:Nat)≠s1.heap.objs.size) by lia) (show((s1.heap.objs.size+3:Nat)≠s1.heap.objs.size+1) by lia) (show((s1.heap.objs.size:Nat)≠s1.heap.objs.size+1) by lia) (show((s1.heap.objs.size+2:Nat)≠s1.heap.objs.size+4) by lia) (show((s1.heap.objs.size+2:Nat)≠s1.heap.objs.size+3) by lia) (show((s1.heap.objs.size+2:Nat)≠s1.heap.objs.size) by lia) (show((s1.heap.objs.size+2:Nat)≠s1.heap.objs.size+1) by lia),st,fun c hc=>?_,q⟩
      have le:s1.heap.objs.size≤c:=by
        simp only [List.mem_cons,List.not_mem_nil,or_false] at hc
        rcases hc with rfl | rfl | rfl | rfl | rfl
        · exact Nat.le_add_right _ 4
        · exact Nat.le_add_right _ 2
        · exact Nat.le_add_right _ 3
        · exact Nat.le_refl _
        · exact Nat.le_add_right _ 1
      have f:=I1.fpOk (H':=H1) le (I1.hok.fresh le)
      exact f
end L2
namespace L2
open PySem PySem.Spec PyProof.Rows
theorem vg{X:Cx}{ix:Nat}{nm:Str}{posn poss:Pos}{elt iter tg:Expr}{ifs:List Expr}{scope:Scope}{pos:Pos}{wi:TI}{g:TG}{tc:TT}{te:TE}(sc0:Scope)(N0:List Str)(cp:List (Nat × Str))(tgN:List Str)
    (hc:X.calm=true)(hsc:X.env.scope=sc0)(hN0:X.N=N0)(hi:PI X tg iter wi)
    (hg:∀C s0 H0 fp,PG (aw X scope cp tgN C s0 H0 fp) tg g)
    (ht:∀C s0 H0 fp,uB (aw X scope cp tgN C s0 H0 fp) ifs tc)
    (he:∀C s0 H0 fp,PE (aw X scope cp tgN C s0 H0 fp) elt te)
    (hk:scope.kind=.function)(hcell:∀y∈scope.names,y.2≠.cell)(hnames:∀y∈scope.names,y.2=.local→scope.names.lookup y.1=some .local)
    (hfr:∀y∈scope.names,y.2=.free→scope.names.lookup y.1=some .free∧sc0.names.lookup y.1=some .cell)
    (hcp:∀p∈cp,N0[p.1]?=some p.2)(hcq:∀p∈cp,sc0.names.lookup p.2=some .cell∧scope.names.lookup p.2=some .free)
    (hNd:X.N.Nodup)(hix:X.N[ix]?=some nm)(hlc:X.env.scope.names.lookup nm=some .local)(hsw:swapsWith (.ListComp elt [⟨tg,iter,ifs,0⟩] scope pos) (some (.Name nm posn)) poss.line X.env=pure true)
    (hs:∀x,foldedSetIterable iter X.env x=pure x:=by intro _;rfl):
    PS X (.Assign [.Name nm posn] (.ListComp elt [⟨tg,iter,ifs,0⟩] scope pos) poss) (Ca (wC cp tgN.length wi g tc te) (wa ix)):=by
  intro pins s σ H D0 I h
  let Q:VK:=fun x H1=>D0.nx (σ.set ix (some x)) H1
  have h:wC cp tgN.length wi g tc te σ H Q:=h
  have hkind:∀x,X.env.kindOf x=sc0.names.lookup x:=fun x=>by unfold Env.kindOf;rw [hsc]
  have hfree:∀y∈scope.names,y.2=.free→∃c,X.env.cells.lookup y.1=some c:=fun y hy e=>I.ok.has y.1 (.inl (by rw [hkind];exact(hfr y hy e).2))
  rw [exec_Assign_Name_used _ _ _ _ hsw]
  refine wpAny_bind (wpAny_standAt (wpAny_bind ?_))
  unfold evalThenUse
  refine wpAny_bind ?_
  refine wpAny_comprehension_free (use:=some (assign (.Name nm posn) X.env)) rfl hs (lN hfree) hk hnames (wpAny_mono (hi pins s σ H _ I h.go) (fun xv s₁ h₁=>wpAny_mono h₁ (fun itv s₂ h₂=>?_) fun _ _ e=>e) fun _ _ e=>e)
  obtain⟨it,fp,tn,J,H2,rfl,I2,T,st2,f2,hq⟩:=h₂
  refine wpAny_newObj_type ?_
  have hlF:H2 s₂.heap.objs.size=none:=I2.hok.fresh (Nat.le_refl _)
  have I3:aI X pins σ (bc H2 s₂.heap.objs.size (.lst [])) {s₂ with heap:=s₂.heap.push {cls:=.type "list",data:=.seq ([]:List Value).toArray}}:=I2.lnew (t':=s₂.toks) .nil (Nat.zero_le _)
  obtain⟨W,⟨m0,w0⟩,turn⟩:=hq _ hlF
  have f3:∀b∈fp,gM X pins (bc H2 s₂.heap.objs.size (.lst [])) b:=fun b hb=>by
    obtain⟨f0,fr⟩:=f2 b hb
    obtain⟨o,ho,_⟩:=T.obj _ _ st2 b hb
    exact⟨by rw [aF (Nat.ne_of_lt (Heap.lt_size ho))];exact f0,fr⟩
  have st3:tn 0 (s₂.heap.push {cls:=.type "list",data:=.seq ([]:List Value).toArray}):=T.keep _ _ _ st2 fun b _ o e=>Heap.get?_push_of_some _ e
  generalize hD:s₂.heap.objs.size=D at*
  generalize hs3:({s₂ with heap:=s₂.heap.push {cls:=.type "list",data:=.seq ([]:List Value).toArray}}:Shared)=s₃ at*
  have hst3:tn 0 s₃.heap:=by rw [←hs3];exact st3
  refine wpAny_newFunctionEnv hcell (by intro y hy;simp at hy) (fun h₁ hns₁ hsb₁=>?_) hk
  generalize hC:s₃.heap.objs.size=C at*
  have old:∀b o,s₃.heap.get? b=some o→h₁.get? b=some o:=fun b o e=>hsb₁.extBut b o (by rw [←hC];exact Nat.ne_of_lt (Heap.lt_size e)) (Heap.get?_push_of_some _ e)
  have nC:∀b o,s₃.heap.get? b=some o→b≠C:=fun b o e=>by rw [←hC];exact Nat.ne_of_lt (Heap.lt_size e)
  have hHC:(bc H2 D (.lst [])) C=none:=I3.hok.fresh (by rw [hC];exact Nat.le_refl _)
  have clS:∀x c,(ig X.env scope.names []).lookup x=some c→X.env.cells.lookup x=some c:=fun x c e=>jw _ _ x c hfree (fun _ _ z=>by simp at z) e
  have clH:∀x,(∃y∈scope.names,y.1=x∧y.2=.free)→∃c,(ig X.env scope.names []).lookup x=some c:=fun x e=>l8 _ _ x (.inl e)
  have ok':(aw X scope cp tgN C s₃ (bc H2 D (.lst [])) fp).Ok:=by
    refine⟨I.ok.mod,hk,I.ok.glob,I.ok.blt,by rw [←hC];exact Nat.le_refl _,fun x y c e1 e2=>I.ok.inj x y c (clS _ _ e1) (clS _ _ e2),fun x e=>clH x (cI hcell e),fun x c e1 e2=>?_,I.ok.hd,I.ok.frames,.inl rfl,fun b hb=>?_,fun b o e=>I3.bs b o e,?_,fun b o e hb=>?_,fun b hb z=>?_,I3.stack,fun b hb=>I3.stkFree b hb⟩
    · exfalso
      have e1':scope.names.lookup x=some .local:=by simpa [aw] using e1
      have e2':=clS x c e2
      obtain⟨c',hc'⟩:∃y∈scope.names,y.1=x∧y.2=.free:=by
        by_cases q:∃y∈scope.names,y.1=x∧y.2=.free
        · exact q
        · exfalso
          have:∀(names:List (Str × NameKind)) (cs:List (Str × Addr)),(¬∃y∈names,y.1=x∧y.2=.free)→cs.lookup x=none→(ig X.env names cs).lookup x=none:=by
            intro names
            induction names with
            | nil=>intro cs _ h;exact h
            | cons y r ih=>
              intro cs hn hcs
              obtain⟨n,k⟩:=y
              refine ih _ (fun⟨y,hy,z⟩=>hn ⟨y,List.mem_cons_of_mem _ hy,z⟩) ?_
              by_cases hk:(k==NameKind.free)=true
              · rw [if_pos hk,List.lookup_cons]
                cases hx:x==n with
                | true=>exact absurd ⟨(n,k),List.mem_cons_self,(by simpa using hx:x=n).symm,by simpa using hk⟩ hn
                | false=>exact hcs
              · rw [if_neg hk];exact hcs
          have z:=this scope.names [] q rfl
          have e2'':(ig X.env scope.names []).lookup x=some c:=e2
          rw [z] at e2'';cases e2''
      have z:=(hfr c' hc'.1 hc'.2.2).1
      rw [hc'.2.1,e1'] at z;cases z
    · obtain⟨f0,f1,f4,f5,f6,f7⟩:=f3 b hb
      obtain⟨o,ho,_⟩:=T.obj _ _ hst3 b hb
      exact⟨nC b o ho,fun x c e=>f6 x c (clS x c e)⟩
    · exact Nat.le_trans I.ok.bsz I3.sz
    · obtain⟨f0,f1,f4,f5,f6,f7⟩:=f3 b hb
      rcases f5 with z | z
      · exact I.ok.noex b o e z
      · have:=(I.ok.bs b o e).1
        exact absurd (Nat.lt_of_lt_of_le (Heap.lt_size this) z) (Nat.lt_irrefl _)
    · obtain⟨f0,f1,f4,f5,f6,f7⟩:=f3 b hb
      rcases List.mem_cons.mp (I3.stkSub b z) with z | z
      · exact f1 z
      · exact f4 z
  have I4:aI (aw X scope cp tgN C s₃ (bc H2 D (.lst [])) fp) [] (eR cp tgN.length σ) (bc H2 D (.lst [])) {s₃ with heap:=h₁,toks:=s₃.toks+([]:List (Str × Value)).length}:=by
    refine⟨ok',rfl,I3.bare,Un.kept old,⟨_,hns₁,fun i x v e1 e2 e3=>?_⟩,fun x c e=>?_,hHC,fun x c e=>I3.freeC x c (clS x c e),fun p hp=>by simp [aw] at hp,I3.hok.kept old,by simp [eR,aw]⟩
    · have hlt:i < cp.length:=by
        by_cases q:i < cp.length
        · exact q
        · exfalso
          unfold eR at e2
          rw [List.getElem?_append_right (by simp;lia)] at e2
          rw [List.getElem?_replicate] at e2
          split at e2<;>cases e2
      have e1':(cp.map (·.2))[i]?=some x:=by
        have e1'':(cp.map (·.2)++tgN)[i]?=some x:=e1
        rwa [List.getElem?_append_left (by simp;exact hlt)] at e1''
      have e2':(cp.map (fun p=>(σ[p.1]?).join))[i]?=some (some v):=by
        unfold eR at e2
        rwa [List.getElem?_append_left (by simp;exact hlt)] at e2
      rw [List.getElem?_map,List.getElem?_eq_getElem hlt] at e1' e2'
      have ex:(cp[i]).2=x:=by simpa using e1'
      have ev:(σ[(cp[i]).1]?).join=some v:=by simpa using e2'
      have ev':σ[(cp[i]).1]?=some (some v):=by
        cases q:σ[(cp[i]).1]? with
        | none=>rw [q] at ev;cases ev
        | some z=>rw [q] at ev;simp only [Option.join_some] at ev;rw [ev]
      have hN:=hcp cp[i] (List.getElem_mem hlt)
      rw [←hN0] at hN
      obtain⟨hcl,hcf⟩:=hcq cp[i] (List.getElem_mem hlt)
      rw [ex] at hN hcl hcf
      obtain⟨m,hn,hl⟩:=I3.loc
      obtain⟨u,r,l⟩:=hl _ x v hN ev' (.inr (.inl (by rw [hsc];exact hcl)))
      refine⟨u,r,.inr ?_⟩
      rcases l with ⟨k1,_⟩ | ⟨k1,c,hcc,o,ho,hd⟩
      · rw [hkind,hcl] at k1;cases k1
      · have e3':(relabel scope X.env).names.lookup x=some .local∨(relabel scope X.env).names.lookup x=some .cell∨(relabel scope X.env).names.lookup x=some .free:=e3
        have nl:(relabel scope X.env).names.lookup x=some .cell∨(relabel scope X.env).names.lookup x=some .free:=by
          rcases e3' with z | z | z
          · exact absurd z (dY hcf)
          · exact .inl z
          · exact .inr z
        obtain⟨c',hc'⟩:=clH x (cI hcell nl)
        have:=clS x c' hc'
        rw [hcc] at this;cases this
        exact⟨nl,c,hc',o,old c o ho,hd⟩
    · obtain⟨v,o,ho,hd⟩:=I3.cell x c (clS x c e)
      exact⟨v,o,old c o ho,hd⟩
  have hst4:tn 0 h₁:=T.keep _ _ _ hst3 fun b _ o e=>old b o e
  have loop:codeAny (model X.prog X.w) X.A (.compLoop (.ListComp elt [⟨tg,iter,ifs,0⟩] scope pos) 0 (.ref it) (.ref D) (compEnvC scope (ig X.env scope.names []) C X.env))
      (compPost (model X.prog X.w) X.A X.xe (some (assign (.Name nm posn) X.env)) (fun _ s'=>wpAny (model X.prog X.w) X.A (pure ()) (fun _ s''=>wpAny (model X.prog X.w) X.A (pure Flow.next) (SP X pins D0) X.xe s'') X.xe s') (.ref D) C) {s₃ with heap:=h₁,toks:=s₃.toks+([]:List (Str × Value)).length}:=by
    refine l_ (fun n s'=>∃i σ' H',aI (aw X scope cp tgN C s₃ (bc H2 D (.lst [])) fp) [] σ' H' s'∧tn i s'.heap∧(∀b∈fp,H' b=none)∧W i n σ' H') ?_ (n0:=m0) ⟨0,_,_,I4,hst4,fun b hb=>(f3 b hb).1,w0⟩
    rintro n s5 ⟨i,σ5,H5,I5,st5,fr5,w5⟩
    have stat:∀{H':Hp},(∀b∈fp,H' b=none)→∀b∈fp,gM (aw X scope cp tgN C s₃ (bc H2 D (.lst [])) fp) [] H' b:=fun hn b hb=>
      ⟨hn b hb,(ok'.exf b hb).1,ok'.exfs b hb,.inl hb,(ok'.exf b hb).2,fun p hp=>by simp [aw] at hp⟩
    rcases turn i n σ5 H5 w5 with ⟨stop,qn⟩ | ⟨go,N,hN,step⟩
    · refine bN (T.done (aw X scope cp tgN C s₃ (bc H2 D (.lst [])) fp) rfl rfl rfl hc i [] s5 σ5 H5 (fun _ _=>False) I5 (stat fr5) st5 stop) fun r s6 ⟨hr,I6⟩=>?_
      subst hr
      refine⟨fun _=>?_,fun v z=>by cases z⟩
      obtain⟨m,hn,_⟩:=I6.loc
      have I7:aI X pins σ H5 s6:=by
        have key:∀h':Heap,Heap.SameBut C s6.heap h'→aI X pins σ H5 {s6 with heap:=h'}:=fun h' sb=>by
          have ub:=I6.base
          have kp:∀b u,b≠C→s6.heap.get? b=some u→h'.get? b=some u:=fun b u ne e=>sb.extBut b u ne e
          have nit:∀b u,H5 b=some u→b≠C:=fun b u e z=>by
            have:=I6.free
            rw [z] at e
            rw [show H5 C=none from this] at e;cases e
          refine I3.call' (s':={s6 with heap:=h'}) (ch:=fp) I6.os ⟨fun b o e n hb hx=>kp b o (nC b o e) (ub.keep b o e n hb hx),fun b o e n hb hx=>?_,ub.free,fun b o e hx=>?_,ub.tups,ub.frzs,ub.tbls⟩ (fun b u e=>?_) I6.bare (fun b hb=>?_)
          · obtain⟨sl,q⟩:=ub.slot b o e n hb hx
            exact⟨sl,kp b _ (nC b o e) q⟩
          · obtain⟨o',q⟩:=ub.there b o e hx
            exact⟨o',kp b _ (nC b o e) q⟩
          · refine(I6.hok b u e).stay (fun c v hc q=>kp c v ?_ q) (fun _ q=>q) fun _ _ q=>q
            rcases hc with z | z
            · rw [z];exact nit b u e
            · exact nit c _ z
          · obtain⟨f0,f1,f4,f5,f6,f7⟩:=f3 b hb
            exact⟨f5,f1,f6,f7⟩
        exact key s6.heap ⟨rfl,fun _ _=>rfl⟩
      have fC:gM X pins H5 C:=I3.fpOk (by rw [hC];exact Nat.le_refl _) I6.free
      show wpAny (model X.prog X.w) X.A (assign (.Name nm posn) X.env (.ref D)) _ X.xe s6
      refine wpAny_assign_Name (nE (v:=.ref D) I7 hNd hix (Or.inl hlc) rfl (fun s' I' hsb=>?_) (Or.inr hlc))
      obtain⟨a,sb,ha⟩:=hsb
      have nCa:C≠a:=by
        rcases ha with z | z
        · rw [z];exact fC.2.1
        · exact fun e=>fC.2.2.2.2.1 _ _ z e.symm
      obtain⟨oN,esN,epN,hoN,rN⟩:=hn
      refine⟨m,⟨oN,esN,epN,(sb.2 C nCa).trans hoN,rN⟩,fun h' sb'=>wpAny_pure (wpAny_pure ?_)⟩
      have I8:aI X pins (σ.set ix (some (.ref D))) H5 {s' with heap:=h',toks:=s'.toks}:=I'.turnedL (t':=s'.toks) (fp:=[C]) (fun b hb=>by rw [List.mem_singleton.mp hb];exact fC) fun b o nb e=>sb'.extBut b o (by simpa using nb) e
      exact⟨_,H5,I8,qn⟩
    · refine bN (T.item (aw X scope cp tgN C s₃ (bc H2 D (.lst [])) fp) rfl rfl rfl hc i [] s5 σ5 H5 (fun _ _=>False) I5 (stat fr5) st5 go) fun r s6 ⟨u,hr,h6⟩=>?_
      subst hr
      refine⟨fun z=>(by cases z),fun v z=>?_⟩
      cases z
      refine bN h6 fun _ s7 ⟨x,H7,I7,r7,y7,st7,fr7⟩=>?_
      have I7':=I7.pinned (stat fr7) (T.obj _ _ st7)
      have again:∀{σ8:L2.St} {H8:Hp} {s8:Shared},aI (aw X scope cp tgN C s₃ (bc H2 D (.lst [])) fp) ([]++kB fp s7.heap) σ8 H8 s8→N σ8 H8→∃m,m < n∧∃i σ' H',aI (aw X scope cp tgN C s₃ (bc H2 D (.lst [])) fp) [] σ' H' s8∧tn i s8.heap∧(∀b∈fp,H' b=none)∧W i m σ' H':=fun{σ8 H8 s8} I8 n8=>by
        obtain⟨m',hm,w8⟩:=hN σ8 H8 n8
        refine⟨m',hm,i+1,σ8,H8,I8.unpinned,T.keep _ _ _ st7 fun b hb o e=>(I8.pin (b,o) (List.mem_append_right _ (List.mem_append_right _ (cf hb e)))).1,fun b hb=>?_,w8⟩
        obtain⟨o,e,d⟩:=T.obj _ _ st7 b hb
        exact(I8.pin (b,o) (List.mem_append_right _ (List.mem_append_right _ (cf hb e)))).2.1
      refine bN (hg C s₃ (bc H2 D (.lst [])) fp _ s7 σ5 H7 x u _ I7' r7 (step x H7 y7)) fun _ s8 ⟨σ8,H8,I8,q8⟩=>?_
      refine bN (ht C s₃ (bc H2 D (.lst [])) fp _ s8 σ8 H8 _ I8 q8) fun ok s9 ⟨H9,I9,q9⟩=>?_
      cases ok with
      | false=>
        rw [if_neg Bool.false_ne_true] at q9 ⊢
        exact again I9 q9
      | true=>
        rw [if_pos rfl] at q9 ⊢
        refine bN (he C s₃ (bc H2 D (.lst [])) fp _ s9 σ8 H9 _ I9 q9) fun v s10 ⟨xv,H10,I10,r10,ys,hl,hz,n10⟩=>?_
        refine bN (jc _ s10 σ8 H10 (.ref D) [xv] (.ref D) [v] (fun _ H=>N σ8 H) I10 rfl (.cons r10 .nil) ⟨D,ys,xv,rfl,rfl,hl,hz,n10⟩) fun _ s11 ⟨_,H11,I11,_,q11⟩=>?_
        exact again I11 q11
  exact codeAny_compStart_list loop (T.self X.A 0 _ _ _ hst4 loop)
end L2
namespace L2
open PySem PySem.Spec PyProof.Rows
mutual
def DA(K:PySem.W.Frag)(F:Hp):PyData→V→Prop
  | .none,v=>v=.non
  | .bool b,v=>v=.bl b
  | .int i,v=>v=.int i
  | .str x,v=>v=.str x
  | .tuple ds,v=>∃a xs,v=.ref a∧cg K F a xs∧aU K F ds xs
  | .list ds,v=>∃a xs,v=.ref a∧cW K F a xs∧aU K F ds xs
  | .dict kvs,v=>∃(a:Addr) (m:List (Int × Int)),v=.ref a∧F a=some (.dK (m.map fun p=>(Sum.inl p.1,V.int p.2)))∧kvs=m.map fun p=>(PyData.int p.1,PyData.int p.2)
def aU(K:PySem.W.Frag)(F:Hp):List PyData→List V→Prop
  | [],xs=>xs=[]
  | d::ds,xs=>∃x r,xs=x::r∧DA K F d x∧aU K F ds r
end
mutual
theorem DA.mono{K:PySem.W.Frag}{F F':Hp}(h:aD F F'):∀{d:PyData} {v:V},DA K F d v→DA K F' d v
  | .none,_,q=>by simp only [DA] at q ⊢;exact q
  | .bool b,_,q=>by simp only [DA] at q ⊢;exact q
  | .int i,_,q=>by simp only [DA] at q ⊢;exact q
  | .str x,_,q=>by simp only [DA] at q ⊢;exact q
  | .tuple ds,_,q=>by
    simp only [DA] at q ⊢
    obtain⟨a,xs,e,s,r⟩:=q
    exact⟨a,xs,e,h.tup s,aU.mono h r⟩
  | .list ds,_,q=>by
    simp only [DA] at q ⊢
    obtain⟨a,xs,e,s,r⟩:=q
    exact⟨a,xs,e,h.seq s,aU.mono h r⟩
  | .dict _,_,q=>by
    simp only [DA] at q ⊢
    obtain⟨a,m,e,s,k⟩:=q
    exact⟨a,m,e,h _ _ s,k⟩
theorem aU.mono{K:PySem.W.Frag}{F F':Hp}(h:aD F F'):∀{ds:List PyData} {xs:List V},aU K F ds xs→aU K F' ds xs
  | [],_,q=>by simp only [aU] at q ⊢;exact q
  | d::ds,_,q=>by
    simp only [aU] at q ⊢
    obtain⟨x,r,e,a,b⟩:=q
    exact⟨x,r,e,DA.mono h a,aU.mono h b⟩
end
section
variable{K:PySem.W.Frag}{F:Hp}
theorem aU.len:∀{ds:List PyData} {xs:List V},aU K F ds xs→ds.length=xs.length
  | [],_,q=>by simp only [aU] at q;subst q;rfl
  | d::ds,_,q=>by
    simp only [aU] at q
    obtain⟨x,r,e,a,b⟩:=q
    subst e
    simp [aU.len b]
theorem aU.get:∀{ds:List PyData} {xs:List V} {i:Nat} {d:PyData},aU K F ds xs→ds[i]?=some d→∃v,xs[i]?=some v∧DA K F d v
  | [],_,_,_,_,h=>by simp at h
  | d::ds,_,i,d',q,h=>by
    simp only [aU] at q
    obtain⟨x,r,e,a,b⟩:=q
    subst e
    cases i with
    | zero=>simp at h;subst h;exact⟨x,rfl,a⟩
    | succ i=>
      obtain⟨v,h1,h2⟩:=aU.get (i:=i) b (by simpa using h)
      exact⟨v,by simpa using h1,h2⟩
theorem aU.append:∀{ds es:List PyData} {xs ys:List V},aU K F ds xs→aU K F es ys→aU K F (ds++es) (xs++ys)
  | [],_,_,_,q,s=>by simp only [aU] at q;subst q;simpa using s
  | d::ds,es,_,ys,q,s=>by
    simp only [aU] at q
    obtain⟨x,r,e,a,b⟩:=q
    subst e
    simp only [List.cons_append,aU]
    exact⟨x,_,rfl,a,aU.append b s⟩
theorem aU.one{d:PyData}{v:V}(h:DA K F d v):aU K F [d] [v]:=by simp only [aU];exact⟨_,_,rfl,h,rfl⟩
theorem aU.nil:aU K F [] []:=by simp only [aU]
theorem aU.cons{d:PyData}{v:V}{ds:List PyData}{vs:List V}(h:DA K F d v)(r:aU K F ds vs):aU K F (d::ds) (v::vs):=by simp only [aU];exact⟨_,_,rfl,h,r⟩
theorem aU.drop:∀{ds:List PyData} {xs:List V} (n:Nat),aU K F ds xs→aU K F (ds.drop n) (xs.drop n)
  | _,_,0,q=>q
  | [],_,n+1,q=>by simp only [aU] at q;subst q;exact aU.nil
  | d::ds,_,n+1,q=>by
    simp only [aU] at q
    obtain⟨x,r,e,a,b⟩:=q
    subst e
    simpa using aU.drop n b
theorem aU.take:∀{ds:List PyData} {xs:List V} (n:Nat),aU K F ds xs→aU K F (ds.take n) (xs.take n)
  | _,_,0,q=>by simpa using aU.nil
  | [],_,n+1,q=>by simp only [aU] at q;subst q;exact aU.nil
  | d::ds,_,n+1,q=>by
    simp only [aU] at q
    obtain⟨x,r,e,a,b⟩:=q
    subst e
    simpa using aU.cons a (aU.take n b)
theorem aU.set{d:PyData}{v:V}(h:DA K F d v):∀{ds:List PyData} {xs:List V} (n:Nat),aU K F ds xs→aU K F (ds.set n d) (xs.set n v)
  | [],_,_,q=>by simp only [aU] at q;subst q;exact aU.nil
  | e::ds,_,n,q=>by
    simp only [aU] at q
    obtain⟨x,r,e,a,b⟩:=q
    subst e
    cases n with
    | zero=>exact aU.cons h b
    | succ n=>exact aU.cons a (aU.set h n b)
theorem aU.erase:∀{ds:List PyData} {xs:List V} (n:Nat),aU K F ds xs→aU K F (ds.eraseIdx n) (xs.eraseIdx n)
  | [],_,_,q=>by simp only [aU] at q;subst q;exact aU.nil
  | e::ds,_,n,q=>by
    simp only [aU] at q
    obtain⟨x,r,e,a,b⟩:=q
    subst e
    cases n with
    | zero=>exact b
    | succ n=>exact aU.cons a (aU.erase n b)
theorem aU.ints:∀{ns:List Int} {xs:List V},aU K F (ns.map .int) xs↔ xs=ns.map V.int
  | [],xs=>by simp [aU]
  | n::ns,xs=>by
    simp only [List.map_cons,aU,DA]
    constructor
    · rintro⟨x,r,e,rfl,q⟩;rw [e,aU.ints.mp q]
    · rintro rfl;exact⟨_,_,rfl,rfl,aU.ints.mpr rfl⟩
theorem aU.bools:∀{ns:List Bool} {xs:List V},aU K F (ns.map .bool) xs↔ xs=ns.map V.bl
  | [],xs=>by simp [aU]
  | n::ns,xs=>by
    simp only [List.map_cons,aU,DA]
    constructor
    · rintro⟨x,r,e,rfl,q⟩;rw [e,aU.bools.mp q]
    · rintro rfl;exact⟨_,_,rfl,rfl,aU.bools.mpr rfl⟩
theorem bY{i:Int}{v:V}:DA K F (.int i) v↔ v=.int i:=by simp only [DA]
theorem dW{b:Bool}{v:V}:DA K F (.bool b) v↔ v=.bl b:=by simp only [DA]
theorem iF{v:V}:DA K F .none v↔ v=.non:=by simp only [DA]
theorem yv{x:Str}{v:V}:DA K F (.str x) v↔ v=.str x:=by simp only [DA]
theorem eF{ds:List PyData}{v:V}:DA K F (.tuple ds) v↔ ∃a xs,v=.ref a∧cg K F a xs∧aU K F ds xs:=by simp only [DA]
theorem dc{ds:List PyData}{v:V}:DA K F (.list ds) v↔ ∃a xs,v=.ref a∧cW K F a xs∧aU K F ds xs:=by simp only [DA]
end
inductive Sv where
  | d (x:PyData)
  | l (xs:List PyData)
  /-- a list of lists that nobody else holds -/
  | n (xss:List (List PyData))
abbrev En:=List (Option Sv)
inductive Rv where
  | d (x:PyData)
  | l (xs:List PyData)
  | s (i:Nat)
def Fp(σ:L2.St)(e:En)(H:Hp)(i:Nat)(a:Addr):Prop:=(∃xs:List PyData,e[i]?=some (some (Sv.l xs))∧σ[i]?=some (some (.ref a)))∨
  ∃(xss:List (List PyData)) (l:Addr) (bs:List Addr),e[i]?=some (some (Sv.n xss))∧σ[i]?=some (some (.ref l))∧H l=some (.lst (bs.map V.ref))∧(a=l∨a∈bs)
def dt(σ:L2.St)(e:En)(H:Hp)(a:Addr):Prop:=∃i,Fp σ e H i a
structure bh (K:PySem.W.Frag) (F H:Hp) (σ:L2.St) (e:En):Prop where
  sm:aD F H
  len:σ.length=e.length
  dat:∀(i:Nat) (x:PyData),e[i]?=some (some (.d x))→∃v,σ[i]?=some (some v)∧DA K F x v
  own:∀(i:Nat) (xs:List PyData),e[i]?=some (some (.l xs))→∃l vs,σ[i]?=some (some (.ref l))∧F l=none∧H l=some (.lst vs)∧aU K F xs vs
  nst:∀(i:Nat) (xss:List (List PyData)),e[i]?=some (some (.n xss))→∃(l:Addr) (bs:List Addr),σ[i]?=some (some (.ref l))∧F l=none∧H l=some (.lst (bs.map V.ref))∧bs.length=xss.length∧bs.Nodup∧l∉bs∧
    ∀(k:Nat) (b:Addr) (ys:List PyData),bs[k]?=some b→xss[k]?=some ys→F b=none∧∃us,H b=some (.lst us)∧aU K F ys us
  fp:∀(i j:Nat) (a:Addr),Fp σ e H i a→Fp σ e H j a→i=j
theorem bh.inj{K:PySem.W.Frag}{F H:Hp}{σ:L2.St}{e:En}(R:bh K F H σ e)(i j:Nat)(xs ys:List PyData)(l:Addr)(h1:e[i]?=some (some (.l xs)))(h2:e[j]?=some (some (.l ys)))(h3:σ[i]?=some (some (.ref l)))(h4:σ[j]?=some (some (.ref l))):i=j:=R.fp i j l (.inl ⟨xs,h1,h3⟩) (.inl ⟨ys,h2,h4⟩)
theorem bh.fpAt{K:PySem.W.Frag}{F H:Hp}{σ:L2.St}{e:En}(R:bh K F H σ e){i:Nat}{a:Addr}(h:Fp σ e H i a):F a=none∧∃vs,H a=some (.lst vs):=by
  rcases h with ⟨xs,h1,h2⟩ | ⟨xss,l,bs,h1,h2,h3,h4⟩
  · obtain⟨l,vs,g1,g2,g3,_⟩:=R.own i xs h1
    rw [h2] at g1;cases g1
    exact⟨g2,vs,g3⟩
  · obtain⟨l',bs',g1,g2,g3,g4,g5,g6,g7⟩:=R.nst i xss h1
    rw [h2] at g1;cases g1
    rw [h3] at g3
    have e1:bs=bs':=by
      have:=HO.lst.inj (Option.some.inj g3)
      exact List.map_inj_right (fun _ _ z=>V.ref.inj z) |>.mp this
    subst e1
    rcases h4 with rfl | h4
    · exact⟨g2,_,h3⟩
    · obtain⟨k,hk⟩:=List.getElem?_of_mem h4
      have hk2:k < xss.length:=by rw [←g4];exact(List.getElem?_eq_some_iff.mp hk).1
      obtain⟨c1,us,c2,_⟩:=g7 k a xss[k] hk (List.getElem?_eq_getElem hk2)
      exact⟨c1,us,c2⟩
structure eU (σ:L2.St) (F H:Hp) (e:En) (F' H':Hp) (e':En):Prop where
  sf:aD F F'
  dom:∀a,H' a=none→H a=none
  fr:∀a vs,F a=none→H a=some (.lst vs)→¬dt σ e H a→F' a=none
  lst:∀a vs,H a=some (.lst vs)→∃vs',H' a=some (.lst vs')
  tmp:∀a o,H a=some o→¬dt σ e H a→H' a=some o
  shp:∀i:Nat,(∃xs,e'[i]?=some (some (.l xs)))↔ (∃xs,e[i]?=some (some (.l xs)))
  ow:∀a,dt σ e' H' a→dt σ e H a∨H a=none
theorem eU.refl(σ:L2.St)(F H:Hp)(e:En):eU σ F H e F H e:=⟨aD.refl _,fun _ h=>h,fun _ _ h _ _=>h,fun _ vs h=>⟨vs,h⟩,fun _ _ h _=>h,fun _=>Iff.rfl,fun _ h=>.inl h⟩
theorem eU.trans{σ:L2.St}{F H F1 H1 F2 H2:Hp}{e e1 e2:En}(x:eU σ F H e F1 H1 e1)(y:eU σ F1 H1 e1 F2 H2 e2):eU σ F H e F2 H2 e2:=
  ⟨x.sf.trans y.sf,fun a h=>x.dom a (y.dom a h),fun a vs h n no=>let ⟨vs',q⟩:=x.lst a vs n;y.fr a vs' (x.fr a vs h n no) q (fun z=>(x.ow a z).elim no fun z=>by rw [n] at z;cases z),fun a vs h=>let ⟨vs',q⟩:=x.lst a vs h;y.lst a vs' q,
    fun a o h n=>y.tmp a o (x.tmp a o h n) (fun z=>(x.ow a z).elim n fun z=>by rw [h] at z;cases z),fun i=>(y.shp i).trans (x.shp i),fun a h=>(y.ow a h).elim (x.ow a) fun z=>.inr (x.dom a z)⟩
def cU(K:PySem.W.Frag)(σ:L2.St)(H0 F H:Hp)(e:En):Rv→V→Prop
  | .d x,v=>DA K F x v
  | .l xs,v=>∃l vs,v=.ref l∧H0 l=none∧F l=none∧H l=some (.lst vs)∧aU K F xs vs∧¬dt σ e H l
  | .s i,v=>σ[i]?=some (some v)∧∃xs,e[i]?=some (some (.l xs))
section
variable{K:PySem.W.Frag}{σ:L2.St}{H0 F H F' H':Hp}{e e':En}{r:Rv}{v:V}
theorem cU.ext(h:cU K σ H0 F H e r v)(x:eU σ F H e F' H' e'):cU K σ H0 F' H' e' r v:=by
  cases r with
  | d y=>exact DA.mono x.sf h
  | l xs=>
    obtain⟨l,vs,e1,h1,h2,h3,h4,h5⟩:=h
    exact⟨l,vs,e1,h1,x.fr l _ h2 h3 h5,x.tmp l _ h3 h5,aU.mono x.sf h4,fun z=>(x.ow l z).elim h5 fun z=>by rw [h3] at z;cases z⟩
  | s i=>exact⟨h.1,(x.shp i).mpr h.2⟩
theorem cU.weak{H1:Hp}(h:cU K σ H1 F H e r v)(d:∀a,H1 a=none→H0 a=none):cU K σ H0 F H e r v:=by
  cases r with
  | d y=>exact h
  | l xs=>
    obtain⟨l,vs,e1,h1,r⟩:=h
    exact⟨l,vs,e1,d l h1,r⟩
  | s i=>exact h
theorem bh.ownH(R:bh K F H σ e)(a:Addr)(h:dt σ e H a):H a≠none:=by
  obtain⟨i,h⟩:=h
  obtain⟨_,vs,h2⟩:=R.fpAt h
  rw [h2];simp
theorem bh.freeF(R:bh K F H σ e){p:Addr}(hp:H p=none):F p=none:=R.sm.free hp
theorem AY(R:bh K F H σ e)(h:∀l bs,H l=some (.lst bs)→dt σ e H l→H' l=some (.lst bs)){i:Nat}{a:Addr}:Fp σ e H' i a↔ Fp σ e H i a:=by
  have key:∀xss l,e[i]?=some (some (.n xss))→σ[i]?=some (some (.ref l))→H' l=H l:=fun xss l h1 h2=>by
    obtain⟨l',bs,g1,g2,g3,_⟩:=R.nst i xss h1
    rw [h2] at g1;cases g1
    rw [g3]
    exact h l _ g3 ⟨i,.inr ⟨xss,l,bs,h1,h2,g3,.inl rfl⟩⟩
  constructor
  · rintro(h1 | ⟨xss,l,bs,h1,h2,h3,h4⟩)
    · exact .inl h1
    · exact .inr ⟨xss,l,bs,h1,h2,by rw [←key xss l h1 h2];exact h3,h4⟩
  · rintro(h1 | ⟨xss,l,bs,h1,h2,h3,h4⟩)
    · exact .inl h1
    · exact .inr ⟨xss,l,bs,h1,h2,by rw [key xss l h1 h2];exact h3,h4⟩
theorem bh.keep(R:bh K F H σ e)(sF:aD F F')(sm:aD F' H')(hf:∀a,dt σ e H a→F' a=none)(hh:∀a o,dt σ e H a→H a=some o→H' a=some o):bh K F' H' σ e∧∀a,dt σ e H' a↔ dt σ e H a:=by
  have fs:∀{i a},Fp σ e H' i a↔ Fp σ e H i a:=fun{i a}=>AY R fun l bs h1 h2=>hh l _ h2 h1
  refine⟨⟨sm,R.len,fun i x h=>let ⟨v,h1,h2⟩:=R.dat i x h;⟨v,h1,DA.mono sF h2⟩,fun i xs h=>?_,fun i xss h=>?_,fun i j a h1 h2=>R.fp i j a (fs.mp h1) (fs.mp h2)⟩,fun a=>⟨fun⟨i,h⟩=>⟨i,fs.mp h⟩,fun⟨i,h⟩=>⟨i,fs.mpr h⟩⟩⟩
  · obtain⟨l,vs,h1,h2,h3,h4⟩:=R.own i xs h
    have o:dt σ e H l:=⟨i,.inl ⟨xs,h,h1⟩⟩
    exact⟨l,vs,h1,hf l o,hh l _ o h3,h4.mono sF⟩
  · obtain⟨l,bs,h1,h2,h3,h4,h5,h6,h7⟩:=R.nst i xss h
    have o:dt σ e H l:=⟨i,.inr ⟨xss,l,bs,h,h1,h3,.inl rfl⟩⟩
    refine⟨l,bs,h1,hf l o,hh l _ o h3,h4,h5,h6,fun k b ys g1 g2=>?_⟩
    obtain⟨c1,us,c2,c3⟩:=h7 k b ys g1 g2
    have ob:dt σ e H b:=⟨i,.inr ⟨xss,l,bs,h,h1,h3,.inr (List.mem_of_getElem? g1)⟩⟩
    exact⟨hf b ob,us,hh b _ ob c2,c3.mono sF⟩
theorem bh.same(R:bh K F H σ e)(s:aD H H'):bh K F H' σ e∧eU σ F H e F H' e:=by
  obtain⟨R',o'⟩:=R.keep (aD.refl F) (R.sm.trans s) (fun a ⟨i,h⟩=>(R.fpAt h).1) fun a o _ h=>s a o h
  exact⟨R',⟨aD.refl _,fun a h=>s.free h,fun _ _ h _ _=>h,fun a vs h=>⟨vs,s _ _ h⟩,fun a o h _=>s a o h,fun _=>Iff.rfl,fun a h=>.inl ((o' a).mp h)⟩⟩
theorem bh.freeze(R:bh K F H σ e){p:Addr}{o:HO}(hF:F p=none)(hp:H p=some o)(hn:¬dt σ e H p):bh K (bc F p o) H σ e∧aD F (bc F p o):=by
  have sF:aD F (bc F p o):=aD.new hF
  refine⟨(R.keep sF (fun b u q=>?_) (fun a ha=>?_) fun _ _ _ h=>h).1,sF⟩
  · by_cases z:b=p
    · subst z;rw [ay] at q;cases q;exact hp
    · rw [aF z] at q;exact R.sm _ _ q
  · obtain⟨i,hi⟩:=ha
    have z:a≠p:=fun z=>hn ⟨i,by rw [←z];exact hi⟩
    rw [aF z];exact(R.fpAt hi).1
theorem bh.notOwn(R:bh K F H σ e){p:Addr}{o:HO}(hp:H p=some o)(hl:∀vs,o≠.lst vs):¬dt σ e H p:=fun⟨i,h⟩=>by
  obtain⟨_,vs,g⟩:=R.fpAt h
  rw [hp] at g;cases g
  exact hl _ rfl
theorem bh.newT(R:bh K F H σ e){p:Addr}{vs:List V}(hp:H p=none):bh K (bc F p (.tup vs)) (bc H p (.tup vs)) σ e∧eU σ F H e (bc F p (.tup vs)) (bc H p (.tup vs)) e:=by
  have hF:=R.freeF hp
  obtain⟨R1,X1⟩:=R.same (aD.new hp (o:=.tup vs))
  obtain⟨R2,s2⟩:=R1.freeze (p:=p) hF ay (R1.notOwn ay (fun _ z=>nomatch z))
  refine⟨R2,⟨s2,X1.dom,fun a ws h n _=>?_,X1.lst,X1.tmp,X1.shp,X1.ow⟩⟩
  have z:a≠p:=fun z=>by rw [z,hp] at n;cases n
  rw [aF z];exact h
theorem bh.sameOwn(R:bh K F H σ e)(s:aD H H')(a:Addr):dt σ e H' a↔ dt σ e H a:=(R.keep (aD.refl F) (R.sm.trans s) (fun a ⟨i,h⟩=>(R.fpAt h).1) fun a o _ h=>s a o h).2 a
theorem bh.newL(R:bh K F H σ e){p:Addr}{vs:List V}(hp:H p=none):bh K F (bc H p (.lst vs)) σ e∧eU σ F H e F (bc H p (.lst vs)) e∧F p=none∧¬dt σ e (bc H p (.lst vs)) p:=
  ⟨(R.same (aD.new hp)).1,(R.same (aD.new hp)).2,R.freeF hp,fun z=>R.ownH p ((R.sameOwn (aD.new hp) p).mp z) hp⟩
theorem bh.growT(R:bh K F H σ e){p:Addr}{xs:List V}(s:aD H H')(hp:cg K H' p xs):∃F',bh K F' H' σ e∧eU σ F H e F' H' e∧cg K F' p xs:=by
  obtain⟨R1,X1⟩:=R.same s
  rcases hp with hp | hp
  · have key:∀o,H' p=some o→(∀vs,o≠.lst vs)→(∀G:Hp,G p=some o→Rd G p (.tup xs))→∃F',bh K F' H' σ e∧eU σ F H e F' H' e∧cg K F' p xs:=by
      intro o ho hl hr
      cases q:F p with
      | some u=>
        have:=R1.sm _ _ q
        rw [ho] at this;cases this
        exact⟨F,R1,X1,.inl (hr F q)⟩
      | none=>
        obtain⟨R2,s2⟩:=R1.freeze q ho (R1.notOwn ho hl)
        refine⟨_,R2,⟨s2,X1.dom,fun a ws h n _=>?_,X1.lst,X1.tmp,X1.shp,X1.ow⟩,.inl (hr _ ay)⟩
        have z:a≠p:=fun z=>by rw [z] at n;rw [s _ _ n] at ho;cases ho;exact hl _ rfl
        rw [aF z];exact h
    rcases hp with hp | ⟨ob,hp⟩
    · exact key _ hp (fun _ z=>nomatch z) fun G g=>.inl g
    · exact key _ hp (fun _ z=>nomatch z) fun G g=>.inr ⟨ob,g⟩
  · exact⟨F,R1,X1,.inr hp⟩
theorem cU.frozen(R:bh K F H σ e){xs:List PyData}(h:cU K σ H0 F H e (.l xs) v):∃F',bh K F' H σ e∧aD F F'∧DA K F' (.list xs) v∧(∀a,F a=none→H0 a≠none→F' a=none):=by
  obtain⟨l,vs,rfl,h1,h2,h3,h4,h5⟩:=h
  obtain⟨R2,s2⟩:=R.freeze h2 h3 h5
  refine⟨_,R2,s2,?_,fun a ha hn=>?_⟩
  · rw [dc]
    exact⟨l,vs,rfl,.inl (.inl ay),aU.mono s2 h4⟩
  · have z:a≠l:=fun z=>hn (by rw [z];exact h1)
    rw [aF z];exact ha
def eQ(e:En):Rv→Option (Bool × List PyData)
  | .d (.tuple xs)=>some (false,xs)
  | .d (.list xs)=>some (true,xs)
  | .l xs=>some (true,xs)
  | .s i=>match e[i]? with
    | some (some (.l xs))=>some (true,xs)
    | _=>none
  | _=>none
theorem dZ(R:bh K F H σ e)(h:cU K σ H0 F H e r v){b:Bool}{xs:List PyData}(q:eQ e r=some (b,xs)):
    ∃p vs,v=.ref p∧aU K F xs vs∧(if b=true then cW K H p vs else cg K H p vs):=by
  cases r with
  | d x=>
    cases x with
    | tuple ds=>
      cases q
      obtain⟨a,ys,e1,e2,e3⟩:=eF.mp h
      exact⟨a,ys,e1,e3,R.sm.tup e2⟩
    | list ds=>
      cases q
      obtain⟨a,ys,e1,e2,e3⟩:=dc.mp h
      exact⟨a,ys,e1,e3,R.sm.seq e2⟩
    | _=>cases q
  | l ys=>
    cases q
    obtain⟨l,vs,e1,h1,h2,h3,h4,_⟩:=h
    exact⟨l,vs,e1,h4,.inl (.inl h3)⟩
  | s i=>
    obtain⟨h1,ys,h2⟩:=h
    simp only [eQ,h2] at q
    cases q
    obtain⟨l,vs,e1,e2,e3,e4⟩:=R.own i _ h2
    rw [h1] at e1;cases e1
    exact⟨l,vs,rfl,e4,.inl (.inl e3)⟩
end
end L2
namespace L2
open PySem PySem.Spec PyProof.Rows
abbrev FE:=En→Option (Rv × En)
abbrev FT:=En→Option (Bool × En)
abbrev FA:=En→Option (List Rv × En)
def dJ(K:PySem.W.Frag)(σ:L2.St)(H0 F H:Hp)(e:En):List Rv→List V→Prop
  | [],vs=>vs=[]
  | r::rs,vs=>∃v ws,vs=v::ws∧cU K σ H0 F H e r v∧dJ K σ H0 F H e rs ws
def fE(K:PySem.W.Frag)(f:FE):TE:=fun σ H Q=>∃F e r e',bh K F H σ e∧f e=some (r,e')∧∀F' H' v,eU σ F H e F' H' e'→bh K F' H' σ e'→cU K σ H F' H' e' r v→Q v H'
def fT(K:PySem.W.Frag)(f:FT):TT:=fun σ H Q=>∃F e b e',bh K F H σ e∧f e=some (b,e')∧∀F' H',eU σ F H e F' H' e'→bh K F' H' σ e'→Q b H'
def fA(K:PySem.W.Frag)(f:FA):TA:=fun σ H Q=>∃F e rs e',bh K F H σ e∧f e=some (rs,e')∧∀F' H' vs,eU σ F H e F' H' e'→bh K F' H' σ e'→dJ K σ H F' H' e' rs vs→Q vs H'
theorem PE.mono{X:Cx}{e:Expr}{t t':TE}(h:PE X e t)(m:∀σ H Q,t' σ H Q→t σ H Q):PE X e t':=fun pins s σ H Q I q=>h pins s σ H Q I (m σ H Q q)
theorem PT.mono{X:Cx}{e:Expr}{t t':TT}(h:PT X e t)(m:∀σ H Q,t' σ H Q→t σ H Q):PT X e t':=fun pins s σ H Q I q=>h pins s σ H Q I (m σ H Q q)
theorem PW.mono{X:Cx}{e:Expr}{t t':TT}(h:PW X e t)(m:∀σ H Q,t' σ H Q→t σ H Q):PW X e t':=fun wh pins s σ H Q I q=>h wh pins s σ H Q I (m σ H Q q)
theorem PA.mono{X:Cx}{es:List Expr}{t t':TA}(h:PA X es t)(m:∀σ H Q,t' σ H Q→t σ H Q):PA X es t':=fun pos pins s σ H Q I q=>h pos pins s σ H Q I (m σ H Q q)
section
variable{K:PySem.W.Frag}{σ:L2.St}{H0 F H F' H':Hp}{e e':En}
theorem dJ.weak{H1:Hp}(d:∀a,H1 a=none→H0 a=none):∀{rs:List Rv} {vs:List V},dJ K σ H1 F H e rs vs→dJ K σ H0 F H e rs vs
  | [],_,h=>h
  | r::rs,_,h=>by
    obtain⟨v,ws,rfl,h1,h2⟩:=h
    exact⟨v,ws,rfl,h1.weak d,dJ.weak d h2⟩
theorem eU.frz{F'':Hp}(x:eU σ F H e F' H' e')(s:aD F' F'')(h:∀a,F' a=none→H a≠none→F'' a=none):eU σ F H e F'' H' e':=
  ⟨x.sf.trans s,x.dom,fun a vs h1 h2 h3=>h a (x.fr a vs h1 h2 h3) (by rw [h2];simp),x.lst,x.tmp,x.shp,x.ow⟩
def ii:List Rv→Option (List PyData)
  | []=>some []
  | .d x::rs=>(ii rs).map (x::·)
  | .l xs::rs=>(ii rs).map (.list xs::·)
  | .s _::_=>none
theorem dJ.frozen:∀{rs:List Rv} {vs:List V} {ds:List PyData} {F:Hp},bh K F H σ e→dJ K σ H0 F H e rs vs→ii rs=some ds→
    ∃F',bh K F' H σ e∧aD F F'∧aU K F' ds vs∧(∀a,F a=none→H0 a≠none→F' a=none)
  | [],_,_,F,R,h,q=>by
    cases q
    have h':_=[]:=h
    subst h'
    exact⟨F,R,aD.refl _,aU.nil,fun _ h _=>h⟩
  | .d x::rs,_,ds,F,R,h,q=>by
    obtain⟨v,ws,rfl,h1,h2⟩:=h
    obtain⟨ds',q1,rfl⟩:=Option.map_eq_some_iff.mp q
    obtain⟨F',R',s',d',f'⟩:=dJ.frozen R h2 q1
    exact⟨F',R',s',.cons (DA.mono s' h1) d',f'⟩
  | .l xs::rs,_,ds,F,R,h,q=>by
    obtain⟨v,ws,rfl,h1,h2⟩:=h
    obtain⟨ds',q1,rfl⟩:=Option.map_eq_some_iff.mp q
    obtain⟨F',R',s',d',f'⟩:=dJ.frozen R h2 q1
    obtain⟨l,us,rfl,g1,g2,g3,g4,g5⟩:=h1
    cases hl:F' l with
    | none=>
      have h1':cU K σ H0 F' H e (.l xs) (.ref l):=⟨l,us,rfl,g1,hl,g3,aU.mono s' g4,g5⟩
      obtain⟨F2,R2,s2,d2,f2⟩:=h1'.frozen R'
      exact⟨F2,R2,s'.trans s2,.cons d2 (aU.mono s2 d'),fun a ha hn=>f2 a (f' a ha hn) hn⟩
    | some o=>
      have:=R'.sm _ _ hl
      rw [g3] at this;cases this
      exact⟨F',R',s',.cons (dc.mpr ⟨l,us,rfl,.inl (.inl hl),aU.mono s' g4⟩) d',f'⟩
end
section
variable{X:Cx}{K:PySem.W.Frag}{a b c:Expr}{fa fb:FE}{ft fu:FT}{pos:Pos}{es:List Expr}{fs:FA}
def ab(i:Nat):FE:=fun e=>match e[i]? with
  | some (some (.d x))=>some (.d x,e)
  | some (some (.l _))=>some (.s i,e)
  | _=>none
def vC(x:PyData):FE:=fun e=>some (.d x,e)
theorem Cp{i:Nat}{σ:L2.St}{H:Hp}{Q:VK}(h:fE K (ab i) σ H Q):GQ i σ H Q:=by
  obtain⟨F,e,r,e',R,hf,q⟩:=h
  unfold ab at hf
  match h1:e[i]?,hf with
  | some (some (.d x)),hf=>
    cases hf
    obtain⟨v,h2,h3⟩:=R.dat i x h1
    exact⟨v,h2,q F H v (eU.refl _ _ _ _) R h3⟩
  | some (some (.n _)),hf=>cases hf
  | some (some (.l xs)),hf=>
    cases hf
    obtain⟨l,vs,h2,h3⟩:=R.own i xs h1
    exact⟨_,h2,q F H _ (eU.refl _ _ _ _) R ⟨h2,xs,h1⟩⟩
  | some none,hf=>cases hf
  | none,hf=>cases hf
theorem qv(i:Nat){x:Str}{pos:Pos}(hN:X.N[i]?=some x)(hv:Az X.env.scope x)(hd:(x==("__debug__":Str))=false)(hcd:(x==("__classdict__":Str))=false):PE X (.Name x pos) (fE K (ab i)):=(nj hN hv hd hcd).mono fun _ _ _ h=>Cp h
theorem Aq{x:PyData}{v:V}{σ:L2.St}{H:Hp}{Q:VK}(hx:∀F,DA K F x v)(h:fE K (vC x) σ H Q):tC v σ H Q:=by
  obtain⟨F,e,r,e',R,hf,q⟩:=h
  cases hf
  exact q F H v (eU.refl _ _ _ _) R (hx F)
theorem ae{i j pos}:PE X (.Constant (.int i) j pos) (fE K (vC (.int i))):=zh.mono fun _ _ _ h=>Aq (fun _=>bY.mpr rfl) h
theorem ce{b j pos}:PE X (.Constant (.bool b) j pos) (fE K (vC (.bool b))):=Gh.mono fun _ _ _ h=>Aq (fun _=>dW.mpr rfl) h
theorem mC{x:Str}{v:V}{u:Value}{pos:Pos}{y:PyData}(hg:Gl X x)(hm:X.mg x=some u)(r:bE v u)(hy:∀F,DA K F y v)(hd:(x==("__debug__":Str))=false):PE X (.Name x pos) (fE K (vC y)):=(BH hg hm r hd).mono fun _ _ _ h=>Aq hy h
def ia(K:PySem.W.Frag)(r:R2)(g:En→Rv→Rv→Option Rv):Prop:=
  ∀(σ:L2.St) (H0 F H:Hp) (e:En) (x y z:Rv) (v u:V) (Q:VK),bh K F H σ e→cU K σ H0 F H e x v→cU K σ H0 F H e y u→g e x y=some z→
    (∀F' H' w,eU σ F H e F' H' e→bh K F' H' σ e→cU K σ H F' H' e z w→Q w H')→r v u H Q
def av(g:En→Rv→Rv→Option Rv)(fa fb:FE):FE:=fun e=>(fa e).bind fun p=>(fb p.2).bind fun q=>(g q.2 p.1 q.1).map fun z=>(z,q.2)
theorem sR{r:R2}{g:En→Rv→Rv→Option Rv}(ho:ia K r g){σ:L2.St}{H:Hp}{Q:VK}(h:fE K (av g fa fb) σ H Q):GM r (fE K fa) (fE K fb) σ H Q:=by
  obtain⟨F,e,z,e2,R,hf,q⟩:=h
  unfold av at hf
  obtain⟨⟨x,e1⟩,h1,hf⟩:=Option.bind_eq_some_iff.mp hf
  obtain⟨⟨y,e2'⟩,h2,hf⟩:=Option.bind_eq_some_iff.mp hf
  obtain⟨z',h3,hf⟩:=Option.map_eq_some_iff.mp hf
  cases hf
  refine⟨F,e,x,e1,R,h1,fun F1 H1 v X1 R1 A1=>⟨F1,e1,y,_,R1,h2,fun F2 H2 u X2 R2 A2=>?_⟩⟩
  have X12:=X1.trans X2
  refine ho σ H F2 H2 _ x y _ v u Q R2 (A1.ext X2) (A2.weak X1.dom) h3 fun F3 H3 w X3 R3 A3=>?_
  exact q F3 H3 w (X12.trans X3) R3 (A3.weak X12.dom)
theorem rc{op:Operator}{r:R2}{g:En→Rv→Rv→Option Rv}(hr:ib X (binaryOp op) r)(ho:ia K r g)(ha:PE X a (fE K fa))(hb:PE X b (fE K fb)):PE X (.BinOp a op b pos) (fE K (av g fa fb)):=(C4 hr ha hb).mono fun _ _ _ h=>sR ho h
theorem Ew{op:CmpOp}{r:R2}{g:En→Rv→Rv→Option Rv}(hr:ib X (compareOp op) r)(ho:ia K r g)(ha:PE X a (fE K fa))(hb:PE X b (fE K fb))(hm:behindInMarks op b=false):PE X (.Compare a [op] [b] pos) (fE K (av g fa fb)):=(BF hr ha hb hm).mono fun _ _ _ h=>sR ho h
theorem Gp{r:R2}{g:En→Rv→Rv→Option Rv}(hr:Ax X r)(ho:ia K r g)(ha:PE X a (fE K fa))(hb:PE X b (fE K fb))(hs:oJ b):PE X (.Subscript a b pos) (fE K (av g fa fb)):=(C3 hr ha hb hs).mono fun _ _ _ h=>sR ho h
def jW(g:En→Rv→Option Rv)(fa:FE):FE:=fun e=>(fa e).bind fun p=>(g p.2 p.1).map fun z=>(z,p.2)
def Fo(K:PySem.W.Frag)(r:V→Hp→VK→Prop)(g:En→Rv→Option Rv):Prop:=
  ∀(σ:L2.St) (H0 F H:Hp) (e:En) (x z:Rv) (v:V) (Q:VK),bh K F H σ e→cU K σ H0 F H e x v→g e x=some z→
    (∀F' H' w,eU σ F H e F' H' e→bh K F' H' σ e→cU K σ H F' H' e z w→Q w H')→r v H Q
theorem As{r:V→Hp→VK→Prop}{g:En→Rv→Option Rv}(ho:Fo K r g){σ:L2.St}{H:Hp}{Q:VK}(h:fE K (jW g fa) σ H Q):HV r (fE K fa) σ H Q:=by
  obtain⟨F,e,z,e2,R,hf,q⟩:=h
  unfold jW at hf
  obtain⟨⟨x,e1⟩,h1,hf⟩:=Option.bind_eq_some_iff.mp hf
  obtain⟨z',h3,hf⟩:=Option.map_eq_some_iff.mp hf
  cases hf
  refine⟨F,e,x,_,R,h1,fun F1 H1 v X1 R1 A1=>?_⟩
  refine ho σ H F1 H1 _ x _ v Q R1 A1 h3 fun F3 H3 w X3 R3 A3=>?_
  exact q F3 H3 w (X1.trans X3) R3 (A3.weak X1.dom)
theorem Gr{op:UnaryOp}{r:V→Hp→VK→Prop}{g:En→Rv→Option Rv}(hr:G1 X (unaryOp op) r)(ho:Fo K r g)(ha:PE X a (fE K fa)):PE X (.UnaryOp op a pos) (fE K (jW g fa)):=(Gj hr ha).mono fun _ _ _ h=>As ho h
def c9:Rv→Option Bool
  | .d (.bool b)=>some b
  | _=>none
theorem du{σ:L2.St}{H0 F H:Hp}{e:En}{r:Rv}{v:V}{b:Bool}(h:cU K σ H0 F H e r v)(q:c9 r=some b):v=.bl b:=by
  unfold c9 at q
  split at q
  · cases q;exact dW.mp (show DA K F (.bool _) v from h)
  · cases q
theorem dG{σ:L2.St}{H0 F H:Hp}{e:En}{b:Bool}:cU K σ H0 F H e (.d (.bool b)) (.bl b):=(dW (K:=K) (F:=F)).mpr rfl
def ax(f:FE):FT:=fun e=>(f e).bind fun p=>(c9 p.1).map fun b=>(b,p.2)
theorem uv{σ:L2.St}{H:Hp}{Q:Bool→Hp→Prop}(h:fT K (ax fa) σ H Q):fE K fa σ H fun x H'=>∃k,x=.bl k∧Q k H':=by
  obtain⟨F,e,b,e1,R,hf,q⟩:=h
  unfold ax at hf
  obtain⟨⟨x,e1'⟩,h1,hf⟩:=Option.bind_eq_some_iff.mp hf
  obtain⟨b',h3,hf⟩:=Option.map_eq_some_iff.mp hf
  cases hf
  exact⟨F,e,x,_,R,h1,fun F1 H1 v X1 R1 A1=>⟨_,du A1 h3,q F1 H1 X1 R1⟩⟩
theorem EB{op:CmpOp}{r:R2}{g:En→Rv→Rv→Option Rv}(hr:ib X (compareOp op) r)(ho:ia K r g)(ha:PE X a (fE K fa))(hb:PE X b (fE K fb))(hm:behindInMarks op b=false):PT X (.Compare a [op] [b] pos) (fT K (ax (av g fa fb))):=
  (BX hr ha hb hm).mono fun σ H Q h=>by
    obtain⟨F,e,z,e2,R,hf,q⟩:=uv h
    exact sR ho ⟨F,e,z,e2,R,hf,q⟩
theorem cQ{e:Expr}(h:PE X e (fE K fa))(he:∀whole,isTrue e X.env whole=(do let v ←whole;standAt e.pos;holding [v] (truthy v))):PT X e (fT K (ax fa)):=(Er h he).mono fun _ _ _ h=>uv h
def jK(f g:FT):FT:=fun e=>(f e).bind fun p=>if p.1=true then g p.2 else some (false,p.2)
def oX(f g:FT):FT:=fun e=>(f e).bind fun p=>if p.1=true then some (true,p.2) else g p.2
def gG(f:FT):FT:=fun e=>(f e).map fun p=>(!p.1,p.2)
theorem Cm{σ:L2.St}{H:Hp}{Q:Bool→Hp→Prop}(h:fT K (jK ft fu) σ H Q):GE (fT K ft) (fT K fu) σ H Q:=by
  obtain⟨F,e,b,e1,R,hf,q⟩:=h
  unfold jK at hf
  obtain⟨⟨x,e1'⟩,h1,hf⟩:=Option.bind_eq_some_iff.mp hf
  refine⟨F,e,x,e1',R,h1,fun F1 H1 X1 R1=>?_⟩
  cases x with
  | true=>exact⟨F1,e1',b,e1,R1,hf,fun F2 H2 X2 R2=>q F2 H2 (X1.trans X2) R2⟩
  | false=>cases hf;exact q F1 H1 X1 R1
theorem E_{σ:L2.St}{H:Hp}{Q:Bool→Hp→Prop}(h:fT K (oX ft fu) σ H Q):HU (fT K ft) (fT K fu) σ H Q:=by
  obtain⟨F,e,b,e1,R,hf,q⟩:=h
  unfold oX at hf
  obtain⟨⟨x,e1'⟩,h1,hf⟩:=Option.bind_eq_some_iff.mp hf
  refine⟨F,e,x,e1',R,h1,fun F1 H1 X1 R1=>?_⟩
  cases x with
  | false=>exact⟨F1,e1',b,e1,R1,hf,fun F2 H2 X2 R2=>q F2 H2 (X1.trans X2) R2⟩
  | true=>cases hf;exact q F1 H1 X1 R1
theorem Co{σ:L2.St}{H:Hp}{Q:Bool→Hp→Prop}(h:fT K (gG ft) σ H Q):GK (fT K ft) σ H Q:=by
  obtain⟨F,e,b,e1,R,hf,q⟩:=h
  unfold gG at hf
  obtain⟨⟨x,e1'⟩,h1,hf⟩:=Option.map_eq_some_iff.mp hf
  cases hf
  exact⟨F,e,x,_,R,h1,fun F1 H1 X1 R1=>q F1 H1 X1 R1⟩
variable{gn:List Expr}
theorem oT(ha:PT X a (fT K ft)):PW X (.BoolOp .And [a] pos) (fT K ft):=B0 ha
theorem jG(ha:PT X a (fT K ft)):PW X (.BoolOp .Or [a] pos) (fT K ft):=Et ha
theorem pS(ha:PT X a (fT K ft))(hb:PW X (.BoolOp .And (b::gn) pos) (fT K fu)):PW X (.BoolOp .And (a::b::gn) pos) (fT K (jK ft fu)):=(Es ha hb).mono fun _ _ _ h=>Cm h
theorem kM(ha:PT X a (fT K ft))(hb:PW X (.BoolOp .Or (b::gn) pos) (fT K fu)):PW X (.BoolOp .Or (a::b::gn) pos) (fT K (oX ft fu)):=(Gn ha hb).mono fun _ _ _ h=>E_ h
theorem fm(ha:PT X a (fT K ft)):PT X (.UnaryOp .Not a pos) (fT K (gG ft)):=(Ep ha).mono fun _ _ _ h=>Co h
theorem nv{e:Expr}(h:PW X e (fT K ft)):PT X e (fT K ft):=h.pt
def eS(f g:FE):FE:=fun e=>(f e).bind fun p=>(c9 p.1).bind fun b=>if b=true then g p.2 else some (.d (.bool false),p.2)
def qc(f g:FE):FE:=fun e=>(f e).bind fun p=>(c9 p.1).bind fun b=>if b=true then some (.d (.bool true),p.2) else g p.2
def jV(f:FE):FE:=fun e=>(f e).bind fun p=>(c9 p.1).map fun b=>(.d (.bool (!b)),p.2)
theorem jE(ha:PE X a (fE K fa))(hb:PE X (.BoolOp .And (b::gn) pos) (fE K fb)):PE X (.BoolOp .And (a::b::gn) pos) (fE K (eS fa fb)):=(Ee ha hb).mono fun σ H Q h=>by
  obtain⟨F,e,z,e2,R,hf,q⟩:=h
  unfold eS at hf
  obtain⟨⟨x,e1⟩,h1,hf⟩:=Option.bind_eq_some_iff.mp hf
  obtain⟨b,h2,hf⟩:=Option.bind_eq_some_iff.mp hf
  refine⟨F,e,x,e1,R,h1,fun F1 H1 v X1 R1 A1=>⟨b,du A1 h2,?_⟩⟩
  cases b with
  | true=>exact⟨F1,e1,z,e2,R1,hf,fun F2 H2 w X2 R2 A2=>q F2 H2 w (X1.trans X2) R2 (A2.weak X1.dom)⟩
  | false=>cases hf;exact q F1 H1 _ X1 R1 dG
theorem Gq(ha:PE X a (fE K fa))(hb:PE X (.BoolOp .Or (b::gn) pos) (fE K fb)):PE X (.BoolOp .Or (a::b::gn) pos) (fE K (qc fa fb)):=(Gi ha hb).mono fun σ H Q h=>by
  obtain⟨F,e,z,e2,R,hf,q⟩:=h
  unfold qc at hf
  obtain⟨⟨x,e1⟩,h1,hf⟩:=Option.bind_eq_some_iff.mp hf
  obtain⟨b,h2,hf⟩:=Option.bind_eq_some_iff.mp hf
  refine⟨F,e,x,e1,R,h1,fun F1 H1 v X1 R1 A1=>⟨b,du A1 h2,?_⟩⟩
  cases b with
  | false=>exact⟨F1,e1,z,e2,R1,hf,fun F2 H2 w X2 R2 A2=>q F2 H2 w (X1.trans X2) R2 (A2.weak X1.dom)⟩
  | true=>cases hf;exact q F1 H1 _ X1 R1 dG
theorem kL{op}(h:PE X a (fE K fa)):PE X (.BoolOp op [a] pos) (fE K fa):=Eg h
theorem zF(ha:PE X a (fE K fa)):PE X (.UnaryOp .Not a pos) (fE K (jV fa)):=(Ef ha).mono fun σ H Q h=>by
  obtain⟨F,e,z,e2,R,hf,q⟩:=h
  unfold jV at hf
  obtain⟨⟨x,e1⟩,h1,hf⟩:=Option.bind_eq_some_iff.mp hf
  obtain⟨b,h2,hf⟩:=Option.map_eq_some_iff.mp hf
  cases hf
  exact⟨F,e,x,_,R,h1,fun F1 H1 v X1 R1 A1=>⟨b,du A1 h2,q F1 H1 _ X1 R1 dG⟩⟩
def De(t:FT)(f g:FE):FE:=fun e=>(t e).bind fun p=>if p.1=true then f p.2 else g p.2
def iz(g g':En→Rv→Rv→Option Rv)(fa fb fc:FE):FE:=fun e=>(fa e).bind fun p=>(fb p.2).bind fun q=>(g q.2 p.1 q.1).bind fun z=>(c9 z).bind fun k=>if k=true then(fc q.2).bind fun w=>(g' w.2 q.1 w.1).map fun z'=>(z',w.2) else some (.d (.bool false),q.2)
theorem xX{r r':R2}{g g':En→Rv→Rv→Option Rv}{fc:FE}(ho:ia K r g)(ho':ia K r' g'){σ:L2.St}{H:Hp}{Q:VK}(h:fE K (iz g g' fa fb fc) σ H Q):z_ r r' (fE K fa) (fE K fb) (fE K fc) σ H Q:=by
  obtain⟨F,e,z,e4,R,hf,q⟩:=h
  unfold iz at hf
  obtain⟨⟨x,e1⟩,h1,hf⟩:=Option.bind_eq_some_iff.mp hf
  obtain⟨⟨y,e2⟩,h2,hf⟩:=Option.bind_eq_some_iff.mp hf
  obtain⟨z',h3,hf⟩:=Option.bind_eq_some_iff.mp hf
  obtain⟨k,h4,hf⟩:=Option.bind_eq_some_iff.mp hf
  refine⟨F,e,x,e1,R,h1,fun F1 H1 v X1 R1 A1=>⟨F1,e1,y,e2,R1,h2,fun F2 H2 u X2 R2 A2=>?_⟩⟩
  have X12:=X1.trans X2
  refine ho σ H F2 H2 e2 x y z' v u _ R2 (A1.ext X2) (A2.weak X1.dom) h3 fun F3 H3 w X3 R3 A3=>⟨k,du A3 h4,?_⟩
  have X13:=X12.trans X3
  cases k with
  | false=>
    cases hf
    exact q F3 H3 _ X13 R3 dG
  | true=>
    obtain⟨⟨w',e3⟩,h5,hf⟩:=Option.bind_eq_some_iff.mp hf
    obtain⟨z2,h6,hf⟩:=Option.map_eq_some_iff.mp hf
    cases hf
    refine⟨F3,_,w',_,R3,h5,fun F4 H4 u4 X4 R4 A4=>?_⟩
    have X14:=X13.trans X4
    refine ho' σ H F4 H4 _ y w' _ u u4 Q R4 (((A2.weak X1.dom).ext X3).ext X4) (A4.weak X13.dom) h6 fun F5 H5 w5 X5 R5 A5=>?_
    exact q F5 H5 w5 (X14.trans X5) R5 (A5.weak X14.dom)
theorem zE{op op':CmpOp}{r r':R2}{g g':En→Rv→Rv→Option Rv}{fc:FE}(hr:ib X (compareOp op) r)(ho:ia K r g)(hr':ib X (compareOp op') r')(ho':ia K r' g')(ha:PE X a (fE K fa))(hb:PE X b (fE K fb))(hc:PE X c (fE K fc))
    (hm:lastMarks [op,op'] [b,c]=false):PE X (.Compare a [op,op'] [b,c] pos) (fE K (iz g g' fa fb fc)):=(zg hr hr' ha hb hc hm).mono fun _ _ _ h=>xX ho ho' h
def ah:FA:=fun e=>some ([],e)
def aa(fa:FE)(fs:FA):FA:=fun e=>(fa e).bind fun p=>(fs p.2).map fun q=>(p.1::q.1,q.2)
theorem ac:PA X [] (fA K ah):=ni.mono fun σ H Q h=>by
  obtain⟨F,e,r,e',R,hf,q⟩:=h
  cases hf
  exact q F H [] (eU.refl _ _ _ _) R rfl
theorem Hv(ha:PE X a (fE K fa))(hr:PA X es (fA K fs))(h:PySem.W.isStarred a=false):PA X (a::es) (fA K (aa fa fs)):=(BC ha hr h).mono fun σ H Q h=>by
  obtain⟨F,e,z,e2,R,hf,q⟩:=h
  unfold aa at hf
  obtain⟨⟨x,e1⟩,h1,hf⟩:=Option.bind_eq_some_iff.mp hf
  obtain⟨⟨xs,e2'⟩,h2,hf⟩:=Option.map_eq_some_iff.mp hf
  cases hf
  refine⟨F,e,x,e1,R,h1,fun F1 H1 v X1 R1 A1=>⟨F1,e1,xs,_,R1,h2,fun F2 H2 vs X2 R2 A2=>?_⟩⟩
  exact q F2 H2 (v::vs) (X1.trans X2) R2 ⟨v,vs,rfl,A1.ext X2,A2.weak X1.dom⟩
def br(fs:FA):FE:=fun e=>(fs e).bind fun p=>(ii p.1).bind fun ds=>if ds.length≤1000 then some (.d (.tuple ds),p.2) else none
def dr(fs:FA):FE:=fun e=>(fs e).bind fun p=>(ii p.1).bind fun ds=>if ds.length≤1000 then some (.l ds,p.2) else none
theorem aT{x1}(h:PA X es (fA K fs)):PE X (.Tuple es x1 pos) (fE K (br fs)):=(Eh h).mono fun σ H Q h=>by
  obtain⟨F,e,z,e2,R,hf,q⟩:=h
  unfold br at hf
  obtain⟨⟨rs,e1⟩,h1,hf⟩:=Option.bind_eq_some_iff.mp hf
  obtain⟨ds,h2,hf⟩:=Option.bind_eq_some_iff.mp hf
  split at hf
  case isFalse=>cases hf
  case isTrue hl=>
  cases hf
  refine⟨F,e,rs,_,R,h1,fun F1 H1 vs X1 R1 A1=>?_⟩
  obtain⟨F2,R2,s2,d2,f2⟩:=dJ.frozen R1 A1 h2
  have hlen:=d2.len
  refine⟨Nat.le_of_lt (rA (by lia)),fun p hp=>?_⟩
  obtain⟨R3,X3⟩:=R2.newT (vs:=vs) hp
  exact q _ _ _ ((X1.frz s2 f2).trans X3) R3 (eF.mpr ⟨p,vs,rfl,.inl (.inl ay),aU.mono X3.sf d2⟩)
theorem bP(h:PA X es (fA K fs)):PE X (.List es pos) (fE K (dr fs)):=(zi h).mono fun σ H Q h=>by
  obtain⟨F,e,z,e2,R,hf,q⟩:=h
  unfold dr at hf
  obtain⟨⟨rs,e1⟩,h1,hf⟩:=Option.bind_eq_some_iff.mp hf
  obtain⟨ds,h2,hf⟩:=Option.bind_eq_some_iff.mp hf
  split at hf
  case isFalse=>cases hf
  case isTrue hl=>
  cases hf
  refine⟨F,e,rs,_,R,h1,fun F1 H1 vs X1 R1 A1=>?_⟩
  obtain⟨F2,R2,s2,d2,f2⟩:=dJ.frozen R1 A1 h2
  have hlen:=d2.len
  refine⟨Nat.le_of_lt (rA (by lia)),fun p hp=>?_⟩
  obtain⟨R3,X3,hF,no⟩:=R2.newL (vs:=vs) hp
  exact q _ _ _ ((X1.frz s2 f2).trans X3) R3 ⟨p,vs,rfl,X1.dom p hp,hF,ay,d2,no⟩
def eV(K:PySem.W.Frag)(r:List V→Hp→VK→Prop)(g:En→List Rv→Option Rv):Prop:=
  ∀(σ:L2.St) (H0 F H:Hp) (e:En) (xs:List Rv) (z:Rv) (vs:List V) (Q:VK),bh K F H σ e→dJ K σ H0 F H e xs vs→g e xs=some z→
    (∀F' H' w,eU σ F H e F' H' e→bh K F' H' σ e→cU K σ H F' H' e z w→Q w H')→r vs H Q
def aC(g:En→List Rv→Option Rv)(fs:FA):FE:=fun e=>(fs e).bind fun p=>(g p.2 p.1).map fun z=>(z,p.2)
theorem ur{r:List V→Hp→VK→Prop}{g:En→List Rv→Option Rv}(ho:eV K r g){σ:L2.St}{H:Hp}{Q:VK}(h:fE K (aC g fs) σ H Q):Hy r (fA K fs) σ H Q:=by
  obtain⟨F,e,z,e2,R,hf,q⟩:=h
  unfold aC at hf
  obtain⟨⟨x,e1⟩,h1,hf⟩:=Option.bind_eq_some_iff.mp hf
  obtain⟨z',h3,hf⟩:=Option.map_eq_some_iff.mp hf
  cases hf
  refine⟨F,e,x,_,R,h1,fun F1 H1 vs X1 R1 A1=>?_⟩
  refine ho σ H F1 H1 _ x _ vs Q R1 A1 h3 fun F3 H3 w X3 R3 A3=>?_
  exact q F3 H3 w (X1.trans X3) R3 (A3.weak X1.dom)
theorem zD{x:Str}{p pos:Pos}{id:String}{r:List V→Hp→VK→Prop}{g:En→List Rv→Option Rv}(hc:ed X (.builtin id) r)(ho:eV K r g)(hg:Gl X x)(hm:X.mg x=none)(hv:bootBuiltins x=some (.builtin id))(ha:PA X (a::es) (fA K fs))(hn:x≠"__name__")(hdb:(x==("__debug__":Str))=false)
    (he:starEach (a::es) X.env=(false,eval a X.env)::starEach es X.env)(hpl:(backTo pos (starEach es X.env)).any (·.1)=false):PE X (.Call (.Name x p) (a::es) [] pos) (fE K (aC g fs)):=(pR hc hg hm hv ha hn hdb he hpl).mono fun _ _ _ h=>ur ho h
theorem xM{x:Str}{p pos:Pos}{T:String}{r:List V→Hp→VK→Prop}{g:En→List Rv→Option Rv}(hc:ed X (.type T) r)(ho:eV K r g)(hg:Gl X x)(hm:X.mg x=none)(hv:bootBuiltins x=some (.type T))(ha:PA X (a::es) (fA K fs))(hn:x≠"__name__")(hdb:(x==("__debug__":Str))=false)
    (he:starEach (a::es) X.env=(false,eval a X.env)::starEach es X.env)(hpl:(backTo pos (starEach es X.env)).any (·.1)=false):PE X (.Call (.Name x p) (a::es) [] pos) (fE K (aC g fs)):=(xI hc hg hm hv ha hn hdb he hpl).mono fun _ _ _ h=>ur ho h
end
end L2
namespace L2
open PySem PySem.Spec PyProof.Rows
mutual
theorem DA.reads{X:Cx}{pins:List (Addr × Obj)}{σ:L2.St}{H:Hp}{s:Shared}(I:aI X pins σ H s):∀{d:PyData} {v:V} {u:Value},d.canLay0=true→DA X.K H d v→bE v u→∃as,Reads s.heap u d as
  | .none,_,_,_,q,r=>by
    simp only [DA] at q;subst q;cases r;exact⟨_,.none⟩
  | .bool b,_,_,_,q,r=>by
    simp only [DA] at q;subst q;cases r;exact⟨_,.bool b⟩
  | .int i,_,_,_,q,r=>by
    simp only [DA] at q;subst q;obtain⟨t,rfl⟩:=r;exact⟨_,.int i t⟩
  | .str x,_,_,_,q,r=>by
    simp only [DA] at q;subst q;obtain⟨t,rfl⟩:=r;exact⟨_,.str x t⟩
  | .tuple ds,_,_,c,q,r=>by
    simp only [DA] at q
    obtain⟨a,xs,e,hs,rr⟩:=q
    subst e;cases r
    obtain⟨its,rv,⟨o,ho,hc,n,hd⟩,hz⟩:=I.tuple hs
    obtain⟨as,q⟩:=aU.reads I (by simpa [PyData.canLay0] using c) rr rv
    exact⟨_,.tuple ho hc hd q⟩
  | .list ds,_,_,c,q,r=>by
    simp only [DA] at q
    obtain⟨a,xs,e,hs,rr⟩:=q
    subst e;cases r
    obtain⟨its,rv,ht,hz⟩:=I.list hs
    obtain⟨o,ho,hc,n,hd⟩:=ht.isList
    obtain⟨as,q⟩:=aU.reads I (by simpa [PyData.canLay0] using c) rr rv
    exact⟨_,.list ho hc hd q⟩
  | .dict _,_,_,c,_,_=>by simp [PyData.canLay0] at c
theorem aU.reads{X:Cx}{pins:List (Addr × Obj)}{σ:L2.St}{H:Hp}{s:Shared}(I:aI X pins σ H s):∀{ds:List PyData} {xs:List V} {us:List Value},PyData.canLayAll0 ds=true→aU X.K H ds xs→aW xs us→∃as,ReadsAll s.heap us ds as
  | [],_,_,_,q,r=>by
    simp only [aU] at q;subst q;cases r;exact⟨_,.nil⟩
  | d::ds,_,_,c,q,r=>by
    simp only [aU] at q
    simp only [PyData.canLayAll0,Bool.and_eq_true] at c
    obtain⟨x,rr,e,a,b⟩:=q
    subst e
    cases r with
    | cons p p'=>
      obtain⟨as,q1⟩:=DA.reads I c.1 a p
      obtain⟨bs,q2⟩:=aU.reads I c.2 b p'
      exact⟨_,.cons q1 q2⟩
end
def kc(e:En):Rv→Option PyData
  | .d x=>some x
  | .l xs=>some (.list xs)
  | .s i=>match e[i]? with
    | some (some (.l xs))=>some (.list xs)
    | _=>none
theorem kd{K:PySem.W.Frag}{σ:L2.St}{H0 F H:Hp}{e:En}{r:Rv}{v:V}{d:PyData}(R:bh K F H σ e)(h:cU K σ H0 F H e r v)(q:kc e r=some d):DA K H d v:=by
  cases r with
  | d x=>cases q;exact DA.mono R.sm h
  | l xs=>
    cases q
    obtain⟨l,vs,rfl,h1,h2,h3,h4,_⟩:=h
    exact dc.mpr ⟨l,vs,rfl,.inl (.inl h3),aU.mono R.sm h4⟩
  | s i=>
    obtain⟨h1,ys,h2⟩:=h
    simp only [kc,h2] at q
    cases q
    obtain⟨l,vs,e1,e2,e3,e4⟩:=R.own i _ h2
    rw [h1] at e1;cases e1
    exact dc.mpr ⟨l,vs,rfl,.inl (.inl e3),aU.mono R.sm e4⟩
section
variable{X:Cx}{K:PySem.W.Frag}
def bA:Rv→Option Int
  | .d (.int i)=>some i
  | _=>none
theorem bx{σ:L2.St}{H0 F H:Hp}{e:En}{r:Rv}{v:V}{i:Int}(h:cU K σ H0 F H e r v)(q:bA r=some i):v=.int i:=by
  unfold bA at q
  split at q
  · cases q;exact bY.mp (show DA K F (.int _) v from h)
  · cases q
theorem nA{σ:L2.St}{H0 F H:Hp}{e:En}{i:Int}:cU K σ H0 F H e (.d (.int i)) (.int i):=(bY (K:=K) (F:=F)).mpr rfl
def gI(C:Int→Int→Bool)(f:Int→Int→PyData):En→Rv→Rv→Option Rv:=fun _ x y=>(bA x).bind fun i=>(bA y).bind fun j=>if C i j=true then some (.d (f i j)) else none
theorem tW{C:Int→Int→Prop}{c:Int→Int→Bool}{g:Int→Int→V}{f:Int→Int→PyData}(hc:∀i j,c i j=true→C i j)(hf:∀F i j,DA K F (f i j) (g i j)):ia K (rI C g) (gI c f):=by
  intro σ H0 F H e x y z v u Q R A B hg q
  unfold gI at hg
  obtain⟨i,h1,hg⟩:=Option.bind_eq_some_iff.mp hg
  obtain⟨j,h2,hg⟩:=Option.bind_eq_some_iff.mp hg
  split at hg
  case isFalse=>cases hg
  case isTrue hh=>
  cases hg
  exact⟨i,j,bx A h1,bx B h2,hc i j hh,q F H _ (eU.refl _ _ _ _) R (hf F i j)⟩
theorem kz{g:Int→Int→V}{f:Int→Int→PyData}(hf:∀F i j,DA K F (f i j) (g i j)):ia K (vm g) (gI (fun _ _=>true) f):=by
  intro σ H0 F H e x y z v u Q R A B hg q
  obtain⟨i,j,h1,h2,h3,h4⟩:=tW (K:=K) (C:=fun _ _=>True) (c:=fun _ _=>true) (g:=g) (f:=f) (fun _ _ _=>trivial) hf σ H0 F H e x y z v u Q R A B hg q
  exact⟨i,j,h1,h2,h4⟩
def ya(g g':En→Rv→Rv→Option Rv):En→Rv→Rv→Option Rv:=fun e x y=>(g e x y).or (g' e x y)
theorem ia.or{r r':R2}{g g':En→Rv→Rv→Option Rv}(h:ia K r g)(h':ia K r' g'):ia K (fun x y H Q=>r x y H Q∨r' x y H Q) (ya g g'):=by
  intro σ H0 F H e x y z v u Q R A B hg q
  unfold ya at hg
  cases e1:g e x y with
  | some w=>
    rw [e1] at hg
    cases hg
    exact .inl (h σ H0 F H e x y _ v u Q R A B e1 q)
  | none=>
    rw [e1] at hg
    exact .inr (h' σ H0 F H e x y _ v u Q R A B hg q)
def CS:=gI (fun _ _=>true) fun i j=>.int (i+j)
def gw:=gI (fun _ _=>true) fun i j=>.int (i - j)
def jJ(i:Int):Bool:=decide (-(2 ^ 64) < i)&&decide (i < 2 ^ 64)
def Fw(n:Nat)(i:Int):Bool:=decide (i.natAbs < 2 ^ n)
theorem l4{n:Nat}{i:Int}:Fw n i=true↔ Bt n i:=by unfold Fw Bt;exact decide_eq_true_iff
def ng(i j:Int):Bool:=jJ i || jJ j || (Fw 4000 i&&Fw 4000 j)
def pe:=gI ng fun i j=>.int (i*j)
def gH:=gI (fun _ j=>j != 0&&Fw 8000 j) fun i j=>.int (i.fdiv j)
def a9:=gI (fun _ j=>j != 0) fun i j=>.int (i.fmod j)
def zy(i j:Int):Bool:=decide (0≤j)&&decide (j≤1000000)&&jJ i
def uP:=gI zy fun i j=>.int (i ^ j.toNat)
theorem lR{i:Int}(h:jJ i=true): -(2 ^ 64) < i∧i < 2 ^ 64:=by
  unfold jJ at h
  rw [Bool.and_eq_true,decide_eq_true_iff,decide_eq_true_iff] at h
  exact h
theorem BR{i j:Int}(h:zy i j=true):Dh i j:=by
  unfold zy at h
  rw [Bool.and_eq_true,Bool.and_eq_true,decide_eq_true_iff,decide_eq_true_iff] at h
  have:=lR h.2
  exact⟨h.1.1,h.1.2,by lia⟩
def vK(i j:Int):Prop:=AC i j∨Cv i j
theorem Bx:ib X (binaryOp .Mult) (rI vK fun i j=>.int (i*j)):=by
  intro pins s σ H x y v u Q I rx ry h
  obtain⟨i,j,e1,e2,h1,q⟩:=h
  rcases h1 with h1 | h1
  · exact D' pins s σ H x y v u Q I rx ry ⟨i,j,e1,e2,h1,q⟩
  · exact By pins s σ H x y v u Q I rx ry ⟨i,j,e1,e2,h1,q⟩
theorem Bm{i j:Int}(h:ng i j=true):vK i j:=by
  unfold ng at h
  rw [Bool.or_eq_true,Bool.or_eq_true,Bool.and_eq_true] at h
  rcases h with (h | h) | h
  · exact .inl (.inl (lR h))
  · exact .inl (.inr (lR h))
  · exact .inr ⟨l4.mp h.1,l4.mp h.2⟩
theorem DT:ia K (rI vK fun i j=>.int (i*j)) pe:=tW (fun _ _ h=>Bm h) fun _ _ _=>bY.mpr rfl
theorem GD:ia K (vm fun i j=>.int (i - j)) gw:=kz fun _ _ _=>bY.mpr rfl
theorem Du:ia K (rI Cu fun i j=>.int (i.fdiv j)) gH:=tW (fun i j h=>by
  rw [Bool.and_eq_true] at h
  exact⟨by simpa using h.1,l4.mp h.2⟩) fun _ _ _=>bY.mpr rfl
theorem FZ:ia K (rI (fun _ j=>j≠0) fun i j=>.int (i.fmod j)) a9:=tW (fun i j h=>by simpa using h) fun _ _ _=>bY.mpr rfl
theorem Gk:ia K (rI Dh fun i j=>.int (i ^ j.toNat)) uP:=tW (fun _ _ h=>BR h) fun _ _ _=>bY.mpr rfl
def v_:En→Rv→Rv→Option Rv:=fun e x y=>match eQ e x,eQ e y with
  | some (false,xs),some (false,ys)=>if xs.length+ys.length≤1000000 then some (.d (.tuple (xs++ys))) else none
  | _,_=>none
theorem Ds:ia K (zH K) v_:=by
  intro σ H0 F H e x y z v u Q R A B hg q
  unfold v_ at hg
  match h1:eQ e x,h2:eQ e y,hg with
  | some (false,xs),some (false,ys),hg=>
    obtain⟨p,vs,rfl,d1,s1⟩:=dZ R A h1
    obtain⟨p',us,rfl,d2,s2⟩:=dZ R B h2
    dsimp only at hg
    split at hg
    case isFalse=>cases hg
    case isTrue hl=>
    cases hg
    have l1:=d1.len
    have l2:=d2.len
    have sl:sizeLine=16777216:=sizeLine_eq
    refine⟨p,p',vs,us,rfl,rfl,s1,s2,by lia,fun t H' sm hT=>?_⟩
    obtain⟨F',R',X',hF⟩:=R.growT sm hT
    exact q F' H' _ X' R' (eF.mpr ⟨t,_,rfl,hF,(d1.append d2).mono X'.sf⟩)
def xn(e:En):Rv→Option (List PyData)
  | .l xs=>some xs
  | .s i=>match e[i]? with
    | some (some (.l xs))=>some xs
    | _=>none
  | _=>none
theorem sd{σ:L2.St}{H0 F H:Hp}{e:En}{r:Rv}{v:V}(R:bh K F H σ e)(h:cU K σ H0 F H e r v){xs:List PyData}(q:xn e r=some xs):∃p vs,v=.ref p∧F p=none∧H p=some (.lst vs)∧aU K F xs vs:=by
  cases r with
  | d x=>cases q
  | l ys=>
    cases q
    obtain⟨l,vs,e1,h1,h2,h3,h4,_⟩:=h
    exact⟨l,vs,e1,h2,h3,h4⟩
  | s i=>
    obtain⟨h1,ys,h2⟩:=h
    simp only [xn,h2] at q
    cases q
    obtain⟨l,vs,e1,e2,e3,e4⟩:=R.own i _ h2
    rw [h1] at e1;cases e1
    exact⟨l,vs,rfl,e2,e3,e4⟩
def yz:En→Rv→Rv→Option Rv:=fun e x y=>(xn e x).bind fun xs=>(xn e y).bind fun ys=>if xs.length+ys.length≤1000000 then some (.l (xs++ys)) else none
theorem Dr:ia K EC yz:=by
  intro σ H0 F H e x y z v u Q R A B hg q
  unfold yz at hg
  obtain⟨xs,h1,hg⟩:=Option.bind_eq_some_iff.mp hg
  obtain⟨ys,h2,hg⟩:=Option.bind_eq_some_iff.mp hg
  split at hg
  case isFalse=>cases hg
  case isTrue hl=>
  cases hg
  obtain⟨p,vs,rfl,f1,s1,d1⟩:=sd R A h1
  obtain⟨p',us,rfl,f2,s2,d2⟩:=sd R B h2
  have l1:=d1.len
  have l2:=d2.len
  have sl:sizeLine=16777216:=sizeLine_eq
  refine⟨p,p',vs,us,rfl,rfl,s1,s2,by lia,fun t ht=>?_⟩
  obtain⟨R3,X3,hF,no⟩:=R.newL (vs:=vs++us) ht
  exact q _ _ _ X3 R3 ⟨t,_,rfl,ht,hF,ay,d1.append d2,no⟩
def bv:En→Rv→Rv→Option Rv:=ya CS (ya v_ yz)
def C7(K:PySem.W.Frag):R2:=fun x y H Q=>vm (fun i j=>.int (i+j)) x y H Q∨(zH K x y H Q∨EC x y H Q)
theorem Br:ib X (binaryOp .Add) (C7 X.K):=y6.or (Bs.or D5)
theorem Fs:ia K (C7 K) bv:=ia.or (kz fun _ _ _=>bY.mpr rfl) (ia.or Ds Dr)
def pj:En→Rv→Rv→Option Rv:=fun e x y=>match eQ e x,bA y with
  | some (false,[d]),some k=>if 0≤k∧k≤100000 then some (.d (.tuple (List.replicate k.toNat d))) else none
  | _,_=>none
theorem aU.rep{F:Hp}{d:PyData}{v:V}(h:DA K F d v):∀n,aU K F (List.replicate n d) (List.replicate n v)
  | 0=>aU.nil
  | n+1=>aU.cons h (aU.rep h n)
theorem EI:ia K (zJ K) pj:=by
  intro σ H0 F H e x y z v u Q R A B hg q
  unfold pj at hg
  match h1:eQ e x,h2:bA y,hg with
  | some (false,[d]),some k,hg=>
    obtain⟨p,vs,rfl,d1,s1⟩:=dZ R A h1
    dsimp only at hg
    split at hg
    case isFalse=>cases hg
    case isTrue hl=>
    cases hg
    have hd:=d1
    simp only [aU] at hd
    obtain⟨w,r,e1,hw,e2⟩:=hd
    subst e2 e1
    refine⟨p,k,w,rfl,bx B h2,s1,hl.1,hl.2,fun t H' sm hT=>?_⟩
    obtain⟨F',R',X',hF⟩:=R.growT sm hT
    exact q F' H' _ X' R' (eF.mpr ⟨t,_,rfl,hF,(aU.rep hw _).mono X'.sf⟩)
def tN:En→Rv→Rv→Option Rv:=fun e x y=>(xn e x).bind fun xs=>(bA y).bind fun k=>if -100000≤k∧k≤100000∧xs.length*k.toNat≤1000000 then some (.l (List.replicate k.toNat xs).flatten) else none
theorem aU.reps{F:Hp}{ds:List PyData}{vs:List V}(h:aU K F ds vs):∀n,aU K F (List.replicate n ds).flatten (List.replicate n vs).flatten
  | 0=>aU.nil
  | n+1=>by simpa [List.replicate_succ] using aU.append h (aU.reps h n)
theorem EH:ia K EG tN:=by
  intro σ H0 F H e x y z v u Q R A B hg q
  unfold tN at hg
  obtain⟨xs,h1,hg⟩:=Option.bind_eq_some_iff.mp hg
  obtain⟨k,h2,hg⟩:=Option.bind_eq_some_iff.mp hg
  split at hg
  case isFalse=>cases hg
  case isTrue hl=>
  cases hg
  obtain⟨p,vs,rfl,f1,s1,d1⟩:=sd R A h1
  have l1:=d1.len
  have sl:sizeLine=16777216:=sizeLine_eq
  refine⟨p,k,vs,rfl,bx B h2,s1,by lia,by lia,by rw [←l1];lia,fun t ht=>?_⟩
  obtain⟨R3,X3,hF,no⟩:=R.newL (vs:=(List.replicate k.toNat vs).flatten) ht
  exact q _ _ _ X3 R3 ⟨t,_,rfl,ht,hF,ay,aU.reps d1 _,no⟩
def gy:En→Rv→Rv→Option Rv:=ya pe (ya pj tN)
def C8(K:PySem.W.Frag):R2:=fun x y H Q=>rI vK (fun i j=>.int (i*j)) x y H Q∨(zJ K x y H Q∨EG x y H Q)
theorem Bw:ib X (binaryOp .Mult) (C8 X.K):=Bx.or (BA.or Ec)
theorem F8:ia K (C8 K) gy:=ia.or DT (ia.or EI EH)
def tL:=gI (fun _ _=>true) fun i j=>.bool (decide (i < j))
def A7:=gI (fun _ _=>true) fun i j=>.bool (decide (i≤j))
def CT:=gI (fun _ _=>true) fun i j=>.bool (decide (j < i))
def uO:=gI (fun _ _=>true) fun i j=>.bool (decide (j≤i))
theorem Hs:ia K (vm fun i j=>.bl (decide (i < j))) tL:=kz fun _ _ _=>dW.mpr rfl
theorem Hq:ia K (vm fun i j=>.bl (decide (i≤j))) A7:=kz fun _ _ _=>dW.mpr rfl
theorem Hg:ia K (vm fun i j=>.bl (decide (j < i))) CT:=kz fun _ _ _=>dW.mpr rfl
theorem Hf:ia K (vm fun i j=>.bl (decide (j≤i))) uO:=kz fun _ _ _=>dW.mpr rfl
def ED(K:PySem.W.Frag)(neg:Bool):R2:=fun x y H Q=>∃a b,DA K H a x∧DA K H b y∧SeqAt.shaped a=true∧SeqAt.shaped b=true∧Q (.bl (if neg then !PyData.eqv a b else PyData.eqv a b)) H
theorem D6{k:Nat}(hr:eB k X.A):ib X (compareOp .Eq) (ED X.K false):=by
  intro pins s σ H x y v u Q I rx ry h
  obtain⟨a,b,ha,hb,s1,s2,q⟩:=h
  obtain⟨as,ra⟩:=DA.reads I (SeqAt.canLay_of_shaped s1) ha rx
  obtain⟨bs,rb⟩:=DA.reads I (SeqAt.canLay_of_shaped s2) hb ry
  exact SeqAt.compareEq_shaped ra rb s1 s2 hr.units ⟨.bl _,H,I,rfl,q⟩
theorem Ea{k:Nat}(hr:eB k X.A):ib X (compareOp .NotEq) (ED X.K true):=by
  intro pins s σ H x y v u Q I rx ry h
  obtain⟨a,b,ha,hb,s1,s2,q⟩:=h
  obtain⟨as,ra⟩:=DA.reads I (SeqAt.canLay_of_shaped s1) ha rx
  obtain⟨bs,rb⟩:=DA.reads I (SeqAt.canLay_of_shaped s2) hb ry
  exact SeqAt.compareNe_shaped ra rb s1 s2 hr.units ⟨.bl _,H,I,rfl,q⟩
def bw(neg:Bool):En→Rv→Rv→Option Rv:=fun e x y=>(kc e x).bind fun a=>(kc e y).bind fun b=>if (SeqAt.shaped a&&SeqAt.shaped b)=true then some (.d (.bool (if neg then !PyData.eqv a b else PyData.eqv a b))) else none
theorem CO{neg:Bool}:ia K (ED K neg) (bw neg):=by
  intro σ H0 F H e x y z v u Q R A B hg q
  unfold bw at hg
  obtain⟨a,h1,hg⟩:=Option.bind_eq_some_iff.mp hg
  obtain⟨b,h2,hg⟩:=Option.bind_eq_some_iff.mp hg
  split at hg
  case isFalse=>cases hg
  case isTrue hl=>
  cases hg
  rw [Bool.and_eq_true] at hl
  exact⟨a,b,kd R A h1,kd R B h2,hl.1,hl.2,q F H _ (eU.refl _ _ _ _) R dG⟩
def EE(K:PySem.W.Frag)(neg:Bool):R2:=fun x y H Q=>∃a xs,DA K H a x∧(DA K H (.list xs) y∨DA K H (.tuple xs) y)∧a.canLay0=true∧a.depth≤60∧PyData.canLayAll0 xs=true∧Q (.bl (if neg then !(xs.any fun y=>PyData.eqv y a) else xs.any fun y=>PyData.eqv y a)) H
theorem D7{k:Nat}(hr:eB k X.A):ib X (compareOp .In) (EE X.K false):=by
  intro pins s σ H x y v u Q I rx ry h
  obtain⟨a,xs,ha,hb,s1,s2,s3,q⟩:=h
  obtain⟨as,ra⟩:=DA.reads I s1 ha rx
  have hu:=hr.units
  rcases hb with hb | hb
  · obtain⟨bs,rb⟩:=DA.reads I (by simpa [PyData.canLay0] using s3) hb ry
    exact PySem.SeqAt.in_list_reads rb ra s3 s1 (by lia) ⟨.bl _,H,I,rfl,q⟩
  · obtain⟨bs,rb⟩:=DA.reads I (by simpa [PyData.canLay0] using s3) hb ry
    exact PySem.SeqAt.in_tuple_reads rb ra s3 s1 (by lia) ⟨.bl _,H,I,rfl,q⟩
theorem xG{k:Nat}(hr:eB k X.A):ib X (compareOp .NotIn) (EE X.K true):=by
  intro pins s σ H x y v u Q I rx ry h
  obtain⟨a,xs,ha,hb,s1,s2,s3,q⟩:=h
  obtain⟨as,ra⟩:=DA.reads I s1 ha rx
  have hu:=hr.units
  rcases hb with hb | hb
  · obtain⟨bs,rb⟩:=DA.reads I (by simpa [PyData.canLay0] using s3) hb ry
    exact PySem.SeqAt.notIn_list_reads rb ra s3 s1 (by lia) ⟨.bl _,H,I,rfl,q⟩
  · obtain⟨bs,rb⟩:=DA.reads I (by simpa [PyData.canLay0] using s3) hb ry
    exact PySem.SeqAt.notIn_tuple_reads rb ra s3 s1 (by lia) ⟨.bl _,H,I,rfl,q⟩
def w6(neg:Bool):En→Rv→Rv→Option Rv:=fun e x y=>(kc e x).bind fun a=>(eQ e y).bind fun p=>if (a.canLay0&&decide (a.depth≤60)&&PyData.canLayAll0 p.2)=true then some (.d (.bool (if neg then !(p.2.any fun y=>PyData.eqv y a) else p.2.any fun y=>PyData.eqv y a))) else none
theorem FL{neg:Bool}:ia K (EE K neg) (w6 neg):=by
  intro σ H0 F H e x y z v u Q R A B hg q
  unfold w6 at hg
  obtain⟨a,h1,hg⟩:=Option.bind_eq_some_iff.mp hg
  obtain⟨⟨b,xs⟩,h2,hg⟩:=Option.bind_eq_some_iff.mp hg
  split at hg
  case isFalse=>cases hg
  case isTrue hl=>
  cases hg
  rw [Bool.and_eq_true,Bool.and_eq_true,decide_eq_true_iff] at hl
  obtain⟨p,vs,rfl,d1,s1⟩:=dZ R B h2
  refine⟨a,xs,kd R A h1,?_,hl.1.1,hl.1.2,hl.2,q F H _ (eU.refl _ _ _ _) R dG⟩
  cases b with
  | true=>exact .inl (dc.mpr ⟨p,vs,rfl,s1,d1.mono R.sm⟩)
  | false=>exact .inr (eF.mpr ⟨p,vs,rfl,s1,d1.mono R.sm⟩)
def r8:PyData→Bool
  | .none=>true
  | _=>false
theorem qL{F:Hp}{d:PyData}{v:V}(h:DA K F d v):decide (v=.non)=r8 d:=by
  cases d with
  | none=>rw [iF.mp h];rfl
  | bool b=>rw [dW.mp h];rfl
  | int b=>rw [bY.mp h];rfl
  | str b=>rw [yv.mp h];rfl
  | tuple b=>obtain⟨a,_,e,_⟩:=eF.mp h;rw [e];rfl
  | list b=>obtain⟨a,_,e,_⟩:=dc.mp h;rw [e];rfl
  | dict b=>simp only [DA] at h;obtain⟨a,m,rfl,_⟩:=h;rfl
def xb(neg:Bool):En→Rv→Rv→Option Rv:=fun e x y=>(kc e x).bind fun a=>match y with
  | .d .none=>some (.d (.bool (if neg then !r8 a else r8 a)))
  | _=>none
def xa(neg:Bool):En→Rv→Rv→Option Rv:=fun e x y=>(c9 x).bind fun a=>(c9 y).bind fun b=>some (.d (.bool (if neg then !(a==b) else a==b)))
theorem FQ:ia K (fun x y H Q=>y=.non∧Q (.bl (decide (x=.non))) H) (xb false):=by
  intro σ H0 F H e x y z v u Q R A B hg q
  unfold xb at hg
  obtain⟨a,h1,hg⟩:=Option.bind_eq_some_iff.mp hg
  split at hg
  · cases hg
    refine⟨iF.mp (show DA K F .none u from B),?_⟩
    rw [qL (kd R A h1)]
    exact q F H _ (eU.refl _ _ _ _) R dG
  · cases hg
theorem DV:ia K (fun x y H Q=>y=.non∧Q (.bl (!decide (x=.non))) H) (xb true):=by
  intro σ H0 F H e x y z v u Q R A B hg q
  unfold xb at hg
  obtain⟨a,h1,hg⟩:=Option.bind_eq_some_iff.mp hg
  split at hg
  · cases hg
    refine⟨iF.mp (show DA K F .none u from B),?_⟩
    rw [qL (kd R A h1)]
    exact q F H _ (eU.refl _ _ _ _) R dG
  · cases hg
theorem FP:ia K (fun x y H Q=>∃b c,x=.bl b∧y=.bl c∧Q (.bl (b==c)) H) (xa false):=by
  intro σ H0 F H e x y z v u Q R A B hg q
  unfold xa at hg
  obtain⟨a,h1,hg⟩:=Option.bind_eq_some_iff.mp hg
  obtain⟨b,h2,hg⟩:=Option.bind_eq_some_iff.mp hg
  cases hg
  exact⟨a,b,du A h1,du B h2,q F H _ (eU.refl _ _ _ _) R dG⟩
theorem yH:ia K (fun x y H Q=>∃b c,x=.bl b∧y=.bl c∧Q (.bl (!(b==c))) H) (xa true):=by
  intro σ H0 F H e x y z v u Q R A B hg q
  unfold xa at hg
  obtain⟨a,h1,hg⟩:=Option.bind_eq_some_iff.mp hg
  obtain⟨b,h2,hg⟩:=Option.bind_eq_some_iff.mp hg
  cases hg
  exact⟨a,b,du A h1,du B h2,q F H _ (eU.refl _ _ _ _) R dG⟩
def FC:En→Rv→Rv→Option Rv:=ya (xb false) (xa false)
def pd:En→Rv→Rv→Option Rv:=ya (xb true) (xa true)
def Gv:R2:=fun x y H Q=>(y=.non∧Q (.bl (decide (x=.non))) H)∨∃b c,x=.bl b∧y=.bl c∧Q (.bl (b==c)) H
def wx:R2:=fun x y H Q=>(y=.non∧Q (.bl (!decide (x=.non))) H)∨∃b c,x=.bl b∧y=.bl c∧Q (.bl (!(b==c))) H
theorem D8:ib X (compareOp .Is) Gv:=D_.or D9
theorem xE:ib X (compareOp .IsNot) wx:=Bz.or xF
theorem Hl:ia K Gv FC:=ia.or FQ FP
theorem A9:ia K wx pd:=ia.or DV yH
def dX:En→Rv→Rv→Option Rv:=fun e x y=>(eQ e x).bind fun p=>(bA y).bind fun i=>(atI p.2 i).map .d
def Gw(K:PySem.W.Frag):R2:=fun x y H Q=>EF K x y H Q∨Gx K x y H Q
theorem Hm:Ax X (Gw X.K):=wj.or DE
theorem aU.atI{F:Hp}{ds:List PyData}{vs:List V}(h:aU K F ds vs){i:Int}{d:PyData}(q:atI ds i=some d):∃v,L2.atI vs i=some v∧DA K F d v:=by
  unfold L2.atI at q ⊢
  obtain⟨j,h1,h2⟩:=Option.bind_eq_some_iff.mp q
  obtain⟨v,h3,h4⟩:=h.get h2
  exact⟨v,by rw [←h.len,h1];exact h3,h4⟩
theorem Hn:ia K (Gw K) dX:=by
  intro σ H0 F H e x y z v u Q R A B hg q
  unfold dX at hg
  obtain⟨⟨b,xs⟩,h1,hg⟩:=Option.bind_eq_some_iff.mp hg
  obtain⟨i,h2,hg⟩:=Option.bind_eq_some_iff.mp hg
  obtain⟨d,h3,hg⟩:=Option.map_eq_some_iff.mp hg
  cases hg
  obtain⟨p,vs,rfl,d1,s1⟩:=dZ R A h1
  obtain⟨w,h4,h5⟩:=d1.atI h3
  have fin:=q F H w (eU.refl _ _ _ _) R h5
  cases b with
  | true=>exact .inl ⟨p,vs,i,w,rfl,bx B h2,s1,h4,fin⟩
  | false=>exact .inr ⟨p,vs,i,w,rfl,bx B h2,s1,h4,fin⟩
end
end L2
namespace HT
open PySem PySem.Spec PyProof.Rows
section
variable{prog:Program}{w:World}{A:Around}{E:Value→Shared→Prop}{s:Shared}
theorem getItem_tuple_all{t sl:Addr}{items:Array Value}{vl vu:Value}{lo hi:Option Int}{Q:Value→Shared→Prop}(ht:IsTup s.heap t items)(hs:s.heap.IsSliceOf sl vl vu .none)(pl:IsPart vl lo)(pu:IsPart vu hi)
    (hw:sIx items.size 0 lo=0∧sIx items.size items.size hi=items.size)
    (h:Q (.ref t) s):wpAny (model prog w) A (getItem (.ref t) (.ref sl)) Q E s:=by
  obtain⟨os,hos,hcs,hds⟩:=id hs
  have hTs:s.TypeIs (.ref sl) "slice":=⟨os,hos,hcs⟩
  unfold getItem
  try with_reducible refine wpAny_holding ?_
  first | refine wpAny_bind (wpAny_pure ?_) | skip
  refine wpAny_bind (wpAny_sequenceKey ht.typeIs (by decide) ?_)
  refine wpAny_bind (wpAny_callSpecial?_slot (name:=Str.ofString "__getitem__") ht.typeIs PyProof.Rows.slot_tuple_getitem
    (wpAny_call_entry PyProof.Rows.slot_tuple_getitem ht.typeIs entry_tuple_getitem ?_ (args_tuple_getitem _ _)))
  show wpAny _ _ (Builtin.Tuple.tupleItemsOf (.ref t) >>= _) _ _ s
  refine wpAny_bind (tupleItemsOf_ ht ?_)
  refine wpAny_bind (wpAny_typeOf hTs ?_)
  rw [if_pos (by decide)]
  refine wpAny_bind (jj hs pl pu ?_)
  have hno:(((sIx items.size 0 lo:Nat):Int)==0&&(1:Int)==1&&(sIx items.size items.size hi - sIx items.size 0 lo)==items.size)=true:=by
    rw [hw.1,hw.2];simp
  show wpAny _ _ (if (((sIx items.size 0 lo:Nat):Int)==0&&(1:Int)==1&&(sIx items.size items.size hi - sIx items.size 0 lo)==items.size)=true then _ else _) _ _ s
  rw [if_pos hno]
  unfold Builtin.Tuple.tupleIsExact
  refine wpAny_bind (wpAny_bind (wpAny_typeOf ht.typeIs (wpAny_pure ?_)))
  rw [if_pos (by decide)]
  exact wpAny_bind (wpAny_rule (wpAny_pure ⟨_,rfl,wpAny_pure h⟩))
end
end HT
namespace L2
open PySem PySem.Spec PyProof.Rows
section
variable{X:Cx}{K:PySem.W.Frag}{a:Expr}{fa:FE}{lo hi:Option Expr}{pos p2:Pos}
def cutD(xs:List PyData)(lo hi:Option Int):List PyData:=(xs.drop (HT.sIx xs.length 0 lo)).take (HT.sIx xs.length xs.length hi - HT.sIx xs.length 0 lo)
def GB(K:PySem.W.Frag):V→Option Int→Option Int→Hp→VK→Prop:=fun x lo hi H Q=>∃a xs,x=.ref a∧cg K H a xs∧
  (HT.sIx xs.length 0 lo=0∧HT.sIx xs.length xs.length hi=xs.length)∧Q (.ref a) H
theorem B9:AH X (GB X.K):=by
  intro pins s σ H x v vl vu lo hi sl Q I rx hs pl pu h
  obtain⟨a,xs,rfl,hx,hw,q⟩:=h
  cases rx
  obtain⟨its,r,ht,hz⟩:=I.tuple hx
  have hlen:its.toArray.size=xs.length:=by rw [List.size_toArray];exact r.length.symm
  refine⟨"tuple",_,PyProof.Rows.slot_tuple_getitem.lookup,ht.typeIs,?_⟩
  exact HT.getItem_tuple_all ht hs pl pu (by rw [hlen];exact hw) ⟨.ref a,H,I,rfl,q⟩
def Hw(K:PySem.W.Frag):V→Option Int→Option Int→Hp→VK→Prop:=fun x lo hi H Q=>GA K x lo hi H Q∨(GB K x lo hi H Q∨Gz K x lo hi H Q)
theorem Hx:AH X (Hw X.K):=EO.or (B9.or B8)
abbrev FO:=En→Option (Option Int × En)
def fO(K:PySem.W.Frag)(f:FO):TO:=fun σ H Q=>∃F e o e',bh K F H σ e∧f e=some (o,e')∧∀F' H',eU σ F H e F' H' e'→bh K F' H' σ e'→Q o H'
theorem PO.mono{e:Option Expr}{t t':TO}(h:PO X e t)(m:∀σ H Q,t' σ H Q→t σ H Q):PO X e t':=fun pins s σ H Q I q=>h pins s σ H Q I (m σ H Q q)
def bO:FO:=fun e=>some (none,e)
def bJ(f:FE):FO:=fun e=>(f e).bind fun p=>(bA p.1).map fun i=>(some i,p.2)
theorem bS:PO X none (fO K bO):=BO.mono fun σ H Q h=>by
  obtain⟨F,e,o,e',R,hf,q⟩:=h
  cases hf
  exact q F H (eU.refl _ _ _ _) R
theorem bT(h:PE X a (fE K fa)):PO X (some a) (fO K (bJ fa)):=(BP h).mono fun σ H Q h=>by
  obtain⟨F,e,o,e',R,hf,q⟩:=h
  unfold bJ at hf
  obtain⟨⟨x,e1⟩,h1,hf⟩:=Option.bind_eq_some_iff.mp hf
  obtain⟨i,h2,hf⟩:=Option.map_eq_some_iff.mp hf
  cases hf
  exact⟨F,e,x,_,R,h1,fun F1 H1 v X1 R1 A1=>⟨i,bx A1 h2,q F1 H1 X1 R1⟩⟩
def A8(e:En)(x:Rv)(lo hi:Option Int):Option Rv:=(eQ e x).map fun p=>if p.1=true then .l (cutD p.2 lo hi) else .d (.tuple (cutD p.2 lo hi))
def lu(fa:FE)(fl fh:FO):FE:=fun e=>(fa e).bind fun p=>(fl p.2).bind fun l=>(fh l.2).bind fun h=>(A8 h.2 p.1 l.1 h.1).map fun z=>(z,h.2)
theorem yu{F:Hp}{ds:List PyData}{vs:List V}(h:aU K F ds vs)(lo hi:Option Int):aU K F (cutD ds lo hi) (qi vs lo hi):=by
  unfold cutD qi
  rw [h.len]
  exact(h.drop _).take _
theorem AS{α:Type}{xs:List α}{lo hi:Option Int}(h:HT.sIx xs.length 0 lo=0∧HT.sIx xs.length xs.length hi=xs.length):(xs.drop (HT.sIx xs.length 0 lo)).take (HT.sIx xs.length xs.length hi - HT.sIx xs.length 0 lo)=xs:=by
  rw [h.1,h.2];simp
theorem zG{fl fh:FO}(he:PE X a (fE X.K fa))(hl:PO X lo (fO X.K fl))(hh:PO X hi (fO X.K fh)):PE X (.Subscript a (.Slice lo hi none p2) pos) (fE X.K (lu fa fl fh)):=(zl Hx he hl hh).mono fun σ H Q h=>by
  obtain⟨F,e,z,e',R,hf,q⟩:=h
  unfold lu at hf
  obtain⟨⟨x,e1⟩,h1,hf⟩:=Option.bind_eq_some_iff.mp hf
  obtain⟨⟨l,e2⟩,h2,hf⟩:=Option.bind_eq_some_iff.mp hf
  obtain⟨⟨u,e3⟩,h3,hf⟩:=Option.bind_eq_some_iff.mp hf
  obtain⟨z',h4,hf⟩:=Option.map_eq_some_iff.mp hf
  cases hf
  refine⟨F,e,x,e1,R,h1,fun F1 H1 v X1 R1 A1=>⟨F1,e1,l,e2,R1,h2,fun F2 H2 X2 R2=>⟨F2,e2,u,_,R2,h3,fun F3 H3 X3 R3=>?_⟩⟩⟩
  have X12:=X1.trans X2
  have X13:=X12.trans X3
  have A3:=(A1.ext X2).ext X3
  unfold A8 at h4
  obtain⟨⟨b,xs⟩,h5,h4⟩:=Option.map_eq_some_iff.mp h4
  obtain⟨p,vs,rfl,d1,s1⟩:=dZ R3 A3 h5
  cases b with
  | true=>
    rw [if_pos rfl] at h4;cases h4
    refine .inr (.inr ⟨p,vs,rfl,s1,fun t ht=>?_⟩)
    obtain⟨R4,X4,hF,no⟩:=R3.newL (vs:=qi vs l u) ht
    exact q _ _ _ (X13.trans X4) R4 ⟨t,_,rfl,X13.dom _ ht,hF,ay,yu d1 l u,no⟩
  | false=>
    rw [if_neg (by simp)] at h4;cases h4
    by_cases hw:HT.sIx vs.length 0 l=0∧HT.sIx vs.length vs.length u=vs.length
    · refine .inr (.inl ⟨p,vs,rfl,s1,hw,?_⟩)
      have e5:cutD xs l u=xs:=by unfold cutD;exact AS (by rw [d1.len];exact hw)
      rw [e5] at q
      obtain⟨F4,R4,X4,hF⟩:=R3.growT (aD.refl _) s1
      exact q _ _ _ (X13.trans X4) R4 (eF.mpr ⟨p,vs,rfl,hF,d1.mono X4.sf⟩)
    · refine .inl ⟨p,vs,rfl,s1,hw,fun t ht=>?_⟩
      obtain⟨R4,X4⟩:=R3.newT (vs:=qi vs l u) ht
      exact q _ _ _ (X13.trans X4) R4 (eF.mpr ⟨t,_,rfl,.inl (.inl ay),(yu d1 l u).mono X4.sf⟩)
end
section
variable{X:Cx}{K:PySem.W.Frag}
theorem mG{σ:L2.St}{H0 F H:Hp}{e:En}{x:Rv}{vs:List V}(h:dJ K σ H0 F H e [x] vs):∃v,vs=[v]∧cU K σ H0 F H e x v:=by
  obtain⟨v,ws,rfl,h1,h2⟩:=h
  have h2':ws=[]:=h2
  subst h2'
  exact⟨v,rfl,h1⟩
theorem oU{σ:L2.St}{H0 F H:Hp}{e:En}{x y:Rv}{vs:List V}(h:dJ K σ H0 F H e [x,y] vs):∃v u,vs=[v,u]∧cU K σ H0 F H e x v∧cU K σ H0 F H e y u:=by
  obtain⟨v,ws,rfl,h1,h2⟩:=h
  obtain⟨u,rfl,h3⟩:=mG h2
  exact⟨v,u,rfl,h1,h3⟩
def g1(g:En→Rv→Option Rv):En→List Rv→Option Rv:=fun e xs=>match xs with
  | [x]=>g e x
  | _=>none
def g2(g:En→Rv→Rv→Option Rv):En→List Rv→Option Rv:=fun e xs=>match xs with
  | [x,y]=>g e x y
  | _=>none
theorem iE{r:List V→Hp→VK→Prop}{g:En→Rv→Option Rv}(h:Fo K (fun v H Q=>r [v] H Q) g):eV K r (g1 g):=by
  intro σ H0 F H e xs z vs Q R A hg q
  unfold g1 at hg
  match xs,hg with
  | [x],hg=>
    obtain⟨v,rfl,h1⟩:=mG A
    exact h σ H0 F H e x z v Q R h1 hg q
theorem vT{r:List V→Hp→VK→Prop}{g:En→Rv→Rv→Option Rv}(h:ia K (fun v u H Q=>r [v,u] H Q) g):eV K r (g2 g):=by
  intro σ H0 F H e xs z vs Q R A hg q
  unfold g2 at hg
  match xs,hg with
  | [x,y],hg=>
    obtain⟨v,u,rfl,h1,h2⟩:=oU A
    exact h σ H0 F H e x y z v u Q R h1 h2 hg q
def cV:En→Rv→Option Rv:=fun e x=>(eQ e x).map fun p=>.d (.int p.2.length)
theorem FV:eV K (fun xs H Q=>∃p ys,xs=[.ref p]∧(cW K H p ys∨cg K H p ys)∧Q (.int ys.length) H) (g1 cV):=iE fun σ H0 F H e x z v Q R A hg q=>by
  obtain⟨⟨b,xs⟩,h5,h4⟩:=Option.map_eq_some_iff.mp hg
  obtain⟨p,vs,rfl,d1,s1⟩:=dZ R A h5
  cases h4
  refine⟨p,vs,rfl,?_,?_⟩
  · cases b with
    | true=>exact .inl s1
    | false=>exact .inr s1
  · rw [←d1.len]
    exact q F H _ (eU.refl _ _ _ _) R nA
def wZ:En→Rv→Option Rv:=fun _ x=>(bA x).map fun i=>.d (.int (if i < 0 then -i else i))
theorem Fq:eV K (fun xs H Q=>∃i,xs=[.int i]∧Q (.int (if i < 0 then -i else i)) H) (g1 wZ):=iE fun σ H0 F H e x z v Q R A hg q=>by
  obtain⟨i,h5,h4⟩:=Option.map_eq_some_iff.mp hg
  cases h4
  exact⟨i,by rw [bx A h5],q F H _ (eU.refl _ _ _ _) R nA⟩
def w_:En→Rv→Option Rv:=fun _ x=>match x with
  | .d (.int i)=>some (.d (.int i))
  | .d (.bool k)=>some (.d (.int (if k then 1 else 0)))
  | _=>none
theorem FN:eV K (fun xs H Q=>(∃i,xs=[.int i]∧Q (.int i) H)∨∃k,xs=[.bl k]∧Q (.int (if k then 1 else 0)) H) (g1 w_):=iE fun σ H0 F H e x z v Q R A hg q=>by
  unfold w_ at hg
  split at hg
  · cases hg
    exact .inl ⟨_,by rw [bY.mp (show DA K F (.int _) v from A)],q F H _ (eU.refl _ _ _ _) R nA⟩
  · cases hg
    exact .inr ⟨_,by rw [dW.mp (show DA K F (.bool _) v from A)],q F H _ (eU.refl _ _ _ _) R nA⟩
  · cases hg
def tM:=gI (fun _ _=>true) fun i j=>.int (if j < i then j else i)
def oD:=gI (fun _ _=>true) fun i j=>.int (if j > i then j else i)
theorem FY:eV K (fun xs H Q=>∃i j,xs=[.int i,.int j]∧Q (.int (if j < i then j else i)) H) (g2 tM):=vT fun σ H0 F H e x y z v u Q R A B hg q=>by
  obtain⟨i,j,h1,h2,h3⟩:=kz (K:=K) (g:=fun i j=>.int (if j < i then j else i)) (fun _ _ _=>bY.mpr rfl) σ H0 F H e x y z v u Q R A B hg q
  exact⟨i,j,by rw [h1,h2],h3⟩
theorem FX:eV K (fun xs H Q=>∃i j,xs=[.int i,.int j]∧Q (.int (if j > i then j else i)) H) (g2 oD):=vT fun σ H0 F H e x y z v u Q R A B hg q=>by
  obtain⟨i,j,h1,h2,h3⟩:=kz (K:=K) (g:=fun i j=>.int (if j > i then j else i)) (fun _ _ _=>bY.mpr rfl) σ H0 F H e x y z v u Q R A B hg q
  exact⟨i,j,by rw [h1,h2],h3⟩
def cP:En→Rv→Option Rv:=fun e x=>(eQ e x).map fun p=>.d (.tuple p.2)
theorem Ci:eV K (fun xs H Q=>∃p ys,xs=[.ref p]∧((cW K H p ys∧∀l,H l=none→Q (.ref l) (bc H l (.tup ys)))∨(cg K H p ys∧Q (.ref p) H))) (g1 cP):=iE fun σ H0 F H e x z v Q R A hg q=>by
  obtain⟨⟨b,xs⟩,h5,h4⟩:=Option.map_eq_some_iff.mp hg
  obtain⟨p,vs,rfl,d1,s1⟩:=dZ R A h5
  cases h4
  refine⟨p,vs,rfl,?_⟩
  cases b with
  | true=>
    refine .inl ⟨s1,fun t ht=>?_⟩
    obtain⟨R4,X4⟩:=R.newT (vs:=vs) ht
    exact q _ _ _ X4 R4 (eF.mpr ⟨t,_,rfl,.inl (.inl ay),d1.mono X4.sf⟩)
  | false=>
    obtain⟨F4,R4,X4,hF⟩:=R.growT (aD.refl _) s1
    exact .inr ⟨s1,q _ _ _ X4 R4 (eF.mpr ⟨p,vs,rfl,hF,d1.mono X4.sf⟩)⟩
def CU:En→Rv→Option Rv:=fun e x=>(eQ e x).map fun p=>.l p.2
theorem DO:eV K (fun xs H Q=>∃p ys,xs=[.ref p]∧(cW K H p ys∨cg K H p ys)∧∀l,H l=none→Q (.ref l) (bc H l (.lst ys))) (g1 CU):=iE fun σ H0 F H e x z v Q R A hg q=>by
  obtain⟨⟨b,xs⟩,h5,h4⟩:=Option.map_eq_some_iff.mp hg
  obtain⟨p,vs,rfl,d1,s1⟩:=dZ R A h5
  cases h4
  refine⟨p,vs,rfl,?_,fun t ht=>?_⟩
  · cases b with
    | true=>exact .inl s1
    | false=>exact .inr s1
  · obtain⟨R4,X4,hF,no⟩:=R.newL (vs:=vs) ht
    exact q _ _ _ X4 R4 ⟨t,_,rfl,ht,hF,ay,d1,no⟩
def eW:List PyData→Option (List Int)
  | []=>some []
  | .int i::r=>(eW r).map (i::·)
  | _=>none
theorem pF:∀{ds:List PyData} {ns:List Int},eW ds=some ns→ds=ns.map .int
  | [],_,h=>by cases h;rfl
  | .int i::r,_,h=>by
    obtain⟨ns,h1,rfl⟩:=Option.map_eq_some_iff.mp h
    rw [pF h1];rfl
theorem dz:∀(ns:List Int),eW (ns.map .int)=some ns
  | []=>rfl
  | i::r=>by simp [eW,dz r]
def m4:List PyData→Option (List Bool)
  | []=>some []
  | .bool i::r=>(m4 r).map (i::·)
  | _=>none
theorem qJ:∀{ds:List PyData} {ns:List Bool},m4 ds=some ns→ds=ns.map .bool
  | [],_,h=>by cases h;rfl
  | .bool i::r,_,h=>by
    obtain⟨ns,h1,rfl⟩:=Option.map_eq_some_iff.mp h
    rw [qJ h1];rfl
def jP(g:List PyData→Option PyData):En→Rv→Option Rv:=fun e x=>match eQ e x with
  | some (true,xs)=>(g xs).map .d
  | _=>none
theorem EN{r:List V→Hp→VK→Prop}{g:List PyData→Option PyData}(h:∀(F H:Hp) (p:Addr) (xs:List PyData) (vs:List V) (d:PyData) (Q:VK),aU K F xs vs→cW K H p vs→g xs=some d→(∀v,(∀F,DA K F d v)→Q v H)→r [.ref p] H Q):eV K r (g1 (jP g)):=iE fun σ H0 F H e x z v Q R A hg q=>by
  unfold jP at hg
  split at hg
  case h_2=>cases hg
  case h_1 xs h5=>
  obtain⟨p,vs,rfl,d1,s1⟩:=dZ R A h5
  obtain⟨d,h6,hg⟩:=Option.map_eq_some_iff.mp hg
  cases hg
  exact h F H p xs vs d Q d1 s1 h6 fun v hv=>q F H v (eU.refl _ _ _ _) R (hv F)
def lx:List PyData→Option PyData:=fun xs=>(m4 xs).map fun ns=>.bool (ns.all id)
theorem Ft:eV K (fun xs H Q=>∃(l:Addr) (bs:List Bool),xs=[.ref l]∧cW K H l (bs.map V.bl)∧Q (.bl (bs.all id)) H) (g1 (jP lx)):=EN fun F H p xs vs d Q d1 s1 hg q=>by
  obtain⟨ns,h1,h2⟩:=Option.map_eq_some_iff.mp hg
  cases h2
  rw [qJ h1] at d1
  rw [aU.bools.mp d1] at s1
  exact⟨p,ns,rfl,s1,q _ fun _=>dW.mpr rfl⟩
def uQ:En→Rv→Option Rv:=fun e x=>match eQ e x with
  | some (false,xs)=>(eW xs).bind fun ns=>if ns.length < 64 then some (.l ((eX ns).map .int)) else none
  | _=>none
def zK(K:PySem.W.Frag):List V→Hp→VK→Prop:=fun xs H Q=>∃(a:Addr) (ns:List Int),xs=[.ref a]∧cg K H a (ns.map V.int)∧ns.length < 64∧∀(l:Addr) (H':Hp),aD H H'→H l=none→H' l=some (.lst ((eX ns).map V.int))→Q (.ref l) H'
theorem uJ:ed X (.builtin "sorted") (zK X.K):=by
  intro pins s σ H xs us Q I rv h
  obtain⟨a,ns,e1,e2,e3,q⟩:=h
  exact nR pins s σ H xs us Q I rv ⟨a,ns,e1,e2,e3,fun l ns' H' sm hn hl hp hs=>q l H' sm hn (by rw [←mT hp hs];exact hl)⟩
theorem B_:eV K (zK K) (g1 uQ):=iE fun σ H0 F H e x z v Q R A hg q=>by
  unfold uQ at hg
  split at hg
  case h_2=>cases hg
  case h_1 xs h5=>
  obtain⟨p,vs,rfl,d1,s1⟩:=dZ R A h5
  obtain⟨ns,h6,hg⟩:=Option.bind_eq_some_iff.mp hg
  split at hg
  case isFalse=>cases hg
  case isTrue hl=>
  cases hg
  rw [pF h6] at d1
  have s1':cg K H p vs:=s1
  rw [aU.ints.mp d1] at s1'
  refine⟨p,ns,rfl,s1',hl,fun l H' sm hn hl'=>?_⟩
  obtain⟨R4,X4⟩:=R.same sm
  exact q F H' _ X4 R4 ⟨l,_,rfl,hn,R.freeF hn,hl',aU.ints.mpr rfl,fun z=>R.ownH l ((R.sameOwn sm l).mp z) hn⟩
mutual
def CQ:PyData→Bool
  | .tuple ds=>vZ ds
  | .list _=>false
  | .dict _=>false
  | _=>true
def vZ:List PyData→Bool
  | []=>true
  | d::r=>CQ d&&vZ r
end
mutual
def yZ:PyData→Bool
  | .list _=>false
  | .tuple ds=>tS ds
  | _=>true
def tS:List PyData→Bool
  | []=>true
  | d::r=>yZ d&&tS r
end
end
end L2
namespace L2
open PySem PySem.Spec PyProof.Rows
section
variable{K:PySem.W.Frag}{σ:L2.St}{H0 F H F' H':Hp}{e e':En}
theorem bh.upd1(R:bh K F H σ e){σ':L2.St}(i:Nat)(hl:σ'.length=e'.length)(hσ:∀j,j≠i→σ'[j]?=σ[j]?)(he:∀j,j≠i→e'[j]?=e[j]?)(sF:aD F F')(sm:aD F' H')(hf:∀j a,j≠i→Fp σ e H j a→F' a=none)
    (hh:∀j a o,j≠i→Fp σ e H j a→H a=some o→H' a=some o)(hd:∀x,e'[i]?=some (some (.d x))→∃v,σ'[i]?=some (some v)∧DA K F' x v)
    (ho:∀xs,e'[i]?=some (some (.l xs))→∃l vs,σ'[i]?=some (some (.ref l))∧F' l=none∧H' l=some (.lst vs)∧aU K F' xs vs)
    (hn:∀xss,e'[i]?=some (some (.n xss))→∃(l:Addr) (bs:List Addr),σ'[i]?=some (some (.ref l))∧F' l=none∧H' l=some (.lst (bs.map V.ref))∧bs.length=xss.length∧bs.Nodup∧l∉bs∧
      ∀(k:Nat) (b:Addr) (ys:List PyData),bs[k]?=some b→xss[k]?=some ys→F' b=none∧∃us,H' b=some (.lst us)∧aU K F' ys us)
    (hi:∀a j,j≠i→Fp σ' e' H' i a→¬Fp σ e H j a):bh K F' H' σ' e'∧∀j a,j≠i→(Fp σ' e' H' j a↔ Fp σ e H j a):=by
  have fs:∀j a,j≠i→(Fp σ' e' H' j a↔ Fp σ e H j a):=by
    intro j a hj
    have key:∀xss l,e[j]?=some (some (.n xss))→σ[j]?=some (some (.ref l))→H' l=H l:=fun xss l h1 h2=>by
      obtain⟨l',bs,g1,g2,g3,_⟩:=R.nst j xss h1
      rw [h2] at g1;cases g1
      rw [g3]
      exact hh j l _ hj (.inr ⟨xss,l,bs,h1,h2,g3,.inl rfl⟩) g3
    unfold Fp
    rw [he j hj,hσ j hj]
    constructor
    · rintro(h1 | ⟨xss,l,bs,h1,h2,h3,h4⟩)
      · exact .inl h1
      · exact .inr ⟨xss,l,bs,h1,h2,by rw [←key xss l h1 h2];exact h3,h4⟩
    · rintro(h1 | ⟨xss,l,bs,h1,h2,h3,h4⟩)
      · exact .inl h1
      · exact .inr ⟨xss,l,bs,h1,h2,by rw [key xss l h1 h2];exact h3,h4⟩
  refine⟨⟨sm,hl,fun j x q=>?_,fun j xs q=>?_,fun j xss q=>?_,fun j k a q1 q2=>?_⟩,fs⟩
  · by_cases z:j=i
    · subst z;exact hd x q
    · rw [he j z] at q
      obtain⟨v,h1,h2⟩:=R.dat j x q
      exact⟨v,by rw [hσ j z];exact h1,DA.mono sF h2⟩
  · by_cases z:j=i
    · subst z;exact ho xs q
    · rw [he j z] at q
      obtain⟨l,vs,h1,h2,h3,h4⟩:=R.own j xs q
      have o:Fp σ e H j l:=.inl ⟨xs,q,h1⟩
      exact⟨l,vs,by rw [hσ j z];exact h1,hf j l z o,hh j l _ z o h3,h4.mono sF⟩
  · by_cases z:j=i
    · subst z;exact hn xss q
    · rw [he j z] at q
      obtain⟨l,bs,h1,h2,h3,h4,h5,h6,h7⟩:=R.nst j xss q
      have o:Fp σ e H j l:=.inr ⟨xss,l,bs,q,h1,h3,.inl rfl⟩
      refine⟨l,bs,by rw [hσ j z];exact h1,hf j l z o,hh j l _ z o h3,h4,h5,h6,fun k b ys g1 g2=>?_⟩
      obtain⟨c1,us,c2,c3⟩:=h7 k b ys g1 g2
      have ob:Fp σ e H j b:=.inr ⟨xss,l,bs,q,h1,h3,.inr (List.mem_of_getElem? g1)⟩
      exact⟨hf j b z ob,us,hh j b _ z ob c2,c3.mono sF⟩
  · by_cases zj:j=i
    · subst zj
      by_cases zk:k=j
      · exact zk.symm
      · exact absurd ((fs k a zk).mp q2) (hi a k zk q1)
    · by_cases zk:k=i
      · subst zk
        exact absurd ((fs j a zj).mp q1) (hi a j zj q2)
      · exact R.fp j k a ((fs j a zj).mp q1) ((fs k a zk).mp q2)
theorem bh.putL(R:bh K F H σ e){i:Nat}{xs ys:List PyData}{l:Addr}{vs:List V}(hi:e[i]?=some (some (.l xs)))(hl:σ[i]?=some (some (.ref l)))(hd:aU K F ys vs):
    bh K F (bc H l (.lst vs)) σ (e.set i (some (.l ys)))∧eU σ F H e F (bc H l (.lst vs)) (e.set i (some (.l ys))):=by
  obtain⟨l',vs',h1,h2,h3,h4⟩:=R.own i xs hi
  rw [hl] at h1;cases h1
  have hlt:i < e.length:=(List.getElem?_eq_some_iff.mp hi).1
  have fi:Fp σ e H i l:=.inl ⟨xs,hi,hl⟩
  have gi:(e.set i (some (Sv.l ys)))[i]?=some (some (.l ys)):=List.getElem?_set_self hlt
  obtain⟨R',fs⟩:=R.upd1 (F':=F) (H':=bc H l (.lst vs)) (e':=e.set i (some (.l ys))) i (by rw [List.length_set];exact R.len) (fun _ _=>rfl) (fun j hj=>List.getElem?_set_ne (Ne.symm hj)) (aD.refl F)
    (fun b o q=>by
      have z:b≠l:=fun z=>by rw [z,h2] at q;cases q
      rw [aF z];exact R.sm b o q)
    (fun j a _ q=>(R.fpAt q).1)
    (fun j a o hj q ha=>by
      have z:a≠l:=fun z=>hj (R.fp j i a q (by rw [z];exact fi))
      rw [aF z];exact ha)
    (fun x q=>by rw [gi] at q;cases q) (fun zs q=>by rw [gi] at q;cases q;exact⟨l,vs,hl,h2,ay,hd⟩) (fun xss q=>by rw [gi] at q;cases q)
    (fun a j hj q q2=>by
      rcases q with ⟨zs,_,q⟩ | ⟨xss,_,_,q,_⟩
      · rw [hl] at q;cases q
        exact hj (R.fp j i _ q2 fi)
      · rw [gi] at q;cases q)
  refine⟨R',⟨aD.refl _,fun a q=>?_,fun _ _ q _ _=>q,fun a ws q=>?_,fun a o q n=>?_,fun j=>?_,fun a ⟨j,q⟩=>?_⟩⟩
  · by_cases z:a=l
    · rw [z,ay] at q;cases q
    · rw [aF z] at q;exact q
  · by_cases z:a=l
    · rw [z];exact⟨vs,ay⟩
    · rw [aF z];exact⟨ws,q⟩
  · have z:a≠l:=fun z=>n ⟨i,by rw [z];exact fi⟩
    rw [aF z];exact q
  · by_cases z:j=i
    · subst z;rw [gi];exact⟨fun _=>⟨xs,hi⟩,fun _=>⟨ys,rfl⟩⟩
    · rw [List.getElem?_set_ne (Ne.symm z)]
  · by_cases z:j=i
    · subst z
      rcases q with ⟨zs,_,q⟩ | ⟨xss,_,_,q,_⟩
      · rw [hl] at q;cases q;exact .inl ⟨j,fi⟩
      · rw [gi] at q;cases q
    · exact .inl ⟨j,(fs j a z).mp q⟩
theorem bh.setD(R:bh K F H σ e)(i:Nat){x:PyData}{v:V}(h:DA K F x v):bh K F H (σ.set i (some v)) (e.set i (some (.d x)))∧∀a,dt (σ.set i (some v)) (e.set i (some (.d x))) H a→dt σ e H a:=by
  have gi:∀s,(e.set i (some (Sv.d x)))[i]?=some (some s)→s=.d x∧i < e.length:=fun s q=>by
    have hlt:i < e.length:=by have:=(List.getElem?_eq_some_iff.mp q).1;simpa using this
    rw [List.getElem?_set_self hlt] at q
    exact⟨(Option.some.inj (Option.some.inj q)).symm,hlt⟩
  have nofp:∀a,¬Fp (σ.set i (some v)) (e.set i (some (.d x))) H i a:=fun a q=>by
    rcases q with ⟨zs,q,_⟩ | ⟨xss,_,_,q,_⟩
    · cases (gi _ q).1
    · cases (gi _ q).1
  obtain⟨R',fs⟩:=R.upd1 (F':=F) (H':=H) (σ':=σ.set i (some v)) (e':=e.set i (some (.d x))) i (by rw [List.length_set,List.length_set];exact R.len) (fun j hj=>List.getElem?_set_ne (Ne.symm hj)) (fun j hj=>List.getElem?_set_ne (Ne.symm hj)) (aD.refl F) R.sm
    (fun j a _ q=>(R.fpAt q).1) (fun j a o _ _ ha=>ha)
    (fun y q=>by
      obtain⟨z,hlt⟩:=gi _ q
      cases z
      exact⟨v,List.getElem?_set_self (by rw [R.len];exact hlt),h⟩)
    (fun zs q=>by cases (gi _ q).1) (fun xss q=>by cases (gi _ q).1) (fun a j hj q=>absurd q (nofp a))
  refine⟨R',fun a ⟨j,q⟩=>?_⟩
  by_cases z:j=i
  · subst z;exact absurd q (nofp a)
  · exact⟨j,(fs j a z).mp q⟩
theorem bh.setL(R:bh K F H σ e)(i:Nat){xs:List PyData}{l:Addr}{vs:List V}(h1:F l=none)(h2:H l=some (.lst vs))(h3:aU K F xs vs)(h4:¬dt σ e H l):bh K F H (σ.set i (some (.ref l))) (e.set i (some (.l xs)))∧∀a,dt (σ.set i (some (.ref l))) (e.set i (some (.l xs))) H a→dt σ e H a∨a=l:=by
  have gi:∀s,(e.set i (some (Sv.l xs)))[i]?=some (some s)→s=.l xs∧i < e.length:=fun s q=>by
    have hlt:i < e.length:=by have:=(List.getElem?_eq_some_iff.mp q).1;simpa using this
    rw [List.getElem?_set_self hlt] at q
    exact⟨(Option.some.inj (Option.some.inj q)).symm,hlt⟩
  have onefp:∀a,Fp (σ.set i (some (.ref l))) (e.set i (some (.l xs))) H i a→a=l:=fun a q=>by
    rcases q with ⟨zs,q,q2⟩ | ⟨xss,_,_,q,_⟩
    · obtain⟨_,hlt⟩:=gi _ q
      rw [List.getElem?_set_self (by rw [R.len];exact hlt)] at q2
      cases q2;rfl
    · cases (gi _ q).1
  obtain⟨R',fs⟩:=R.upd1 (F':=F) (H':=H) (σ':=σ.set i (some (.ref l))) (e':=e.set i (some (.l xs))) i (by rw [List.length_set,List.length_set];exact R.len) (fun j hj=>List.getElem?_set_ne (Ne.symm hj)) (fun j hj=>List.getElem?_set_ne (Ne.symm hj)) (aD.refl F) R.sm
    (fun j a _ q=>(R.fpAt q).1) (fun j a o _ _ ha=>ha) (fun y q=>by cases (gi _ q).1)
    (fun zs q=>by
      obtain⟨z,hlt⟩:=gi _ q
      cases z
      exact⟨l,vs,List.getElem?_set_self (by rw [R.len];exact hlt),h1,h2,h3⟩)
    (fun xss q=>by cases (gi _ q).1) (fun a j hj q q2=>h4 ⟨j,by rw [onefp a q] at q2;exact q2⟩)
  refine⟨R',fun a ⟨j,q⟩=>?_⟩
  by_cases z:j=i
  · subst z;exact .inr (onefp a q)
  · exact .inl ⟨j,(fs j a z).mp q⟩
end
section
variable{X:Cx}{K:PySem.W.Frag}{o a:Expr}{es:List Expr}{fo:FE}{fs:FA}{name:Str}{apos cpos:Pos}{id:String}
def vM(K:PySem.W.Frag)(r:V→List V→Hp→VK→Prop)(g:List PyData→List PyData→Option (PyData × List PyData)):Prop:=
  ∀(F H:Hp) (l:Addr) (xs ys ds:List PyData) (z:PyData) (vs us:List V) (Q:VK),F l=none→aD F H→H l=some (.lst vs)→aU K F xs vs→aU K F ds us→g xs ds=some (z,ys)→
    (∀w ws,DA K F z w→aU K F ys ws→Q w (bc H l (.lst ws)))→r (.ref l) us H Q
def bX(g:List PyData→List PyData→Option (PyData × List PyData))(fo:FE)(fs:FA):FE:=fun e=>(fo e).bind fun p=>match p.1 with
  | .s i=>(fs p.2).bind fun q=>(ii q.1).bind fun ds=>match q.2[i]? with
    | some (some (.l xs))=>(g xs ds).map fun z=>(.d z.1,q.2.set i (some (.l z.2)))
    | _=>none
  | _=>none
theorem Ar{r:V→List V→Hp→VK→Prop}{g:List PyData→List PyData→Option (PyData × List PyData)}(hm:vM K r g){σ:L2.St}{H:Hp}{Q:VK}(h:fE K (bX g fo fs) σ H Q):HS K "list" r (fE K fo) (fA K fs) σ H Q:=by
  obtain⟨F,e,z,e',R,hf,q⟩:=h
  unfold bX at hf
  obtain⟨⟨x,e1⟩,h1,hf⟩:=Option.bind_eq_some_iff.mp hf
  match x,h1,hf with
  | .s i,h1,hf=>
  dsimp only at hf
  obtain⟨⟨rs,e2⟩,h2,hf⟩:=Option.bind_eq_some_iff.mp hf
  obtain⟨ds,h3,hf⟩:=Option.bind_eq_some_iff.mp hf
  refine⟨F,e,_,e1,R,h1,fun F1 H1 v X1 R1 A1=>?_⟩
  obtain⟨g1,zs,g2⟩:=A1
  obtain⟨l,vs,c1,c2,c3,c4⟩:=R1.own i zs g2
  rw [g1] at c1;cases c1
  refine⟨.inl ⟨rfl,vs,.inl (.inl c3)⟩,F1,e1,rs,e2,R1,h2,fun F2 H2 us X2 R2 A2=>?_⟩
  match h4:e2[i]?,hf with
  | some (some (.l xs)),hf=>
  dsimp only at hf
  obtain⟨⟨zd,ys⟩,h5,hf⟩:=Option.map_eq_some_iff.mp hf
  cases hf
  obtain⟨F3,R3,s3,d3,f3⟩:=dJ.frozen R2 A2 h3
  obtain⟨l',vs',k1,k2,k3,k4⟩:=R3.own i xs h4
  rw [g1] at k1;cases k1
  refine hm F3 H2 l xs ys ds zd vs' us Q k2 R3.sm k3 k4 d3 h5 fun w ws hw hws=>?_
  obtain⟨R4,X4⟩:=R3.putL h4 g1 hws
  exact q _ _ _ ((X1.trans (X2.frz s3 f3)).trans X4) R4 hw
theorem C6{r:V→List V→Hp→VK→Prop}{g:List PyData→List PyData→Option (PyData × List PyData)}(slot:Slot "list" name id)(hty:typeOf (.builtin id)=pure (.type "method_descriptor"))(hm:HJ X id r)(hf:vM X.K r g)(ho:PE X o (fE X.K fo))(ha:PA X (a::es) (fA X.K fs))
    (hbase:attributeBase o name X.env (eval o X.env)=eval o X.env)
    (hfew:((backTo cpos (starEach (a::es) X.env)).all (fun x=> !x.1)&&(backToKw cpos (keywordEach [] X.env)).all (fun x=>x.1.isSome)
      &&decide ((a::es).length+([]:List Keyword).length+(if ([]:List Keyword).isEmpty then 0 else 1) < 30))=true)
    (hline:(apos.endLine==cpos.line)=true)(hs:starEach (a::es) X.env=(false,eval a X.env)::starEach es X.env)(hplain:(backTo cpos (starEach es X.env)).any (·.1)=false):
    PE X (.Call (.Attribute o name apos) (a::es) [] cpos) (fE X.K (bX g fo fs)):=(ze PySem.F.plainAttrs_list slot hty hm ho ha hbase hfew hline hs hplain).mono fun _ _ _ h=>Ar hf h
def bg:List PyData→List PyData→Option (PyData × List PyData):=fun xs ds=>match ds with
  | [d]=>if xs.length < 1000000 then some (.none,xs++[d]) else none
  | _=>none
theorem ye:vM K ww bg:=by
  intro F H l xs ys ds z vs us Q hF sm hl d1 d2 hg q
  unfold bg at hg
  match ds,hg,d2 with
  | [d],hg,d2=>
    simp only [aU] at d2
    obtain⟨w,r,rfl,hw,rfl⟩:=d2
    dsimp only at hg
    split at hg
    case isFalse=>cases hg
    case isTrue hlt=>
    cases hg
    have:=d1.len
    have sl:sizeLine=16777216:=sizeLine_eq
    exact⟨l,vs,w,rfl,rfl,hl,by lia,q _ _ (iF.mpr rfl) (d1.append (aU.one hw))⟩
def tR:List PyData→List PyData→Option (PyData × List PyData):=fun xs ds=>match ds with
  | []=>(xs[xs.length - 1]?).map fun d=>(d,xs.dropLast)
  | _=>none
def eN:List PyData→List PyData→Option (PyData × List PyData):=fun xs ds=>match ds with
  | [.int i]=>if 0≤i∧i < 1000000000 then(xs[i.toNat]?).map fun d=>(d,xs.eraseIdx i.toNat) else none
  | _=>none
theorem BQ:vM K zI eN:=by
  intro F H l xs ys ds z vs us Q hF sm hl d1 d2 hg q
  unfold eN at hg
  match ds,hg,d2 with
  | [.int i],hg,d2=>
    simp only [aU,DA] at d2
    obtain⟨w,r,rfl,rfl,rfl⟩:=d2
    dsimp only at hg
    split at hg
    case isFalse=>cases hg
    case isTrue hlt=>
    obtain⟨d,h1,h2⟩:=Option.map_eq_some_iff.mp hg
    cases h2
    obtain⟨v,g1,g2⟩:=d1.get h1
    have hlt2:i.toNat < vs.length:=(List.getElem?_eq_some_iff.mp g1).1
    exact⟨l,vs,i,i.toNat,v,rfl,rfl,hl,by lia,by lia,seqIndex_of hlt.1 (by lia),g1,q _ _ g2 (d1.erase _)⟩
end
end L2
namespace L2
open PySem PySem.Spec PyProof.Rows
inductive Fl where
  | nx (e:En)
  | bk (e:En)
  | ct (e:En)
  | rt (r:Rv) (e:En)
abbrev FS:=En→Option Fl
structure d9 (W:List Nat) (σ:L2.St) (F H:Hp) (e:En) (σ':L2.St) (F' H':Hp) (e':En):Prop where
  sf:aD F F'
  dom:∀a,H' a=none→H a=none
  fr:∀a vs,F a=none→H a=some (.lst vs)→¬dt σ e H a→F' a=none
  lst:∀a vs,H a=some (.lst vs)→∃vs',H' a=some (.lst vs')
  tmp:∀a o,H a=some o→¬dt σ e H a→H' a=some o
  own:∀a,dt σ' e' H' a→dt σ e H a∨H a=none
  wr:∀j,j∉W→σ'[j]?=σ[j]?
section
variable{K:PySem.W.Frag}{W W1 W2:List Nat}{σ σ1 σ2 σ':L2.St}{H0 F H F1 H1 F2 H2 F' H':Hp}{e e1 e2 e':En}
theorem d9.refl:d9 W σ F H e σ F H e:=⟨aD.refl _,fun _ h=>h,fun _ _ h _ _=>h,fun _ vs h=>⟨vs,h⟩,fun _ _ h _=>h,fun _ h=>.inl h,fun _ _=>rfl⟩
theorem eU.s(x:eU σ F H e F' H' e'):d9 W σ F H e σ F' H' e':=⟨x.sf,x.dom,x.fr,x.lst,x.tmp,x.ow,fun _ _=>rfl⟩
theorem d9.trans(x:d9 W σ F H e σ1 F1 H1 e1)(y:d9 W σ1 F1 H1 e1 σ2 F2 H2 e2):d9 W σ F H e σ2 F2 H2 e2:=
  ⟨x.sf.trans y.sf,fun a h=>x.dom a (y.dom a h),fun a vs h n no=>let ⟨vs',q⟩:=x.lst a vs n;y.fr a vs' (x.fr a vs h n no) q (fun z=>(x.own a z).elim no fun z=>by rw [n] at z;cases z),fun a vs h=>let ⟨vs',q⟩:=x.lst a vs h;y.lst a vs' q,
    fun a o h n=>y.tmp a o (x.tmp a o h n) (fun z=>(x.own a z).elim n fun z=>by rw [h] at z;cases z),
    fun a h=>(y.own a h).elim (x.own a) (fun z=>.inr (x.dom a z)),
    fun j h=>(y.wr j h).trans (x.wr j h)⟩
theorem d9.mono(x:d9 W1 σ F H e σ' F' H' e')(h:∀j,j∈W1→j∈W):d9 W σ F H e σ' F' H' e':=⟨x.sf,x.dom,x.fr,x.lst,x.tmp,x.own,fun j n=>x.wr j fun z=>n (h j z)⟩
end
def o_(K:PySem.W.Frag)(W:List Nat)(σ:L2.St)(F H:Hp)(e:En)(D:uC):Fl→Prop
  | .nx e'=>∀F' H' σ',d9 W σ F H e σ' F' H' e'→bh K F' H' σ' e'→D.nx σ' H'
  | .bk e'=>∀F' H' σ',d9 W σ F H e σ' F' H' e'→bh K F' H' σ' e'→D.bk σ' H'
  | .ct e'=>∀F' H' σ',d9 W σ F H e σ' F' H' e'→bh K F' H' σ' e'→D.ct σ' H'
  | .rt r e'=>∀F' H' σ' v,d9 W σ F H e σ' F' H' e'→bh K F' H' σ' e'→cU K σ' H F' H' e' r v→D.rt v H'
def fS(K:PySem.W.Frag)(f:FS)(W:List Nat):TS:=fun D σ H=>∃F e fl,bh K F H σ e∧f e=some fl∧o_ K W σ F H e D fl
theorem PS.mono{X:Cx}{st:Stmt}{t t':TS}(h:PS X st t)(m:∀D σ H,t' D σ H→t D σ H):PS X st t':=fun pins s σ H D I q=>h pins s σ H D I (m D σ H q)
theorem oB.mono{X:Cx}{st:List Stmt}{t t':TS}(h:oB X st t)(m:∀D σ H,t' D σ H→t D σ H):oB X st t':=fun pins s σ H D I q=>h pins s σ H D I (m D σ H q)
theorem o_.later{K:PySem.W.Frag}{W W1 W2:List Nat}{σ σ1:L2.St}{F H F1 H1:Hp}{e e1:En}{D:uC}{fl:Fl}(h:o_ K W σ F H e D fl)(x:d9 W1 σ F H e σ1 F1 H1 e1)(h1:∀j,j∈W1→j∈W)(h2:∀j,j∈W2→j∈W):o_ K W2 σ1 F1 H1 e1 D fl:=by
  cases fl with
  | nx e'=>exact fun F' H' σ' y R=>h F' H' σ' ((x.mono h1).trans (y.mono h2)) R
  | bk e'=>exact fun F' H' σ' y R=>h F' H' σ' ((x.mono h1).trans (y.mono h2)) R
  | ct e'=>exact fun F' H' σ' y R=>h F' H' σ' ((x.mono h1).trans (y.mono h2)) R
  | rt r e'=>exact fun F' H' σ' v y R A=>h F' H' σ' v ((x.mono h1).trans (y.mono h2)) R (A.weak x.dom)
section
variable{X:Cx}{K:PySem.W.Frag}{W W1 W2:List Nat}{st:Stmt}{gn:List Stmt}{f g:FS}{a b:Expr}{fa:FE}{ft:FT}{pos:Pos}
def bI:FS:=fun e=>some (.nx e)
def au(f g:FS):FS:=fun e=>(f e).bind fun fl=>match fl with
  | .nx e1=>g e1
  | fl=>some fl
theorem aR:oB X [] (fS K bI []):=BV.mono fun D σ H h=>by
  obtain⟨F,e,fl,R,hf,q⟩:=h
  cases hf
  exact q F H σ d9.refl R
theorem ag(h1:PS X st (fS K f W1))(h2:oB X gn (fS K g W2)):oB X (st::gn) (fS K (au f g) (W1++W2)):=(zB h1 h2).mono fun D σ H h=>by
  obtain⟨F,e,fl,R,hf,q⟩:=h
  unfold au at hf
  obtain⟨fl1,h1,hf⟩:=Option.bind_eq_some_iff.mp hf
  have s1:∀j,j∈W1→j∈W1++W2:=fun j h=>List.mem_append.mpr (.inl h)
  have s2:∀j,j∈W2→j∈W1++W2:=fun j h=>List.mem_append.mpr (.inr h)
  refine⟨F,e,fl1,R,h1,?_⟩
  cases fl1 with
  | nx e1=>exact fun F' H' σ' x R'=>⟨F',e1,fl,R',hf,q.later x s1 s2⟩
  | bk e1=>cases hf;exact fun F' H' σ' x R'=>q F' H' σ' (x.mono s1) R'
  | ct e1=>cases hf;exact fun F' H' σ' x R'=>q F' H' σ' (x.mono s1) R'
  | rt r e1=>cases hf;exact fun F' H' σ' v x R' A=>q F' H' σ' v (x.mono s1) R' A
theorem aj(h1:PS X st (fS K f W)):oB X [st] (fS K f W):=BW h1
def cE(fa:FE):FS:=fun e=>(fa e).map fun p=>.nx p.2
theorem dF(he:PE X a (fE K fa))(hs:swapsWith a none pos.line X.env=pure false):PS X (.Expr a pos) (fS K (cE fa) []):=(BU he hs).mono fun D σ H h=>by
  obtain⟨F,e,fl,R,hf,q⟩:=h
  obtain⟨⟨x,e1⟩,h1,hf⟩:=Option.map_eq_some_iff.mp hf
  cases hf
  exact⟨F,e,x,e1,R,h1,fun F1 H1 v X1 R1 A1=>q F1 H1 σ X1.s R1⟩
def ba(fa:FE):FS:=fun e=>(fa e).map fun p=>.rt p.1 p.2
theorem aA(he:PE X a (fE K fa)):PS X (.Return (some a) pos) (fS K (ba fa) []):=(Eo he).mono fun D σ H h=>by
  obtain⟨F,e,fl,R,hf,q⟩:=h
  obtain⟨⟨x,e1⟩,h1,hf⟩:=Option.map_eq_some_iff.mp hf
  cases hf
  exact⟨F,e,x,e1,R,h1,fun F1 H1 v X1 R1 A1=>q F1 H1 σ v X1.s R1 A1⟩
def fF(ft:FT)(f g:FS):FS:=fun e=>(ft e).bind fun p=>if p.1=true then f p.2 else g p.2
theorem bD{c:Expr}{bs cs:List Stmt}(hc:PT X c (fT K ft))(ha:oB X bs (fS K f W1))(hb:oB X cs (fS K g W2)):PS X (.If c bs cs pos) (fS K (fF ft f g) (W1++W2)):=(Gm hc ha hb).mono fun D σ H h=>by
  obtain⟨F,e,fl,R,hf,q⟩:=h
  unfold fF at hf
  obtain⟨⟨x,e1⟩,h1,hf⟩:=Option.bind_eq_some_iff.mp hf
  refine⟨F,e,x,e1,R,h1,fun F1 H1 X1 R1=>?_⟩
  cases x with
  | true=>exact⟨F1,e1,fl,R1,hf,q.later (W1:=[]) X1.s (fun j h=>by cases h) fun j h=>List.mem_append.mpr (.inl h)⟩
  | false=>exact⟨F1,e1,fl,R1,hf,q.later (W1:=[]) X1.s (fun j h=>by cases h) fun j h=>List.mem_append.mpr (.inr h)⟩
def qs(i:Nat)(r:Rv)(e:En):Option En:=match r with
  | .d x=>some (e.set i (some (.d x)))
  | .l xs=>some (e.set i (some (.l xs)))
  | .s _=>none
theorem vh{σ:L2.St}{H F H1 F1:Hp}{e e1 e2:En}{i:Nat}{r:Rv}{v:V}(R:bh K F H σ e)(X1:eU σ F H e F1 H1 e1)(R1:bh K F1 H1 σ e1)(A1:cU K σ H F1 H1 e1 r v)(h:qs i r e1=some e2):
    d9 [i] σ F H e (σ.set i (some v)) F1 H1 e2∧bh K F1 H1 (σ.set i (some v)) e2:=by
  have wr:∀j,j∉[i]→(σ.set i (some v))[j]?=σ[j]?:=fun j n=>List.getElem?_set_ne (fun z=>n (by simp [z]))
  cases r with
  | d x=>
    cases h
    obtain⟨R2,o2⟩:=R1.setD i A1
    exact⟨⟨X1.sf,X1.dom,X1.fr,X1.lst,X1.tmp,fun a h=>X1.ow a (o2 a h),wr⟩,R2⟩
  | l xs=>
    cases h
    obtain⟨l,vs,rfl,h1,h2,h3,h4,h5⟩:=A1
    obtain⟨R2,o2⟩:=R1.setL i h2 h3 h4 h5
    refine⟨⟨X1.sf,X1.dom,X1.fr,X1.lst,X1.tmp,fun a h=>?_,wr⟩,R2⟩
    rcases o2 a h with z | z
    · exact X1.ow a z
    · exact .inr (by rw [z];exact h1)
  | s j=>cases h
def a8(i:Nat)(fa:FE):FS:=fun e=>(fa e).bind fun p=>(qs i p.1 p.2).map .nx
theorem aK{i:Nat}{x:Str}{pos':Pos}(hN:X.N.Nodup)(hi:X.N[i]?=some x)(hx:Dl X.env.scope x)(he:PE X a (fE K fa))(hs:swapsWith a (some (.Name x pos')) pos.line X.env=pure false)(hf:X.fn x=true∨X.env.scope.names.lookup x=some .local):
    PS X (.Assign [.Name x pos'] a pos) (fS K (a8 i fa) [i]):=(zz hN hi hx he hs hf).mono fun D σ H h=>by
  obtain⟨F,e,fl,R,hf,q⟩:=h
  unfold a8 at hf
  obtain⟨⟨r,e1⟩,h1,hf⟩:=Option.bind_eq_some_iff.mp hf
  obtain⟨e2,h2,hf⟩:=Option.map_eq_some_iff.mp hf
  cases hf
  refine⟨F,e,r,e1,R,h1,fun F1 H1 v X1 R1 A1=>?_⟩
  obtain⟨x,R2⟩:=vh R X1 R1 A1 h2
  exact q F1 H1 _ x R2
abbrev FG:=PyData→En→Option En
def fG(K:PySem.W.Frag)(g:FG)(W:List Nat):TG:=fun v σ H Q=>∃F e x e',bh K F H σ e∧DA K F x v∧g x e=some e'∧∀σ',d9 W σ F H e σ' F H e'→bh K F H σ' e'→Q σ' H
abbrev Cw:=List PyData→En→Option En
def G2(K:PySem.W.Frag)(g:Cw)(W:List Nat):Ay:=fun vs σ H Q=>∃F e xs e',bh K F H σ e∧aU K F xs vs∧g xs e=some e'∧∀σ',d9 W σ F H e σ' F H e'→bh K F H σ' e'→Q σ' H
theorem PG.mono{tg:Expr}{t t':TG}(h:PG X tg t)(m:∀v σ H Q,t' v σ H Q→t v σ H Q):PG X tg t':=fun pins s σ H v u Q I r q=>h pins s σ H v u Q I r (m v σ H Q q)
theorem x_.mono{tg:List Expr}{t t':Ay}(h:x_ X tg t)(m:∀v σ H Q,t' v σ H Q→t v σ H Q):x_ X tg t':=fun pins s σ H v u Q I r q=>h pins s σ H v u Q I r (m v σ H Q q)
def af(i:Nat):FG:=fun x e=>some (e.set i (some (.d x)))
def aX:Cw:=fun xs e=>match xs with
  | []=>some e
  | _=>none
def ao(g:FG)(gs:Cw):Cw:=fun xs e=>match xs with
  | x::r=>(g x e).bind fun e1=>gs r e1
  | _=>none
def aZ(gs:Cw):FG:=fun x e=>match x with
  | .tuple xs=>gs xs e
  | _=>none
theorem ap{i:Nat}{x:Str}(hN:X.N.Nodup)(hi:X.N[i]?=some x)(hx:Dl X.env.scope x)(hf:X.fn x=true∨X.env.scope.names.lookup x=some .local):PG X (.Name x pos) (fG K (af i) [i]):=(BJ hN hi hx hf).mono fun v σ H Q h=>by
  obtain⟨F,e,x,e',R,hx,hg,q⟩:=h
  cases hg
  obtain⟨R2,o2⟩:=R.setD i hx
  exact q _ ⟨aD.refl _,fun _ h=>h,fun _ _ h _ _=>h,fun _ vs h=>⟨vs,h⟩,fun _ _ h _=>h,fun a h=>.inl (o2 a h),fun j n=>List.getElem?_set_ne (fun z=>n (by simp [z]))⟩ R2
theorem bC:x_ X [] (G2 K aX []):=BL.mono fun v σ H Q h=>by
  obtain⟨F,e,x,e',R,hx,hg,q⟩:=h
  unfold aX at hg
  split at hg
  · cases hg
    simp only [aU] at hx
    exact⟨hx,q σ d9.refl R⟩
  · cases hg
theorem ar{es:List Expr}{g1:FG}{gs:Cw}(h1:PG X a (fG K g1 W1))(h2:x_ X es (G2 K gs W2))
    (hs:(assignEach (a::es) X.env).map (·.2)=assign a X.env::(assignEach es X.env).map (·.2)):x_ X (a::es) (G2 K (ao g1 gs) (W1++W2)):=(zp h1 h2 hs).mono fun v σ H Q h=>by
  obtain⟨F,e,xs,e',R,hx,hg,q⟩:=h
  unfold ao at hg
  match xs,hg,hx with
  | x::r,hg,hx=>
    simp only [aU] at hx
    obtain⟨w,ws,e1,hw,hr⟩:=hx
    dsimp only at hg
    obtain⟨e1',h3,h4⟩:=Option.bind_eq_some_iff.mp hg
    refine⟨w,ws,e1,F,e,x,e1',R,hw,h3,fun σ1 x1 R1=>⟨F,e1',r,e',R1,hr,h4,fun σ2 x2 R2=>?_⟩⟩
    exact q σ2 ((x1.mono fun j h=>List.mem_append.mpr (.inl h)).trans (x2.mono fun j h=>List.mem_append.mpr (.inr h))) R2
theorem cz{es:List Expr}{k n:Nat}{gs:Cw}(hK:X.K=K)(hc:X.calm=true)(h:x_ X es (G2 K gs W))(hl:∀xs e e',gs xs e=some e'→xs.length=n)(hn:(assignEach es X.env).length=n)(hst:(assignEach es X.env).findIdx? (·.1)=none):PG X (.Tuple es k pos) (fG K (aZ gs) W):=(BK hK hc h hn hst).mono fun v σ H Q h=>by
  obtain⟨F,e,x,e',R,hx,hg,q⟩:=h
  unfold aZ at hg
  match x,hg,hx with
  | .tuple xs,hg,hx=>
    obtain⟨p,vs,e1,e2,e3⟩:=eF.mp hx
    exact⟨p,vs,e1,R.sm.tup e2,by rw [←e3.len];exact hl xs e e' hg,F,e,xs,e',R,e3,hg,q⟩
theorem cw(xs:List PyData)(e e':En)(h:aX xs e=some e'):xs.length=0:=by
  unfold aX at h
  split at h
  · rfl
  · cases h
theorem aB{g:FG}{gs:Cw}{n:Nat}(hl:∀xs e e',gs xs e=some e'→xs.length=n)(xs:List PyData)(e e':En)(h:ao g gs xs e=some e'):xs.length=n+1:=by
  unfold ao at h
  match xs,h with
  | x::r,h=>
    obtain⟨e1,h3,h4⟩:=Option.bind_eq_some_iff.mp h
    simp [hl r e1 e' h4]
def jH(fa:FE)(g:FG):FS:=fun e=>(fa e).bind fun p=>match p.1 with
  | .d x=>(g x p.2).map .nx
  | _=>none
theorem jF{tg:Expr}{g:FG}(he:PE X a (fE K fa))(hg:PG X tg (fG K g W))(hs:swapsWithSole [tg] a pos.line X.env=pure false)(hw:swappedStores [tg] a X.env=pure none)
    (h1:(assignEach [tg] X.env).map (·.2)=[assign tg X.env]):PS X (.Assign [tg] a pos) (fS K (jH fa g) W):=(vf he hg hs hw h1).mono fun D σ H h=>by
  obtain⟨F,e,fl,R,hf,q⟩:=h
  unfold jH at hf
  obtain⟨⟨r,e1⟩,h1,hf⟩:=Option.bind_eq_some_iff.mp hf
  match r,h1,hf with
  | .d x,h1,hf=>
    obtain⟨e2,h2,hf⟩:=Option.map_eq_some_iff.mp hf
    cases hf
    exact⟨F,e,_,e1,R,h1,fun F1 H1 v X1 R1 A1=>⟨F1,e1,x,e2,R1,A1,h2,fun σ' x2 R2=>q F1 H1 σ' (X1.s.trans x2) R2⟩⟩
def pV(i j:Nat)(fs:FA):FS:=fun e=>(fs e).bind fun p=>match p.1 with
  | [.d x,.d y]=>some (.nx ((p.2.set i (some (.d x))).set j (some (.d y))))
  | _=>none
theorem EA{i j:Nat}{x y:Str}{fs:FA}{px py pt:Pos}{kt k2 pt2}(hc:X.calm=true)(hN:X.N.Nodup)(hi:X.N[i]?=some x)(hj:X.N[j]?=some y)(hij:i≠j)
    (hx:X.env.scope.names.lookup x=some .local)(hy:X.env.scope.names.lookup y=some .local)(ha:PA X [a,b] (fA K fs))
    (hw:swappedStores [.Tuple [.Name x px,.Name y py] kt pt] (.Tuple [a,b] k2 pt2) X.env=pure (some [x,y]))
    (hs:swapsWithSole [.Tuple [.Name x px,.Name y py] kt pt] (.Tuple [a,b] k2 pt2) pos.line X.env=pure false):
    PS X (.Assign [.Tuple [.Name x px,.Name y py] kt pt] (.Tuple [a,b] k2 pt2) pos) (fS K (pV i j fs) [i,j]):=(Em hc hN hi hj hij hx hy ha hw hs).mono fun D σ H h=>by
  obtain⟨F,e,fl,R,hf,q⟩:=h
  unfold pV at hf
  obtain⟨⟨rs,e1⟩,h1,hf⟩:=Option.bind_eq_some_iff.mp hf
  refine⟨F,e,rs,e1,R,h1,fun F1 H1 vs X1 R1 A1=>?_⟩
  match rs,hf,A1 with
  | [.d x,.d y],hf,A1=>
    cases hf
    obtain⟨v,u,rfl,a1,a2⟩:=oU A1
    obtain⟨R2,o2⟩:=R1.setD i a1
    obtain⟨R3,o3⟩:=R2.setD j a2
    refine⟨v,u,rfl,q F1 H1 _ ⟨X1.sf,X1.dom,X1.fr,X1.lst,X1.tmp,fun a h=>X1.ow a (o2 a (o3 a h)),fun m n=>?_⟩ R3⟩
    rw [List.getElem?_set_ne (fun z=>n (by simp [z])),List.getElem?_set_ne (fun z=>n (by simp [z]))]
def ma:Rv→Option PyData
  | .d x=>some x
  | .l xs=>some (.list xs)
  | .s _=>none
theorem kZ{r:Rv}{d:PyData}(h:ma r=some d):ii [r]=some [d]:=by
  cases r with
  | d x=>cases h;rfl
  | l xs=>cases h;rfl
  | s i=>cases h
def iW(e:En):Rv→Option (Nat × List PyData)
  | .s n=>match e[n]? with
    | some (some (.l xs))=>some (n,xs)
    | _=>none
  | _=>none
theorem nB{e:En}{r:Rv}{n:Nat}{xs:List PyData}(h:iW e r=some (n,xs)):r=.s n∧e[n]?=some (some (.l xs)):=by
  unfold iW at h
  split at h
  · split at h
    · rename_i heq
      cases h;exact⟨rfl,heq⟩
    · cases h
  · cases h
def ua(fa fo fi:FE):FS:=fun e=>(fa e).bind fun p=>(ma p.1).bind fun d=>(fo p.2).bind fun o=>(fi o.2).bind fun i=>(bA i.1).bind fun k=>(iW i.2 o.1).bind fun s=>(mq s.2.length k).map fun j=>.nx (i.2.set s.1 (some (.l (s.2.set j d))))
theorem vk{o i:Expr}{fo fi:FE}{ps:Pos}(he:PE X a (fE K fa))(ho:PE X o (fE K fo))(hi:PE X i (fE K fi))
    (ha:∀v,assign (.Subscript o i ps) X.env v=(do
      let ov ←holding [v] (eval o X.env)
      let iv ←holding [v,ov] (eval i X.env)
      standAt ps
      holding [v,ov,iv] (setItem ov iv v)
      release [v,ov,iv] []))
    (hs:swapsWithSole [.Subscript o i ps] a pos.line X.env=pure false)(hw:swappedStores [.Subscript o i ps] a X.env=pure none)
    (h1:(assignEach [.Subscript o i ps] X.env).map (·.2)=[assign (.Subscript o i ps) X.env]):PS X (.Assign [.Subscript o i ps] a pos) (fS K (ua fa fo fi) []):=(vf he (zo ho hi p8 ha) hs hw h1).mono fun D σ H h=>by
  obtain⟨F,e,fl,R,hf,q⟩:=h
  unfold ua at hf
  obtain⟨⟨r,e1⟩,g1,hf⟩:=Option.bind_eq_some_iff.mp hf
  obtain⟨d,g2,hf⟩:=Option.bind_eq_some_iff.mp hf
  obtain⟨⟨ro,e2⟩,g3,hf⟩:=Option.bind_eq_some_iff.mp hf
  obtain⟨⟨ri,e3⟩,g4,hf⟩:=Option.bind_eq_some_iff.mp hf
  obtain⟨k,g5,hf⟩:=Option.bind_eq_some_iff.mp hf
  obtain⟨⟨n,xs⟩,g6,hf⟩:=Option.bind_eq_some_iff.mp hf
  obtain⟨j,g7,hf⟩:=Option.map_eq_some_iff.mp hf
  cases hf
  obtain⟨z6,g6'⟩:=nB g6
  dsimp only at z6 g6'
  subst z6
  refine⟨F,e,r,e1,R,g1,fun F1 H1 v X1 R1 A1=>?_⟩
  refine⟨F1,e1,_,e2,R1,g3,fun F2 H2 u X2 R2 A2=>⟨F2,e2,ri,e3,R2,g4,fun F3 H3 w X3 R3 A3=>?_⟩⟩
  have X12:=X1.trans X2
  have X13:=X12.trans X3
  have A1':=(A1.ext X2).ext X3
  obtain⟨F4,R4,s4,d4,f4⟩:=dJ.frozen R3 (rs:=[r]) (vs:=[v]) ⟨v,[],rfl,A1',rfl⟩ (kZ g2)
  obtain⟨h1,_⟩:=A2
  obtain⟨l,vs,k1,k2,k3,k4⟩:=R4.own n xs g6'
  rw [h1] at k1;cases k1
  simp only [aU] at d4
  obtain⟨v',r',e',hv,_⟩:=d4
  cases e'
  refine⟨l,vs,k,j,rfl,bx A3 g5,k3,by rw [←k4.len];exact g7,?_⟩
  obtain⟨R5,X5⟩:=R4.putL g6' h1 (k4.set hv j)
  exact q _ _ σ ((X13.frz s4 f4).trans X5).s R5
def jL(ft:FT)(f:FS):Nat→FS
  | 0,_=>none
  | n+1,e=>(ft e).bind fun p=>if p.1=true then(f p.2).bind fun fl=>match fl with
      | .nx e1=>jL ft f n e1
      | .ct e1=>jL ft f n e1
      | .bk e1=>some (.nx e1)
      | .rt r e1=>some (.rt r e1)
    else some (.nx p.2)
def jI(n:Nat)(ft:FT)(f:FS):FS:=jL ft f n
theorem mE{n:Nat}{c:Expr}{body:List Stmt}(hp:PassesOwn (model X.prog X.w) X.A X.env X.xe)(hc:PT X c (fT K ft))(hb:oB X body (fS K f W)):PS X (.While c body [] pos) (fS K (jI n ft f) W):=(zA hp hc hb).mono fun D σ H h=>by
  refine⟨fun m σ H=>∃F e fl,bh K F H σ e∧jL ft f m e=some fl∧o_ K W σ F H e D fl,⟨n,h⟩,?_⟩
  rintro m σ H ⟨F,e,fl,R,hf,q⟩
  cases m with
  | zero=>cases hf
  | succ m=>
    unfold jL at hf
    obtain⟨⟨x,e1⟩,h1,hf⟩:=Option.bind_eq_some_iff.mp hf
    refine⟨F,e,x,e1,R,h1,fun F1 H1 X1 R1=>?_⟩
    have sub:∀j,j∈([]:List Nat)→j∈W:=fun j h=>by cases h
    cases x with
    | false=>
      rw [if_neg (by simp)] at hf
      cases hf
      exact Bc (q F1 H1 σ X1.s R1)
    | true=>
      rw [if_pos rfl] at hf
      refine Bd ?_
      obtain⟨fl1,h2,hf⟩:=Option.bind_eq_some_iff.mp hf
      have q1:o_ K W σ F1 H1 e1 D fl:=q.later (W1:=[]) X1.s sub fun j h=>h
      refine⟨fun σ' H'=>∃F' e',bh K F' H' σ' e'∧jL ft f m e'=some fl∧o_ K W σ' F' H' e' D fl,fun σ' H' ⟨F',e',r1,r2,r3⟩=>⟨m,Nat.lt_succ_self m,F',e',fl,r1,r2,r3⟩,F1,e1,fl1,R1,h2,?_⟩
      cases fl1 with
      | nx e2=>exact fun F2 H2 σ2 x R2=>⟨F2,e2,R2,hf,q1.later x (fun j h=>h) fun j h=>h⟩
      | ct e2=>exact fun F2 H2 σ2 x R2=>⟨F2,e2,R2,hf,q1.later x (fun j h=>h) fun j h=>h⟩
      | bk e2=>cases hf;exact fun F2 H2 σ2 x R2=>q1 F2 H2 σ2 x R2
      | rt r e2=>cases hf;exact fun F2 H2 σ2 v x R2 A=>q1 F2 H2 σ2 v x R2 A
end
end L2
namespace L2
open PySem PySem.Spec PyProof.Rows
theorem PI.mono{X:Cx}{tg iter:Expr}{t t':TI}(h:PI X tg iter t)(m:∀σ H R,t' σ H R→t σ H R):PI X tg iter t':=fun pins s σ H R I q=>h pins s σ H R I (m σ H R q)
theorem PI.or{X:Cx}{tg iter:Expr}{t t':TI}(h:PI X tg iter t)(h':PI X tg iter t'):PI X tg iter (fun σ H R=>t σ H R∨t' σ H R):=fun pins s σ H R I q=>by
  rcases q with q | q
  · exact h pins s σ H R I q
  · exact h' pins s σ H R I q
abbrev iA:=List (Nat × List PyData)
def wN(K:PySem.W.Frag)(σ:L2.St)(F H:Hp)(own:iA):Prop:=∀p∈own,∃l vs,σ[p.1]?=some (some (.ref l))∧H l=some (.lst vs)∧aU K F p.2 vs
def uD(K:PySem.W.Frag)(σ:L2.St)(J:It)(items:List PyData)(own:iA)(F0:Hp):Prop:=∀F H,aD F0 F→aD F H→wN K σ F H own→
  (∀i,i < items.length→J.go i H)∧(∀i,items.length≤i→J.stop i H)∧∀i d x H',items[i]?=some d→J.yld i H x H'→∃F',aD H H'∧aD F F'∧aD F' H'∧(∀a,F a=none→H a≠none→F' a=none)∧DA K F' d x
abbrev FI:=En→Option (List PyData × iA × En)
def keeps(own:iA)(e:En):Prop:=∀p∈own,e[p.1]?=some (some (.l p.2))
def fI(K:PySem.W.Frag)(f:FI):TI:=fun σ H R=>∃F e items own e',bh K F H σ e∧f e=some (items,own,e')∧∀J F' H',eU σ F H e F' H' e'→bh K F' H' σ e'→keeps own e'→uD K σ J items own F'→R J H'
section
variable{K:PySem.W.Frag}{σ:L2.St}{H0 F H F' H':Hp}{e e':En}
theorem bh.held(R:bh K F H σ e){own:iA}(h:keeps own e):wN K σ F H own:=fun p hp=>by
  obtain⟨l,vs,h1,h2,h3,h4⟩:=R.own p.1 p.2 (h p hp)
  exact⟨l,vs,h1,h3,h4⟩
theorem bh.step(R:bh K F H σ e)(s:aD H H')(sF:aD F F')(sm:aD F' H')(fz:∀a,F a=none→H a≠none→F' a=none):bh K F' H' σ e∧eU σ F H e F' H' e:=by
  obtain⟨R',o'⟩:=R.keep sF sm (fun a ⟨i,h⟩=>by
    obtain⟨h1,vs,h2⟩:=R.fpAt h
    exact fz a h1 (by rw [h2];simp)) fun a o _ h=>s a o h
  exact⟨R',⟨sF,fun a h=>s.free h,fun a vs h1 h2 _=>fz a h1 (by rw [h2];simp),fun a vs h=>⟨vs,s _ _ h⟩,fun a o h _=>s a o h,fun _=>Iff.rfl,fun a h=>.inl ((o' a).mp h)⟩⟩
inductive rM (K:PySem.W.Frag) (σ:L2.St) (F:Hp) (p:Addr):Bool→List PyData→iA→Prop
  | tup {xs vs}:cg K F p vs→aU K F xs vs→rM K σ F p false xs []
  | lst {xs vs}:cW K F p vs→aU K F xs vs→rM K σ F p true xs []
  | own {i xs}:σ[i]?=some (some (.ref p))→rM K σ F p true xs [(i,xs)]
theorem rM.at{p:Addr}{b:Bool}{xs:List PyData}{own:iA}{F0:Hp}(h:rM K σ F0 p b xs own)(s0:aD F0 F)(s1:aD F H){own':iA}(hh:wN K σ F H own')(hs:∀q∈own,q∈own'):∃vs,aU K F xs vs∧(if b=true then cW K H p vs else cg K H p vs):=by
  cases h with
  | tup h1 h2=>exact⟨_,h2.mono s0,(s0.trans s1).tup h1⟩
  | lst h1 h2=>exact⟨_,h2.mono s0,(s0.trans s1).seq h1⟩
  | @own i xs h1=>
    obtain⟨l,vs,g1,g2,g3⟩:=hh (i,xs) (hs (i,xs) (by simp))
    dsimp only at g1 g3
    rw [h1] at g1;cases g1
    exact⟨vs,g3,.inl (.inl g2)⟩
def sM(e:En):Rv→Option (Bool × List PyData × iA)
  | .d (.tuple xs)=>some (false,xs,[])
  | .d (.list xs)=>some (true,xs,[])
  | .l xs=>some (true,xs,[])
  | .s i=>match e[i]? with
    | some (some (.l xs))=>some (true,xs,[(i,xs)])
    | _=>none
  | _=>none
theorem lh{r:Rv}{v:V}{b:Bool}{xs:List PyData}{own:iA}(R:bh K F H σ e)(A:cU K σ H0 F H e r v)(h:sM e r=some (b,xs,own)):
    ∃F' p,bh K F' H σ e∧aD F F'∧(∀a,F a=none→H0 a≠none→F' a=none)∧v=.ref p∧rM K σ F' p b xs own∧keeps own e:=by
  cases r with
  | d x=>
    cases x with
    | tuple ds=>
      cases h
      obtain⟨a,ys,e1,e2,e3⟩:=eF.mp A
      exact⟨F,a,R,aD.refl _,fun _ h _=>h,e1,.tup e2 e3,fun p hp=>by cases hp⟩
    | list ds=>
      cases h
      obtain⟨a,ys,e1,e2,e3⟩:=dc.mp A
      exact⟨F,a,R,aD.refl _,fun _ h _=>h,e1,.lst e2 e3,fun p hp=>by cases hp⟩
    | _=>cases h
  | l ys=>
    cases h
    obtain⟨F',R',s',d',f'⟩:=A.frozen R
    obtain⟨a,ys,e1,e2,e3⟩:=dc.mp d'
    exact⟨F',a,R',s',f',e1,.lst e2 e3,fun p hp=>by cases hp⟩
  | s i=>
    obtain⟨h1,ys,h2⟩:=A
    simp only [sM,h2] at h
    cases h
    obtain⟨l,vs,e1,e2,e3,e4⟩:=R.own i _ h2
    rw [h1] at e1;cases e1
    exact⟨F,l,R,aD.refl _,fun _ h _=>h,rfl,.own h1,fun p hp=>by simp only [List.mem_singleton] at hp;subst hp;exact h2⟩
theorem qT{p:Addr}{xs:List PyData}{own:iA}{F0:Hp}(h:rM K σ F0 p true xs own):uD K σ (G6 K p) xs own F0:=by
  intro F H s0 s1 hh
  obtain⟨vs,d,q⟩:=h.at s0 s1 hh fun _ h=>h
  have q:cW K H p vs:=q
  refine⟨fun i hi=>⟨vs,vs[i]'(by rw [←d.len];exact hi),q,List.getElem?_eq_getElem _⟩,fun i hi=>⟨vs,q,by rw [←d.len];exact hi⟩,fun i x v H' hx hy=>?_⟩
  obtain⟨rfl,hy⟩:=hy
  obtain⟨w,g1,g2⟩:=d.get hx
  have e:=hy vs q
  rw [g1] at e;cases e
  exact⟨F,aD.refl _,aD.refl _,s1,fun _ h _=>h,g2⟩
theorem yI{p:Addr}{xs:List PyData}{own:iA}{F0:Hp}(h:rM K σ F0 p false xs own):uD K σ (G7 K p) xs own F0:=by
  intro F H s0 s1 hh
  obtain⟨vs,d,q⟩:=h.at s0 s1 hh fun _ h=>h
  have q:cg K H p vs:=q
  refine⟨fun i hi=>⟨vs,vs[i]'(by rw [←d.len];exact hi),q,List.getElem?_eq_getElem _⟩,fun i hi=>⟨vs,q,by rw [←d.len];exact hi⟩,fun i x v H' hx hy=>?_⟩
  obtain⟨rfl,hy⟩:=hy
  obtain⟨w,g1,g2⟩:=d.get hx
  have e:=hy vs q
  rw [g1] at e;cases e
  exact⟨F,aD.refl _,aD.refl _,s1,fun _ h _=>h,g2⟩
theorem pL{p:Addr}{x y:V}{a b:PyData}(s1:aD F H)(hp:H p=none)(hx:DA K F a x)(hy:DA K F b y):∃F',aD H (bc H p (.tup [x,y]))∧aD F F'∧aD F' (bc H p (.tup [x,y]))∧(∀c,F c=none→H c≠none→F' c=none)∧DA K F' (.tuple [a,b]) (.ref p):=by
  have hF:F p=none:=s1.free hp
  have sF:aD F (bc F p (.tup [x,y])):=aD.new hF
  refine⟨bc F p (.tup [x,y]),aD.new hp,sF,fun b o q=>?_,fun c h n=>?_,eF.mpr ⟨p,_,rfl,.inl (.inl ay),.cons (DA.mono sF hx) (.one (DA.mono sF hy))⟩⟩
  · by_cases z:b=p
    · subst z;rw [ay] at q ⊢;exact q
    · rw [aF z] at q ⊢;exact s1 _ _ q
  · have z:c≠p:=fun z=>n (by rw [z];exact hp)
    rw [aF z];exact h
def cq:Nat→List PyData→List PyData
  | _,[]=>[]
  | n,x::r=>.tuple [.int n,x]::cq (n+1) r
theorem i8:∀{xs:List PyData} {n i:Nat},(cq n xs)[i]?=(xs[i]?).map fun x=>.tuple [.int ((n+i:Nat):Int),x]
  | [],n,i=>by simp [cq]
  | x::r,n,0=>by simp [cq]
  | x::r,n,i+1=>by
    simp only [cq,List.getElem?_cons_succ]
    rw [i8 (xs:=r) (n:=n+1) (i:=i)]
    congr 1
    funext y
    rw [show n+1+i=n+(i+1) by lia]
theorem eh:∀(xs:List PyData) (n:Nat),(cq n xs).length=xs.length
  | [],_=>rfl
  | x::r,n=>by simp [cq,eh r (n+1)]
theorem uS{p:Addr}{xs:List PyData}{own:iA}{F0:Hp}(h:rM K σ F0 p true xs own):uD K σ (Di K p) (cq 0 xs) own F0:=by
  intro F H s0 s1 hh
  obtain⟨vs,d,q⟩:=h.at s0 s1 hh fun _ h=>h
  have q:cW K H p vs:=q
  rw [eh]
  refine⟨fun i hi=>⟨vs,vs[i]'(by rw [←d.len];exact hi),q,List.getElem?_eq_getElem _⟩,fun i hi=>⟨vs,q,by rw [←d.len];exact hi⟩,fun i x v H' hx hy=>?_⟩
  obtain⟨t,y,rfl,ht,rfl,hy⟩:=hy
  rw [i8] at hx
  obtain⟨x',hx2,rfl⟩:=Option.map_eq_some_iff.mp hx
  obtain⟨w,g1,g2⟩:=d.get hx2
  have e:=hy vs q
  rw [g1] at e;cases e
  exact pL s1 ht (bY.mpr (by simp)) g2
theorem uT{p:Addr}{xs:List PyData}{own:iA}{F0:Hp}(h:rM K σ F0 p false xs own):uD K σ (Dj K p) (cq 0 xs) own F0:=by
  intro F H s0 s1 hh
  obtain⟨vs,d,q⟩:=h.at s0 s1 hh fun _ h=>h
  have q:cg K H p vs:=q
  rw [eh]
  refine⟨fun i hi=>⟨vs,vs[i]'(by rw [←d.len];exact hi),q,List.getElem?_eq_getElem _⟩,fun i hi=>⟨vs,q,by rw [←d.len];exact hi⟩,fun i x v H' hx hy=>?_⟩
  obtain⟨t,y,rfl,ht,rfl,hy⟩:=hy
  rw [i8] at hx
  obtain⟨x',hx2,rfl⟩:=Option.map_eq_some_iff.mp hx
  obtain⟨w,g1,g2⟩:=d.get hx2
  have e:=hy vs q
  rw [g1] at e;cases e
  exact pL s1 ht (bY.mpr (by simp)) g2
def jX:List PyData→List PyData→List PyData
  | x::r,y::s=>.tuple [x,y]::jX r s
  | _,_=>[]
theorem uw:∀{xs ys:List PyData} {i:Nat} {d:PyData},(jX xs ys)[i]?=some d→∃x y,xs[i]?=some x∧ys[i]?=some y∧d=.tuple [x,y]
  | [],ys,i,d,h=>by simp [jX] at h
  | x::r,[],i,d,h=>by simp [jX] at h
  | x::r,y::s,0,d,h=>by
    simp only [jX,List.getElem?_cons_zero] at h
    cases h;exact⟨x,y,rfl,rfl,rfl⟩
  | x::r,y::s,i+1,d,h=>by
    simp only [jX,List.getElem?_cons_succ] at h
    obtain⟨a,b,h1,h2,h3⟩:=uw h
    exact⟨a,b,by simpa using h1,by simpa using h2,h3⟩
theorem uA:∀(xs ys:List PyData),(jX xs ys).length=min xs.length ys.length
  | [],ys=>by simp [jX]
  | x::r,[]=>by simp [jX]
  | x::r,y::s=>by simp [jX,uA r s]
theorem mn{P Q:Hp→Addr→List V→Prop}{J:It}{l1 l2:Addr}{b1 b2:Bool}{xs ys:List PyData}{own1 own2:iA}{F0:Hp}(h1:rM K σ F0 l1 b1 xs own1)(h2:rM K σ F0 l2 b2 ys own2)
    (hP:∀H vs,(if b1=true then cW K H l1 vs else cg K H l1 vs)→P H l1 vs)(hQ:∀H vs,(if b2=true then cW K H l2 vs else cg K H l2 vs)→Q H l2 vs)
    (go:∀i H vs us x y,P H l1 vs→Q H l2 us→vs[i]?=some x→us[i]?=some y→J.go i H)(stop:∀i H vs us,P H l1 vs→Q H l2 us→(vs.length≤i∨us.length≤i)→J.stop i H)
    (yld:∀i H v H',J.yld i H v H'→∃p x y,v=.ref p∧H p=none∧H'=bc H p (.tup [x,y])∧∀xs ys,P H l1 xs→Q H l2 ys→xs[i]?=some x∧ys[i]?=some y):
    uD K σ J (jX xs ys) (own1++own2) F0:=by
  intro F H s0 s1 hh
  obtain⟨vs,d1,q1⟩:=h1.at s0 s1 hh fun _ h=>List.mem_append.mpr (.inl h)
  obtain⟨us,d2,q2⟩:=h2.at s0 s1 hh fun _ h=>List.mem_append.mpr (.inr h)
  have q1:=hP H vs q1
  have q2:=hQ H us q2
  have l1':=d1.len
  have l2':=d2.len
  rw [uA]
  refine⟨fun i hi=>go i H vs us (vs[i]'(by lia)) (us[i]'(by lia)) q1 q2 (List.getElem?_eq_getElem _) (List.getElem?_eq_getElem _),fun i hi=>stop i H vs us q1 q2 (by lia),fun i x v H' hx hy=>?_⟩
  obtain⟨t,a,b,rfl,ht,rfl,hy3⟩:=yld i H v H' hy
  obtain⟨x',y',hx2,hy',rfl⟩:=uw hx
  obtain⟨w,g1,g2⟩:=d1.get hx2
  obtain⟨w',g3,g4⟩:=d2.get hy'
  obtain⟨e1,e2⟩:=hy3 vs us q1 q2
  rw [g1] at e1;cases e1
  rw [g3] at e2;cases e2
  exact pL s1 ht g2 g4
def bz(lo:Int)(n:Nat):List PyData:=(List.range n).map fun(i:Nat)=>.int (lo+(i:Int))
theorem uU{lo:Int}{n:Nat}{F0:Hp}:uD K σ (GW lo n) (bz lo n) [] F0:=by
  intro F H s0 s1 hh
  unfold bz
  rw [List.length_map,List.length_range]
  refine⟨fun i hi=>hi,fun i hi=>hi,fun i x v H' hx hy=>?_⟩
  obtain⟨rfl,rfl⟩:=hy
  rw [List.getElem?_map] at hx
  obtain⟨k,h1,rfl⟩:=Option.map_eq_some_iff.mp hx
  have h2:=(List.getElem?_eq_some_iff.mp h1).2
  simp at h2
  subst h2
  exact⟨F,aD.refl _,aD.refl _,s1,fun _ h _=>h,bY.mpr rfl⟩
end
inductive G5 (K:PySem.W.Frag) (own:iA) (σ0:L2.St) (F1:Hp) (P:En→Prop) (G:L2.St→Hp→Hp→En→Prop) (σ:L2.St) (H:Hp):Prop
  | mk {F:Hp} {e:En} (R:bh K F H σ e) (kp:keeps own e) (hσ:∀p∈own,σ[p.1]?=σ0[p.1]?) (sF:aD F1 F) (hf:P e) (q:G σ F H e):G5 K own σ0 F1 P G σ H
section
variable{X:Cx}{K:PySem.W.Frag}{tg a b:Expr}{es:List Expr}{fa:FE}{fs:FA}{pos p tp:Pos}{k0:Nat}
def iC(fa:FE):FI:=fun e=>(fa e).bind fun p=>(sM p.2 p.1).map fun s=>(s.2.1,s.2.2,p.2)
theorem dM(hK:X.K=K)(h:PE X a (fE K fa)):PI X tg a (fI K (iC fa)):=((tX (tg:=tg) hK h).or (BN (tg:=tg) hK h)).mono fun σ H R hh=>by
  obtain⟨F,e,items,own,e',R0,hf,q⟩:=hh
  unfold iC at hf
  obtain⟨⟨r,e1⟩,h1,hf⟩:=Option.bind_eq_some_iff.mp hf
  obtain⟨⟨b,xs,ow⟩,h2,hf⟩:=Option.map_eq_some_iff.mp hf
  cases hf
  cases b with
  | true=>
    refine .inl ⟨F,e,r,e1,R0,h1,fun F1 H1 v X1 R1 A1=>?_⟩
    obtain⟨F2,p,R2,s2,f2,rfl,sc,kp⟩:=lh R1 A1 h2
    obtain⟨vs,_,c⟩:=sc.at (aD.refl _) R2.sm (R2.held kp) fun _ h=>h
    exact⟨p,rfl,⟨vs,c⟩,q _ F2 H1 (X1.frz s2 f2) R2 kp (qT sc)⟩
  | false=>
    refine .inr ⟨F,e,r,e1,R0,h1,fun F1 H1 v X1 R1 A1=>?_⟩
    obtain⟨F2,p,R2,s2,f2,rfl,sc,kp⟩:=lh R1 A1 h2
    obtain⟨vs,_,c⟩:=sc.at (aD.refl _) R2.sm (R2.held kp) fun _ h=>h
    exact⟨p,rfl,⟨vs,c⟩,q _ F2 H1 (X1.frz s2 f2) R2 kp (yI sc)⟩
def pv(fs:FA):FI:=fun e=>(fs e).bind fun p=>match p.1 with
  | [r]=>(sM p.2 r).map fun s=>(cq 0 s.2.1,s.2.2,p.2)
  | _=>none
theorem mD(hK:X.K=K)(hg:Gl X "enumerate")(hm:X.mg "enumerate"=none)(ha:PA X [a] (fA K fs))(hs:starEach [a] X.env=[(false,eval a X.env)]):PI X (.Tuple es k0 tp) (.Call (.Name "enumerate" p) [a] [] pos) (fI K (pv fs)):=((zq (es:=es) (k0:=k0) (tp:=tp) hK hg hm ha hs).or (zr (es:=es) (k0:=k0) (tp:=tp) hK hg hm ha hs)).mono fun σ H R hh=>by
  obtain⟨F,e,items,own,e',R0,hf,q⟩:=hh
  unfold pv at hf
  obtain⟨⟨rs,e1⟩,h1,hf⟩:=Option.bind_eq_some_iff.mp hf
  match rs,h1,hf with
  | [r],h1,hf=>
  obtain⟨⟨b,xs,ow⟩,h2,hf⟩:=Option.map_eq_some_iff.mp hf
  cases hf
  cases b with
  | true=>
    refine .inl ⟨F,e,_,e1,R0,h1,fun F1 H1 vs X1 R1 A1=>?_⟩
    obtain⟨v,rfl,A2⟩:=mG A1
    obtain⟨F2,p,R2,s2,f2,rfl,sc,kp⟩:=lh R1 A2 h2
    obtain⟨vs,_,c⟩:=sc.at (aD.refl _) R2.sm (R2.held kp) fun _ h=>h
    exact⟨p,rfl,⟨vs,c⟩,q _ F2 H1 (X1.frz s2 f2) R2 kp (uS sc)⟩
  | false=>
    refine .inr ⟨F,e,_,e1,R0,h1,fun F1 H1 vs X1 R1 A1=>?_⟩
    obtain⟨v,rfl,A2⟩:=mG A1
    obtain⟨F2,p,R2,s2,f2,rfl,sc,kp⟩:=lh R1 A2 h2
    obtain⟨vs,_,c⟩:=sc.at (aD.refl _) R2.sm (R2.held kp) fun _ h=>h
    exact⟨p,rfl,⟨vs,c⟩,q _ F2 H1 (X1.frz s2 f2) R2 kp (uT sc)⟩
def ou(fs:FA):FI:=fun e=>(fs e).bind fun p=>match p.1 with
  | [r,t]=>(sM p.2 r).bind fun s=>(sM p.2 t).map fun u=>(jX s.2.1 u.2.1,s.2.2++u.2.2,p.2)
  | _=>none
theorem rM.mono{σ:L2.St}{F F':Hp}{p:Addr}{b:Bool}{xs:List PyData}{own:iA}(h:rM K σ F p b xs own)(s:aD F F'):rM K σ F' p b xs own:=by
  cases h with
  | tup h1 h2=>exact .tup (s.tup h1) (h2.mono s)
  | lst h1 h2=>exact .lst (s.seq h1) (h2.mono s)
  | own h1=>exact .own h1
theorem vj(hK:X.K=K)(hg:Gl X "zip")(hm:X.mg "zip"=none)(ha:PA X [a,b] (fA K fs))(hs:starEach [a,b] X.env=[(false,eval a X.env),(false,eval b X.env)])(hs2:starEach [b] X.env=[(false,eval b X.env)]):PI X (.Tuple es k0 tp) (.Call (.Name "zip" p) [a,b] [] pos) (fI K (ou fs)):=
    (((Ek (es:=es) (k0:=k0) (tp:=tp) hK hg hm ha hs hs2).or (zu (es:=es) (k0:=k0) (tp:=tp) hK hg hm ha hs hs2)).or ((zv (es:=es) (k0:=k0) (tp:=tp) hK hg hm ha hs hs2).or (zt (es:=es) (k0:=k0) (tp:=tp) hK hg hm ha hs hs2))).mono fun σ H R hh=>by
  obtain⟨F,e,items,own,e',R0,hf,q⟩:=hh
  unfold ou at hf
  obtain⟨⟨rs,e1⟩,h1,hf⟩:=Option.bind_eq_some_iff.mp hf
  match rs,h1,hf with
  | [r,t],h1,hf=>
  obtain⟨⟨b,xs,ow⟩,h2,hf⟩:=Option.bind_eq_some_iff.mp hf
  obtain⟨⟨b',ys,ow'⟩,h3,hf⟩:=Option.map_eq_some_iff.mp hf
  cases hf
  have key:∀F1 H1 vs,eU σ F H e F1 H1 e1→bh K F1 H1 σ e1→dJ K σ H F1 H1 e1 [r,t] vs→∃p p' F2,vs=[.ref p,.ref p']∧eU σ F H e F2 H1 e1∧bh K F2 H1 σ e1∧rM K σ F2 p b xs ow∧rM K σ F2 p' b' ys ow'∧keeps (ow++ow') e1:=by
    intro F1 H1 vs X1 R1 A1
    obtain⟨v,u,rfl,a1,a2⟩:=oU A1
    obtain⟨F2,p,R2,s2,f2,rfl,sc,kp⟩:=lh R1 a1 h2
    have X2:=X1.frz s2 f2
    have a2':cU K σ H F2 H1 e1 t u∨∃zs,t=.l zs∧DA K F2 (.list zs) u:=by
      cases t with
      | d x=>exact .inl (DA.mono s2 a2)
      | s i=>exact .inl a2
      | l zs=>
        obtain⟨l,ws,rfl,g1,g2,g3,g4,g5⟩:=a2
        cases hl:F2 l with
        | none=>exact .inl ⟨l,ws,rfl,g1,hl,g3,aU.mono s2 g4,g5⟩
        | some o=>
          have:=R2.sm _ _ hl
          rw [g3] at this;cases this
          exact .inr ⟨zs,rfl,dc.mpr ⟨l,ws,rfl,.inl (.inl hl),aU.mono s2 g4⟩⟩
    rcases a2' with a2' | ⟨zs,rfl,d2⟩
    · obtain⟨F3,p',R3,s3,f3,rfl,sc',kp'⟩:=lh R2 a2' h3
      exact⟨p,p',F3,rfl,X2.frz s3 f3,R3,sc.mono s3,sc',fun z hz=>(List.mem_append.mp hz).elim (kp z) (kp' z)⟩
    · cases h3
      obtain⟨p',ws,rfl,g1,g2⟩:=dc.mp d2
      exact⟨p,p',F2,rfl,X2,R2,sc,.lst g1 g2,fun z hz=>(List.mem_append.mp hz).elim (kp z) fun h=>by cases h⟩
  have fin:∀{F2 H1:Hp} {p p':Addr},bh K F2 H1 σ e1→rM K σ F2 p b xs ow→rM K σ F2 p' b' ys ow'→keeps (ow++ow') e1→(∃vs,if b=true then cW K H1 p vs else cg K H1 p vs)∧(∃vs,if b'=true then cW K H1 p' vs else cg K H1 p' vs):=by
    intro F2 H1 p p' R2 s1 s2 kp
    obtain⟨vs,_,c⟩:=s1.at (aD.refl _) R2.sm (R2.held kp) fun _ h=>List.mem_append.mpr (.inl h)
    obtain⟨us,_,c'⟩:=s2.at (aD.refl _) R2.sm (R2.held kp) fun _ h=>List.mem_append.mpr (.inr h)
    exact⟨⟨vs,c⟩,⟨us,c'⟩⟩
  cases b with
  | false=>cases b' with
    | false=>
      refine .inl (.inl ⟨F,e,_,e1,R0,h1,fun F1 H1 vs X1 R1 A1=>?_⟩)
      obtain⟨p,p',F2,rfl,X2,R2,s1,s2,kp⟩:=key F1 H1 vs X1 R1 A1
      obtain⟨c1,c2⟩:=fin R2 s1 s2 kp
      exact⟨p,p',rfl,c1,c2,q _ F2 H1 X2 R2 kp (mn (P:=cg K) (Q:=cg K) s1 s2 (fun _ _ h=>h) (fun _ _ h=>h) (fun i H vs us x y h1 h2 h3 h4=>⟨vs,us,x,y,h1,h2,h3,h4⟩) (fun i H vs us h1 h2 h3=>⟨vs,us,h1,h2,h3⟩) fun i H v H' h=>h)⟩
    | true=>
      refine .inr (.inl ⟨F,e,_,e1,R0,h1,fun F1 H1 vs X1 R1 A1=>?_⟩)
      obtain⟨p,p',F2,rfl,X2,R2,s1,s2,kp⟩:=key F1 H1 vs X1 R1 A1
      obtain⟨c1,c2⟩:=fin R2 s1 s2 kp
      exact⟨p,p',rfl,c1,c2,q _ F2 H1 X2 R2 kp (mn (P:=cg K) (Q:=cW K) s1 s2 (fun _ _ h=>h) (fun _ _ h=>h) (fun i H vs us x y h1 h2 h3 h4=>⟨vs,us,x,y,h1,h2,h3,h4⟩) (fun i H vs us h1 h2 h3=>⟨vs,us,h1,h2,h3⟩) fun i H v H' h=>h)⟩
  | true=>cases b' with
    | false=>
      refine .inl (.inr ⟨F,e,_,e1,R0,h1,fun F1 H1 vs X1 R1 A1=>?_⟩)
      obtain⟨p,p',F2,rfl,X2,R2,s1,s2,kp⟩:=key F1 H1 vs X1 R1 A1
      obtain⟨c1,c2⟩:=fin R2 s1 s2 kp
      exact⟨p,p',rfl,c1,c2,q _ F2 H1 X2 R2 kp (mn (P:=cW K) (Q:=cg K) s1 s2 (fun _ _ h=>h) (fun _ _ h=>h) (fun i H vs us x y h1 h2 h3 h4=>⟨vs,us,x,y,h1,h2,h3,h4⟩) (fun i H vs us h1 h2 h3=>⟨vs,us,h1,h2,h3⟩) fun i H v H' h=>h)⟩
    | true=>
      refine .inr (.inr ⟨F,e,_,e1,R0,h1,fun F1 H1 vs X1 R1 A1=>?_⟩)
      obtain⟨p,p',F2,rfl,X2,R2,s1,s2,kp⟩:=key F1 H1 vs X1 R1 A1
      obtain⟨c1,c2⟩:=fin R2 s1 s2 kp
      exact⟨p,p',rfl,c1,c2,q _ F2 H1 X2 R2 kp (mn (P:=cW K) (Q:=cW K) s1 s2 (fun _ _ h=>h) (fun _ _ h=>h) (fun i H vs us x y h1 h2 h3 h4=>⟨vs,us,x,y,h1,h2,h3,h4⟩) (fun i H vs us h1 h2 h3=>⟨vs,us,h1,h2,h3⟩) fun i H v H' h=>h)⟩
def zO(j:Int):Bool:=decide (-1000000≤j)&&decide (j≤1000000)
theorem zP{j:Int}(h:zO j=true): -1000000≤j∧j≤1000000:=by
  unfold zO at h
  rw [Bool.and_eq_true,decide_eq_true_iff,decide_eq_true_iff] at h
  exact h
def eM(fs:FA):FI:=fun e=>(fs e).bind fun p=>match p.1 with
  | [r]=>(bA r).bind fun j=>if zO j=true then some (bz 0 j.toNat,[],p.2) else none
  | _=>none
theorem fj(hg:Gl X "range")(hm:X.mg "range"=none)(ha:PA X [a] (fA K fs))(hs:starEach [a] X.env=[(false,eval a X.env)]):PI X tg (.Call (.Name "range" p) [a] [] pos) (fI K (eM fs)):=(xJ hg hm ha hs).mono fun σ H R hh=>by
  obtain⟨F,e,items,own,e',R0,hf,q⟩:=hh
  unfold eM at hf
  obtain⟨⟨rs,e1⟩,h1,hf⟩:=Option.bind_eq_some_iff.mp hf
  match rs,h1,hf with
  | [r],h1,hf=>
  obtain⟨j,h2,hf⟩:=Option.bind_eq_some_iff.mp hf
  split at hf
  case isFalse=>cases hf
  case isTrue hj=>
  cases hf
  refine⟨F,e,_,e1,R0,h1,fun F1 H1 vs X1 R1 A1=>?_⟩
  obtain⟨v,rfl,A2⟩:=mG A1
  have:=zP hj
  exact⟨j,by rw [bx A2 h2],by lia,by lia,q _ F1 H1 X1 R1 (fun _ h=>by cases h) uU⟩
open Classical in
noncomputable def eZ(own:iA)(g:FG)(f:FS):List PyData→FS
  | [],e=>some (.nx e)
  | x::r,e=>(g x e).bind fun e1=>(f e1).bind fun fl=>match fl with
    | .nx e2=>if keeps own e2 then eZ own g f r e2 else none
    | .ct e2=>if keeps own e2 then eZ own g f r e2 else none
    | .bk e2=>some (.nx e2)
    | .rt v e2=>some (.rt v e2)
noncomputable def dm(W:List Nat)(fi:FI)(g:FG)(f:FS):FS:=fun e=>(fi e).bind fun p=>if (p.2.1.all fun q=> !W.contains q.1)=true then eZ p.2.1 g f p.1 p.2.2 else none
theorem cH{W1 W2:List Nat}{iter:Expr}{body:List Stmt}{fi:FI}{g:FG}{f:FS}(hp:PassesOwn (model X.prog X.w) X.A X.env X.xe)(hc:X.calm=true)(hi:PI X tg iter (fI K fi))(hg:PG X tg (fG K g W1))(hb:oB X body (fS K f W2))(hs:∀x,foldedSetIterable iter X.env x=pure x):
    PS X (.For tg iter body [] pos) (fS K (dm (W1++W2) fi g f) (W1++W2)):=(El hp hc hi hg hb hs).mono fun D σ0 H0 hh=>by
  obtain⟨F0,e0,fl,R0,hf,q0⟩:=hh
  unfold dm at hf
  obtain⟨⟨items,own,e1⟩,h1,hf⟩:=Option.bind_eq_some_iff.mp hf
  dsimp only at hf
  split at hf
  case isFalse=>cases hf
  case isTrue hW=>
  have hW':∀p∈own,p.1∉W1++W2:=fun p hp=>by
    have:=List.all_eq_true.mp hW p hp
    simpa using this
  refine⟨F0,e0,items,own,e1,R0,h1,fun J F1 H1 X1 R1 kp ok=>?_⟩
  have s1:∀j,j∈W1→j∈W1++W2:=fun j h=>List.mem_append.mpr (.inl h)
  have s2:∀j,j∈W2→j∈W1++W2:=fun j h=>List.mem_append.mpr (.inr h)
  have q1:o_ K (W1++W2) σ0 F1 H1 e1 D fl:=q0.later (W1:=[]) X1.s (fun j h=>by cases h) fun j h=>h
  refine⟨fun i m σ H=>m=items.length - i∧i≤items.length∧G5 K own σ0 F1 (fun e=>eZ own g f (items.drop i) e=some fl) (fun σ F H e=>o_ K (W1++W2) σ F H e D fl) σ H,
    ⟨items.length,by simp,Nat.zero_le _,.mk R1 kp (fun _ _=>rfl) (aD.refl _) hf q1⟩,?_⟩
  rintro i m σ H ⟨rfl,hi,⟨R,kp,hσ,sF,hf,q⟩⟩
  rename_i F e
  have held:wN K σ0 F H own:=fun p hp=>by
    obtain⟨l,vs,g1,g2⟩:=R.held kp p hp
    exact⟨l,vs,by rw [←hσ p hp];exact g1,g2⟩
  obtain⟨go,stop,yld⟩:=ok F H sF R.sm held
  by_cases hlt:i < items.length
  · have hd:items.drop i=items[i]::items.drop (i+1):=List.drop_eq_getElem_cons hlt
    rw [hd] at hf
    unfold eZ at hf
    obtain⟨e2,h2,hf⟩:=Option.bind_eq_some_iff.mp hf
    obtain⟨fl2,h3,hf⟩:=Option.bind_eq_some_iff.mp hf
    refine .inr ⟨go i hlt,G5 K own σ0 F1 (fun e=>eZ own g f (items.drop (i+1)) e=some fl) (fun σ F H e=>o_ K (W1++W2) σ F H e D fl),
      fun σ' H' r=>⟨items.length - (i+1),by lia,rfl,hlt,r⟩,fun x H' hy=>?_⟩
    obtain⟨F',sH,sF',sm',fz,hx⟩:=yld i items[i] x H' (List.getElem?_eq_getElem hlt) hy
    obtain⟨R',X'⟩:=R.step sH sF' sm' fz
    refine⟨F',e,items[i],e2,R',hx,h2,fun σ2 x2 R2=>⟨F',e2,fl2,R2,h3,?_⟩⟩
    have q2:o_ K (W1++W2) σ2 F' H' e2 D fl:=(q.later (W1:=[]) (W2:=W1++W2) X'.s (fun j h=>by cases h) fun j h=>h).later x2 s1 fun j h=>h
    have w2:∀p∈own,σ2[p.1]?=σ0[p.1]?:=fun p hp=>(x2.wr p.1 fun z=>hW' p hp (s1 _ z)).trans (hσ p hp)
    cases fl2 with
    | nx e3=>
      intro F3 H3 σ3 x3 R3
      dsimp only at hf
      split at hf
      case isFalse=>cases hf
      case isTrue kp3=>
      exact .mk R3 kp3 (fun p hp=>(x3.wr p.1 fun z=>hW' p hp (s2 _ z)).trans (w2 p hp)) (sF.trans (sF'.trans x3.sf)) hf (q2.later x3 s2 fun j h=>h)
    | ct e3=>
      intro F3 H3 σ3 x3 R3
      dsimp only at hf
      split at hf
      case isFalse=>cases hf
      case isTrue kp3=>
      exact .mk R3 kp3 (fun p hp=>(x3.wr p.1 fun z=>hW' p hp (s2 _ z)).trans (w2 p hp)) (sF.trans (sF'.trans x3.sf)) hf (q2.later x3 s2 fun j h=>h)
    | bk e3=>
      cases hf
      exact fun F3 H3 σ3 x3 R3=>q2 F3 H3 σ3 (x3.mono s2) R3
    | rt r e3=>
      cases hf
      exact fun F3 H3 σ3 v x3 R3 A3=>q2 F3 H3 σ3 v (x3.mono s2) R3 A3
  · have hd:items.drop i=[]:=List.drop_eq_nil_of_le (by lia)
    rw [hd] at hf
    cases hf
    exact .inl ⟨stop i (by lia),q F H σ d9.refl R⟩
end
end L2
namespace L2
open PySem PySem.Spec PyProof.Rows
def xi:Option (Option Sv)→Bool
  | some (some (.l _))=>true
  | _=>false
theorem wf{s:Option (Option Sv)}:xi s=true↔ ∃xs,s=some (some (.l xs)):=by
  unfold xi
  split
  · simp
  · rename_i h
    constructor
    · intro z;cases z
    · rintro⟨xs,rfl⟩;exact absurd rfl (h xs)
def nH(pos:Nat→Option Nat)(ei e:En):En:=e.mapIdx fun i s=>match s with
  | some (.l xs)=>match pos i with
    | some k=>(ei[k]?).join
    | none=>some (.l xs)
  | s=>s
theorem cD{pos:Nat→Option Nat}{ei e:En}{i:Nat}:(nH pos ei e)[i]?=(e[i]?).map fun s=>match s with
  | some (.l xs)=>match pos i with
    | some k=>(ei[k]?).join
    | none=>some (.l xs)
  | s=>s:=by unfold nH;rw [List.getElem?_mapIdx]
structure sS (σ:L2.St) (e:En) (σi:L2.St) (ei:En) (pos:Nat→Option Nat):Prop where
  a:∀(i k:Nat) (xs:List PyData),e[i]?=some (some (.l xs))→pos i=some k→σi[k]?=σ[i]?
  b:∀(k:Nat) (ys:List PyData),ei[k]?=some (some (.l ys))→∃(i:Nat) (xs:List PyData),e[i]?=some (some (.l xs))∧pos i=some k∧σi[k]?=σ[i]?
section
variable{K:PySem.W.Frag}{σ σi σi':L2.St}{F H F' H':Hp}{e ei ei':En}{pos:Nat→Option Nat}
def Fj(e:En):Prop:=∀(i:Nat) (xss:List (List PyData)),e[i]?≠some (some (.n xss))
theorem sS.own(s:sS σ e σi ei pos)(hn:Fj ei){a:Addr}{H H':Hp}(h:dt σi ei H a):∃(i k:Nat) (xs:List PyData),e[i]?=some (some (.l xs))∧pos i=some k∧σ[i]?=some (some (.ref a)):=by
  obtain⟨k,⟨ys,h1,h2⟩ | ⟨xss,_,_,h1,_⟩⟩:=h
  · obtain⟨i,xs,g1,g2,g3⟩:=s.b k ys h1
    exact⟨i,k,xs,g1,g2,by rw [←g3];exact h2⟩
  · exact absurd h1 (hn k xss)
theorem p_(R:bh K F H σ e)(s:sS σ e σi ei pos)(hnn:Fj ei)(sf:aD F F')(dom:∀a,H' a=none→H a=none)(fr:∀a vs,F a=none→H a=some (.lst vs)→¬dt σi ei H a→F' a=none)(lst:∀a vs,H a=some (.lst vs)→∃vs',H' a=some (.lst vs'))
    (tmp:∀a o,H a=some o→¬dt σi ei H a→H' a=some o)(R':bh K F' H' σi' ei')(hσ:∀(i k:Nat) (xs:List PyData),e[i]?=some (some (.l xs))→pos i=some k→σi'[k]?=σi[k]?)(hsh:∀(i k:Nat) (xs:List PyData),e[i]?=some (some (.l xs))→pos i=some k→∃ys,ei'[k]?=some (some (.l ys))):
    bh K F' H' σ (nH pos ei' e)∧eU σ F H e F' H' (nH pos ei' e)∧∀a,dt σ (nH pos ei' e) H' a→dt σ e H a:=by
  have shp:∀i:Nat,(∃xs,(nH pos ei' e)[i]?=some (some (.l xs)))↔ (∃xs,e[i]?=some (some (.l xs))):=by
    intro i
    rw [cD]
    match h:e[i]? with
    | none=>simp
    | some none=>simp
    | some (some (.d x))=>simp
    | some (some (.n x))=>simp
    | some (some (.l xs))=>
      simp only [Option.map_some]
      constructor
      · intro _;exact⟨xs,rfl⟩
      · intro _
        match hp:pos i with
        | none=>exact⟨xs,rfl⟩
        | some k=>
          obtain⟨ys,g⟩:=hsh i k xs h hp
          exact⟨ys,by show some ((ei'[k]?).join)=_;rw [g];rfl⟩
  have oth:∀(i:Nat) (s:Sv),(∀xs,s≠.l xs)→((nH pos ei' e)[i]?=some (some s)↔ e[i]?=some (some s)):=by
    intro i s hs
    constructor
    · intro h
      rw [cD] at h
      match h1:e[i]?,h with
      | some (some (.d y)),h=>exact h
      | some (some (.n y)),h=>exact h
      | some (some (.l ys)),h=>
        simp only [Option.map_some,Option.some.injEq] at h
        match hp:pos i,h with
        | none,h=>cases h;exact absurd rfl (hs _)
        | some k,h=>
          obtain⟨zs,g⟩:=hsh i k ys h1 hp
          change (ei'[k]?).join=_ at h
          rw [g] at h;cases h;exact absurd rfl (hs _)
      | some none,h=>simp at h
      | none,h=>simp at h
    · intro h
      rw [cD,h]
      cases s with
      | d y=>rfl
      | n y=>rfl
      | l y=>exact absurd rfl (hs y)
  have out:∀i a,Fp σ e H i a→(∀k xs,e[i]?=some (some (.l xs))→pos i≠some k)→¬dt σi ei H a:=by
    intro i a hi hp z
    obtain⟨j,k,ws,d1,d2,d3⟩:=s.own hnn (H':=H') z
    have:i=j:=R.fp i j a hi (.inl ⟨ws,d1,d3⟩)
    subst this
    exact hp k ws d1 d2
  have keep:∀i a o,Fp σ e H i a→(∀k xs,e[i]?=some (some (.l xs))→pos i≠some k)→H a=some o→H' a=some o:=fun i a o hi hp ha=>tmp a o ha (out i a hi hp)
  have sown:∀a,dt σi ei H a→dt σ e H a:=fun a z=>by
    obtain⟨j,k,ws,d1,d2,d3⟩:=s.own hnn (H':=H') z
    exact⟨j,.inl ⟨ws,d1,d3⟩⟩
  have fs:∀i a,Fp σ (nH pos ei' e) H' i a↔ Fp σ e H i a:=by
    intro i a
    have key:∀xss l,e[i]?=some (some (.n xss))→σ[i]?=some (some (.ref l))→H' l=H l:=fun xss l h1 h2=>by
      obtain⟨l',bs,g1,g2,g3,_⟩:=R.nst i xss h1
      rw [h2] at g1;cases g1
      rw [g3]
      exact keep i l _ (.inr ⟨xss,l,bs,h1,h2,g3,.inl rfl⟩) (fun k xs z=>by rw [h1] at z;cases z) g3
    constructor
    · rintro(⟨xs,h1,h2⟩ | ⟨xss,l,bs,h1,h2,h3,h4⟩)
      · obtain⟨ys,h⟩:=(shp i).mp ⟨xs,h1⟩
        exact .inl ⟨ys,h,h2⟩
      · have h1':=(oth i (.n xss) (fun _ z=>nomatch z)).mp h1
        exact .inr ⟨xss,l,bs,h1',h2,by rw [←key xss l h1' h2];exact h3,h4⟩
    · rintro(⟨xs,h1,h2⟩ | ⟨xss,l,bs,h1,h2,h3,h4⟩)
      · obtain⟨ys,h⟩:=(shp i).mpr ⟨xs,h1⟩
        exact .inl ⟨ys,h,h2⟩
      · exact .inr ⟨xss,l,bs,(oth i (.n xss) (fun _ z=>nomatch z)).mpr h1,h2,by rw [key xss l h1 h2];exact h3,h4⟩
  refine⟨⟨R'.sm,?_,fun i x h=>?_,fun i xs h=>?_,fun i xss h=>?_,fun i j a h1 h2=>R.fp i j a ((fs i a).mp h1) ((fs j a).mp h2)⟩,⟨sf,dom,fun a vs h1 h2 n=>fr a vs h1 h2 fun z=>n (sown a z),lst,fun a o h n=>tmp a o h fun z=>n (sown a z),shp,fun a ⟨i,h⟩=>.inl ⟨i,(fs i a).mp h⟩⟩,fun a ⟨i,h⟩=>⟨i,(fs i a).mp h⟩⟩
  · unfold nH;rw [List.length_mapIdx];exact R.len
  · obtain⟨v,g1,g2⟩:=R.dat i x ((oth i (.d x) (fun _ z=>nomatch z)).mp h)
    exact⟨v,g1,DA.mono sf g2⟩
  · obtain⟨ys,h1⟩:=(shp i).mp ⟨xs,h⟩
    obtain⟨l,vs,g1,g2,g3,g4⟩:=R.own i ys h1
    rw [cD,h1] at h
    simp only [Option.map_some,Option.some.injEq] at h
    match hp:pos i,h with
    | none,h=>
      cases h
      have np:∀k xs,e[i]?=some (some (Sv.l xs))→pos i≠some k:=fun k xs _ z=>by rw [hp] at z;cases z
      have fi:Fp σ e H i l:=.inl ⟨_,h1,g1⟩
      exact⟨l,vs,g1,fr l vs g2 g3 (out i l fi np),keep i l _ fi np g3,g4.mono sf⟩
    | some k,h=>
      obtain⟨zs,c1⟩:=hsh i k ys h1 hp
      change (ei'[k]?).join=_ at h
      rw [c1] at h;cases h
      obtain⟨l',vs',d1,d2,d3,d4⟩:=R'.own k _ c1
      rw [hσ i k ys h1 hp,s.a i k ys h1 hp] at d1
      exact⟨l',vs',d1,d2,d3,d4⟩
  · have h1:=(oth i (.n xss) (fun _ z=>nomatch z)).mp h
    obtain⟨l,bs,g1,g2,g3,g4,g5,g6,g7⟩:=R.nst i xss h1
    have np:∀k xs,e[i]?=some (some (Sv.l xs))→pos i≠some k:=fun k xs z=>by rw [h1] at z;cases z
    have fi:Fp σ e H i l:=.inr ⟨xss,l,bs,h1,g1,g3,.inl rfl⟩
    refine⟨l,bs,g1,fr l _ g2 g3 (out i l fi np),keep i l _ fi np g3,g4,g5,g6,fun k b ys q1 q2=>?_⟩
    obtain⟨c1,us,c2,c3⟩:=g7 k b ys q1 q2
    have fb:Fp σ e H i b:=.inr ⟨xss,l,bs,h1,g1,g3,.inr (List.mem_of_getElem? q1)⟩
    exact⟨fr b _ c1 c2 (out i b fb np),us,keep i b _ fb np c2,c3.mono sf⟩
end
def ci(e:En):List Rv→Option (List Sv)
  | []=>some []
  | .d x::r=>(ci e r).map (.d x::·)
  | .l xs::r=>(ci e r).map (.d (.list xs)::·)
  | .s i::r=>match e[i]? with
    | some (some (.l xs))=>(ci e r).map (.l xs::·)
    | _=>none
def aN:List Rv→List Nat
  | []=>[]
  | .s i::r=>i::aN r
  | .d _::r=>aN r
  | .l _::r=>aN r
def lQ(rs:List Rv)(i:Nat):Option Nat:=rs.findIdx? fun r=>match r with
  | .s j=>j==i
  | _=>false
def noS:Rv→Prop
  | .s _=>False
  | _=>True
abbrev FM:=List Sv→Option (Rv × List Sv)
def bM(K:PySem.W.Frag)(n:Nat)(m:FM):Sp:=fun vs H Q _=>vs.length=n∧∃F as r as',bh K F H (vs.map some) (as.map some)∧Fj (as.map some)∧m as=some (r,as')∧noS r∧
  ∀F' H' v,eU (vs.map some) F H (as.map some) F' H' (as'.map some)→bh K F' H' (vs.map some) (as'.map some)→cU K (vs.map some) H F' H' (as'.map some) r v→Q v H'
def bj:List Rv→List Sv→Bool
  | [],[]=>true
  | .s _::r,.l _::s=>bj r s
  | .d _::r,_::s=>bj r s
  | .l _::r,_::s=>bj r s
  | _,_=>false
def si:Rv→Bool
  | .s _=>false
  | _=>true
def ee:List Rv→List Sv→En→En
  | .s i::r,.l ys::s,e=>ee r s (e.set i (some (.l ys)))
  | .d _::r,_::s,e=>ee r s e
  | .l _::r,_::s,e=>ee r s e
  | _,_,e=>e
def bW(n:Nat)(m:FM)(fs:FA):FE:=fun e=>(fs e).bind fun p=>(ci p.2 p.1).bind fun as=>(m as).bind fun z=>if p.1.length=n∧(aN p.1).Nodup∧bj p.1 z.2=true∧si z.1=true then some (z.1,ee p.1 z.2 p.2) else none
theorem jC:∀{rs:List Rv} {as:List Sv},bj rs as=true→∀(k i:Nat),rs[k]?=some (.s i)→∃ys,as[k]?=some (.l ys)
  | [],[],_,k,i,h=>by simp at h
  | .s j::r,.l ys::s,h,k,i,hk=>by
    cases k with
    | zero=>exact⟨ys,rfl⟩
    | succ k=>simpa using jC (rs:=r) (as:=s) (by simpa [bj] using h) k i (by simpa using hk)
  | .d x::r,y::s,h,k,i,hk=>by
    cases k with
    | zero=>simp at hk
    | succ k=>simpa using jC (rs:=r) (as:=s) (by simpa [bj] using h) k i (by simpa using hk)
  | .l x::r,y::s,h,k,i,hk=>by
    cases k with
    | zero=>simp at hk
    | succ k=>simpa using jC (rs:=r) (as:=s) (by simpa [bj] using h) k i (by simpa using hk)
  | .s _::_,.d _::_,h,_,_,_=>by simp [bj] at h
  | .s _::_,[],h,_,_,_=>by simp [bj] at h
  | .d _::_,[],h,_,_,_=>by simp [bj] at h
  | .l _::_,[],h,_,_,_=>by simp [bj] at h
theorem nq{r0:Rv}{rs:List Rv}{i:Nat}:lQ (r0::rs) i=if (match r0 with | .s j=>j==i | _=>false)=true then some 0 else(lQ rs i).map (· +1):=by
  unfold lQ;rw [List.findIdx?_cons]
theorem nu{rs:List Rv}{i k:Nat}(h:lQ rs i=some k):rs[k]?=some (.s i):=by
  unfold lQ at h
  rw [List.findIdx?_eq_some_iff_getElem] at h
  obtain⟨hk,h1,_⟩:=h
  rw [List.getElem?_eq_getElem hk]
  split at h1
  · rename_i heq
    rw [heq]
    have:=eq_of_beq h1
    rw [this]
  · cases h1
theorem g_:∀{rs:List Rv} {i:Nat},i∈aN rs↔ Rv.s i∈rs
  | [],i=>by simp [aN]
  | .s j::r,i=>by simp [aN,g_ (rs:=r)]
  | .d x::r,i=>by simp [aN,g_ (rs:=r)]
  | .l x::r,i=>by simp [aN,g_ (rs:=r)]
theorem iw:∀{rs:List Rv} {i k j:Nat},(aN rs).Nodup→rs[k]?=some (.s i)→rs[j]?=some (.s i)→k=j
  | [],i,k,j,_,h,_=>by simp at h
  | .s m::r,i,k,j,hn,h1,h2=>by
    simp only [aN,List.nodup_cons] at hn
    cases k with
    | zero=>
      simp at h1;subst h1
      cases j with
      | zero=>rfl
      | succ j=>exact absurd (g_.mpr (List.mem_of_getElem? (by simpa using h2))) hn.1
    | succ k=>
      cases j with
      | zero=>
        simp at h2;subst h2
        exact absurd (g_.mpr (List.mem_of_getElem? (by simpa using h1))) hn.1
      | succ j=>
        have:=iw (rs:=r) (i:=i) (k:=k) (j:=j) hn.2 (by simpa using h1) (by simpa using h2)
        lia
  | .d x::r,i,k,j,hn,h1,h2=>by
    cases k with
    | zero=>simp at h1
    | succ k=>
      cases j with
      | zero=>simp at h2
      | succ j=>
        have:=iw (rs:=r) (i:=i) (k:=k) (j:=j) (by simpa [aN] using hn) (by simpa using h1) (by simpa using h2)
        lia
  | .l x::r,i,k,j,hn,h1,h2=>by
    cases k with
    | zero=>simp at h1
    | succ k=>
      cases j with
      | zero=>simp at h2
      | succ j=>
        have:=iw (rs:=r) (i:=i) (k:=k) (j:=j) (by simpa [aN] using hn) (by simpa using h1) (by simpa using h2)
        lia
theorem zx{rs:List Rv}{i:Nat}(h:i∉aN rs):lQ rs i=none:=by
  unfold lQ
  rw [List.findIdx?_eq_none_iff]
  intro r hr
  cases r with
  | d x=>rfl
  | l x=>rfl
  | s j=>
    have:j≠i:=fun z=>h (by rw [←z];exact g_.mpr hr)
    simpa using this
theorem oP:∀{rs:List Rv} {as:List Sv} {e:En},(aN rs).Nodup→bj rs as=true→(∀j∈aN rs,∃xs,e[j]?=some (some (.l xs)))→ee rs as e=nH (lQ rs) (as.map some) e
  | [],[],e,_,_,_=>by
    refine List.ext_getElem? fun i=>?_
    rw [cD]
    have:lQ [] i=none:=rfl
    rw [this]
    simp only [ee]
    match e[i]? with
    | none=>rfl
    | some none=>rfl
    | some (some (.d x))=>rfl
    | some (some (.l x))=>rfl
    | some (some (.n x))=>rfl
  | .d x::r,y::s,e,hn,hl,hs=>by
    rw [show ee (.d x::r) (y::s) e=ee r s e from rfl,oP (by simpa [aN] using hn) (by simpa [bj] using hl) (fun j hj=>hs j (by simpa [aN] using hj))]
    refine List.ext_getElem? fun i=>?_
    rw [cD,cD,nq]
    cases lQ r i<;>simp
  | .l x::r,y::s,e,hn,hl,hs=>by
    rw [show ee (.l x::r) (y::s) e=ee r s e from rfl,oP (by simpa [aN] using hn) (by simpa [bj] using hl) (fun j hj=>hs j (by simpa [aN] using hj))]
    refine List.ext_getElem? fun i=>?_
    rw [cD,cD,nq]
    cases lQ r i<;>simp
  | .s k::r,.l ys::s,e,hn,hl,hs=>by
    simp only [aN,List.nodup_cons] at hn
    obtain⟨xs,hk⟩:=hs k (by simp [aN])
    have hlt:k < e.length:=(List.getElem?_eq_some_iff.mp hk).1
    rw [show ee (.s k::r) (.l ys::s) e=ee r s (e.set k (some (.l ys))) from rfl,oP hn.2 (by simpa [bj] using hl) (fun j hj=>by
      have z:k≠j:=fun z=>hn.1 (by rw [z];exact hj)
      rw [List.getElem?_set_ne z]
      exact hs j (by simp [aN,hj]))]
    refine List.ext_getElem? fun i=>?_
    rw [cD,cD,nq]
    by_cases z:k=i
    · subst z
      rw [List.getElem?_set_self hlt,hk,zx hn.1]
      simp
    · rw [List.getElem?_set_ne z]
      have:((match (Rv.s k) with | .s j=>j==i | _=>false)=true)=False:=by simp [z]
      simp only [this,if_false]
      cases lQ r i<;>simp
  | .s _::_,.d _::_,_,_,h,_=>by simp [bj] at h
  | .s _::_,.n _::_,_,_,h,_=>by simp [bj] at h
  | .s _::_,[],_,_,h,_=>by simp [bj] at h
  | .d _::_,[],_,_,h,_=>by simp [bj] at h
  | .l _::_,[],_,_,h,_=>by simp [bj] at h
  | [],_::_,_,_,h,_=>by simp [bj] at h
theorem gN{e:En}:∀{rs:List Rv} {as:List Sv},ci e rs=some as→∀j∈aN rs,∃xs,e[j]?=some (some (.l xs))
  | [],_,_,j,h=>by simp [aN] at h
  | .d x::rs,as,q,j,h=>by
    obtain⟨as',q1,rfl⟩:=Option.map_eq_some_iff.mp q
    exact gN q1 j (by simpa [aN] using h)
  | .l x::rs,as,q,j,h=>by
    obtain⟨as',q1,rfl⟩:=Option.map_eq_some_iff.mp q
    exact gN q1 j (by simpa [aN] using h)
  | .s k::rs,as,q,j,h=>by
    unfold ci at q
    match he:e[k]?,q with
    | some (some (.l xs)),q=>
      obtain⟨as',q1,rfl⟩:=Option.map_eq_some_iff.mp q
      simp only [aN,List.mem_cons] at h
      rcases h with rfl | h
      · exact⟨xs,he⟩
      · exact gN q1 j h
theorem lV{e:En}:∀{rs:List Rv} {as:List Sv} {k i:Nat},ci e rs=some as→rs[k]?=some (.s i)→∃xs,as[k]?=some (.l xs)
  | [],_,k,i,_,h=>by simp at h
  | .d x::rs,as,k,i,q,h=>by
    obtain⟨as',q1,rfl⟩:=Option.map_eq_some_iff.mp q
    cases k with
    | zero=>simp at h
    | succ k=>simpa using lV (k:=k) (i:=i) q1 (by simpa using h)
  | .l x::rs,as,k,i,q,h=>by
    obtain⟨as',q1,rfl⟩:=Option.map_eq_some_iff.mp q
    cases k with
    | zero=>simp at h
    | succ k=>simpa using lV (k:=k) (i:=i) q1 (by simpa using h)
  | .s j::rs,as,k,i,q,h=>by
    unfold ci at q
    match he:e[j]?,q with
    | some (some (.l xs)),q=>
      obtain⟨as',q1,rfl⟩:=Option.map_eq_some_iff.mp q
      cases k with
      | zero=>exact⟨xs,rfl⟩
      | succ k=>simpa using lV (k:=k) (i:=i) q1 (by simpa using h)
section
variable{X:Cx}{K:PySem.W.Frag}{σ:L2.St}{H0 H:Hp}{e:En}
theorem oK:∀{rs:List Rv} {vs:List V} {as:List Sv} {F:Hp},bh K F H σ e→dJ K σ H0 F H e rs vs→ci e rs=some as→
    ∃F',bh K F' H σ e∧aD F F'∧(∀a,F a=none→H0 a≠none→F' a=none)∧vs.length=as.length∧rs.length=as.length∧
      (∀(k:Nat) (x:PyData),as[k]?=some (.d x)→∃v,vs[k]?=some v∧DA K F' x v)∧∀(k:Nat) (xs:List PyData),as[k]?=some (.l xs)→∃i,rs[k]?=some (.s i)∧e[i]?=some (some (.l xs))∧∃v,vs[k]?=some v∧σ[i]?=some (some v)
  | [],vs,as,F,R,h,q=>by
    cases q
    have h':vs=[]:=h
    subst h'
    exact⟨F,R,aD.refl _,fun _ h _=>h,rfl,rfl,fun k x h=>by simp at h,fun k x h=>by simp at h⟩
  | .d x::rs,_,as,F,R,h,q=>by
    obtain⟨v,ws,rfl,h1,h2⟩:=h
    obtain⟨as',q1,rfl⟩:=Option.map_eq_some_iff.mp q
    obtain⟨F',R',s',f',l1,l2,d',o'⟩:=oK R h2 q1
    refine⟨F',R',s',f',by simp [l1],by simp [l2],fun k y hk=>?_,fun k ys hk=>?_⟩
    · cases k with
      | zero=>simp at hk;subst hk;exact⟨v,rfl,DA.mono s' h1⟩
      | succ k=>simpa using d' k y (by simpa using hk)
    · cases k with
      | zero=>simp at hk
      | succ k=>simpa using o' k ys (by simpa using hk)
  | .l xs::rs,_,as,F,R,h,q=>by
    obtain⟨v,ws,rfl,h1,h2⟩:=h
    obtain⟨as',q1,rfl⟩:=Option.map_eq_some_iff.mp q
    obtain⟨F',R',s',f',l1,l2,d',o'⟩:=oK R h2 q1
    have key:∃F2,bh K F2 H σ e∧aD F' F2∧(∀a,F' a=none→H0 a≠none→F2 a=none)∧DA K F2 (.list xs) v:=by
      obtain⟨l,us,rfl,g1,g2,g3,g4,g5⟩:=h1
      cases hl:F' l with
      | none=>
        have h1':cU K σ H0 F' H e (.l xs) (.ref l):=⟨l,us,rfl,g1,hl,g3,aU.mono s' g4,g5⟩
        obtain⟨F2,R2,s2,d2,f2⟩:=h1'.frozen R'
        exact⟨F2,R2,s2,f2,d2⟩
      | some o=>
        have:=R'.sm _ _ hl
        rw [g3] at this;cases this
        exact⟨F',R',aD.refl _,fun _ h _=>h,dc.mpr ⟨l,us,rfl,.inl (.inl hl),aU.mono s' g4⟩⟩
    obtain⟨F2,R2,s2,f2,d2⟩:=key
    refine⟨F2,R2,s'.trans s2,fun a ha hn=>f2 a (f' a ha hn) hn,by simp [l1],by simp [l2],fun k y hk=>?_,fun k ys hk=>?_⟩
    · cases k with
      | zero=>simp at hk;subst hk;exact⟨v,rfl,d2⟩
      | succ k=>
        obtain⟨u,c1,c2⟩:=d' k y (by simpa using hk)
        exact⟨u,by simpa using c1,DA.mono s2 c2⟩
    · cases k with
      | zero=>simp at hk
      | succ k=>simpa using o' k ys (by simpa using hk)
  | .s i::rs,_,as,F,R,h,q=>by
    obtain⟨v,ws,rfl,h1,h2⟩:=h
    unfold ci at q
    match he:e[i]?,q with
    | some (some (.l xs)),q=>
      obtain⟨as',q1,rfl⟩:=Option.map_eq_some_iff.mp q
      obtain⟨F',R',s',f',l1,l2,d',o'⟩:=oK R h2 q1
      refine⟨F',R',s',f',by simp [l1],by simp [l2],fun k y hk=>?_,fun k ys hk=>?_⟩
      · cases k with
        | zero=>simp at hk
        | succ k=>simpa using d' k y (by simpa using hk)
      · cases k with
        | zero=>simp at hk;subst hk;exact⟨i,rfl,he,v,rfl,h1.1⟩
        | succ k=>simpa using o' k ys (by simpa using hk)
theorem gR{α:Type}{l:List α}{k:Nat}{x:α}:(l.map some)[k]?=some (some x)↔ l[k]?=some x:=by
  rw [List.getElem?_map]
  cases l[k]?<;>simp
theorem cU.noS{σ':L2.St}{e':En}{F H:Hp}{r:Rv}{v:V}(h:cU K σ' H0 F H e' r v)(n:L2.noS r)(ho:∀a,dt σ e H a→H0 a≠none):cU K σ H0 F H e r v:=by
  cases r with
  | d x=>exact h
  | l xs=>
    obtain⟨l,vs,e1,h1,h2,h3,h4,_⟩:=h
    exact⟨l,vs,e1,h1,h2,h3,h4,fun z=>ho l z h1⟩
  | s i=>exact absurd n (by simp [L2.noS])
theorem jo:∀{rs:List Rv} {as:List Sv},ci e rs=some as→Fj (as.map some)
  | [],_,q=>by cases q;intro i xss h;simp at h
  | .d x::rs,as,q=>by
    obtain⟨as',q1,rfl⟩:=Option.map_eq_some_iff.mp q
    have ih:=jo q1
    intro i xss h
    cases i with
    | zero=>simp at h
    | succ i=>exact ih i xss (by simpa using h)
  | .l x::rs,as,q=>by
    obtain⟨as',q1,rfl⟩:=Option.map_eq_some_iff.mp q
    have ih:=jo q1
    intro i xss h
    cases i with
    | zero=>simp at h
    | succ i=>exact ih i xss (by simpa using h)
  | .s j::rs,as,q=>by
    unfold ci at q
    match he:e[j]?,q with
    | some (some (.l xs)),q=>
      obtain⟨as',q1,rfl⟩:=Option.map_eq_some_iff.mp q
      have ih:=jo q1
      intro i xss h
      cases i with
      | zero=>simp at h
      | succ i=>exact ih i xss (by simpa using h)
theorem E8{n:Nat}{m:FM}{fs:FA}{Q:VK}{E:XK}(h:fE K (bW n m fs) σ H Q):z9 (bM K n m) [] E (fA K fs) σ H Q:=by
  obtain⟨F,e,z,e',R,hf,q⟩:=h
  unfold bW at hf
  obtain⟨⟨rs,e1⟩,h1,hf⟩:=Option.bind_eq_some_iff.mp hf
  obtain⟨as,h2,hf⟩:=Option.bind_eq_some_iff.mp hf
  obtain⟨⟨r,as'⟩,h3,hf⟩:=Option.bind_eq_some_iff.mp hf
  split at hf
  case isFalse=>cases hf
  case isTrue hc=>
  obtain⟨c1,c2,c3,c4⟩:=hc
  cases hf
  refine⟨F,e,rs,e1,R,h1,fun F1 H1 vs X1 R1 A1=>?_⟩
  obtain⟨F2,R2,s2,f2,l1,l2,d2,o2⟩:=oK R1 A1 h2
  have X2:=X1.frz s2 f2
  rw [List.append_nil]
  have hn:L2.noS r:=by
    cases r with
    | d x=>trivial
    | l x=>trivial
    | s i=>cases c4
  have nN:=jo h2
  have RA:bh K F2 H1 (vs.map some) (as.map some):=by
    refine⟨R2.sm,by simp [l1],fun k x hk=>?_,fun k xs hk=>?_,fun k xss hk=>absurd hk (nN k xss),fun k j l f1 f2=>?_⟩
    · obtain⟨v,g1,g2⟩:=d2 k x (gR.mp hk)
      exact⟨v,gR.mpr g1,g2⟩
    · obtain⟨i,g1,g2,v,g3,g4⟩:=o2 k xs (gR.mp hk)
      obtain⟨l,us,k1,k2,k3,k4⟩:=R2.own i xs g2
      rw [g4] at k1;cases k1
      exact⟨l,us,gR.mpr g3,k2,k3,k4⟩
    · obtain⟨xs,g1,g3⟩:=f1.resolve_right fun⟨xss,_,_,z,_⟩=>nN k xss z
      obtain⟨ys,g2,g4⟩:=f2.resolve_right fun⟨xss,_,_,z,_⟩=>nN j xss z
      obtain⟨i1,a1,a2,v1,a3,a4⟩:=o2 k xs (gR.mp g1)
      obtain⟨i2,b1,b2,v2,b3,b4⟩:=o2 j ys (gR.mp g2)
      have e1:=gR.mp g3
      have e2:=gR.mp g4
      rw [a3] at e1;cases e1
      rw [b3] at e2;cases e2
      have:i1=i2:=R2.inj i1 i2 xs ys l a2 b2 a4 b4
      subst this
      exact iw c2 a1 b1
  have sub:sS σ e1 (vs.map some) (as.map some) (lQ rs):=by
    refine⟨fun i k xs g1 g2=>?_,fun k ys g1=>?_⟩
    · have g3:=nu g2
      obtain⟨zs,hs⟩:=lV h2 g3
      obtain⟨i',a1,a2,v,a3,a4⟩:=o2 k zs hs
      rw [g3] at a1;cases a1
      rw [gR.mpr a3,a4]
    · obtain⟨i,a1,a2,v,a3,a4⟩:=o2 k ys (gR.mp g1)
      refine⟨i,ys,a2,?_,by rw [gR.mpr a3,a4]⟩
      cases hp:lQ rs i with
      | none=>
        unfold lQ at hp
        rw [List.findIdx?_eq_none_iff] at hp
        have:=hp _ (List.mem_of_getElem? a1)
        simp at this
      | some j=>rw [iw c2 (nu hp) a1]
  refine⟨by rw [l1,←l2];exact c1,F2,as,r,as',RA,nN,h3,hn,fun F' H' v X3 R3 A3=>?_⟩
  obtain⟨R4,X4,o4⟩:=p_ R2 sub nN X3.sf X3.dom X3.fr X3.lst X3.tmp R3 (fun _ _ _ _ _=>rfl) fun i k xs g1 g2=>by
    obtain⟨ys,g3⟩:=jC c3 k i (nu g2)
    exact⟨ys,gR.mpr g3⟩
  have hb:=oP (e:=e1) c2 c3 (gN h2)
  rw [←hb] at R4 X4 o4
  exact q F' H' v (X2.trans X4) R4 ((A3.noS hn fun a z=>R2.ownH a (o4 a z)).weak X2.dom)
theorem a'{x:Str}{st:Stmt}{f:Addr}{fd:FuncData}{ps:List Str}{k n:Nat}{m:FM}{a:Expr}{es:List Expr}{fs:FA}{p pos:Pos}(h:be X.K X.mg x st f fd ps)(G:aL X.prog X.w X.K X.mg X.base bH k f fd ps (bM K n m))(hr:eB k X.A)(ha:PA X (a::es) (fA K fs))
    (hg:Gl X x)(hdb:(x==("__debug__":Str))=false)(he:starEach (a::es) X.env=(false,eval a X.env)::starEach es X.env)(hpl:(backTo pos (starEach es X.env)).any (·.1)=false):
    PE X (.Call (.Name x p) (a::es) [] pos) (fE K (bW n m fs)):=(Hu h G hr ha hg hdb he hpl).mono fun _ _ _ h=>E8 h
def sP:List Sv→En→Option (List Sv)
  | [],_=>some []
  | .d x::r,e=>(sP r e.tail).map (.d x::·)
  | .l _::r,e=>match e.head? with
    | some (some (.l ys))=>(sP r e.tail).map (.l ys::·)
    | _=>none
  | .n _::_,_=>none
def qj(n:Nat)(e:En):Rv→Option Rv
  | .s i=>if n≤i then match e[i]? with
      | some (some (.l xs))=>some (.l xs)
      | _=>none
    else none
  | r=>some r
def ky(W:List Nat)(as:List Sv):Bool:=W.all fun j=>match as[j]? with
  | some (.l _)=>false
  | _=>true
def gS(n k:Nat)(W:List Nat)(f:FS):FM:=fun as=>if as.length=n∧ky W as=true then(f (as.map some++List.replicate k none)).bind fun fl=>match fl with
    | .rt r e=>(qj n e r).bind fun r'=>(sP as e).map fun as'=>(r',as')
    | .nx e=>(sP as e).map fun as'=>(.d .none,as')
    | _=>none
  else none
theorem oW:∀{as as':List Sv} {e:En},sP as e=some as'→as'.length=as.length∧(∀(j:Nat) (x:PyData),as'[j]?=some (.d x)↔ as[j]?=some (.d x))∧(∀(j:Nat) (ys:List PyData),as'[j]?=some (.l ys)→(∃xs,as[j]?=some (.l xs))∧e[j]?=some (some (.l ys)))∧∀(j:Nat) (xs:List PyData),as[j]?=some (.l xs)→∃ys,as'[j]?=some (.l ys)
  | [],_,e,h=>by cases h;simp
  | .d x::r,_,e,h=>by
    obtain⟨s,h1,rfl⟩:=Option.map_eq_some_iff.mp h
    obtain⟨g1,g2,g3,g4⟩:=oW h1
    refine⟨by simp [g1],fun j y=>?_,fun j ys hj=>?_,fun j xs hj=>?_⟩
    · cases j with
      | zero=>simp
      | succ j=>simpa using g2 j y
    · cases j with
      | zero=>simp at hj
      | succ j=>
        obtain⟨c1,c2⟩:=g3 j ys (by simpa using hj)
        refine⟨by simpa using c1,?_⟩
        rw [List.getElem?_tail] at c2
        exact c2
    · cases j with
      | zero=>simp at hj
      | succ j=>simpa using g4 j xs (by simpa using hj)
  | .l xs::r,_,e,h=>by
    unfold sP at h
    match he:e.head?,h with
    | some (some (.l ys)),h=>
      obtain⟨s,h1,rfl⟩:=Option.map_eq_some_iff.mp h
      obtain⟨g1,g2,g3,g4⟩:=oW h1
      refine⟨by simp [g1],fun j y=>?_,fun j zs hj=>?_,fun j zs hj=>?_⟩
      · cases j with
        | zero=>simp
        | succ j=>simpa using g2 j y
      · cases j with
        | zero=>
          simp at hj;subst hj
          exact⟨⟨xs,rfl⟩,by rw [List.head?_eq_getElem?] at he;exact he⟩
        | succ j=>
          obtain⟨c1,c2⟩:=g3 j zs (by simpa using hj)
          refine⟨by simpa using c1,?_⟩
          rw [List.getElem?_tail] at c2
          exact c2
      · cases j with
        | zero=>exact⟨ys,rfl⟩
        | succ j=>simpa using g4 j zs (by simpa using hj)
  | .n x::r,_,e,h=>by simp [sP] at h
end
end L2
namespace L2
open PySem PySem.Spec PyProof.Rows
theorem fD{α:Type}{l:List (Option α)}{k i:Nat}{x:α}(h:(l++List.replicate k none)[i]?=some (some x)):l[i]?=some (some x):=by
  rw [List.getElem?_append] at h
  split at h
  · exact h
  · rw [List.getElem?_replicate] at h
    split at h<;>simp at h
theorem fZ{α:Type}{l:List (Option α)}{k i:Nat}{x:α}(h:l[i]?=some (some x)):(l++List.replicate k none)[i]?=some (some x):=by
  have hi:i < l.length:=(List.getElem?_eq_some_iff.mp h).1
  rw [List.getElem?_append_left hi];exact h
section
variable{K:PySem.W.Frag}{F H:Hp}{σ:L2.St}{e:En}{k:Nat}
theorem rY{i:Nat}{a:Addr}:Fp (σ++List.replicate k none) (e++List.replicate k none) H i a↔ Fp σ e H i a:=by
  constructor
  · rintro(⟨xs,h1,h2⟩ | ⟨xss,l,bs,h1,h2,h3⟩)
    · exact .inl ⟨xs,fD h1,fD h2⟩
    · exact .inr ⟨xss,l,bs,fD h1,fD h2,h3⟩
  · rintro(⟨xs,h1,h2⟩ | ⟨xss,l,bs,h1,h2,h3⟩)
    · exact .inl ⟨xs,fZ h1,fZ h2⟩
    · exact .inr ⟨xss,l,bs,fZ h1,fZ h2,h3⟩
theorem sA{a:Addr}:dt (σ++List.replicate k none) (e++List.replicate k none) H a↔ dt σ e H a:=⟨fun⟨i,h⟩=>⟨i,rY.mp h⟩,fun⟨i,h⟩=>⟨i,rY.mpr h⟩⟩
theorem bh.pad(R:bh K F H σ e):bh K F H (σ++List.replicate k none) (e++List.replicate k none):=by
  refine⟨R.sm,by simp [R.len],fun i x h=>?_,fun i xs h=>?_,fun i xss h=>?_,fun i j a h1 h2=>R.fp i j a (rY.mp h1) (rY.mp h2)⟩
  · obtain⟨v,g1,g2⟩:=R.dat i x (fD h)
    exact⟨v,fZ g1,g2⟩
  · obtain⟨l,vs,g1,g2⟩:=R.own i xs (fD h)
    exact⟨l,vs,fZ g1,g2⟩
  · obtain⟨l,bs,g1,g2⟩:=R.nst i xss (fD h)
    exact⟨l,bs,fZ g1,g2⟩
end
theorem sQ:∀{as as':List Sv} {e:En},sP as e=some as'→Fj (as'.map some)
  | [],_,e,h=>by cases h;intro i xss z;simp at z
  | .d x::r,_,e,h=>by
    obtain⟨s,h1,rfl⟩:=Option.map_eq_some_iff.mp h
    have ih:=sQ h1
    intro i xss z
    cases i with
    | zero=>simp at z
    | succ i=>exact ih i xss (by simpa using z)
  | .l xs::r,_,e,h=>by
    unfold sP at h
    match he:e.head?,h with
    | some (some (.l ys)),h=>
      obtain⟨s,h1,rfl⟩:=Option.map_eq_some_iff.mp h
      have ih:=sQ h1
      intro i xss z
      cases i with
      | zero=>simp at z
      | succ i=>exact ih i xss (by simpa using z)
  | .n x::r,_,e,h=>by simp [sP] at h
theorem tT{W:List Nat}{as:List Sv}(h:ky W as=true){j:Nat}{xs:List PyData}(hj:as[j]?=some (.l xs)):j∉W:=fun z=>by
  unfold ky at h
  have:=List.all_eq_true.mp h j z
  rw [hj] at this
  cases this
section
variable{P:Program}{w:World}{K:PySem.W.Frag}{mg:Str→Option Value}{base:Heap}
theorem be.fn{x:Str}{st:Stmt}{f:Addr}{fd:FuncData}{N ps:List Str}{k n k0:Nat}{W:List Nat}{fb:FS}(h:be K mg x st f fd ps)(S:aH N ps (am st))(hn:ps.length=n)(hN:N.length=n+k0)
    (hb:∀(cdv:Value) (A:Around) (outer:List Env) (s:Shared) (H:Hp) (E:XK),eB k (A.deeper (envOfC x (am st) s.heap.objs.size f cdv))→oB (uL bH P w K mg base N x (am st) f cdv A outer s H E).nox (dw st) (fS K fb W)):
    aL P w K mg base bH (k+1) f fd ps (bM K n (gS n k0 W fb)):=by
  refine h.F.ok S (fun vs H Q E q=>?_) fun cdv A outer s H vs Q E hr hsp=>⟨_,hb cdv A outer s H E hr,?_⟩
  · rw [hn];exact q.1
  · obtain⟨hl,F,as,r,as',R,nN,hm,nr,q⟩:=hsp
    unfold gS at hm
    split at hm
    case isFalse=>cases hm
    case isTrue hc=>
    obtain⟨la,nl⟩:=hc
    obtain⟨fl,h1,hm⟩:=Option.bind_eq_some_iff.mp hm
    have hst:gK N vs=vs.map some++List.replicate k0 none:=by unfold gK;rw [hN,hl];congr 2;lia
    rw [hst]
    have key:∀{as':List Sv} {e':En},sP as e'=some as'→∀F' H' σ',d9 W (vs.map some++List.replicate k0 none) F H (as.map some++List.replicate k0 none) σ' F' H' e'→bh K F' H' σ' e'→
        eU (vs.map some) F H (as.map some) F' H' (as'.map some)∧bh K F' H' (vs.map some) (as'.map some)∧∀a,dt (vs.map some) (as'.map some) H' a→dt (vs.map some) (as.map some) H a:=by
      intro as' e' hu F' H' σ' X' R'
      obtain⟨u1,u2,u3,u4⟩:=oW hu
      have uN:=sQ hu
      have ow:∀a,dt (vs.map some) (as'.map some) H' a→dt (vs.map some) (as.map some) H a:=by
        rintro a ⟨j,⟨ys,c1,c2⟩ | ⟨xss,_,_,z,_⟩⟩
        · obtain⟨⟨xs,c3⟩,_⟩:=u3 j ys (gR.mp c1)
          exact⟨j,.inl ⟨xs,gR.mpr c3,c2⟩⟩
        · exact absurd z (uN j xss)
      have sg:∀(j:Nat) (xs:List PyData),as[j]?=some (.l xs)→σ'[j]?=(vs.map some)[j]?:=fun j xs hj=>by
        rw [X'.wr j (tT nl hj)]
        have hj2:j < (vs.map some).length:=by rw [List.length_map,hl,←la];exact(List.getElem?_eq_some_iff.mp hj).1
        rw [List.getElem?_append_left hj2]
      refine⟨⟨X'.sf,X'.dom,fun a vs h1 h2 hn=>X'.fr a vs h1 h2 fun z=>hn (sA.mp z),X'.lst,fun a o ha hn=>X'.tmp a o ha fun z=>hn (sA.mp z),fun j=>?_,fun a z=>.inl (ow a z)⟩,⟨R'.sm,?_,fun j y hj=>?_,fun j ys hj=>?_,fun j xss hj=>absurd hj (uN j xss),fun j i l f1 f2=>?_⟩,ow⟩
      · constructor
        · rintro⟨ys,hj⟩
          obtain⟨⟨xs,c⟩,_⟩:=u3 j ys (gR.mp hj)
          exact⟨xs,gR.mpr c⟩
        · rintro⟨xs,hj⟩
          obtain⟨ys,c⟩:=u4 j xs (gR.mp hj)
          exact⟨ys,gR.mpr c⟩
      · simp [u1,hl,la]
      · obtain⟨v,c1,c2⟩:=R.dat j y (gR.mpr ((u2 j y).mp (gR.mp hj)))
        exact⟨v,c1,DA.mono X'.sf c2⟩
      · obtain⟨⟨xs,c1⟩,c2⟩:=u3 j ys (gR.mp hj)
        obtain⟨l,us,d1,d2⟩:=R'.own j ys c2
        exact⟨l,us,by rw [←sg j xs c1];exact d1,d2⟩
      · obtain⟨xs,g1,g3⟩:=f1.resolve_right fun⟨xss,_,_,z,_⟩=>uN j xss z
        obtain⟨ys,g2,g4⟩:=f2.resolve_right fun⟨xss,_,_,z,_⟩=>uN i xss z
        obtain⟨⟨zs,c1⟩,c2⟩:=u3 j xs (gR.mp g1)
        obtain⟨⟨ws,c3⟩,c4⟩:=u3 i ys (gR.mp g2)
        exact R'.inj j i xs ys l c2 c4 (by rw [sg j zs c1];exact g3) (by rw [sg i ws c3];exact g4)
    refine⟨F,as.map some++List.replicate k0 none,fl,R.pad,h1,?_⟩
    cases fl with
    | bk e'=>cases hm
    | ct e'=>cases hm
    | nx e'=>
      obtain⟨as2,h2,hm⟩:=Option.map_eq_some_iff.mp hm
      cases hm
      intro F' H' σ' X' R'
      obtain⟨X2,R2,_⟩:=key h2 F' H' σ' X' R'
      exact q F' H' .non X2 R2 ((iF (K:=K) (F:=F')).mpr rfl)
    | rt r0 e'=>
      obtain⟨r1,h2,hm⟩:=Option.bind_eq_some_iff.mp hm
      obtain⟨as2,h3,hm⟩:=Option.map_eq_some_iff.mp hm
      cases hm
      intro F' H' σ' v X' R' A'
      obtain⟨X2,R2,ow2⟩:=key h3 F' H' σ' X' R'
      have noo:∀l,H l=none→¬dt (vs.map some) (as'.map some) H' l:=fun l hl z=>R.ownH l (ow2 l z) hl
      refine q F' H' v X2 R2 ?_
      cases r0 with
      | d y=>cases h2;exact A'
      | l ys=>
        cases h2
        obtain⟨l,us,d0,d1,d2,d3,d4,_⟩:=A'
        exact⟨l,us,d0,d1,d2,d3,d4,noo l d1⟩
      | s i=>
        simp only [qj] at h2
        split at h2
        case isFalse=>cases h2
        case isTrue hi=>
        obtain⟨a1,xs,a2⟩:=A'
        rw [a2] at h2
        cases h2
        obtain⟨l,us,d1,d2,d3,d4⟩:=R'.own i _ a2
        rw [a1] at d1;cases d1
        suffices hl0:H l=none from⟨l,us,rfl,hl0,d2,d3,d4,noo l hl0⟩
        rcases X'.own l ⟨i,.inl ⟨_,a2,a1⟩⟩ with z | z
        · obtain⟨j,zf⟩:=sA.mp z
          obtain⟨ys,z1,z2⟩:=zf.resolve_right fun⟨xss,_,_,z,_⟩=>nN j xss z
          have z1':=gR.mp z1
          obtain⟨u1,u2,u3,u4⟩:=oW h3
          obtain⟨ws,w1⟩:=u4 j ys z1'
          obtain⟨_,w2⟩:=u3 j ws w1
          have hj2:j < vs.length:=by rw [hl,←la];exact(List.getElem?_eq_some_iff.mp z1').1
          have e3:σ'[j]?=some (some (.ref l)):=by
            rw [X'.wr j (tT nl z1'),List.getElem?_append_left (by simpa using hj2)]
            exact z2
          have:=R'.inj i j _ ws l a2 w2 a1 e3
          lia
        · exact z
end
def FW:Option Sv→Option Sv
  | some (.n _)=>none
  | s=>s
def mX(cp:List (Nat × Str))(nT:Nat)(e:En):En:=cp.map (fun p=>FW (e[p.1]?).join)++List.replicate nT none
def mx(cp:List (Nat × Str))(i:Nat):Option Nat:=cp.findIdx? fun p=>p.1==i
def cK(g:FG)(ft:FT)(fe:FE):List PyData→En→List PyData→Option (List PyData × En)
  | [],e,acc=>some (acc,e)
  | x::r,e,acc=>(g x e).bind fun e1=>(ft e1).bind fun b=>if b.1=true then(fe b.2).bind fun v=>(ma v.1).bind fun d=>if acc.length < 1000000 then cK g ft fe r v.2 (acc++[d]) else none else cK g ft fe r b.2 acc
def ka(cp:List (Nat × Str))(ei e:En):Bool:=cp.all fun p=> !xi e[p.1]? || xi ei[(mx cp p.1).getD 0]?
def cT(cp:List (Nat × Str))(nT:Nat)(fi:FI)(g:FG)(ft:FT)(fe:FE):FE:=fun e=>(fi e).bind fun p=>if (p.2.1.all fun q=> !(cp.any fun c=>c.1==q.1))=true then(cK g ft fe p.1 (mX cp nT p.2.2) []).bind fun z=>if ka cp z.2 p.2.2=true then some (.l z.1,nH (mx cp) z.2 p.2.2) else none else none
section
variable{K:PySem.W.Frag}{F H:Hp}{σ:L2.St}{e:En}{cp:List (Nat × Str)}{nT:Nat}
theorem et{i k:Nat}(h:mx cp i=some k):∃s,cp[k]?=some (i,s):=by
  unfold mx at h
  rw [List.findIdx?_eq_some_iff_getElem] at h
  obtain⟨hk,h1,_⟩:=h
  refine⟨cp[k].2,?_⟩
  rw [List.getElem?_eq_getElem hk]
  have:=eq_of_beq h1
  rw [←this]
theorem jA{k:Nat}{x:Sv}(h:(mX cp nT e)[k]?=some (some x)):∃i s,cp[k]?=some (i,s)∧e[i]?=some (some x):=by
  unfold mX at h
  have h:=fD h
  rw [List.getElem?_map] at h
  obtain⟨p,h1,h2⟩:=Option.map_eq_some_iff.mp h
  refine⟨p.1,p.2,h1,?_⟩
  cases q:e[p.1]? with
  | none=>rw [q] at h2;cases h2
  | some y=>
    rw [q] at h2
    match y,h2 with
    | some (.d z),h2=>exact congrArg some h2
    | some (.l z),h2=>exact congrArg some h2
    | some (.n z),h2=>cases h2
    | none,h2=>cases h2
theorem jB:Fj (mX cp nT e):=by
  intro k xss h
  unfold mX at h
  have h:=fD h
  rw [List.getElem?_map] at h
  obtain⟨p,h1,h2⟩:=Option.map_eq_some_iff.mp h
  match (e[p.1]?).join,h2 with
  | some (.d z),h2=>cases h2
  | some (.l z),h2=>cases h2
  | some (.n z),h2=>cases h2
  | none,h2=>cases h2
theorem oV{k i:Nat}{s:Str}{v:V}(h:cp[k]?=some (i,s))(hv:σ[i]?=some (some v)):(eR cp nT σ)[k]?=some (some v):=by
  unfold eR
  refine fZ ?_
  rw [List.getElem?_map,h]
  simp [hv]
theorem mS{k i:Nat}{s:Str}{v:V}(h:cp[k]?=some (i,s))(hv:(eR cp nT σ)[k]?=some (some v)):σ[i]?=some (some v):=by
  unfold eR at hv
  have hv:=fD hv
  rw [List.getElem?_map,h] at hv
  simp only [Option.map_some,Option.some.injEq] at hv
  cases q:σ[i]? with
  | none=>rw [q] at hv;cases hv
  | some y=>rw [q] at hv;exact congrArg some hv
theorem rW:∀{cp:List (Nat × Str)} {k j i:Nat} {s t:Str},(cp.map (·.1)).Nodup→cp[k]?=some (i,s)→cp[j]?=some (i,t)→k=j
  | [],k,j,i,s,t,_,h,_=>by simp at h
  | p::r,k,j,i,s,t,hn,h1,h2=>by
    simp only [List.map_cons,List.nodup_cons] at hn
    cases k with
    | zero=>
      simp at h1;subst h1
      cases j with
      | zero=>rfl
      | succ j=>
        have hm:(i,t)∈r:=List.mem_of_getElem? (i:=j) (by simpa using h2)
        exact absurd (List.mem_map.mpr ⟨(i,t),hm,rfl⟩) hn.1
    | succ k=>
      cases j with
      | zero=>
        simp at h2;subst h2
        have hm:(i,s)∈r:=List.mem_of_getElem? (i:=k) (by simpa using h1)
        exact absurd (List.mem_map.mpr ⟨(i,s),hm,rfl⟩) hn.1
      | succ j=>
        have:=rW (cp:=r) (k:=k) (j:=j) hn.2 (by simpa using h1) (by simpa using h2)
        lia
theorem bh.inn(R:bh K F H σ e)(hn:(cp.map (·.1)).Nodup):bh K F H (eR cp nT σ) (mX cp nT e)∧sS σ e (eR cp nT σ) (mX cp nT e) (mx cp):=by
  refine⟨⟨R.sm,by simp [eR,mX],fun k x h=>?_,fun k xs h=>?_,fun k xss h=>absurd h (jB k xss),fun k j l f1 f2=>?_⟩,⟨fun i k xs h1 h2=>?_,fun k ys h=>?_⟩⟩
  · obtain⟨i,s,h1,h2⟩:=jA h
    obtain⟨v,g1,g2⟩:=R.dat i x h2
    exact⟨v,oV h1 g1,g2⟩
  · obtain⟨i,s,h1,h2⟩:=jA h
    obtain⟨l,vs,g1,g2⟩:=R.own i xs h2
    exact⟨l,vs,oV h1 g1,g2⟩
  · obtain⟨xs,h1,h3⟩:=f1.resolve_right fun⟨xss,_,_,z,_⟩=>jB k xss z
    obtain⟨ys,h2,h4⟩:=f2.resolve_right fun⟨xss,_,_,z,_⟩=>jB j xss z
    obtain⟨i,s,a1,a2⟩:=jA h1
    obtain⟨i',s',b1,b2⟩:=jA h2
    have:i=i':=R.inj i i' xs ys l a2 b2 (mS a1 h3) (mS b1 h4)
    subst this
    exact rW hn a1 b1
  · obtain⟨s,g⟩:=et h2
    obtain⟨l,vs,g1,_⟩:=R.own i xs h1
    rw [g1];exact oV g g1
  · obtain⟨i,s,h1,h2⟩:=jA h
    obtain⟨l,vs,g1,_⟩:=R.own i ys h2
    refine⟨i,ys,h2,?_,by rw [g1];exact oV h1 g1⟩
    cases hp:mx cp i with
    | none=>
      unfold mx at hp
      rw [List.findIdx?_eq_none_iff] at hp
      have:=hp _ (List.mem_of_getElem? h1)
      simp at this
    | some j=>
      obtain⟨t,g⟩:=et hp
      rw [rW hn g h1]
theorem bh.putT(R:bh K F H σ e){l:Addr}{ws:List V}(h1:F l=none)(h2:¬dt σ e H l):bh K F (bc H l (.lst ws)) σ e∧∀a,dt σ e (bc H l (.lst ws)) a↔ dt σ e H a:=
  R.keep (aD.refl F) (fun b o q=>by
    have z:b≠l:=fun z=>by rw [z,h1] at q;cases q
    rw [aF z];exact R.sm b o q) (fun a ⟨i,h⟩=>(R.fpAt h).1) fun a o ha q=>by
      have z:a≠l:=fun z=>h2 (by rw [←z];exact ha)
      rw [aF z];exact q
theorem d9.putT{W:List Nat}{σ':L2.St}{F' H':Hp}{e':En}(x:d9 W σ F H e σ' F' H' e'){l:Addr}{o:HO}(h:H l=none)(ho:∀a,dt σ' e' (bc H' l o) a↔ dt σ' e' H' a):d9 W σ F H e σ' F' (bc H' l o) e':=by
  refine⟨x.sf,fun a q=>?_,x.fr,fun a vs q=>?_,fun a u q n=>?_,fun a q=>x.own a ((ho a).mp q),x.wr⟩
  · by_cases z:a=l
    · rw [z];exact h
    · rw [aF z] at q;exact x.dom a q
  · have z:a≠l:=fun z=>by rw [z,h] at q;cases q
    rw [aF z];exact x.lst a vs q
  · have z:a≠l:=fun z=>by rw [z,h] at q;cases q
    rw [aF z];exact x.tmp a u q n
inductive CI (K:PySem.W.Frag) (W:List Nat) (σ0:L2.St) (F1 H1:Hp) (e0:En) (l:Addr) (P:Hp→En→List PyData→Prop) (σ':L2.St) (H':Hp):Prop
  | mk {F':Hp} {ei:En} {acc:List PyData} {vs:List V} (R:bh K F' H' σ' ei) (X:d9 W σ0 F1 H1 e0 σ' F' H' ei) (fl:F' l=none) (no:¬dt σ' ei H' l) (hl:H' l=some (.lst vs)) (da:aU K F' acc vs) (hc:P F' ei acc):CI K W σ0 F1 H1 e0 l P σ' H'
theorem ut{Q:VK}{fi:FI}{g:FG}{W:List Nat}{ft:FT}{fe:FE}(hn:(cp.map (·.1)).Nodup)(hW:∀j∈W,cp.length≤j)(h:fE K (cT cp nT fi g ft fe) σ H Q):wC cp nT (fI K fi) (fG K g W) (fT K ft) (fE K fe) σ H Q:=by
  obtain⟨F0,e0,z,e',R0,hf,q⟩:=h
  unfold cT at hf
  obtain⟨⟨items,own,e1⟩,h1,hf⟩:=Option.bind_eq_some_iff.mp hf
  dsimp only at hf
  split at hf
  case isFalse=>cases hf
  case isTrue hO=>
  obtain⟨⟨out,eo⟩,h2,hf⟩:=Option.bind_eq_some_iff.mp hf
  dsimp only at hf
  split at hf
  case isFalse=>cases hf
  case isTrue hB=>
  cases hf
  refine⟨⟨F0,e0,items,own,e1,R0,h1,fun J F1 H1 X1 R1 kp ok=>?_⟩⟩
  intro l hl
  obtain⟨Ri,sub⟩:=R1.inn (nT:=nT) hn
  have hFl:F1 l=none:=R1.freeF hl
  let Iv:Nat→L2.St→Hp→Prop:=fun i=>CI K W (eR cp nT σ) F1 H1 (mX cp nT e1) l fun _ ei acc=>cK g ft fe (items.drop i) ei acc=some (out,eo)
  have notown:∀p∈own,∀a,σ[p.1]?=some (some (.ref a))→¬dt (eR cp nT σ) (mX cp nT e1) H1 a:=by
    rintro p hp a ha ⟨k,zf⟩
    obtain⟨xs,c1,c2⟩:=zf.resolve_right fun⟨xss,_,_,z,_⟩=>jB k xss z
    obtain⟨i,s,d1,d2⟩:=jA c1
    have e2:=mS d1 c2
    have:p.1=i:=R1.inj p.1 i p.2 xs a (kp p hp) d2 ha e2
    have hh:=List.all_eq_true.mp hO p hp
    simp only [Bool.not_eq_true',List.any_eq_false,beq_iff_eq] at hh
    exact hh (i,s) (List.mem_of_getElem? d1) this.symm
  refine⟨fun i m σ' H'=>m=items.length - i∧i≤items.length∧Iv i σ' H',⟨items.length,by simp,Nat.zero_le _,.mk (Ri.putT hFl (fun z=>(Ri.ownH l z) hl)).1 (d9.refl.putT hl (Ri.putT hFl (fun z=>(Ri.ownH l z) hl)).2) hFl (fun z=>(Ri.ownH l (((Ri.putT hFl (fun z=>(Ri.ownH l z) hl)).2 l).mp z)) hl) ay aU.nil h2⟩,?_⟩
  rintro i m σ' H' ⟨rfl,hi,⟨R',X',fl,no,hl',da,hc⟩⟩
  rename_i F' ei acc vs
  have held:wN K σ F' H' own:=fun p hp=>by
    obtain⟨a,us,c1,c2,c3,c4⟩:=R1.own p.1 p.2 (kp p hp)
    exact⟨a,us,c1,X'.tmp a _ c3 (notown p hp a c1),c4.mono X'.sf⟩
  obtain⟨go,stop,yld⟩:=ok F' H' X'.sf R'.sm held
  by_cases hlt:i < items.length
  · have hd:items.drop i=items[i]::items.drop (i+1):=List.drop_eq_getElem_cons hlt
    rw [hd] at hc
    unfold cK at hc
    obtain⟨e2,c2,hc⟩:=Option.bind_eq_some_iff.mp hc
    obtain⟨⟨b,e3⟩,c3,hc⟩:=Option.bind_eq_some_iff.mp hc
    refine .inr ⟨go i hlt,Iv (i+1),fun σ2 H2 r=>⟨items.length - (i+1),by lia,rfl,hlt,r⟩,fun x H2 hy=>?_⟩
    obtain⟨F2,sH,sF2,sm2,fz,hx⟩:=yld i items[i] x H2 (List.getElem?_eq_getElem hlt) hy
    obtain⟨R2,X2⟩:=R'.step sH sF2 sm2 fz
    refine⟨F2,ei,items[i],e2,R2,hx,c2,fun σ3 X3 R3=>⟨F2,e2,b,e3,R3,c3,fun F4 H4 X4 R4=>?_⟩⟩
    have hlH2:H2 l=some (.lst vs):=sH _ _ hl'
    have no2:¬dt σ' ei H2 l:=fun z=>by
      rcases X2.ow l z with z | z
      · exact no z
      · rw [hl'] at z;cases z
    have no3:¬dt σ3 e2 H2 l:=fun z=>by
      rcases X3.own l z with z | z
      · exact no2 z
      · rw [hlH2] at z;cases z
    have fl2:F2 l=none:=fz l fl (by rw [hl'];simp)
    have hlH4:H4 l=some (.lst vs):=X4.tmp l _ hlH2 no3
    have fl4:F4 l=none:=X4.fr l vs fl2 hlH2 no3
    have no4:¬dt σ3 e3 H4 l:=fun z=>by
      rcases X4.ow l z with z | z
      · exact no3 z
      · rw [hlH2] at z;cases z
    have E4:d9 W (eR cp nT σ) F1 H1 (mX cp nT e1) σ3 F4 H4 e3:=((X'.trans X2.s).trans X3).trans X4.s
    cases b with
    | false=>
      rw [if_neg (by simp)] at hc
      exact Bc (.mk R4 E4 fl4 no4 hlH4 (da.mono (sF2.trans X4.sf)) hc)
    | true=>
      rw [if_pos rfl] at hc
      obtain⟨⟨r,e5⟩,c5,hc⟩:=Option.bind_eq_some_iff.mp hc
      obtain⟨d,c6,hc⟩:=Option.bind_eq_some_iff.mp hc
      split at hc
      case isFalse=>cases hc
      case isTrue hlen=>
      refine Bd ⟨F4,e3,r,e5,R4,c5,fun F5 H5 v X5 R5 A5=>?_⟩
      have hlH5:H5 l=some (.lst vs):=X5.tmp l _ hlH4 no4
      have fl5:F5 l=none:=X5.fr l vs fl4 hlH4 no4
      have no5:¬dt σ3 e5 H5 l:=fun z=>by
        rcases X5.ow l z with z | z
        · exact no4 z
        · rw [hlH4] at z;cases z
      obtain⟨F6,R6,s6,d6,f6⟩:=dJ.frozen R5 (rs:=[r]) (vs:=[v]) ⟨v,[],rfl,A5,rfl⟩ (kZ c6)
      have fl6:F6 l=none:=f6 l fl5 (by rw [hlH4];simp)
      have X6:=X5.frz s6 f6
      have ll:=da.len
      have sl:sizeLine=16777216:=sizeLine_eq
      have dv:DA K F6 d v:=by
        simp only [aU] at d6
        obtain⟨v',r',e',hv,_⟩:=d6
        cases e';exact hv
      obtain⟨R7,o7⟩:=R6.putT (ws:=vs++[v]) fl6 no5
      exact⟨vs,hlH5,by lia,.mk R7 ((E4.trans X6.s).putT hl o7) fl6 (fun z=>no5 ((o7 l).mp z)) ay ((da.mono (sF2.trans (X4.sf.trans (X5.sf.trans s6)))).append (aU.one dv)) hc⟩
  · have hd:items.drop i=[]:=List.drop_eq_nil_of_le (by lia)
    rw [hd] at hc
    cases hc
    refine .inl ⟨stop i (by lia),?_⟩
    obtain⟨R9,X9,o9⟩:=p_ R1 sub jB X'.sf X'.dom X'.fr X'.lst X'.tmp R' (fun i k xs g1 g2=>X'.wr k fun z=>by
      obtain⟨s,g⟩:=et g2
      have:=(List.getElem?_eq_some_iff.mp g).1
      have:=hW k z
      lia) fun i k xs g1 g2=>by
        obtain⟨s,g⟩:=et g2
        unfold ka at hB
        have hb:=List.all_eq_true.mp hB _ (List.mem_of_getElem? g)
        simp only [g1,g2,Option.getD_some,xi,Bool.not_true,Bool.false_or] at hb
        exact wf.mp hb
    exact q F' H' (.ref l) (X1.trans X9) R9 ⟨l,vs,rfl,X1.dom l hl,fl,hl',da,fun z=>R1.ownH l (o9 l z) hl⟩
end
end L2
namespace L2
open PySem PySem.Spec PyProof.Rows
section
variable{X:Cx}{K:PySem.W.Frag}{a b:Expr}{es:List Expr}{fa fb:FE}{fs:FA}{pos p p2 p3:Pos}{lo hi:Option Expr}
def kl:En→Rv→Option Rv:=fun _ x=>(bA x).map fun i=>.d (.int (-i))
theorem F_:Fo K (rU fun i=>.int (-i)) kl:=by
  intro σ H0 F H e x z v Q R A hg q
  obtain⟨i,h5,h4⟩:=Option.map_eq_some_iff.mp hg
  cases h4
  exact⟨i,bx A h5,q F H _ (eU.refl _ _ _ _) R nA⟩
theorem kJ(ha:PE X a (fE K fa)):PE X (.UnaryOp .USub a pos) (fE K (jW kl fa)):=Gr E7 F_ ha
theorem bB(hK:X.K=K)(ha:PE X a (fE K fa))(hb:PE X b (fE K fb)):PE X (.BinOp a .Add b pos) (fE K (av bv fa fb)):=rc (hK ▸ Br) Fs ha hb
theorem oz(ha:PE X a (fE K fa))(hb:PE X b (fE K fb)):PE X (.BinOp a .Sub b pos) (fE K (av gw fa fb)):=rc Ed GD ha hb
theorem kG(hK:X.K=K)(ha:PE X a (fE K fa))(hb:PE X b (fE K fb)):PE X (.BinOp a .Mult b pos) (fE K (av gy fa fb)):=rc (hK ▸ Bw) F8 ha hb
theorem kD(ha:PE X a (fE K fa))(hb:PE X b (fE K fb)):PE X (.BinOp a .FloorDiv b pos) (fE K (av gH fa fb)):=rc y8 Du ha hb
theorem bf(ha:PE X a (fE K fa))(hb:PE X b (fE K fb)):PE X (.BinOp a .Mod b pos) (fE K (av a9 fa fb)):=rc Bv FZ ha hb
theorem C5(ha:PE X a (fE K fa))(hb:PE X b (fE K fb)):PE X (.BinOp a .Pow b pos) (fE K (av uP fa fb)):=rc Eb Gk ha hb
theorem bV(hK:X.K=K)(ha:PE X a (fE K fa))(hb:PE X b (fE K fb))(hs:oJ b):PE X (.Subscript a b pos) (fE K (av dX fa fb)):=Gp (hK ▸ Hm) Hn ha hb hs
theorem bR{fl fh:FO}(hK:X.K=K)(he:PE X a (fE K fa))(hl:PO X lo (fO K fl))(hh:PO X hi (fO K fh)):PE X (.Subscript a (.Slice lo hi none p2) pos) (fE K (lu fa fl fh)):=by subst hK;exact zG he hl hh
structure lS (X:Cx) (K:PySem.W.Frag) (op:CmpOp) (g:En→Rv→Rv→Option Rv):Prop where
  ex:∃r,ib X (compareOp op) r∧ia K r g
theorem sZ:lS X K .Lt tL:=⟨_,Gf,Hs⟩
theorem AL:lS X K .LtE A7:=⟨_,Ge,Hq⟩
theorem Dq:lS X K .Gt CT:=⟨_,Gd,Hg⟩
theorem sY:lS X K .GtE uO:=⟨_,Gc,Hf⟩
theorem qg{k:Nat}(hK:X.K=K)(hr:eB k X.A):lS X K .Eq (bw false):=⟨_,hK ▸ D6 hr,CO⟩
theorem l6{k:Nat}(hK:X.K=K)(hr:eB k X.A):lS X K .NotEq (bw true):=⟨_,hK ▸ Ea hr,CO⟩
theorem yn{k:Nat}(hK:X.K=K)(hr:eB k X.A):lS X K .In (w6 false):=⟨_,hK ▸ D7 hr,FL⟩
theorem AM{k:Nat}(hK:X.K=K)(hr:eB k X.A):lS X K .NotIn (w6 true):=⟨_,hK ▸ xG hr,FL⟩
theorem Fx:lS X K .Is FC:=⟨_,D8,Hl⟩
theorem AK:lS X K .IsNot pd:=⟨_,xE,A9⟩
theorem mB{op:CmpOp}{g:En→Rv→Rv→Option Rv}(h:lS X K op g)(ha:PE X a (fE K fa))(hb:PE X b (fE K fb))(hm:behindInMarks op b=false):PE X (.Compare a [op] [b] pos) (fE K (av g fa fb)):=by
  obtain⟨r,h1,h2⟩:=h.ex;exact Ew h1 h2 ha hb hm
theorem aV{op:CmpOp}{g:En→Rv→Rv→Option Rv}(h:lS X K op g)(ha:PE X a (fE K fa))(hb:PE X b (fE K fb))(hm:behindInMarks op b=false):PT X (.Compare a [op] [b] pos) (fT K (ax (av g fa fb))):=by
  obtain⟨r,h1,h2⟩:=h.ex;exact EB h1 h2 ha hb hm
theorem sD{op op':CmpOp}{g g':En→Rv→Rv→Option Rv}{c:Expr}{fc:FE}(h:lS X K op g)(h':lS X K op' g')(ha:PE X a (fE K fa))(hb:PE X b (fE K fb))(hc:PE X c (fE K fc))(hm:lastMarks [op,op'] [b,c]=false):PE X (.Compare a [op,op'] [b,c] pos) (fE K (iz g g' fa fb fc)):=by
  obtain⟨r,h1,h2⟩:=h.ex;obtain⟨r',h3,h4⟩:=h'.ex;exact zE h1 h2 h3 h4 ha hb hc hm
structure oY (X:Cx) (K:PySem.W.Frag) (x:Str) (g:En→List Rv→Option Rv):Prop where
  ex:(∃id r,ed X (.builtin id) r∧eV K r g∧bootBuiltins x=some (.builtin id))∨∃T r,ed X (.type T) r∧eV K r g∧bootBuiltins x=some (.type T)
theorem aP{x:Str}{g:En→List Rv→Option Rv}(h:oY X K x g)(hg:Gl X x)(hm:X.mg x=none)(ha:PA X (a::es) (fA K fs))(hn:x≠"__name__")(hdb:(x==("__debug__":Str))=false)
    (he:starEach (a::es) X.env=(false,eval a X.env)::starEach es X.env)(hpl:(backTo pos (starEach es X.env)).any (·.1)=false):PE X (.Call (.Name x p) (a::es) [] pos) (fE K (aC g fs)):=by
  rcases h.ex with ⟨id,r,h1,h2,h3⟩ | ⟨T,r,h1,h2,h3⟩
  · exact zD h1 h2 hg hm h3 ha hn hdb he hpl
  · exact xM h1 h2 hg hm h3 ha hn hdb he hpl
theorem b_len(hK:X.K=K):oY X K "len" (g1 cV):=⟨.inl ⟨_,_,hK ▸ l7,FV,PySem.boot_len⟩⟩
theorem b_abs:oY X K "abs" (g1 wZ):=⟨.inl ⟨_,_,yo,Fq,PyProof.Rows.boot_abs⟩⟩
theorem b_min(hc:X.calm=true):oY X K "min" (g2 tM):=⟨.inl ⟨_,_,wW hc,FY,PyProof.Rows.boot_min⟩⟩
theorem b_max(hc:X.calm=true):oY X K "max" (g2 oD):=⟨.inl ⟨_,_,wV hc,FX,PyProof.Rows.boot_max⟩⟩
theorem b_int:oY X K "int" (g1 w_):=⟨.inr ⟨_,_,wR,FN,PyProof.Rows.boot_int⟩⟩
theorem b_tuple(hK:X.K=K):oY X K "tuple" (g1 cP):=⟨.inr ⟨_,_,hK ▸ qh,Ci,PyProof.Rows.boot_tuple⟩⟩
theorem b_list(hK:X.K=K):oY X K "list" (g1 CU):=⟨.inr ⟨_,_,hK ▸ rQ,DO,PyProof.Rows.boot_list⟩⟩
theorem b_all{k:Nat}(hK:X.K=K)(hr:eB k X.A):oY X K "all" (g1 (jP lx)):=⟨.inl ⟨_,_,yp hr hK,Ft,ym⟩⟩
theorem b_sorted(hK:X.K=K):oY X K "sorted" (g1 uQ):=⟨.inl ⟨_,_,hK ▸ uJ,B_,PyProof.Rows.boot_sorted⟩⟩
abbrev cF:FT:=fun e=>some (true,e)
theorem uB.mono{ifs:List Expr}{t t':TT}(h:uB X ifs t)(m:∀σ H Q,t' σ H Q→t σ H Q):uB X ifs t':=fun pins s σ H Q I q=>h pins s σ H Q I (m σ H Q q)
theorem iN:uB X [] (fT K cF):=BY.mono fun σ H Q h=>by
  obtain⟨F,e,b,e',R,hf,q⟩:=h
  cases hf
  exact q F H (eU.refl _ _ _ _) R
theorem mF{c:Expr}{ft:FT}(h:PT X c (fT K ft)):uB X [c] (fT K ft):=BZ h
theorem jD{elt iter tg:Expr}{ifs:List Expr}{scope:Scope}{fi:FI}{g:FG}{ft:FT}{fe:FE}{W:List Nat}(sc0:Scope)(N0:List Str)(cp:List (Nat × Str))(tgN:List Str)
    (hc:X.calm=true)(hsc:X.env.scope=sc0)(hN0:X.N=N0)(hi:PI X tg iter (fI K fi))
    (hg:∀C s0 H0 fp,PG (aw X scope cp tgN C s0 H0 fp) tg (fG K g W))
    (ht:∀C s0 H0 fp,uB (aw X scope cp tgN C s0 H0 fp) ifs (fT K ft))
    (he:∀C s0 H0 fp,PE (aw X scope cp tgN C s0 H0 fp) elt (fE K fe))
    (hk:scope.kind=.function)(hcell:∀y∈scope.names,y.2≠.cell)(hnames:∀y∈scope.names,y.2=.local→scope.names.lookup y.1=some .local)
    (hfr:∀y∈scope.names,y.2=.free→scope.names.lookup y.1=some .free∧sc0.names.lookup y.1=some .cell)
    (hcp:∀p∈cp,N0[p.1]?=some p.2)(hcq:∀p∈cp,sc0.names.lookup p.2=some .cell∧scope.names.lookup p.2=some .free)(hnd:(cp.map (·.1)).Nodup)(hW:∀j∈W,cp.length≤j)
    (hs:∀x,foldedSetIterable iter X.env x=pure x):
    PE X (.ListComp elt [⟨tg,iter,ifs,0⟩] scope pos) (fE K (cT cp tgN.length fi g ft fe)):=(BG sc0 N0 cp tgN hc hsc hN0 hi hg ht he hk hcell hnames hfr hcp hcq hs).mono fun _ _ _ h=>ut hnd hW h
theorem q_{ix:Nat}{nm:Str}{posn poss:Pos}{elt iter tg:Expr}{ifs:List Expr}{scope:Scope}{fi:FI}{g:FG}{ft:FT}{fe:FE}{W:List Nat}(sc0:Scope)(N0:List Str)(cp:List (Nat × Str))(tgN:List Str)
    (hc:X.calm=true)(hsc:X.env.scope=sc0)(hN0:X.N=N0)(hi:PI X tg iter (fI K fi))
    (hg:∀C s0 H0 fp,PG (aw X scope cp tgN C s0 H0 fp) tg (fG K g W))
    (ht:∀C s0 H0 fp,uB (aw X scope cp tgN C s0 H0 fp) ifs (fT K ft))
    (he:∀C s0 H0 fp,PE (aw X scope cp tgN C s0 H0 fp) elt (fE K fe))
    (hk:scope.kind=.function)(hcell:∀y∈scope.names,y.2≠.cell)(hnames:∀y∈scope.names,y.2=.local→scope.names.lookup y.1=some .local)
    (hfr:∀y∈scope.names,y.2=.free→scope.names.lookup y.1=some .free∧sc0.names.lookup y.1=some .cell)
    (hcp:∀p∈cp,N0[p.1]?=some p.2)(hcq:∀p∈cp,sc0.names.lookup p.2=some .cell∧scope.names.lookup p.2=some .free)(hnd:(cp.map (·.1)).Nodup)(hW:∀j∈W,cp.length≤j)
    (hNd:X.N.Nodup)(hix:X.N[ix]?=some nm)(hlc:X.env.scope.names.lookup nm=some .local)(hsw:swapsWith (.ListComp elt [⟨tg,iter,ifs,0⟩] scope pos) (some (.Name nm posn)) poss.line X.env=pure true)
    (hs:∀x,foldedSetIterable iter X.env x=pure x):
    PS X (.Assign [.Name nm posn] (.ListComp elt [⟨tg,iter,ifs,0⟩] scope pos) poss) (fS K (a8 ix (cT cp tgN.length fi g ft fe)) [ix]):=(vg sc0 N0 cp tgN hc hsc hN0 hi hg ht he hk hcell hnames hfr hcp hcq hNd hix hlc hsw hs).mono fun D σ H h=>by
  obtain⟨F,e,fl,R,hf,q⟩:=h
  unfold a8 at hf
  obtain⟨⟨r,e1⟩,h1,hf⟩:=Option.bind_eq_some_iff.mp hf
  obtain⟨e2,h2,hf⟩:=Option.map_eq_some_iff.mp hf
  cases hf
  refine ut hnd hW ⟨F,e,r,e1,R,h1,fun F1 H1 v X1 R1 A1=>?_⟩
  obtain⟨x,R2⟩:=vh R X1 R1 A1 h2
  exact q F1 H1 _ x R2
variable{o:Expr}{fo:FE}{apos cpos:Pos}
theorem dk(hK:X.K=K)(ho:PE X o (fE K fo))(ha:PA X (a::es) (fA K fs))(hbase:attributeBase o "append" X.env (eval o X.env)=eval o X.env)
    (hfew:((backTo cpos (starEach (a::es) X.env)).all (fun x=> !x.1)&&(backToKw cpos (keywordEach [] X.env)).all (fun x=>x.1.isSome)
      &&decide ((a::es).length+([]:List Keyword).length+(if ([]:List Keyword).isEmpty then 0 else 1) < 30))=true)
    (hline:(apos.endLine==cpos.line)=true)(hs:starEach (a::es) X.env=(false,eval a X.env)::starEach es X.env)(hplain:(backTo cpos (starEach es X.env)).any (·.1)=false):
    PE X (.Call (.Attribute o "append" apos) (a::es) [] cpos) (fE K (bX bg fo fs)):=by
  subst hK;exact C6 PySem.F.slot_list_append PySem.F.type_list_append jc ye ho ha hbase hfew hline hs hplain
theorem sI(hK:X.K=K)(ho:PE X o (fE K fo))(ha:PA X (a::es) (fA K fs))(hbase:attributeBase o "pop" X.env (eval o X.env)=eval o X.env)
    (hfew:((backTo cpos (starEach (a::es) X.env)).all (fun x=> !x.1)&&(backToKw cpos (keywordEach [] X.env)).all (fun x=>x.1.isSome)
      &&decide ((a::es).length+([]:List Keyword).length+(if ([]:List Keyword).isEmpty then 0 else 1) < 30))=true)
    (hline:(apos.endLine==cpos.line)=true)(hs:starEach (a::es) X.env=(false,eval a X.env)::starEach es X.env)(hplain:(backTo cpos (starEach es X.env)).any (·.1)=false):
    PE X (.Call (.Attribute o "pop" apos) (a::es) [] cpos) (fE K (bX eN fo fs)):=by
  subst hK;exact C6 PySem.F.slot_list_pop PySem.F.type_list_pop yV BQ ho ha hbase hfew hline hs hplain
end
end L2
namespace L2
open PySem PySem.Spec PyProof.Rows
theorem vp{K:PySem.W.Frag}{H:Hp}{a:Addr}{ns:List Int}{m:FM}{as':List Sv}{Q:VK}{E:XK}(hS:cW K H a (ns.map V.int))(hm:m [.d (.list (ns.map .int))]=some (.d (.bool true),as'))(q:∀H',Q (.bl true) H'):bM K 1 m [.ref a] H Q E:=by
  refine⟨rfl,H,[.d (.list (ns.map .int))],_,as',?_,?_,hm,trivial,fun F' H' v X' R' A'=>?_⟩
  · refine⟨aD.refl _,rfl,fun i x h=>?_,fun i xs h=>?_,fun i xss h=>?_,fun i j l f1 _=>?_⟩
    · match i,h with
      | 0,h=>
        simp at h;subst h
        exact⟨.ref a,rfl,dc.mpr ⟨a,_,rfl,hS,aU.ints.mpr rfl⟩⟩
      | i+1,h=>simp at h
    · match i,h with
      | 0,h=>simp at h
      | i+1,h=>simp at h
    · match i,h with
      | 0,h=>simp at h
      | i+1,h=>simp at h
    · rcases f1 with ⟨_,h,_⟩ | ⟨_,_,_,h,_⟩
      · match i,h with
        | 0,h=>simp at h
        | i+1,h=>simp at h
      · match i,h with
        | 0,h=>simp at h
        | i+1,h=>simp at h
  · intro i xss h
    match i,h with
    | 0,h=>simp at h
    | i+1,h=>simp at h
  · rw [dW.mp (show DA K F' (.bool true) v from A')];exact q H'
end L2
namespace L2
open PySem PySem.Spec PyProof.Rows
section
variable{K:PySem.W.Frag}{σ:L2.St}{H0 F H F' H':Hp}{e e':En}
theorem bh.putN(R:bh K F H σ e){i:Nat}{xss yss:List (List PyData)}{l:Addr}{bs:List Addr}{H':Hp}(hi:e[i]?=some (some (.n xss)))(hs:σ[i]?=some (some (.ref l)))
    (hF:F l=none)(hl:H' l=some (.lst (bs.map V.ref)))(hlen:bs.length=yss.length)(hnd:bs.Nodup)(hnl:l∉bs)(hin:∀(k:Nat) (b:Addr) (ys:List PyData),bs[k]?=some b→yss[k]?=some ys→F b=none∧∃us,H' b=some (.lst us)∧aU K F ys us)
    (hbs:∀b∈bs,Fp σ e H i b∨¬dt σ e H b)(hdom:∀a,H' a=none→H a=none)(hst:∀a o,H a=some o→a≠l→a∉bs→H' a=some o)(hlst:∀a vs,H a=some (.lst vs)→∃vs',H' a=some (.lst vs')):
    bh K F H' σ (e.set i (some (.n yss)))∧(∀a,dt σ (e.set i (some (.n yss))) H' a→dt σ e H a∨a∈bs)∧∀j:Nat,(∃xs,(e.set i (some (Sv.n yss)))[j]?=some (some (.l xs)))↔ (∃xs,e[j]?=some (some (.l xs))):=by
  have hlt:i < e.length:=(List.getElem?_eq_some_iff.mp hi).1
  have gi:(e.set i (some (Sv.n yss)))[i]?=some (some (.n yss)):=List.getElem?_set_self hlt
  obtain⟨l0,bs0,a1,a2,a3,_⟩:=R.nst i xss hi
  rw [hs] at a1;cases a1
  have fl:Fp σ e H i l:=.inr ⟨xss,l,bs0,hi,hs,a3,.inl rfl⟩
  have own:∀j a,j≠i→Fp σ e H j a→a≠l∧a∉bs:=fun j a hj hq=>by
    refine⟨fun z=>hj (R.fp j i a hq (by rw [z];exact fl)),fun z=>?_⟩
    rcases hbs a z with h | h
    · exact hj (R.fp j i a hq h)
    · exact h ⟨j,hq⟩
  have fpi:∀a,Fp σ (e.set i (some (.n yss))) H' i a→a=l∨a∈bs:=fun a q=>by
    rcases q with ⟨zs,q,_⟩ | ⟨zss,l',bs',q,q2,q3,q4⟩
    · rw [gi] at q;cases q
    · rw [hs] at q2;cases q2
      rw [hl] at q3
      have e1:bs=bs':=List.map_inj_right (fun _ _ z=>V.ref.inj z) |>.mp (HO.lst.inj (Option.some.inj q3))
      subst e1;exact q4
  obtain⟨R',fs⟩:=R.upd1 (F':=F) (H':=H') (e':=e.set i (some (.n yss))) i (by rw [List.length_set];exact R.len) (fun _ _=>rfl) (fun j hj=>List.getElem?_set_ne (Ne.symm hj)) (aD.refl F)
    (fun b o q=>by
      have z1:b≠l:=fun z=>by rw [z,hF] at q;cases q
      have z2:b∉bs:=fun z=>by
        obtain⟨k,hk⟩:=List.getElem?_of_mem z
        have hk2:k < yss.length:=by rw [←hlen];exact(List.getElem?_eq_some_iff.mp hk).1
        rw [(hin k b yss[k] hk (List.getElem?_eq_getElem hk2)).1] at q;cases q
      exact hst b o (R.sm b o q) z1 z2)
    (fun j a _ q=>(R.fpAt q).1) (fun j a o hj q ha=>let ⟨z1,z2⟩:=own j a hj q;hst a o ha z1 z2)
    (fun x q=>by rw [gi] at q;cases q) (fun zs q=>by rw [gi] at q;cases q) (fun zss q=>by rw [gi] at q;cases q;exact⟨l,bs,hs,hF,hl,hlen,hnd,hnl,hin⟩)
    (fun a j hj q q2=>by
      obtain⟨z1,z2⟩:=own j a hj q2
      exact(fpi a q).elim z1 z2)
  refine⟨R',fun a ⟨j,q⟩=>?_,fun j=>?_⟩
  · by_cases z:j=i
    · subst z
      rcases fpi a q with z | z
      · exact .inl ⟨j,by rw [z];exact fl⟩
      · exact .inr z
    · exact .inl ⟨j,(fs j a z).mp q⟩
  · by_cases z:j=i
    · subst z;rw [gi,hi];simp
    · rw [List.getElem?_set_ne (Ne.symm z)]
theorem bh.frzN(R:bh K F H σ e){i:Nat}{xss:List (List PyData)}(hi:e[i]?=some (some (.n xss))):∃F' v,σ[i]?=some (some v)∧DA K F' (.list (xss.map .list)) v∧bh K F' H σ (e.set i (some (.d (.list (xss.map .list)))))∧eU σ F H e F' H (e.set i (some (.d (.list (xss.map .list))))):=by
  obtain⟨l,bs,a1,a2,a3,a4,a5,a6,a7⟩:=R.nst i xss hi
  have hlt:i < e.length:=(List.getElem?_eq_some_iff.mp hi).1
  have inF:∀a,a=l∨a∈bs→Fp σ e H i a:=fun a h=>.inr ⟨xss,l,bs,hi,a1,a3,h⟩
  let F':Hp:=fun a=>if a=l∨a∈bs then H a else F a
  have pos:∀a,(a=l∨a∈bs)→F' a=H a:=fun a h=>if_pos h
  have neg:∀a,¬(a=l∨a∈bs)→F' a=F a:=fun a h=>if_neg h
  have sF:aD F F':=fun b o q=>by
    have z:¬(b=l∨b∈bs):=fun z=>by rw [(R.fpAt (inF b z)).1] at q;cases q
    rw [neg b z];exact q
  have sm:aD F' H:=fun b o q=>by
    by_cases z:b=l∨b∈bs
    · rw [pos b z] at q;exact q
    · rw [neg b z] at q;exact R.sm b o q
  have dd:∀(cs:List Addr) (yss:List (List PyData)),cs.length=yss.length→(∀(k:Nat) (b:Addr) (ys:List PyData),cs[k]?=some b→yss[k]?=some ys→b∈bs∧∃us,H b=some (.lst us)∧aU K F ys us)→aU K F' (yss.map .list) (cs.map V.ref):=by
    intro cs
    induction cs with
    | nil=>
      intro yss h _
      cases yss with
      | nil=>exact aU.nil
      | cons _ _=>simp at h
    | cons c cs ih=>
      intro yss h hh
      cases yss with
      | nil=>simp at h
      | cons ys yss=>
        obtain⟨c1,us,c2,c3⟩:=hh 0 c ys rfl rfl
        refine aU.cons (dc.mpr ⟨c,us,rfl,.inl (.inl ?_),c3.mono sF⟩) (ih yss (by simpa using h) fun k b zs q1 q2=>hh (k+1) b zs (by simpa using q1) (by simpa using q2))
        rw [pos c (.inr c1)];exact c2
  have da:DA K F' (.list (xss.map .list)) (.ref l):=dc.mpr ⟨l,_,rfl,.inl (.inl (by rw [pos l (.inl rfl)];exact a3)),dd bs xss a4 fun k b ys q1 q2=>by
    obtain⟨_,us,c2,c3⟩:=a7 k b ys q1 q2
    exact⟨List.mem_of_getElem? q1,us,c2,c3⟩⟩
  have gi:(e.set i (some (Sv.d (.list (xss.map .list)))))[i]?=some (some (.d (.list (xss.map .list)))):=List.getElem?_set_self hlt
  have nofp:∀a,¬Fp σ (e.set i (some (.d (.list (xss.map .list))))) H i a:=fun a q=>by
    rcases q with ⟨zs,q,_⟩ | ⟨xss,_,_,q,_⟩
    · rw [gi] at q;cases q
    · rw [gi] at q;cases q
  obtain⟨R',fs⟩:=R.upd1 (F':=F') (H':=H) (e':=e.set i (some (.d (.list (xss.map .list))))) i (by rw [List.length_set];exact R.len) (fun _ _=>rfl) (fun j hj=>List.getElem?_set_ne (Ne.symm hj)) sF sm
    (fun j a hj q=>by
      rw [neg a fun z=>hj (R.fp j i a q (inF a z))]
      exact(R.fpAt q).1)
    (fun j a o _ _ ha=>ha) (fun x q=>by rw [gi] at q;cases q;exact⟨_,a1,da⟩) (fun zs q=>by rw [gi] at q;cases q) (fun zss q=>by rw [gi] at q;cases q) (fun a j hj q=>absurd q (nofp a))
  refine⟨F',.ref l,a1,da,R',⟨sF,fun _ h=>h,fun a vs h1 h2 h3=>?_,fun a vs h=>⟨vs,h⟩,fun _ _ h _=>h,fun j=>?_,fun a ⟨j,q⟩=>?_⟩⟩
  · rw [neg a fun z=>h3 ⟨i,inF a z⟩];exact h1
  · by_cases z:j=i
    · subst z;rw [gi,hi];simp
    · rw [List.getElem?_set_ne (Ne.symm z)]
  · by_cases z:j=i
    · subst z;exact absurd q (nofp a)
    · exact .inl ⟨j,(fs j a z).mp q⟩
theorem bh.setN(R:bh K F H σ e)(i:Nat){l:Addr}(h1:F l=none)(h2:H l=some (.lst []))(h4:¬dt σ e H l):bh K F H (σ.set i (some (.ref l))) (e.set i (some (.n [])))∧∀a,dt (σ.set i (some (.ref l))) (e.set i (some (.n []))) H a→dt σ e H a∨a=l:=by
  have gi:∀s,(e.set i (some (Sv.n [])))[i]?=some (some s)→s=.n []∧i < e.length:=fun s q=>by
    have hlt:i < e.length:=by have:=(List.getElem?_eq_some_iff.mp q).1;simpa using this
    rw [List.getElem?_set_self hlt] at q
    exact⟨(Option.some.inj (Option.some.inj q)).symm,hlt⟩
  have onefp:∀a,Fp (σ.set i (some (.ref l))) (e.set i (some (.n []))) H i a→a=l:=fun a q=>by
    rcases q with ⟨zs,q,q2⟩ | ⟨xss,l',bs,q,q2,q3,q4⟩
    · cases (gi _ q).1
    · obtain⟨_,hlt⟩:=gi _ q
      rw [List.getElem?_set_self (by rw [R.len];exact hlt)] at q2
      cases q2
      rw [h2] at q3
      have:bs=[]:=by
        cases bs with
        | nil=>rfl
        | cons _ _=>have z:=HO.lst.inj (Option.some.inj q3);simp at z
      subst this
      exact q4.elim id fun z=>by cases z
  obtain⟨R',fs⟩:=R.upd1 (F':=F) (H':=H) (σ':=σ.set i (some (.ref l))) (e':=e.set i (some (.n []))) i (by rw [List.length_set,List.length_set];exact R.len) (fun j hj=>List.getElem?_set_ne (Ne.symm hj)) (fun j hj=>List.getElem?_set_ne (Ne.symm hj)) (aD.refl F) R.sm
    (fun j a _ q=>(R.fpAt q).1) (fun j a o _ _ ha=>ha) (fun y q=>by cases (gi _ q).1) (fun zs q=>by cases (gi _ q).1)
    (fun zss q=>by
      obtain⟨z,hlt⟩:=gi _ q
      cases z
      exact⟨l,[],List.getElem?_set_self (by rw [R.len];exact hlt),h1,h2,rfl,List.nodup_nil,by simp,fun k b ys q=>by simp at q⟩)
    (fun a j hj q q2=>h4 ⟨j,by rw [onefp a q] at q2;exact q2⟩)
  refine⟨R',fun a ⟨j,q⟩=>?_⟩
  by_cases z:j=i
  · subst z;exact .inr (onefp a q)
  · exact .inl ⟨j,(fs j a z).mp q⟩
end
def cG(e:En)(i:Nat):Option (List (List PyData)):=match e[i]? with
  | some (some (.n xss))=>some xss
  | _=>none
theorem hV{e:En}{i:Nat}{xss:List (List PyData)}(h:cG e i=some xss):e[i]?=some (some (.n xss)):=by
  unfold cG at h
  split at h
  · rename_i heq;cases h;exact heq
  · cases h
section
variable{X:Cx}{K:PySem.W.Frag}{a b:Expr}{es:List Expr}{fa fb:FE}{fs:FA}{pos p p2 p3 pos':Pos}{x:Str}{i:Nat}
def zR(i:Nat):FS:=fun e=>some (.nx (e.set i (some (.n []))))
theorem B3(hN:X.N.Nodup)(hi:X.N[i]?=some x)(hx:Dl X.env.scope x)(hs:swapsWith (.List [] p) (some (.Name x pos')) pos.line X.env=pure false)(hf:X.fn x=true∨X.env.scope.names.lookup x=some .local):
    PS X (.Assign [.Name x pos'] (.List [] p) pos) (fS K (zR i) [i]):=(zz hN hi hx (zi ni) hs hf).mono fun D σ H h=>by
  obtain⟨F,e,fl,R,hf,q⟩:=h
  cases hf
  refine⟨Nat.zero_le _,fun l hl=>?_⟩
  obtain⟨R1,X1,f1,n1⟩:=R.newL (vs:=[]) hl
  obtain⟨R2,o2⟩:=R1.setN i f1 ay n1
  refine q F _ _ ⟨X1.sf,X1.dom,X1.fr,X1.lst,X1.tmp,fun a h=>?_,fun j n=>List.getElem?_set_ne (fun z=>n (by simp [z]))⟩ R2
  rcases o2 a h with z | z
  · exact X1.ow a z
  · exact .inr (by rw [z];exact hl)
def gL(i:Nat):FE:=fun e=>(cG e i).map fun xss=>(.d (.int xss.length),e)
theorem sG(hK:X.K=K)(hN:X.N[i]?=some x)(hv:Az X.env.scope x)(hd:(x==("__debug__":Str))=false)(hcd:(x==("__classdict__":Str))=false)(hg:Gl X "len")(hm:X.mg "len"=none)(hst:PySem.W.isStarred (.Name x p2)=false)
    (he:starEach [.Name x p2] X.env=(false,eval (.Name x p2) X.env)::starEach [] X.env)(hpl:(backTo pos (starEach [] X.env)).any (·.1)=false):PE X (.Call (.Name "len" p) [.Name x p2] [] pos) (fE K (gL i)):=
  (pR (wU hK) hg hm PySem.boot_len (BC (nj hN hv hd hcd) ni hst) (by decide) (by decide) he hpl).mono fun σ H Q h=>by
  obtain⟨F,e,z,e',R,hf,q⟩:=h
  unfold gL at hf
  obtain⟨xss,h1,hf⟩:=Option.map_eq_some_iff.mp hf
  cases hf
  obtain⟨l,bs,a1,a2,a3,a4,_⟩:=R.nst i xss (hV h1)
  refine⟨_,a1,l,_,rfl,.inl (.inl (.inl a3)),?_⟩
  rw [List.length_map,a4]
  exact q F H _ (eU.refl _ _ _ _) R nA
def uu(i:Nat)(fa:FE):FE:=fun e=>(cG e i).bind fun _=>(fa e).bind fun p=>match p.1 with
  | .l ys=>(cG p.2 i).bind fun xss=>if xss.length < 1000000 then some (.d .none,p.2.set i (some (.n (xss++[ys])))) else none
  | _=>none
theorem Eu{apos cpos:Pos}(hK:X.K=K)(hN:X.N[i]?=some x)(hv:Az X.env.scope x)(hd:(x==("__debug__":Str))=false)(hcd:(x==("__classdict__":Str))=false)(ha:PE X a (fE K fa))(hst:PySem.W.isStarred a=false)
    (hbase:attributeBase (.Name x p) "append" X.env (eval (.Name x p) X.env)=eval (.Name x p) X.env)
    (hfew:((backTo cpos (starEach [a] X.env)).all (fun x=> !x.1)&&(backToKw cpos (keywordEach [] X.env)).all (fun x=>x.1.isSome)
      &&decide ([a].length+([]:List Keyword).length+(if ([]:List Keyword).isEmpty then 0 else 1) < 30))=true)
    (hline:(apos.endLine==cpos.line)=true)(hs:starEach [a] X.env=(false,eval a X.env)::starEach [] X.env)(hplain:(backTo cpos (starEach [] X.env)).any (·.1)=false):
    PE X (.Call (.Attribute (.Name x p) "append" apos) [a] [] cpos) (fE K (uu i fa)):=by
  subst hK
  refine(ze PySem.F.plainAttrs_list PySem.F.slot_list_append PySem.F.type_list_append jc (nj hN hv hd hcd) (BC ha ni hst) hbase hfew hline hs hplain).mono fun σ H Q h=>?_
  obtain⟨F,e,z,e',R,hf,q⟩:=h
  unfold uu at hf
  obtain⟨xss0,h0,hf⟩:=Option.bind_eq_some_iff.mp hf
  obtain⟨⟨r,e1⟩,h1,hf⟩:=Option.bind_eq_some_iff.mp hf
  match r,h1,hf with
  | .l ys,h1,hf=>
  obtain⟨xss,h2,hf⟩:=Option.bind_eq_some_iff.mp hf
  split at hf
  case isFalse=>cases hf
  case isTrue hlen=>
  cases hf
  obtain⟨l,bs0,a1,_,a3,_⟩:=R.nst i xss0 (hV h0)
  refine⟨_,a1,.inl ⟨rfl,_,.inl (.inl a3)⟩,F,e,_,e1,R,h1,fun F1 H1 v X1 R1 A1=>?_⟩
  obtain⟨t,us,rfl,t1,t2,t3,t4,t5⟩:=A1
  have h2':=hV h2
  obtain⟨l',bs,c1,c2,c3,c4,c5,c6,c7⟩:=R1.nst i xss h2'
  rw [a1] at c1;cases c1
  have fi:∀z,z=l∨z∈bs→Fp σ e1 H1 i z:=fun z h=>.inr ⟨xss,l,bs,h2',a1,c3,h⟩
  have tl:t≠l:=fun z=>t5 ⟨i,fi t (.inl z)⟩
  have tb:t∉bs:=fun z=>t5 ⟨i,fi t (.inr z)⟩
  have sl:sizeLine=16777216:=sizeLine_eq
  refine⟨l,_,_,rfl,rfl,c3,by rw [List.length_map,c4];lia,?_⟩
  have em:bs.map V.ref++[V.ref t]=(bs++[t]).map V.ref:=by simp
  rw [em]
  obtain⟨R2,o2,s2⟩:=R1.putN (yss:=xss++[ys]) (bs:=bs++[t]) (H':=bc H1 l (.lst ((bs++[t]).map V.ref))) h2' a1 c2 ay (by simp [c4]) (by
      rw [List.nodup_append]
      exact⟨c5,by simp,fun x hx y hy=>by simp at hy;subst hy;exact fun z=>tb (z ▸ hx)⟩) (by simp [c6,Ne.symm tl]) (fun k b zs q1 q2=>by
      rw [List.getElem?_append] at q1 q2
      rw [c4] at q1
      by_cases hk:k < xss.length
      · rw [if_pos hk] at q1 q2
        obtain⟨d1,us',d2,d3⟩:=c7 k b zs q1 q2
        have zb:b≠l:=fun z=>c6 (z ▸ List.mem_of_getElem? q1)
        exact⟨d1,us',by rw [aF zb];exact d2,d3⟩
      · rw [if_neg hk] at q1 q2
        have hk0:k - xss.length=0:=by
          have:=(List.getElem?_eq_some_iff.mp q1).1
          simp at this;lia
        rw [hk0] at q1 q2
        simp at q1 q2
        subst q1 q2
        exact⟨t2,us,by rw [aF tl];exact t3,t4⟩)
    (fun b hb=>by
      rcases List.mem_append.mp hb with hb | hb
      · exact .inl (fi b (.inr hb))
      · simp at hb;subst hb;exact .inr t5)
    (fun z q=>by
      by_cases e0:z=l
      · rw [e0,ay] at q;cases q
      · rw [aF e0] at q;exact q)
    (fun z o q n1 _=>by rw [aF n1];exact q) (fun z vs q=>by
      by_cases e0:z=l
      · rw [e0];exact⟨_,ay⟩
      · rw [aF e0];exact⟨vs,q⟩)
  refine q F1 _ .non ⟨X1.sf,fun z q=>X1.dom z ?_,X1.fr,fun z vs h=>?_,fun z o h n=>?_,fun j=>(s2 j).trans (X1.shp j),fun z h=>?_⟩ R2 ((iF (K:=X.K) (F:=F1)).mpr rfl)
  · by_cases e0:z=l
    · rw [e0,ay] at q;cases q
    · rw [aF e0] at q;exact q
  · obtain⟨vs',h'⟩:=X1.lst z vs h
    by_cases e0:z=l
    · rw [e0];exact⟨_,ay⟩
    · rw [aF e0];exact⟨vs',h'⟩
  · have e0:z≠l:=fun e0=>by
      rcases X1.ow z ⟨i,fi z (.inl e0)⟩ with w | w
      · exact n w
      · rw [h] at w;cases w
    rw [aF e0];exact X1.tmp z o h n
  · rcases o2 z h with w | w
    · exact X1.ow z w
    · rcases List.mem_append.mp w with w | w
      · exact X1.ow z ⟨i,fi z (.inr w)⟩
      · simp at w;subst w;exact .inr t1
def Qt(X:Cx)(K:PySem.W.Frag)(a:Expr)(f:En→Option Int):Prop:=∃t:TE,PE X a t∧∀σ F H e i (Q:VK),bh K F H σ e→f e=some i→Q (.int i) H→t σ H Q
def xt(i:Nat):En→Option Int:=fun e=>match e[i]? with
  | some (some (.d (.int k)))=>some k
  | _=>none
theorem Ez(i:Nat)(hN:X.N[i]?=some x)(hv:Az X.env.scope x)(hd:(x==("__debug__":Str))=false)(hcd:(x==("__classdict__":Str))=false):Qt X K (.Name x pos) (xt i):=⟨_,nj hN hv hd hcd,fun σ F H e k Q R hf q=>by
  unfold xt at hf
  split at hf
  · rename_i heq
    cases hf
    obtain⟨v,h1,h2⟩:=R.dat i _ heq
    exact⟨v,h1,by rw [bY.mp h2];exact q⟩
  · cases hf⟩
def nC(k:Int):En→Option Int:=fun _=>some k
theorem Ey{k:Int}{j}:Qt X K (.Constant (.int k) j pos) (nC k):=⟨_,zh,fun σ F H e i Q R hf q=>by cases hf;exact q⟩
def xr(f g:En→Option Int):En→Option Int:=fun e=>(f e).bind fun i=>(g e).map fun j=>i+j
theorem Ex{f g:En→Option Int}(ha:Qt X K a f)(hb:Qt X K b g):Qt X K (.BinOp a .Add b pos) (xr f g):=by
  obtain⟨ta,h1,h2⟩:=ha
  obtain⟨tb,h3,h4⟩:=hb
  refine⟨_,C4 y6 h1 h3,fun σ F H e k Q R hf q=>?_⟩
  unfold xr at hf
  obtain⟨i,g1,hf⟩:=Option.bind_eq_some_iff.mp hf
  obtain⟨j,g2,hf⟩:=Option.map_eq_some_iff.mp hf
  cases hf
  exact h2 σ F H e i _ R g1 (h4 σ F H e j _ R g2 ⟨i,j,rfl,rfl,q⟩)
def rf(i:Nat)(fv fp:FE)(fq:En→Option Int):FS:=fun e=>(fv e).bind fun r=>(ma r.1).bind fun d=>(cG r.2 i).bind fun _=>(fp r.2).bind fun p=>(bA p.1).bind fun k=>(cG p.2 i).bind fun xss=>(mq xss.length k).bind fun kn=>(xss[kn]?).bind fun ys=>(fq p.2).bind fun j=>(mq ys.length j).map fun jn=>.nx (p.2.set i (some (.n (xss.set kn (ys.set jn d)))))
theorem B4{c pq:Expr}{fv fp:FE}{fq:En→Option Int}{ps ps2:Pos}(hK:X.K=K)(he:PE X c (fE K fv))(hN:X.N[i]?=some x)(hv:Az X.env.scope x)(hd:(x==("__debug__":Str))=false)(hcd:(x==("__classdict__":Str))=false)(hp:PE X a (fE K fp))(hpl:oJ a)(hq:Qt X K pq fq)
    (ha:∀v,assign (.Subscript (.Subscript (.Name x p) a ps2) pq ps) X.env v=(do
      let ov ←holding [v] (eval (.Subscript (.Name x p) a ps2) X.env)
      let iv ←holding [v,ov] (eval pq X.env)
      standAt ps
      holding [v,ov,iv] (setItem ov iv v)
      release [v,ov,iv] []))
    (hs:swapsWithSole [.Subscript (.Subscript (.Name x p) a ps2) pq ps] c pos.line X.env=pure false)(hw:swappedStores [.Subscript (.Subscript (.Name x p) a ps2) pq ps] c X.env=pure none)
    (h1:(assignEach [.Subscript (.Subscript (.Name x p) a ps2) pq ps] X.env).map (·.2)=[assign (.Subscript (.Subscript (.Name x p) a ps2) pq ps) X.env]):
    PS X (.Assign [.Subscript (.Subscript (.Name x p) a ps2) pq ps] c pos) (fS K (rf i fv fp fq) []):=by
  obtain⟨tq,q1,q2⟩:=hq
  refine(vf he (zo (C3 (yJ hK) (nj hN hv hd hcd) hp hpl) q1 p8 ha) hs hw h1).mono fun D σ H h=>?_
  obtain⟨F,e,fl,R,hf,q⟩:=h
  unfold rf at hf
  obtain⟨⟨r,e1⟩,g1,hf⟩:=Option.bind_eq_some_iff.mp hf
  obtain⟨d,g2,hf⟩:=Option.bind_eq_some_iff.mp hf
  obtain⟨xs0,g3,hf⟩:=Option.bind_eq_some_iff.mp hf
  obtain⟨⟨rp,e2⟩,g4,hf⟩:=Option.bind_eq_some_iff.mp hf
  obtain⟨k,g5,hf⟩:=Option.bind_eq_some_iff.mp hf
  obtain⟨xss,g6,hf⟩:=Option.bind_eq_some_iff.mp hf
  obtain⟨kn,g7,hf⟩:=Option.bind_eq_some_iff.mp hf
  obtain⟨ys,g8,hf⟩:=Option.bind_eq_some_iff.mp hf
  obtain⟨j,g9,hf⟩:=Option.bind_eq_some_iff.mp hf
  obtain⟨jn,g10,hf⟩:=Option.map_eq_some_iff.mp hf
  cases hf
  refine⟨F,e,r,e1,R,g1,fun F1 H1 v X1 R1 A1=>?_⟩
  obtain⟨l,bs0,a1,_⟩:=R1.nst i xs0 (hV g3)
  refine⟨_,a1,F1,e1,rp,e2,R1,g4,fun F2 H2 w X2 R2 A2=>?_⟩
  have X12:=X1.trans X2
  obtain⟨F3,R3,s3,d3,f3⟩:=dJ.frozen R2 (rs:=[r]) (vs:=[v]) ⟨v,[],rfl,A1.ext X2,rfl⟩ (kZ g2)
  have X13:=X12.frz s3 f3
  have g6':=hV g6
  obtain⟨l',bs,c1,c2,c3,c4,c5,c6,c7⟩:=R3.nst i xss g6'
  rw [a1] at c1;cases c1
  obtain⟨b,hb⟩:∃b,bs[kn]?=some b:=⟨bs[kn]'(by rw [c4];exact(List.getElem?_eq_some_iff.mp g8).1),List.getElem?_eq_getElem _⟩
  obtain⟨b1,us,b2,b3⟩:=c7 kn b ys hb g8
  have fi:∀z,z=l∨z∈bs→Fp σ e2 H2 i z:=fun z h=>.inr ⟨xss,l,bs,g6',a1,c3,h⟩
  have bm:b∈bs:=List.mem_of_getElem? hb
  have bl:b≠l:=fun z=>c6 (z ▸ bm)
  refine⟨l,_,k,.ref b,rfl,bx A2 g5,.inl (.inl c3),?_,q2 σ F3 H2 e2 j _ R3 g9 ?_⟩
  · unfold atI
    rw [List.length_map,c4,g7]
    show(bs.map V.ref)[kn]?=_
    rw [List.getElem?_map,hb];rfl
  refine⟨b,us,j,jn,rfl,rfl,b2,by rw [←b3.len];exact g10,?_⟩
  have dv:DA K F3 d v:=by
    simp only [aU] at d3
    obtain⟨v',r',e',hv,_⟩:=d3
    cases e';exact hv
  obtain⟨R4,o4,s4⟩:=R3.putN (yss:=xss.set kn (ys.set jn d)) (bs:=bs) (H':=bc H2 b (.lst (us.set jn v))) g6' a1 c2 (by rw [aF (Ne.symm bl)];exact c3) (by simp [c4]) c5 c6 (fun m z zs z1 z2=>by
      by_cases em:m=kn
      · subst em
        rw [hb] at z1;cases z1
        rw [List.getElem?_set_self (by exact(List.getElem?_eq_some_iff.mp g8).1)] at z2
        cases z2
        exact⟨b1,_,ay,b3.set dv jn⟩
      · rw [List.getElem?_set_ne (Ne.symm em)] at z2
        obtain⟨d1,us',d2,d3⟩:=c7 m z zs z1 z2
        have zb:z≠b:=fun ez=>by
          subst ez
          exact em ((List.getElem?_inj (List.getElem?_eq_some_iff.mp z1).1 c5).mp (z1.trans hb.symm))
        exact⟨d1,us',by rw [aF zb];exact d2,d3⟩)
    (fun z hz=>.inl (fi z (.inr hz)))
    (fun z q=>by
      by_cases e0:z=b
      · rw [e0,ay] at q;cases q
      · rw [aF e0] at q;exact q)
    (fun z o q _ n2=>by
      have e0:z≠b:=fun e0=>n2 (by rw [e0];exact bm)
      rw [aF e0];exact q) (fun z vs q=>by
      by_cases e0:z=b
      · rw [e0];exact⟨_,ay⟩
      · rw [aF e0];exact⟨vs,q⟩)
  refine q F3 _ σ ⟨X13.sf,fun z q=>X13.dom z ?_,X13.fr,fun z vs h=>?_,fun z o h n=>?_,fun z h=>?_,fun _ _=>rfl⟩ R4
  · by_cases e0:z=b
    · rw [e0,ay] at q;cases q
    · rw [aF e0] at q;exact q
  · obtain⟨vs',h'⟩:=X13.lst z vs h
    by_cases e0:z=b
    · rw [e0];exact⟨_,ay⟩
    · rw [aF e0];exact⟨vs',h'⟩
  · have e0:z≠b:=fun e0=>by
      rcases X13.ow z ⟨i,fi z (.inr (by rw [e0];exact bm))⟩ with w | w
      · exact n w
      · rw [h] at w;cases w
    rw [aF e0];exact X13.tmp z o h n
  · rcases o4 z h with w | w
    · exact X13.ow z w
    · exact X13.ow z ⟨i,fi z (.inr w)⟩
def yF(i:Nat):FI:=fun e=>(cG e i).map fun xss=>(xss.map .list,[],e.set i (some (.d (.list (xss.map .list)))))
theorem B1{tg:Expr}(hK:X.K=K)(hN:X.N[i]?=some x)(hv:Az X.env.scope x)(hd:(x==("__debug__":Str))=false)(hcd:(x==("__classdict__":Str))=false):PI X tg (.Name x pos) (fI K (yF i)):=(tX (tg:=tg) hK (nj hN hv hd hcd)).mono fun σ H R hh=>by
  obtain⟨F,e,items,own,e',R0,hf,q⟩:=hh
  unfold yF at hf
  obtain⟨xss,h1,hf⟩:=Option.map_eq_some_iff.mp hf
  cases hf
  obtain⟨F',v,c1,c2,R1,X1⟩:=R0.frzN (hV h1)
  obtain⟨l,vs,rfl,d1,d2⟩:=dc.mp c2
  exact⟨_,c1,l,rfl,⟨vs,R1.sm.seq d1⟩,q _ F' H X1 R1 (fun _ h=>by cases h) (qT (.lst d1 d2))⟩
def Cn(fo fa:FE):FE:=fun e=>(fo e).bind fun o=>(fa o.2).bind fun p=>match p.1 with
  | .l ys=>(iW p.2 o.1).bind fun s=>if s.2.length+ys.length≤1000000 then some (.d .none,p.2.set s.1 (some (.l (s.2++ys)))) else none
  | _=>none
theorem zC{o:Expr}{fo:FE}{apos cpos:Pos}(hK:X.K=K)(ho:PE X o (fE K fo))(ha:PE X a (fE K fa))(hst:PySem.W.isStarred a=false)
    (hbase:attributeBase o "extend" X.env (eval o X.env)=eval o X.env)
    (hfew:((backTo cpos (starEach [a] X.env)).all (fun x=> !x.1)&&(backToKw cpos (keywordEach [] X.env)).all (fun x=>x.1.isSome)
      &&decide ([a].length+([]:List Keyword).length+(if ([]:List Keyword).isEmpty then 0 else 1) < 30))=true)
    (hline:(apos.endLine==cpos.line)=true)(hs:starEach [a] X.env=(false,eval a X.env)::starEach [] X.env)(hplain:(backTo cpos (starEach [] X.env)).any (·.1)=false):
    PE X (.Call (.Attribute o "extend" apos) [a] [] cpos) (fE K (Cn fo fa)):=by
  subst hK
  refine(ze PySem.F.plainAttrs_list PySem.F.slot_list_extend PySem.F.type_list_extend xq ho (BC ha ni hst) hbase hfew hline hs hplain).mono fun σ H Q h=>?_
  obtain⟨F,e,z,e',R,hf,q⟩:=h
  unfold Cn at hf
  obtain⟨⟨ro,e1⟩,h1,hf⟩:=Option.bind_eq_some_iff.mp hf
  obtain⟨⟨r,e2⟩,h2,hf⟩:=Option.bind_eq_some_iff.mp hf
  match r,h2,hf with
  | .l ys,h2,hf=>
  obtain⟨⟨n,xs⟩,h3,hf⟩:=Option.bind_eq_some_iff.mp hf
  split at hf
  case isFalse=>cases hf
  case isTrue hlen=>
  cases hf
  obtain⟨z3,h3'⟩:=nB h3
  dsimp only at z3 h3'
  subst z3
  refine⟨F,e,_,e1,R,h1,fun F1 H1 v X1 R1 A1=>?_⟩
  obtain⟨s1,zs,s2⟩:=A1
  obtain⟨l,vs,c1,c2,c3,c4⟩:=R1.own n zs s2
  rw [s1] at c1;cases c1
  refine⟨.inl ⟨rfl,vs,.inl (.inl c3)⟩,F1,e1,_,e2,R1,h2,fun F2 H2 w X2 R2 A2=>?_⟩
  obtain⟨t,us,rfl,t1,t2,t3,t4,t5⟩:=A2
  obtain⟨l',vs',d1,d2,d3,d4⟩:=R2.own n xs h3'
  rw [s1] at d1;cases d1
  have l1:=d4.len
  have l2:=t4.len
  have sl:sizeLine=16777216:=sizeLine_eq
  dsimp only at hlen
  refine⟨l,t,vs',us,rfl,rfl,d3,t3,by lia,?_⟩
  obtain⟨R3,X3⟩:=R2.putL h3' s1 (d4.append t4)
  exact q _ _ _ ((X1.trans X2).trans X3) R3 ((iF (K:=X.K) (F:=F2)).mpr rfl)
end
end L2
namespace L2
open PySem PySem.Spec PyProof.Rows
theorem m8{C:Int→Int→Bool}{f:Int→Int→PyData}{e:En}{i j:Int}(h:C i j=true):gI C f e (.d (.int i)) (.d (.int j))=some (.d (f i j)):=by simp [gI,bA,h]
theorem bF{e:En}{i j:Int}:bv e (.d (.int i)) (.d (.int j))=some (.d (.int (i+j))):=rfl
theorem de{e:En}{i j:Int}:gw e (.d (.int i)) (.d (.int j))=some (.d (.int (i - j))):=rfl
theorem ph{e:En}{i j:Int}(h:ng i j=true):gy e (.d (.int i)) (.d (.int j))=some (.d (.int (i*j))):=by
  unfold gy ya pe;rw [m8 h];rfl
theorem yW{i j:Int}(h1: -(2 ^ 64) < i)(h2:i < 2 ^ 64):ng i j=true:=by
  have:jJ i=true:=by unfold jJ;rw [decide_eq_true h1,decide_eq_true h2];rfl
  unfold ng;rw [this];simp
theorem se{i j:Int}(h1: -(2 ^ 64) < j)(h2:j < 2 ^ 64):ng i j=true:=by
  have:jJ j=true:=by unfold jJ;rw [decide_eq_true h1,decide_eq_true h2];rfl
  unfold ng;rw [this];simp
theorem aS{e:En}{i j:Int}(h:0 < j):a9 e (.d (.int i)) (.d (.int j))=some (.d (.int (i % j))):=by
  unfold a9;rw [m8 (by simp;lia)]
  rw [Int.fmod_eq_emod_of_nonneg i (by lia)]
theorem gY{e:En}{i j:Int}(h:0 < j)(h2:Bt 8000 j):gH e (.d (.int i)) (.d (.int j))=some (.d (.int (i / j))):=by
  unfold gH;rw [m8 (by simp [l4.mpr h2];lia)]
  rw [Int.fdiv_eq_ediv_of_nonneg i (by lia)]
theorem cS{e:En}{i j:Int}{neg:Bool}:bw neg e (.d (.int i)) (.d (.int j))=some (.d (.bool (if neg then !(i==j) else i==j))):=by
  unfold bw;simp [kc,SeqAt.shaped,PyData.canLay0,PyData.depth,PyData.eqv]
theorem iL{e:En}{i j:Int}:tL e (.d (.int i)) (.d (.int j))=some (.d (.bool (decide (i < j)))):=rfl
theorem iJ{e:En}{i j:Int}:A7 e (.d (.int i)) (.d (.int j))=some (.d (.bool (decide (i≤j)))):=rfl
theorem iH{e:En}{i j:Int}:CT e (.d (.int i)) (.d (.int j))=some (.d (.bool (decide (j < i)))):=rfl
theorem iG{e:En}{i j:Int}:uO e (.d (.int i)) (.d (.int j))=some (.d (.bool (decide (j≤i)))):=rfl
theorem fU{e:En}{i j:Int}:g2 tM e [.d (.int i),.d (.int j)]=some (.d (.int (min i j))):=by
  show some (Rv.d (.int (if j < i then j else i)))=_
  congr 3
  split<;>lia
theorem fR{e:En}{i j:Int}:g2 oD e [.d (.int i),.d (.int j)]=some (.d (.int (max i j))):=by
  show some (Rv.d (.int (if j > i then j else i)))=_
  congr 3
  split<;>lia
theorem fV{e:En}{i:Int}:kl e (.d (.int i))=some (.d (.int (-i))):=rfl
theorem ej{e:En}{b:Bool}:g1 w_ e [.d (.bool b)]=some (.d (.int (if b then 1 else 0))):=rfl
theorem fQ{e:En}{i:Int}:g1 wZ e [.d (.int i)]=some (.d (.int i.natAbs)):=by
  show some (Rv.d (.int (if i < 0 then -i else i)))=_
  congr 3
  split<;>lia
theorem m5{j:Int}(h1:0 < j)(h2:j < 2 ^ 64):Bt 8000 j:=Bt.mono (m:=64) (by unfold Bt;lia) (by decide)
theorem ic{α:Type}{xs:List α}{i:Int}(h0:0≤i)(h:i < xs.length):atI xs i=xs[i.toNat]?:=by
  unfold atI mq
  rw [if_pos h0,if_pos h];rfl
theorem me{e:En}{i:Nat}{xs:List PyData}{neg:Bool}(h:e[i]?=some (some (.l xs)))(hs:SeqAt.shaped (.list xs)=true):bw neg e (.s i) (.l [])=some (.d (.bool (if neg then !xs.isEmpty else xs.isEmpty))):=by
  unfold bw
  simp only [kc,h,Option.bind_some,hs]
  have h0:SeqAt.shaped (.list [])=true:=by simp [SeqAt.shaped,PyData.canLay0,PyData.canLayAll0,PyData.depth,PyData.depthAll]
  rw [h0]
  cases xs<;>simp [PyData.eqv,PyData.eqvAll]
theorem iP(ns:List Int):SeqAt.shaped (.list (ns.map .int))=true∧SeqAt.shaped (.tuple (ns.map .int))=true:=by
  have h1:PyData.canLayAll0 (ns.map PyData.int)=true:=by
    induction ns with
    | nil=>rfl
    | cons n r ih=>simp [PyData.canLayAll0,PyData.canLay0,ih]
  have h2:PyData.depthAll (ns.map PyData.int)=0:=by
    clear h1
    induction ns with
    | nil=>rfl
    | cons n r ih=>simp [PyData.depthAll,PyData.depth,ih]
  constructor<;>simp [SeqAt.shaped,PyData.canLay0,PyData.depth,h1,h2]
theorem cv{own:iA}{g:FG}{f:FS}(P:Nat→En→Prop):∀(items:List PyData) (k:Nat) (e:En),(∀i x e,items[i]?=some x→P (k+i) e→∃e1 e2,g x e=some e1∧f e1=some (.nx e2)∧keeps own e2∧P (k+i+1) e2)→P k e→∃e',eZ own g f items e=some (.nx e')∧P (k+items.length) e'
  | [],k,e,_,h=>⟨e,rfl,h⟩
  | x::r,k,e,hs,h=>by
    obtain⟨e1,e2,h1,h2,h3,h4⟩:=hs 0 x e rfl h
    obtain⟨e',h5,h6⟩:=cv P r (k+1) e2 (fun i y e hy hp=>by
      have:=hs (i+1) y e (by simpa using hy) (by rw [show k+(i+1)=k+1+i by lia];exact hp)
      rw [show k+(i+1)+1=k+1+i+1 by lia] at this
      exact this) h4
    refine⟨e',?_,by rw [List.length_cons,show k+(r.length+1)=k+1+r.length by lia];exact h6⟩
    unfold eZ
    simp only [h1,h2,Option.bind_some,if_pos h3]
    exact h5
theorem aY{e:En}:keeps [] e:=fun _ h=>by cases h
theorem bU{W:List Nat}{fi:FI}{g:FG}{f:FS}{e e1:En}{items:List PyData}(h:fi e=some (items,[],e1)):dm W fi g f e=eZ [] g f items e1:=by
  unfold dm;rw [h];rfl
theorem fw{lo:Int}{n i:Nat}{x:PyData}(h:(bz lo n)[i]?=some x):x=.int (lo+i)∧i < n:=by
  unfold bz at h
  rw [List.getElem?_map] at h
  obtain⟨k,h1,rfl⟩:=Option.map_eq_some_iff.mp h
  obtain⟨h2,h3⟩:=List.getElem?_eq_some_iff.mp h1
  simp at h2 h3
  subst h3
  exact⟨rfl,h2⟩
theorem iu{lo:Int}{n:Nat}:(bz lo n).length=n:=by simp [bz]
theorem e_{fs:FA}{e e1:En}{n:Int}(h:fs e=some ([.d (.int n)],e1))(h1: -1000000≤n)(h2:n≤1000000):eM fs e=some (bz 0 n.toNat,[],e1):=by
  unfold eM;rw [h]
  have:zO n=true:=by unfold zO;rw [decide_eq_true h1,decide_eq_true h2];rfl
  simp [bA,this]
theorem jM{ft:FT}{f:FS}(P:En→Prop)(μ:En→Nat)(hs:∀e,P e→(∃e1,ft e=some (false,e1)∧True)∨∃e1 e2,ft e=some (true,e1)∧f e1=some (.nx e2)∧P e2∧μ e2 < μ e):
    ∀(n:Nat) (e:En),P e→μ e < n→∃e0 e',jL ft f n e=some (.nx e')∧P e0∧ft e0=some (false,e'):=by
  intro n
  induction n with
  | zero=>intro e _ h;lia
  | succ n ih=>
    intro e hp hm
    rcases hs e hp with ⟨e1,h1,_⟩ | ⟨e1,e2,h1,h2,h3,h4⟩
    · exact⟨e,e1,by unfold jL;rw [h1];rfl,hp,h1⟩
    · obtain⟨e0,e',g1,g2⟩:=ih e2 h3 (by lia)
      exact⟨e0,e',by unfold jL;rw [h1];simp only [Option.bind_some,if_true,h2];exact g1,g2⟩
theorem cO{cs:En}{ft:FT}{fe:FE}{b:PyData→Bool}{y:PyData→PyData}:∀(items:List PyData) (t:Option Sv) (acc:List PyData),(∀x∈items,ft (cs++[some (.d x)])=some (b x,cs++[some (.d x)]))→(∀x∈items,b x=true→fe (cs++[some (.d x)])=some (.d (y x),cs++[some (.d x)]))→
    acc.length+items.length≤1000000→∃t',cK (af cs.length) ft fe items (cs++[t]) acc=some (acc++(items.filter b).map y,cs++[t'])
  | [],t,acc,_,_,_=>⟨t,by simp [cK]⟩
  | x::r,t,acc,h1,h2,hl=>by
    have hg:af cs.length x (cs++[t])=some (cs++[some (.d x)]):=by simp [af]
    have h1x:=h1 x (by simp)
    unfold cK
    rw [hg]
    simp only [Option.bind_some,h1x]
    cases hb:b x with
    | true=>
      simp only [if_true,h2 x (by simp) hb,Option.bind_some,ma]
      rw [if_pos (by simp at hl;lia)]
      obtain⟨t',ih⟩:=cO (b:=b) (y:=y) r (some (.d x)) (acc++[y x]) (fun z hz=>h1 z (by simp [hz])) (fun z hz=>h2 z (by simp [hz])) (by simp at hl ⊢;lia)
      exact⟨t',by rw [ih];simp [hb]⟩
    | false=>
      simp only [Bool.false_eq_true,if_false]
      obtain⟨t',ih⟩:=cO (b:=b) (y:=y) r (some (.d x)) acc (fun z hz=>h1 z (by simp [hz])) (fun z hz=>h2 z (by simp [hz])) (by simp at hl;lia)
      exact⟨t',by rw [ih];simp [hb]⟩
theorem vF{cp:List (Nat × Str)}{nT:Nat}{fi:FI}{g:FG}{ft:FT}{fe:FE}{e e1 eo:En}{items out:List PyData}(h1:fi e=some (items,[],e1))(h3:cK g ft fe items (mX cp nT e1) []=some (out,eo))(h4:(cp.all fun p=> !xi e1[p.1]?)=true):cT cp nT fi g ft fe e=some (.l out,e1):=by
  unfold cT
  rw [h1]
  simp only [Option.bind_some,List.all_nil,if_true,h3]
  have hb:ka cp eo e1=true:=by
    unfold ka
    rw [List.all_eq_true] at h4 ⊢
    intro p hp
    rw [h4 p hp];rfl
  rw [if_pos hb]
  congr 2
  refine List.ext_getElem? fun i=>?_
  rw [cD]
  match hi:e1[i]? with
  | none=>rfl
  | some none=>rfl
  | some (some (.d x))=>rfl
  | some (some (.n x))=>rfl
  | some (some (.l x))=>
    cases hp:mx cp i with
    | none=>simp [hp]
    | some k=>
      obtain⟨s,hs⟩:=et hp
      have:=List.all_eq_true.mp h4 _ (List.mem_of_getElem? hs)
      simp [hi,xi] at this
theorem iT{fa:FE}{e e1:En}{xs:List PyData}(h:fa e=some (.d (.tuple xs),e1)):iC fa e=some (xs,[],e1):=by
  unfold iC;rw [h];rfl
theorem uR{fa:FE}{e e1:En}{xs:List PyData}(h:fa e=some (.l xs,e1)):iC fa e=some (xs,[],e1):=by
  unfold iC;rw [h];rfl
theorem dU{cp:List (Nat × Str)}{nT:Nat}{fi:FI}{g:FG}{ft:FT}{fe:FE}{e e1 cs:En}{t t':En}{items out:List PyData}(h1:fi e=some (items,[],e1))(hc:mX cp nT e1=cs++t)(hl:cs.length=cp.length)(h3:cK g ft fe items (mX cp nT e1) []=some (out,cs++t')):cT cp nT fi g ft fe e=some (.l out,e1):=by
  have key:∀i x,e1[i]?=some (some (.l x))→∀k,mx cp i=some k→(cs++t')[k]?=some (some (.l x)):=by
    intro i x hi k hk
    obtain⟨s,hs⟩:=et hk
    have hk2:k < cp.length:=(List.getElem?_eq_some_iff.mp hs).1
    have:(mX cp nT e1)[k]?=some (some (.l x)):=by
      unfold mX
      rw [List.getElem?_append_left (by simpa using hk2),List.getElem?_map,hs]
      simp [hi,FW]
    rw [hc,List.getElem?_append_left (by lia)] at this
    rw [List.getElem?_append_left (by lia)]
    exact this
  unfold cT
  rw [h1]
  simp only [Option.bind_some,List.all_nil,if_true,h3]
  have hb:ka cp (cs++t') e1=true:=by
    unfold ka
    rw [List.all_eq_true]
    intro p hp
    match hi:e1[p.1]? with
    | none=>simp [xi]
    | some none=>simp [xi]
    | some (some (.d x))=>simp [xi]
    | some (some (.n x))=>simp [xi]
    | some (some (.l x))=>
      cases hq:mx cp p.1 with
      | none=>
        unfold mx at hq
        rw [List.findIdx?_eq_none_iff] at hq
        have:=hq p hp
        simp at this
      | some k=>simp [key p.1 x hi k hq,xi]
  rw [if_pos hb]
  congr 2
  refine List.ext_getElem? fun i=>?_
  rw [cD]
  match hi:e1[i]? with
  | none=>rfl
  | some none=>rfl
  | some (some (.d x))=>rfl
  | some (some (.n x))=>rfl
  | some (some (.l x))=>
    cases hp:mx cp i with
    | none=>simp [hp]
    | some k=>simp [hp,key i x hi k hp]
theorem mY{α:Type}{xs:List α}{i:Int}(h0:0≤i)(h1:i < xs.length):∃x∈xs,atI xs i=some x:=by
  rw [ic h0 h1]
  exact⟨xs[i.toNat]'(by lia),List.getElem_mem _,List.getElem?_eq_getElem _⟩
theorem oj{e:En}{xs:List PyData}{i:Int}:dX e (.l xs) (.d (.int i))=(atI xs i).map .d:=rfl
theorem kg{e:En}{xs:List PyData}{i:Int}:dX e (.d (.tuple xs)) (.d (.int i))=(atI xs i).map .d:=rfl
theorem kf{e:En}{xs:List PyData}{i:Int}:dX e (.d (.list xs)) (.d (.int i))=(atI xs i).map .d:=rfl
theorem om{e:En}{j:Nat}{xs:List PyData}{i:Int}(h:e[j]?=some (some (.l xs))):dX e (.s j) (.d (.int i))=(atI xs i).map .d:=by
  simp [dX,eQ,h,bA]
theorem kj{e:En}{xs:List PyData}:g1 cV e [.d (.tuple xs)]=some (.d (.int xs.length)):=rfl
theorem iK{e:En}{xs:List PyData}:g1 cV e [.d (.list xs)]=some (.d (.int xs.length)):=rfl
theorem kh{e:En}{xs:List PyData}:g1 cV e [.l xs]=some (.d (.int xs.length)):=rfl
theorem ki{e:En}{j:Nat}{xs:List PyData}(h:e[j]?=some (some (.l xs))):g1 cV e [.s j]=some (.d (.int xs.length)):=by
  simp [g1,cV,eQ,h]
theorem fX{e:En}{j:Nat}{xs:List PyData}(h:e[j]?=some (some (.l xs))):g1 cP e [.s j]=some (.d (.tuple xs)):=by
  simp [g1,cP,eQ,h]
theorem fW{e:En}{xs:List PyData}:g1 cP e [.l xs]=some (.d (.tuple xs)):=rfl
theorem ek{e:En}{xs:List PyData}:g1 cP e [.d (.list xs)]=some (.d (.tuple xs)):=rfl
theorem fY{e:En}{xs:List PyData}:g1 cP e [.d (.tuple xs)]=some (.d (.tuple xs)):=rfl
theorem oo{e:En}{xs:List PyData}{lo hi:Option Int}:A8 e (.d (.tuple xs)) lo hi=some (.d (.tuple (cutD xs lo hi))):=rfl
theorem jz{e:En}{xs ys:List PyData}(h:xs.length+ys.length≤1000000):bv e (.d (.tuple xs)) (.d (.tuple ys))=some (.d (.tuple (xs++ys))):=by
  simp [bv,ya,CS,gI,bA,v_,eQ,h]
theorem Dv{e:En}{i j:Int}(h:j≠0):a9 e (.d (.int i)) (.d (.int j))=some (.d (.int (i.fmod j))):=by
  unfold a9;rw [m8 (by simpa using h)]
theorem A6{e:En}{i j:Int}(h:j≠0)(h2:Bt 8000 j):gH e (.d (.int i)) (.d (.int j))=some (.d (.int (i.fdiv j))):=by
  unfold gH;rw [m8 (by simp [l4.mpr h2,h])]
theorem mf{e:En}{i j:Int}(h:zy i j=true):uP e (.d (.int i)) (.d (.int j))=some (.d (.int (i ^ j.toNat))):=by
  unfold uP;rw [m8 h]
theorem mz:zy 10 18=true:=by decide
theorem bo{f g:FS}{e e1:En}(h:f e=some (.nx e1)):au f g e=g e1:=by unfold au;rw [h];rfl
theorem C_{ft:FT}{f g:FS}{e e1:En}(h:ft e=some (true,e1)):fF ft f g e=f e1:=by unfold fF;rw [h];rfl
theorem C9{ft:FT}{f g:FS}{e e1:En}(h:ft e=some (false,e1)):fF ft f g e=g e1:=by unfold fF;rw [h];rfl
def lG(i:Nat)(e:En):Nat:=match e[i]? with
  | some (some (.l xs))=>xs.length
  | _=>0
def yX(i:Nat)(e:En):Nat:=match e[i]? with
  | some (some (.d (.int k)))=>k.natAbs
  | _=>0
theorem oS{n m:Nat}(h:n < 2 ^ m)(hm:m≤4200):n < 2 ^ 4200:=Nat.lt_of_lt_of_le h (Nat.pow_le_pow_right (by decide) hm)
theorem jZ{α:Type}{a:α}{r:List α}:atI (a::r) 0=some a:=by
  rw [ic (by decide) (by simp)];rfl
theorem jp{α:Type}{a b:α}{r:List α}:atI (a::b::r) 1=some b:=by
  rw [ic (by decide) (by simp;lia)];rfl
theorem jq{α:Type}{a b c:α}{r:List α}:atI (a::b::c::r) 2=some c:=by
  rw [ic (by decide) (by simp;lia)];rfl
theorem jr{α:Type}{a b c d:α}{r:List α}:atI (a::b::c::d::r) 3=some d:=by
  rw [ic (by decide) (by simp;lia)];rfl
theorem j5{W:aM}{k:Int}(h:jO W k):atI (W.ties.map aQ) k=some (aQ (W.tie k)):=by
  rw [ic h.1 (by rw [List.length_map];exact h.2),List.getElem?_map,h.get];rfl
theorem sU{ns:List Int}{k:Int}(h0:0≤k)(h1:k < (ns.length:Int)):atI (ns.map PyData.int) k=some (.int (ns.getD k.toNat 0)):=by
  rw [ic h0 (by rw [List.length_map];exact h1),List.getElem?_map]
  have:k.toNat < ns.length:=by lia
  simp [this]
theorem nV{a b c d:PyData}:cutD [a,b,c,d] none (some 2)=[a,b]:=rfl
theorem eg{a b c d:PyData}:cutD [a,b,c,d] (some 2) none=[c,d]:=rfl
theorem ef{a b c:PyData}:cutD [a,b,c] (some 1) none=[b,c]:=rfl
theorem s_(ns:List Int):PyData.canLayAll0 (ns.map PyData.int)=true:=by
  induction ns with
  | nil=>rfl
  | cons n r ih=>simp [PyData.canLayAll0,PyData.canLay0,ih]
theorem sT{x:Int}:∀(ns:List Int),((ns.map PyData.int).any fun y=>PyData.eqv y (.int x))=ns.contains x
  | []=>rfl
  | n::r=>by
    rw [List.map_cons,List.any_cons,sT r,List.contains_cons]
    show(n==x || _)=_
    rw [show(n==x)=(x==n) by rw [Bool.eq_iff_iff];simp;exact eq_comm]
theorem eJ{e:En}{x:Int}{ns:List Int}{neg:Bool}:w6 neg e (.d (.int x)) (.d (.tuple (ns.map .int)))=some (.d (.bool (if neg then !ns.contains x else ns.contains x))):=by
  unfold w6
  simp only [kc,eQ,Option.bind_some,s_,sT]
  simp [PyData.canLay0,PyData.depth]
theorem iI{e:En}{x a b:Int}{neg:Bool}:w6 neg e (.d (.int x)) (.d (.tuple [.int a,.int b]))=some (.d (.bool (if neg then !(a==x || b==x) else(a==x || b==x)))):=by
  have h:=eJ (e:=e) (x:=x) (ns:=[a,b]) (neg:=neg)
  simp only [List.map_cons,List.map_nil] at h
  rw [h]
  have:[a,b].contains x=(a==x || b==x):=by
    simp only [List.contains_cons,List.contains_nil,Bool.or_false]
    rw [show(x==a)=(a==x) by rw [Bool.eq_iff_iff];simp;exact eq_comm,show(x==b)=(b==x) by rw [Bool.eq_iff_iff];simp;exact eq_comm]
  rw [this]
def qZ(p:Int→Bool):PyData→Bool
  | .int k=>p k
  | _=>false
theorem xN{W:aM}{asked taken:List Int}:((bz 0 W.ties.length).filter (qZ fun k=>W.may asked taken k))=(W.can asked taken).map .int:=by
  unfold bz aM.can aM.rng
  rw [List.filter_map,List.filter_map,List.map_map]
  have:(List.range W.ties.length).filter ((qZ fun k=>W.may asked taken k) ∘ fun(i:Nat)=>PyData.int (0+(i:Int)))=(List.range W.ties.length).filter ((fun k=>W.may asked taken k) ∘ Int.ofNat):=by
    congr 1
    funext i
    simp [qZ]
  rw [this]
  refine List.map_congr_left fun i _=>?_
  simp
theorem dP(W:aM):aq W=.tuple [.int W.things,.tuple (W.ties.map aQ),.tuple (W.pat.map .int),.int W.asks]:=rfl
end L2
namespace L2
open PySem PySem.Spec PyProof.Rows
def Sh(n:Nat)(d:PyData):Prop:=d.canLay0=true∧d.depth≤n
theorem Sh.mono{n m:Nat}{d:PyData}(h:Sh n d)(l:n≤m):Sh m d:=⟨h.1,Nat.le_trans h.2 l⟩
theorem Sh.ok{n:Nat}{d:PyData}(h:Sh n d)(l:n≤64):SeqAt.shaped d=true:=by
  unfold SeqAt.shaped;rw [h.1,decide_eq_true (Nat.le_trans h.2 l)];rfl
theorem Sh.int{k:Int}:Sh 2 (.int k):=⟨by simp [PyData.canLay0],by simp [PyData.depth]⟩
theorem Sh.all{n:Nat}:∀{ds:List PyData},(∀d∈ds,Sh n d)→PyData.canLayAll0 ds=true∧PyData.depthAll ds≤n
  | [],_=>⟨rfl,by simp [PyData.depthAll]⟩
  | d::r,h=>by
    obtain⟨a1,a2⟩:=h d (by simp)
    obtain⟨b1,b2⟩:=Sh.all (ds:=r) fun x hx=>h x (by simp [hx])
    exact⟨by simp [PyData.canLayAll0,a1,b1],by simp only [PyData.depthAll];lia⟩
theorem Sh.tup{n:Nat}{ds:List PyData}(h:∀d∈ds,Sh n d):Sh (n+2) (.tuple ds):=by
  obtain⟨b1,b2⟩:=Sh.all h
  exact⟨by simp [PyData.canLay0,b1],by simp only [PyData.depth];lia⟩
theorem Sh.list{n:Nat}{ds:List PyData}(h:∀d∈ds,Sh n d):Sh (n+2) (.list ds):=by
  obtain⟨b1,b2⟩:=Sh.all h
  exact⟨by simp [PyData.canLay0,b1],by simp only [PyData.depth];lia⟩
theorem Sh.ints{ns:List Int}:Sh 4 (.tuple (ns.map .int)):=Sh.tup (n:=2) fun d hd=>by
  obtain⟨k,_,rfl⟩:=List.mem_map.mp hd
  exact Sh.int
theorem Sh.st{a b:List Int}:Sh 6 (gv a b):=Sh.tup (n:=4) fun d hd=>by
  simp only [List.mem_cons,List.not_mem_nil,or_false] at hd
  rcases hd with rfl | rfl<;>exact Sh.ints
theorem Sh.tie{t:oC}:Sh 6 (aQ t):=Sh.tup (n:=4) fun d hd=>by
  simp only [List.mem_cons,List.not_mem_nil,or_false] at hd
  rcases hd with rfl | rfl | rfl | rfl
  · exact Sh.int.mono (by decide)
  · exact Sh.int.mono (by decide)
  · exact Sh.ints (ns:=[t.top,t.bot])
  · exact Sh.int.mono (by decide)
theorem pO:∀(n:Nat) (l:List Int),l.Nodup→(∀k∈l,0≤k∧k < (n:Int))→l.length≤n
  | 0,l,_,h=>by
    cases l with
    | nil=>simp
    | cons a r=>have:=h a (by simp);lia
  | n+1,l,hd,h=>by
    have ih:=pO n (l.erase (n:Int)) (hd.erase _) fun k hk=>by
      obtain⟨h1,h2⟩:=hd.mem_erase_iff.mp hk
      have:=h k h2
      lia
    by_cases c:(n:Int)∈l
    · rw [List.length_erase_of_mem c] at ih;lia
    · rw [List.erase_of_not_mem c] at ih;lia
abbrev Std:=List Int × List Int
structure o5 (W:aM) (s:Std):Prop where
  inw:∀k∈s.1,jO W k
  nd:s.1.Nodup
  tk:s.2.length≤2*s.1.length
  th:∀t∈s.2,0≤t∧t < W.things
def nxt(W:aM)(s:Std)(k:Int)(b:Bool):Std:=(aM.askd s.1 k,W.took s.2 k b)
theorem o5.len{W:aM}{s:Std}(h:o5 W s):s.1.length≤W.ties.length:=pO _ _ h.nd fun k hk=>h.inw k hk
theorem o5.first(W:aM):o5 W ([],[]):=⟨fun k h=>(by cases h),List.nodup_nil,Nat.le_refl _,fun k h=>(by cases h)⟩
theorem i3{a:List Int}{k:Int}:(aM.askd a k).length=a.length+1:=by unfold aM.askd;rw [nD];simp
theorem o5.nxt{W:aM}{s:Std}{k:Int}(b:Bool)(ok:W.Ok)(h:o5 W s)(hk:jO W k)(hn:k∉s.1):o5 W (nxt W s k b):=by
  refine⟨fun j hj=>?_,?_,?_,?_⟩
  · have:=lg.mp hj
    rcases List.mem_append.mp this with z | z
    · exact h.inw j z
    · simp at z;rw [z];exact hk
  · refine(iy _).nodup_iff.mpr ?_
    rw [List.nodup_append]
    refine⟨h.nd,by simp,fun a ha b hb=>?_⟩
    simp at hb
    rintro rfl
    exact hn (hb ▸ ha)
  · have:=h.tk
    show(W.took s.2 k b).length≤2*(aM.askd s.1 k).length
    rw [i3]
    unfold aM.took
    split
    · rw [nD];simp;lia
    · lia
  · intro t ht
    have o:=hk.ok ok
    have:=o.o0;have:=o.o1;have:=o.o2
    change t∈W.took s.2 k b at ht
    unfold aM.took at ht
    split at ht
    · rcases List.mem_append.mp (lg.mp ht) with z | z
      · exact h.th t z
      · simp at z
        rcases z with rfl | rfl<;>lia
    · exact h.th t ht
theorem wn{W:aM}{a t:List Int}{k:Int}(h:W.may a t k=true):k∉a:=by
  unfold aM.may at h
  intro c
  have:a.contains k=true:=by simpa using c
  simp [c] at h
structure Nd where
  tie:Int
  yes:Int
  no:Int
def aG(x:Nd):PyData:=.tuple [.int x.tie,.int x.yes,.int x.no]
def xj(x:Nd):List PyData:=[.int x.tie,.int x.yes,.int x.no]
def lU(W:aM)(n:Nat)(S:Nat→Std)(i:Nat)(k:Int)(b:Bool)(l:Int):Prop:=l= -1∨(0≤l∧l < (n:Int)∧S l.toNat=nxt W (S i) k b)
structure rK (W:aM) (n:Nat) (S:Nat→Std) (i:Nat) (x:Nd):Prop where
  tie:jO W x.tie
  st:o5 W (S i)
  may:W.may (S i).1 (S i).2 x.tie=true
  yes:lU W n S i x.tie true x.yes
  no:lU W n S i x.tie false x.no
def dN(W:aM)(T:List Nd)(S:Nat→Std):Prop:=∀(i:Nat) (x:Nd),T[i]?=some x→rK W T.length S i x
structure Wt where
  st:Std
  par:Int
  side:Int
def AV(w:Wt):PyData:=.tuple [gv w.st.1 w.st.2,.int w.par,.int w.side]
theorem Sh.wt{w:Wt}:Sh 8 (AV w):=Sh.tup (n:=6) fun d hd=>by
  simp only [List.mem_cons,List.not_mem_nil,or_false] at hd
  rcases hd with rfl | rfl | rfl
  · exact Sh.st
  · exact Sh.int.mono (by decide)
  · exact Sh.int.mono (by decide)
def upS(S:Nat→Std)(n:Nat)(s:Std):Nat→Std:=fun i=>if i=n then s else S i
structure rJ (W:aM) (T:List Nd) (S:Nat→Std) (ws:List Wt):Prop where
  tr:dN W T S
  wt:∀w∈ws,o5 W w.st∧(w.par= -1∨∃(p:Nat) (x:Nd),w.par=(p:Int)∧T[p]?=some x∧((w.side=0∧w.st=L2.nxt W (S p) x.tie true)∨(w.side=1∧w.st=L2.nxt W (S p) x.tie false)))
  side:∀w∈ws,w.side=0∨w.side=1
theorem lU.up{W:aM}{n:Nat}{S:Nat→Std}{i:Nat}{k:Int}{b:Bool}{l:Int}{s:Std}(h:lU W n S i k b l)(hi:i < n):lU W (n+1) (upS S n s) i k b l:=by
  rcases h with h | ⟨h1,h2,h3⟩
  · exact .inl h
  · refine .inr ⟨h1,by lia,?_⟩
    unfold upS
    rw [if_neg (by lia),if_neg (by lia)]
    exact h3
def iD(x:Nd)(side n:Int):Nd:=if side=0 then{x with yes:=n} else{x with no:=n}
theorem yO{x:Nd}{s n:Int}:(iD x s n).tie=x.tie:=by unfold iD;split<;>rfl
theorem rJ.more{W:aM}{T:List Nd}{S:Nat→Std}{w:Wt}{ws:List Wt}{k:Int}(ok:W.Ok)(h:rJ W T S (w::ws))(hk:jO W k)(hm:W.may w.st.1 w.st.2 k=true):
    rJ W ((if 0≤w.par then T.modify w.par.toNat (fun x=>iD x w.side T.length) else T)++[⟨k, -1, -1⟩]) (upS S T.length w.st) (ws++[⟨L2.nxt W w.st k true,T.length,0⟩,⟨L2.nxt W w.st k false,T.length,1⟩]):=by
  obtain⟨ws1,ws2⟩:=h.wt w (by simp)
  generalize hT:(if 0≤w.par then T.modify w.par.toNat (fun x=>iD x w.side T.length) else T)=T'
  have len:T'.length=T.length:=by rw [←hT];split<;>simp
  have old:∀(i:Nat) (y:Nd),T'[i]?=some y→i < T.length∧∃x,T[i]?=some x∧y.tie=x.tie:=by
    intro i y hy
    have hi:i < T.length:=by rw [←len];exact(List.getElem?_eq_some_iff.mp hy).1
    refine⟨hi,?_⟩
    rw [←hT] at hy
    split at hy
    · rw [List.getElem?_modify] at hy
      obtain⟨x,hx,e⟩:=Option.map_eq_some_iff.mp hy
      refine⟨x,hx,?_⟩
      rw [←e]
      split
      · exact yO
      · rfl
    · exact⟨y,hy,rfl⟩
  have keep:∀(i:Nat) (x:Nd),T[i]?=some x→∃y,T'[i]?=some y∧y.tie=x.tie:=by
    intro i x hx
    have hi:i < T'.length:=by rw [len];exact(List.getElem?_eq_some_iff.mp hx).1
    obtain⟨_,x',hx',e⟩:=old i _ (List.getElem?_eq_getElem hi)
    rw [hx] at hx'
    cases hx'
    exact⟨_,List.getElem?_eq_getElem hi,e⟩
  have up:∀i,i < T.length→upS S T.length w.st i=S i:=fun i hi=>by unfold upS;rw [if_neg (by lia)]
  have upn:upS S T.length w.st T.length=w.st:=by unfold upS;rw [if_pos rfl]
  refine⟨fun i y hy=>?_,fun v hv=>?_,fun v hv=>?_⟩
  · rw [List.length_append,len]
    show rK W (T.length+1) _ i y
    by_cases c:i < T.length
    · rw [List.getElem?_append_left (by lia)] at hy
      have hy0:=hy
      rw [←hT] at hy
      split at hy
      case isFalse=>
        have o:=h.tr i y hy
        exact⟨o.tie,by rw [up i c];exact o.st,by rw [up i c];exact o.may,o.yes.up c,o.no.up c⟩
      case isTrue hp=>
        rw [List.getElem?_modify] at hy
        obtain⟨x,hx,e⟩:=Option.map_eq_some_iff.mp hy
        have o:=h.tr i x hx
        split at e
        case isFalse=>
          subst e
          exact⟨o.tie,by rw [up i c];exact o.st,by rw [up i c];exact o.may,o.yes.up c,o.no.up c⟩
        case isTrue hi=>
          rcases ws2 with z | ⟨p,x2,z1,z2,z3⟩
          · lia
          · have:i=p:=by lia
            subst this
            rw [hx] at z2
            cases z2
            have new:∀b,w.st=L2.nxt W (S i) x.tie b→lU W (T.length+1) (upS S T.length w.st) i x.tie b (T.length:Int):=fun b hb=>.inr ⟨by lia,by lia,by
              rw [show((T.length:Int)).toNat=T.length by lia,upn,up i c];exact hb⟩
            rw [←e]
            rcases z3 with ⟨s0,s1⟩ | ⟨s0,s1⟩
            · have:iD x w.side T.length={x with yes:=T.length}:=by unfold iD;rw [if_pos s0]
              rw [this]
              exact⟨o.tie,by rw [up i c];exact o.st,by rw [up i c];exact o.may,new true s1,o.no.up c⟩
            · have:iD x w.side T.length={x with no:=T.length}:=by unfold iD;rw [if_neg (by lia)]
              rw [this]
              exact⟨o.tie,by rw [up i c];exact o.st,by rw [up i c];exact o.may,o.yes.up c,new false s1⟩
    · rw [List.getElem?_append_right (by lia)] at hy
      have:i=T.length:=by
        have:=(List.getElem?_eq_some_iff.mp hy).1
        simp at this;lia
      subst this
      rw [len] at hy
      simp at hy
      subst hy
      exact⟨hk,by rw [upn];exact ws1,by rw [upn];exact hm,.inl rfl,.inl rfl⟩
  · rcases List.mem_append.mp hv with hv | hv
    · obtain⟨v1,v2⟩:=h.wt v (by simp [hv])
      refine⟨v1,?_⟩
      rcases v2 with z | ⟨p,x,z1,z2,z3⟩
      · exact .inl z
      · obtain⟨y,hy,e⟩:=keep p x z2
        have hp:p < T.length:=(List.getElem?_eq_some_iff.mp z2).1
        refine .inr ⟨p,y,z1,by rw [List.getElem?_append_left (by lia)];exact hy,?_⟩
        rw [up p hp,e]
        exact z3
    · have key:∀b,o5 W (L2.nxt W w.st k b):=fun b=>ws1.nxt b ok hk (wn hm)
      have at':(T'++[(⟨k, -1, -1⟩:Nd)])[T.length]?=some ⟨k, -1, -1⟩:=by rw [List.getElem?_append_right (by lia),len];simp
      simp only [List.mem_cons,List.not_mem_nil,or_false] at hv
      rcases hv with rfl | rfl
      · exact⟨key true,.inr ⟨T.length,_,rfl,at',.inl ⟨rfl,by rw [upn]⟩⟩⟩
      · exact⟨key false,.inr ⟨T.length,_,rfl,at',.inr ⟨rfl,by rw [upn]⟩⟩⟩
  · rcases List.mem_append.mp hv with hv | hv
    · exact h.side v (by simp [hv])
    · simp only [List.mem_cons,List.not_mem_nil,or_false] at hv
      rcases hv with rfl | rfl
      · exact .inl rfl
      · exact .inr rfl
theorem rJ.less{W:aM}{T:List Nd}{S:Nat→Std}{w:Wt}{ws:List Wt}(h:rJ W T S (w::ws)):rJ W T S ws:=⟨h.tr,fun v hv=>h.wt v (by simp [hv]),fun v hv=>h.side v (by simp [hv])⟩
theorem xP{T:List Nd}{p:Nat}{x:Nd}{n:Int}(h:T[p]?=some x):(T.map xj).set p [.int x.tie,.int n,.int x.no]=(T.modify p (fun x=>iD x 0 n)).map xj:=by
  refine List.ext_getElem? fun i=>?_
  rw [List.getElem?_set,List.getElem?_map,List.getElem?_map,List.getElem?_modify]
  by_cases c:p=i
  · subst c
    obtain⟨hp,e⟩:=List.getElem?_eq_some_iff.mp h
    simp [h,hp,iD,xj,e]
  · simp [c]
theorem xQ{T:List Nd}{p:Nat}{x:Nd}{n:Int}(h:T[p]?=some x):(T.map xj).set p [.int x.tie,.int x.yes,.int n]=(T.modify p (fun x=>iD x 1 n)).map xj:=by
  refine List.ext_getElem? fun i=>?_
  rw [List.getElem?_set,List.getElem?_map,List.getElem?_map,List.getElem?_modify]
  by_cases c:p=i
  · subst c
    obtain⟨hp,e⟩:=List.getElem?_eq_some_iff.mp h
    simp [h,hp,iD,xj,e]
  · simp [c]
theorem AN{W:aM}{a t:List Int}{k:Int}(h:k∈W.can a t):jO W k∧W.may a t k=true:=by
  unfold aM.can at h
  rw [List.mem_filter] at h
  exact⟨Bh.mp h.1,h.2⟩
end L2
namespace L2
open PySem PySem.Spec PyProof.Rows
theorem rG{cp:List (Nat × Str)}{nT:Nat}{fi:FI}{g:FG}{ft:FT}{fe:FE}{e e1 cs:En}{t t':En}{items out:List PyData}{own:iA}(h1:fi e=some (items,own,e1))(ho:(own.all fun q=> !(cp.any fun c=>c.1==q.1))=true)(hc:mX cp nT e1=cs++t)(hl:cs.length=cp.length)(h3:cK g ft fe items (mX cp nT e1) []=some (out,cs++t')):cT cp nT fi g ft fe e=some (.l out,e1):=by
  have key:=dU (cp:=cp) (nT:=nT) (fi:=fun _=>some (items,[],e1)) (g:=g) (ft:=ft) (fe:=fe) (e:=e) rfl hc hl h3
  unfold cT at key ⊢
  rw [h1]
  simp only [Option.bind_some,List.all_nil,if_true] at key
  simp only [Option.bind_some,ho,if_true]
  exact key
theorem zQ{W:List Nat}{fi:FI}{g:FG}{f:FS}{e e1:En}{items:List PyData}{own:iA}(h:fi e=some (items,own,e1))(ho:(own.all fun q=> !W.contains q.1)=true):dm W fi g f e=eZ own g f items e1:=by
  unfold dm;rw [h];simp only [Option.bind_some,ho,if_true]
theorem qO{α:Type}(x:α):∀n,(List.replicate n [x]).flatten=List.replicate n x
  | 0=>rfl
  | n+1=>by rw [List.replicate_succ,List.flatten_cons,qO x n];rfl
theorem wb{e:En}{x:PyData}{n:Int}(h0:0≤n)(h1:n≤100000):gy e (.l [x]) (.d (.int n))=some (.l (List.replicate n.toNat x)):=by
  have a:tN e (.l [x]) (.d (.int n))=some (.l (List.replicate n.toNat [x]).flatten):=by
    simp [tN,xn,bA]
    lia
  have b:pe e (.l [x]) (.d (.int n))=none:=by simp [pe,gI,bA]
  have c:pj e (.l [x]) (.d (.int n))=none:=by simp [pj,eQ,bA]
  unfold gy ya
  rw [b,c,a,qO]
  rfl
theorem wQ{α:Type}{xs:List α}{x:α}:atI (xs++[x]) (-1)=some x:=by
  unfold atI mq
  rw [if_neg (by decide),if_pos (by simp;lia)]
  simp
  rw [show(-1+((xs.length:Int)+1)).toNat=xs.length by lia]
  simp
theorem Fy{n:Nat}:cutD [.int 0] none (some (n:Int))=(if n=0 then [] else [.int 0]):=by
  unfold cutD
  rw [HT.sIx_none,HT.sIx_nat]
  cases n with
  | zero=>simp
  | succ n=>simp
def nm(nums:List Int)(l:Int):Int:=(atI nums l).getD (-1)
theorem AJ{α β:Type}{f:α→β}{xs:List α}{i:Int}:atI (xs.map f) i=(atI xs i).map f:=by
  unfold atI
  rw [List.length_map]
  cases mq xs.length i with
  | none=>rfl
  | some j=>simp
theorem yh{α:Type}{xs:List α}{i:Int}(h0: -(xs.length:Int)≤i)(h1:i < xs.length):∃x,atI xs i=some x:=by
  unfold atI mq
  split
  · simp only [if_pos h1,Option.bind_some]
    exact⟨_,List.getElem?_eq_getElem (by lia)⟩
  · simp only [if_pos h0,Option.bind_some]
    exact⟨_,List.getElem?_eq_getElem (by lia)⟩
theorem C1{nums:List Int}{l:Int}(h0: -(nums.length:Int)≤l)(h1:l < nums.length):atI (nums.map PyData.int) l=some (.int (nm nums l)):=by
  obtain⟨x,hx⟩:=yh h0 h1
  unfold nm
  rw [AJ,hx];rfl
structure jY (order:List Int) (n:Nat) (nums:List Int):Prop where
  len:nums.length=n+1
  top:nums[n]?=some (-1)
  at':∀(j:Nat) (v:Int),j < n→nums[j]?=some v→v= -1∨∃p:Nat,v=(p:Int)∧order[p]?=some (j:Int)
theorem jY.first{order:List Int}{n:Nat}:jY order n (List.replicate (n+1) (-1)):=⟨by simp,by simp [List.getElem?_replicate],fun j v hj h=>by
  rw [List.getElem?_replicate] at h
  split at h
  · cases h;exact .inl rfl
  · cases h⟩
theorem jY.set{order:List Int}{n:Nat}{nums:List Int}(h:jY order n nums){i:Nat}{w:Int}(hw:order[i]?=some w)(w0:0≤w)(w1:w < (n:Int)):jY order n (nums.set w.toNat (i:Int)):=by
  refine⟨by rw [List.length_set];exact h.len,by rw [List.getElem?_set_ne (by lia)];exact h.top,fun j v hj hv=>?_⟩
  rw [List.getElem?_set] at hv
  split at hv
  case isTrue c=>
    rw [if_pos (by rw [h.len];lia)] at hv
    cases hv
    exact .inr ⟨i,rfl,by rw [hw];congr 1;lia⟩
  case isFalse c=>exact h.at' j v hj hv
def bG(T:List Nd)(w:Int):Nd:=T.getD w.toNat ⟨0,0,0⟩
theorem eO{T:List Nd}{w:Int}(h0:0≤w)(h1:w < (T.length:Int)):T[w.toNat]?=some (bG T w):=by
  have:w.toNat < T.length:=by lia
  simp [bG,this]
theorem yg{T:List Nd}{w:Int}(h0:0≤w)(h1:w < (T.length:Int)):atI (T.map aG) w=some (aG (bG T w)):=by
  rw [ic h0 (by rw [List.length_map];exact h1),List.getElem?_map,eO h0 h1];rfl
def renum(T:List Nd)(nums:List Int)(w:Int):Nd:=⟨(bG T w).tie,nm nums (bG T w).yes,nm nums (bG T w).no⟩
theorem lU.rng{W:aM}{n:Nat}{S:Nat→Std}{i:Nat}{k:Int}{b:Bool}{l:Int}(h:lU W n S i k b l): -1≤l∧l < (n:Int):=by
  rcases h with h | h<;>lia
theorem lU.renum{W:aM}{n:Nat}{S:Nat→Std}{order nums:List Int}{i j:Nat}{w:Int}{k:Int}{b:Bool}{l:Int}(hn:jY order n nums)(hj:order[j]?=some w)(hi:w.toNat=i)(h:lU W n S i k b l):lU W order.length (fun j=>S (order.getD j 0).toNat) j k b (nm nums l):=by
  have hj2:(fun j=>S (order.getD j 0).toNat) j=S i:=by
    simp only [List.getD_eq_getElem?_getD,hj,Option.getD_some,hi]
  rcases h with h | ⟨h1,h2,h3⟩
  · left
    subst h
    unfold nm atI mq
    rw [if_neg (by decide),if_pos (by rw [hn.len];lia)]
    simp only [Option.bind_some]
    rw [show(-1+(nums.length:Int)).toNat=n by rw [hn.len];lia,hn.top]
    rfl
  · have hl:l.toNat < n:=by lia
    have e:nm nums l=nums.getD l.toNat (-1):=by
      unfold nm
      rw [ic h1 (by rw [hn.len];lia)]
      simp
    have hx:nums[l.toNat]?=some (nums.getD l.toNat (-1)):=by
      have:l.toNat < nums.length:=by rw [hn.len];lia
      simp [this]
    rcases hn.at' l.toNat _ hl hx with z | ⟨p,z1,z2⟩
    · left;rw [e];exact z
    · right
      rw [e,z1]
      have hp:p < order.length:=(List.getElem?_eq_some_iff.mp z2).1
      refine⟨by lia,by lia,?_⟩
      rw [hj2]
      have:(fun j=>S (order.getD j 0).toNat) ((p:Int)).toNat=S l.toNat:=by
        simp only [Int.toNat_natCast,List.getD_eq_getElem?_getD,z2,Option.getD_some]
      rw [this]
      exact h3
theorem dN.renum{W:aM}{T:List Nd}{S:Nat→Std}{order nums:List Int}(h:dN W T S)(ho:∀w∈order,0≤w∧w < (T.length:Int))(hn:jY order T.length nums):dN W (order.map (L2.renum T nums)) (fun j=>S (order.getD j 0).toNat):=by
  intro j y hy
  rw [List.getElem?_map] at hy
  obtain⟨w,hw,rfl⟩:=Option.map_eq_some_iff.mp hy
  obtain⟨w0,w1⟩:=ho w (List.mem_of_getElem? hw)
  have o:=h w.toNat _ (eO w0 w1)
  have hj2:S (order.getD j 0).toNat=S w.toNat:=by
    simp only [List.getD_eq_getElem?_getD,hw,Option.getD_some]
  rw [List.length_map]
  exact⟨o.tie,by rw [hj2];exact o.st,by rw [hj2];exact o.may,o.yes.renum hn hw rfl,o.no.renum hn hw rfl⟩
def hang(S:Nat→Std)(w:Int):Nat:=2 ^ (16 - (S w.toNat).1.length) - 1
def eK(S:Nat→Std)(ws:List Int):Nat:=(ws.map (hang S)).sum
theorem rK.room{W:aM}{n:Nat}{S:Nat→Std}{i:Nat}{x:Nd}(ok:W.Ok)(h:rK W n S i x):(S i).1.length≤15:=by
  have h1:=(h.st.nxt true ok h.tie (wn h.may)).len
  have h2:=ok.len
  have:(nxt W (S i) x.tie true).1.length=(S i).1.length+1:=i3
  lia
theorem m9{W:aM}{n:Nat}{S:Nat→Std}{i:Nat}{k:Int}{b:Bool}{l:Int}(hi:(S i).1.length≤15)(h:lU W n S i k b l)(hn:l≠ -1):hang S l=2 ^ (15 - (S i).1.length) - 1:=by
  rcases h with h | ⟨h1,h2,h3⟩
  · exact absurd h hn
  · unfold hang
    rw [h3]
    have:(nxt W (S i) k b).1.length=(S i).1.length+1:=i3
    rw [this,show 16 - ((S i).1.length+1)=15 - (S i).1.length by lia]
def r9(x:Nd):List Int:=[x.yes,x.no].filter fun l=>l != -1
theorem rK.hang{W:aM}{n:Nat}{S:Nat→Std}{w:Int}{x:Nd}(ok:W.Ok)(h:rK W n S w.toNat x):eK S (r9 x)+1≤L2.hang S w:=by
  have r:=h.room ok
  have e:L2.hang S w=2*2 ^ (15 - (S w.toNat).1.length) - 1:=by
    unfold L2.hang
    rw [show 16 - (S w.toNat).1.length=(15 - (S w.toNat).1.length)+1 by lia,Nat.pow_succ,Nat.mul_comm]
  have p:1≤2 ^ (15 - (S w.toNat).1.length):=Nat.one_le_two_pow
  rw [e]
  unfold eK r9
  by_cases c1:x.yes= -1
  · by_cases c2:x.no= -1
    · simp [c1,c2];lia
    · have:=m9 r h.no c2
      simp [c1,c2,this];lia
  · have l1:=m9 r h.yes c1
    by_cases c2:x.no= -1
    · simp [c1,c2,l1];lia
    · have:=m9 r h.no c2
      simp [c1,c2,l1,this];lia
theorem DQ{W:aM}{n:Nat}{S:Nat→Std}{i:Nat}{x:Nd}(h:rK W n S i x):∀l∈r9 x,0≤l∧l < (n:Int):=by
  intro l hl
  unfold r9 at hl
  rw [List.mem_filter] at hl
  obtain⟨h1,h2⟩:=hl
  simp at h1 h2
  rcases h1 with rfl | rfl
  · have:=h.yes.rng;lia
  · have:=h.no.rng;lia
theorem qN{α β:Type}{f:α→β}:∀{xs:List α} {i:Nat},(xs.map f).eraseIdx i=(xs.eraseIdx i).map f
  | [],_=>by simp
  | x::r,0=>by simp
  | x::r,i+1=>by simp [qN (xs:=r) (i:=i)]
def Ht(f:Int→PyData):PyData→PyData
  | .int k=>f k
  | d=>d
theorem FD{e:En}{xs:List PyData}{lo hi:Option Int}:A8 e (.l xs) lo hi=some (.l (cutD xs lo hi)):=rfl
theorem qR{S:Nat→Std}:∀{ws:List Int} {j:Nat} (h:j < ws.length),eK S (ws.eraseIdx j)+hang S ws[j]=eK S ws
  | [],j,h=>by simp at h
  | w::r,0,h=>by simp [eK];lia
  | w::r,j+1,h=>by
    have:=qR (S:=S) (ws:=r) (j:=j) (by simpa using h)
    simp [eK] at this ⊢
    lia
theorem xf{S:Nat→Std}{a b:List Int}:eK S (a++b)=eK S a+eK S b:=by
  unfold eK;rw [List.map_append,List.sum_append]
theorem qQ{W:aM}{T:List Nd}{S:Nat→Std}{ws:List Int}(ok:W.Ok)(h:dN W T S)(hw:∀w∈ws,0≤w∧w < (T.length:Int)):ws.length≤eK S ws:=by
  induction ws with
  | nil=>simp
  | cons w r ih=>
    have i:=ih fun v hv=>hw v (by simp [hv])
    obtain⟨w0,w1⟩:=hw w (by simp)
    have:=(h _ _ (eO w0 w1)).hang ok
    unfold eK at i ⊢
    rw [List.map_cons,List.sum_cons,List.length_cons]
    lia
end L2
namespace L2
open PySem PySem.Spec PyProof.Rows
def dS(s:Std):PyData:=gv s.1 s.2
def stp(W:aM)(ss:List Std)(i:Nat)(k:Int)(b:Bool)(l:Int):List Std:=if l= -1 then ss else ss.set l.toNat (nxt W (ss.getD i ([],[])) k b)
def std1(W:aM)(ss:List Std)(i:Nat)(x:Nd):List Std:=stp W (stp W ss i x.tie true x.yes) i x.tie false x.no
def aE(W:aM)(T:List Nd):Nat→List Std
  | 0=>List.replicate T.length ([],[])
  | i+1=>match T[i]? with
    | some x=>std1 W (aE W T i) i x
    | none=>aE W T i
structure lq (S:Nat→Std) (n:Nat) (ss:List Std):Prop where
  len:ss.length=n
  at':∀(j:Nat) (s:Std),ss[j]?=some s→s.1.length≤(S j).1.length∧s.2.length≤2*s.1.length∧(∀k∈s.1,0≤k∧k < 16)∧∀t∈s.2,0≤t∧t < 12
theorem li{W:aM}{ss:List Std}{i:Nat}{k:Int}{b:Bool}{l:Int}:(stp W ss i k b l).length=ss.length:=by unfold stp;split<;>simp
theorem lq.stp{W:aM}(ok:W.Ok){S:Nat→Std}{n:Nat}{ss:List Std}{i:Nat}{k:Int}{b:Bool}{l:Int}(h:lq S n ss)(hi:i < n)(hk:jO W k)(hl:lU W n S i k b l):lq S n (stp W ss i k b l):=by
  refine⟨by rw [li];exact h.len,fun j s hs=>?_⟩
  unfold L2.stp at hs
  split at hs
  · exact h.at' j s hs
  case isFalse c=>
    rw [List.getElem?_set] at hs
    split at hs
    case isFalse=>exact h.at' j s hs
    case isTrue cj=>
      split at hs
      case isFalse=>cases hs
      case isTrue=>
      cases hs
      have hil:i < ss.length:=by rw [h.len];exact hi
      have e:ss[i]?=some (ss.getD i ([],[])):=by simp [hil]
      obtain⟨a1,a2,a3,a4⟩:=h.at' i _ e
      generalize ss.getD i ([],[])=s at a1 a2 a3 a4
      have o:=hk.ok ok
      have o0:=o.o0;have o1:=o.o1;have o2:=o.o2;have t1:=ok.t1;have wl:=ok.len
      have k0:=hk.1;have k1:=hk.2
      rcases hl with hl | ⟨h1,h2,h3⟩
      · exact absurd hl c
      · rw [←cj,h3]
        have e1:(nxt W s k b).1.length=s.1.length+1:=i3
        have e2:(nxt W (S i) k b).1.length=(S i).1.length+1:=i3
        have e3:(nxt W s k b).2.length≤s.2.length+2:=by
          show(W.took s.2 k b).length≤_
          unfold aM.took
          split
          · rw [nD];simp
          · lia
        refine⟨by lia,by lia,fun q hq=>?_,fun q hq=>?_⟩
        · rcases List.mem_append.mp (lg.mp hq) with z | z
          · exact a3 q z
          · simp at z;lia
        · change q∈W.took s.2 k b at hq
          unfold aM.took at hq
          split at hq
          · rcases List.mem_append.mp (lg.mp hq) with z | z
            · exact a4 q z
            · simp at z
              rcases z with rfl | rfl<;>lia
          · exact a4 q hq
theorem lq.std1{W:aM}(ok:W.Ok){S:Nat→Std}{n:Nat}{ss:List Std}{i:Nat}{x:Nd}(h:lq S n ss)(hi:i < n)(o:rK W n S i x):lq S n (std1 W ss i x):=(h.stp ok hi o.tie o.yes).stp ok hi o.tie o.no
theorem lq.first{S:Nat→Std}{n:Nat}:lq S n (List.replicate n ([],[])):=⟨by simp,fun j s hs=>by
  rw [List.getElem?_replicate] at hs
  split at hs
  · cases hs;simp
  · cases hs⟩
theorem lq.all{W:aM}(ok:W.Ok){S:Nat→Std}{T:List Nd}(h:dN W T S):∀i,lq S T.length (aE W T i)
  | 0=>lq.first
  | i+1=>by
    unfold aE
    split
    · rename_i x hx
      exact(lq.all ok h i).std1 ok (List.getElem?_eq_some_iff.mp hx).1 (h i x hx)
    · exact lq.all ok h i
theorem kQ{W:aM}{T:List Nd}{i:Nat}{x:Nd}(h:T[i]?=some x):aE W T (i+1)=std1 W (aE W T i) i x:=by
  rw [aE,h]
theorem yi{ss:List Std}{i:Nat}(h:i < ss.length):atI (ss.map dS) (i:Int)=some (gv (ss.getD i ([],[])).1 (ss.getD i ([],[])).2):=by
  rw [ic (by lia) (by rw [List.length_map];lia),List.getElem?_map]
  simp [h,dS]
theorem lq.short{W:aM}(ok:W.Ok){S:Nat→Std}{T:List Nd}{ss:List Std}(h:dN W T S)(hs:lq S T.length ss){i:Nat}(hi:i < T.length):(ss.getD i ([],[])).1.length≤15∧(ss.getD i ([],[])).2.length≤30:=by
  have hil:i < ss.length:=by rw [hs.len];exact hi
  have e:ss[i]?=some (ss.getD i ([],[])):=by simp [hil]
  obtain⟨a1,a2,_⟩:=hs.at' i _ e
  have:=(h i _ (List.getElem?_eq_getElem hi)).room ok
  lia
theorem ij{T:List Nd}{i:Nat}{x:PyData}(h:(cq 0 (T.map aG))[i]?=some x):∃y,T[i]?=some y∧x=.tuple [.int (i:Int),aG y]:=by
  rw [i8,List.getElem?_map,Option.map_map] at h
  obtain⟨y,hy,rfl⟩:=Option.map_eq_some_iff.mp h
  exact⟨y,hy,by simp⟩
end L2
namespace L2
open PySem PySem.Spec PyProof.Rows
structure Sz (n dep:Nat) (d:PyData):Prop where
  fl:CQ d=true
  sh:d.showable=true
  dp:d.depth≤dep
  ln:d.shown.length≤n
  so:PyData.strOk d.shown=true
end L2
namespace L2
open PySem PySem.Spec PyProof.Rows
theorem Dw{e:En}{d:PyData}{n:Int}(h0:0≤n)(h1:n≤100000):gy e (.d (.tuple [d])) (.d (.int n))=some (.d (.tuple (List.replicate n.toNat d))):=by
  have a:pj e (.d (.tuple [d])) (.d (.int n))=some (.d (.tuple (List.replicate n.toNat d))):=by
    simp [pj,eQ,bA,h0,h1]
  have b:pe e (.d (.tuple [d])) (.d (.int n))=none:=by simp [pe,gI,bA]
  unfold gy ya
  rw [b,a]
  rfl
theorem FF{e:En}{i:Nat}{xs:List PyData}{lo hi:Option Int}(h:e[i]?=some (some (.l xs))):A8 e (.s i) lo hi=some (.l (cutD xs lo hi)):=by
  simp [A8,eQ,h]
def rn(T:List Nd)(ans:List Bool):Nat→Int→List (Int × Bool)
  | 0,_=>[]
  | f+1,at'=>if at' < 0 then [] else((bG T at').tie,ans.getD (bG T at').tie.toNat false)::rn T ans f (if ans.getD (bG T at').tie.toNat false=true then(bG T at').yes else(bG T at').no)
def rt(T:List Nd):Int:=if T.length=0 then -1 else 0
structure HN (W:aM) (T:List Nd) (S:Nat→Std) (ans:List Bool) (r:List (Int × Bool)) (a:Int):Prop where
  at':a= -1∨(0≤a∧a < (T.length:Int)∧r.length≤(S a.toNat).1.length)
  eq:r++rn T ans (17 - r.length) a=rn T ans 17 (rt T)
  len:r.length≤16
  inw:∀p∈r,jO W p.1
end L2
namespace L2
open PySem PySem.Spec PyProof.Rows
abbrev Fr:=Int × Int
def tm(a b:Fr):Fr:=gF (a.1*b.1) (a.2*b.2)
def pl(a b:Fr):Fr:=gF (a.1*b.2+b.1*a.2) (a.2*b.2)
structure Ic (M:Int) (f:Fr):Prop where
  pos:0 < f.2
  lo:0≤f.1
  hi:f.1≤f.2
  dv:f.2 ∣ M
structure GZ (M i:Int) (f:Fr):Prop where
  pos:0 < f.2
  lo:0≤f.1
  hi:f.1≤i*f.2
  dv:f.2 ∣ M
def bp(W:aM):List Int→Int
  | []=>1
  | k::r=>(W.tie k).bot*bp W r
def Fv(W:aM):Int:=bp W W.rng
def ch(W:aM)(k:Int)(b:Bool):Fr:=if b then((W.tie k).top,(W.tie k).bot) else((W.tie k).bot - (W.tie k).top,(W.tie k).bot)
structure Ig (W:aM) (S:Nat→Std) (n:Nat) (rs:List Fr):Prop where
  len:rs.length=n
  at':∀(j:Nat) (f:Fr),rs[j]?=some f→Ic (bp W (S j).1) f
structure HZ (W:aM) (i:Nat) (ss:List Fr):Prop where
  len:ss.length=W.ties.length
  at':∀(j:Nat) (f:Fr),ss[j]?=some f→GZ (Fv W) (i:Int) f
end L2
namespace L2
open PySem PySem.Spec PyProof.Rows
def Fc(sc:Scope)(x:Str):Bool:=match sc.names.lookup x with
  | some .local=>true
  | some .cell=>true
  | some .free=>true
  | _=>false
theorem Cq{sc:Scope}{x:Str}(h:Fc sc x=true):Az sc x:=by
  unfold Fc at h
  unfold Az
  split at h
  · rename_i e;exact .inl e
  · rename_i e;exact .inr (.inl e)
  · rename_i e;exact .inr (.inr e)
  · cases h
section
variable{X:Cx}{K:PySem.W.Frag}
theorem qw(i:Nat){x:Str}{pos:Pos}(hN:X.N[i]?=some x)(hv:Fc X.env.scope x=true)(hd:((x==("__debug__":Str)) || (x==("__classdict__":Str)))=false):PE X (.Name x pos) (fE K (ab i)):=qv i hN (Cq hv) (Bool.or_eq_false_iff.mp hd).1 (Bool.or_eq_false_iff.mp hd).2
end
end L2
namespace L2
open PySem PySem.Spec PyProof.Rows
section
variable{X:Cx}{tg a b c:Expr}{ta:TA}{p pos p2 pos2:Pos}
end
section
variable{K:PySem.W.Frag}{σ:L2.St}
end
section
variable{X:Cx}{K:PySem.W.Frag}{tg a b c:Expr}{fs:FA}{pos p p2 pos2:Pos}
end
end L2
namespace L2
open PySem PySem.Spec PyProof.Rows
end L2
namespace L2
open PySem PySem.Spec PyProof.Rows
section
variable(P:Program)(w:World)
end
section
variable{P:Program}{w:World}{H H':Hp}{h h':Heap}{a:Addr}{o:HO}
end
section
variable{P:Program}{w:World}{H:Hp}{h h':Heap}{x e:Addr}{o':HO}
end
section
variable{fs fs' ex ex':List Addr}{H H1 H2:Hp}{h h1 h2 h':Heap}{a x e:Addr}{o:HO}
end
end L2
namespace L2
open PySem PySem.Spec PyProof.Rows
section
variable{X:Cx}{pins:List (Addr × Obj)}{σ:List (Option V)}{H H':Hp}{s:Shared}{h':Heap}
end
end L2
namespace L2
open PySem PySem.Spec PyProof.Rows
section
variable{X:Cx}
variable{a b:Expr}{ta tb:TE}{pos:Pos}
variable{tA tB':TT}{gn:List Expr}
end
end L2
namespace L2
open PySem PySem.Spec PyProof.Rows
section
variable{X:Cx}{pins:List (Addr × Obj)}{σ:St}{H:Hp}{s:Shared}{a:Addr}{xs ys:List V}
end
section
variable{X:Cx}{pins:List (Addr × Obj)}{σ:St}{H:Hp}{s:Shared}{E:Value→Shared→Prop}
end
section
variable{X:Cx}{st:Stmt}{gn:List Stmt}{t u:TS}{e:Expr}{te:TE}{pos:Pos}
end
section
variable{X:Cx}{pos:Pos}
end
section
variable{X:Cx}{pos:Pos}
end
end L2
namespace L2
open PySem PySem.Spec PyProof.Rows
section
variable{X:Cx}{tg:Expr}
end
end L2
namespace L2
open PySem PySem.Spec PyProof.Rows
section
variable{X:Cx}{a b c:Expr}{ta tb tc:TE}{pos:Pos}
end
section
variable{X:Cx}{a b c:Expr}{ta tb tc:TE}{pos:Pos}
end
end L2
namespace L2
open PySem PySem.Spec PyProof.Rows
section
variable{prog:Program}{w:World}{A:Around}{E:Value→Shared→Prop}{s:Shared}{K:PySem.W.Frag}{x dx C f:Addr}{mA:Str→Option Value}{name:Str}{v:Value}
end
section
variable{P:Program}{w:World}{H H':Hp}{h h':Heap}{a C dx:Addr}{fs fs':List (Str × V)}
end
section
variable{X:Cx}{pins:List (Addr × Obj)}{σ:St}{H:Hp}{s:Shared}{a C dx:Addr}{fs:List (Str × V)}{f:Str}{v:V}{A:Around}{E:Value→Shared→Prop}
end
section
variable{X:Cx}{o e value:Expr}{f:Str}{pos pos' tpos:Pos}{ta tv:TE}
end
section
variable{X:Cx}{pins:List (Addr × Obj)}{σ:St}{H:Hp}{s:Shared}{A:Around}{E:Value→Shared→Prop}{Q:Value→Shared→Prop}{c:Value}{b:Bool}
end
end L2
namespace L2
open PySem PySem.Spec PyProof.Rows
section
variable{X:Cx}{e:Expr}{es:List Expr}{te:TE}{t:TA}{pos:Pos}
end
section
variable{X:Cx}{pins:List (Addr × Obj)}{σ:St}{H:Hp}{s s':Shared}
end
section
variable{X:Cx}{CX:wM}{k:Nat}{f C:Addr}{fd:FuncData}{ps:List Str}{sp:Sp}{dvs:List V}{ds:List Value}{E:XK}{x m:Str}{p pos apos:Pos}{e o:Expr}{es:List Expr}{ta:TE}{t:TA}
end
section
variable{X:Cx}{CX:wM}{k:Nat}{f C:Addr}{fd:FuncData}{ps ks:List Str}{sp:Sp}{E:XK}{x m:Str}{p pos apos kpos:Pos}{e o:Expr}{es:List Expr}{kws:List Keyword}{te ta:TE}{t tk:TA}{nm:Option Str}
variable{g:List Value→List Value→List Value}{gV:List V→List V→List V}
end
end L2
namespace L2
open PySem PySem.Spec PyProof.Rows
section
variable{X:Cx}{x:Str}{p pos:Pos}{e:Expr}{es:List Expr}{t:TA}{id T:String}{r:List V→Hp→VK→Prop}
end
end L2
namespace L2
open PySem PySem.Spec PyProof.Rows
section
variable{κ:Type}[DecidableEq κ]
end
section
variable{P:Program}{w:World}{H:Hp}{h:Heap}{a:Addr}
end
section
variable{X:Cx}{pins:List (Addr × Obj)}{σ:St}{H:Hp}{s:Shared}{a:Addr}{y v:V}{u r:Value}{o:Option V}{A:Around}{E:Value→Shared→Prop}
end
section
variable{X:Cx}{pins:List (Addr × Obj)}{σ:St}{H:Hp}{s:Shared}{a:Addr}{kvs:List (qe × V)}{k:qe}{u:Value}{A:Around}{E:Value→Shared→Prop}
end
section
variable{X:Cx}{o i e value:Expr}{pos pos' tpos:Pos}{td ty tv:TE}
end
section
variable{X:Cx}{pos:Pos}
end
section
variable{X:Cx}{pins:List (Addr × Obj)}{σ:St}{H:Hp}{s:Shared}{a:Addr}{y d:V}{u r:Value}{o:Option V}{A:Around}{E:Value→Shared→Prop}
end
section
variable{X:Cx}{o e f:Expr}{apos cpos:Pos}{td ty tx:TE}
end
section
variable{X:Cx}{pins:List (Addr × Obj)}{σ:St}{H:Hp}{s:Shared}{a:Addr}{kvs:List (qe × V)}{A:Around}{E:Value→Shared→Prop}
end
section
variable{X:Cx}{pins:List (Addr × Obj)}{σ:St}{H:Hp}{s:Shared}{a:Addr}{y:V}{u:Value}{A:Around}{E:Value→Shared→Prop}
end
end L2
namespace Att
open PySem PySem.W PySem.Calls PyProof.Rows
section
variable{prog:Program}{w:World}{A:Around}{E:Value→Shared→Prop}{s:Shared}{K:Frag}
end
end Att
namespace L2
open PySem PySem.Spec PyProof.Rows
end L2
namespace L2
open PySem PySem.Spec PyProof.Rows
end L2
namespace L2
open PySem PySem.Spec PyProof.Rows
section
variable{P:Program}{w:World}{K:PySem.W.Frag}{mg:Str→Option Value}{base:Heap}
end
section
variable{X:Cx}
end
section
variable{κ:Type}[DecidableEq κ]
end
end L2
namespace L2
open PySem PySem.Spec PyProof.Rows
def E5:PyData→String
  | .none=>"NoneType"
  | .bool _=>"bool"
  | .int _=>"int"
  | .str _=>"str"
  | .tuple _=>"tuple"
  | .list _=>"list"
  | .dict _=>"dict"
def zZ(t T:String):Bool:=t==T || (t=="bool"&&T=="int")
def Bb(T:String)(d:PyData):Bool:=zZ (E5 d) T
def iB(T:String):En→Rv→Option Rv:=fun _ r=>match r with
  | .d x=>some (.d (.bool (Bb T x)))
  | _=>some (.d (.bool (Bb T (.list []))))
section
variable{X:Cx}{K:PySem.W.Frag}{a:Expr}{fa:FE}{pos p p2:Pos}
def G'(K:PySem.W.Frag)(H:Hp):V→String→Prop
  | .non,t=>t="NoneType"
  | .bl _,t=>t="bool"
  | .int _,t=>t="int"
  | .str _,t=>t="str"
  | .ref a,t=>(t="tuple"∧∃xs,cg K H a xs)∨(t="list"∧∃xs,cW K H a xs)∨(t="dict"∧∃m,H a=some (.dK m))
  | _,_=>False
theorem yq{T:String}:ed X (.builtin "isinstance") (fun xs H Q=>∃x t b,xs=[x,.ty T]∧G' X.K H x t∧PySem.W.kitOne X.K (.type t) (.type T)=some b∧Q (.bl b) H):=by
  intro pins s σ H xs us Q I r h
  obtain⟨x,t,b,rfl,ht,hk,q⟩:=h
  obtain⟨u1,u2,rfl,r1,r2⟩:∃u1 u2,us=[u1,u2]∧bE x u1∧bE (.ty T) u2:=by
    cases r with
    | cons p q=>cases q with
      | cons p' q'=>cases q';exact⟨_,_,rfl,p,p'⟩
  cases r2
  have q':∀tk,EP X pins σ Q (.bool b) {s with toks:=tk}:=fun tk=>⟨.bl b,H,I.tok _,rfl,q⟩
  cases x with
  | non=>cases (show u1=Value.none from r1);cases (show t=_ from ht);exact PySem.W.kia_one PySem.W.kitx_none I.kIn True.intro hk (fun z=>nomatch z) q'
  | bl y=>cases (show u1=Value.bool y from r1);cases (show t=_ from ht);exact PySem.W.kia_one PySem.W.kitx_bool I.kIn True.intro hk (fun z=>nomatch z) q'
  | int i=>obtain⟨tt,rfl⟩:=r1;cases (show t=_ from ht);exact PySem.W.kia_one PySem.W.kitx_int I.kIn True.intro hk (fun z=>nomatch z) q'
  | str y=>obtain⟨tt,rfl⟩:=r1;cases (show t=_ from ht);exact PySem.W.kia_one PySem.W.kitx_str I.kIn True.intro hk (fun z=>nomatch z) q'
  | ref a=>
    cases (show u1=Value.ref a from r1)
    rcases ht with ⟨rfl,xs,hs⟩ | ⟨rfl,xs,hs⟩ | ⟨rfl,m,hs⟩
    · obtain⟨its,rv,pl,hz⟩:=I.tuple hs
      obtain⟨o,h1,h2⟩:=pl.typeIs
      exact PySem.W.kia_one PySem.W.kitx_tuple I.kIn ⟨o,h1,h2⟩ hk (fun z=>nomatch z) q'
    · obtain⟨its,rv,pl,hz⟩:=I.list hs
      obtain⟨o,h1,h2⟩:=pl.isList.typeIs
      exact PySem.W.kia_one PySem.W.kitx_list I.kIn ⟨o,h1,h2⟩ hk (fun z=>nomatch z) q'
    · obtain⟨_,_,vs,_,pp⟩:=(show h_ X.prog X.w H s.heap a (.dK m) from I.hok a _ hs)
      obtain⟨o,es,ep,h1,h2,_⟩:=pp
      exact PySem.W.kia_one PySem.W.kitx_dict I.kIn ⟨o,h1,h2.1⟩ hk (fun z=>nomatch z) q'
  | _=>exact False.elim ht
theorem zm{x:Str}{T:String}(hg:Gl X x)(hm:X.mg x=none)(hv:bootBuiltins x=some (.type T))(hn:x≠"__name__")(hd:(x==("__debug__":Str))=false):PE X (.Name x pos) (tC (.ty T)):=fun pins s σ H Q I h=>
  gD I hg hm hv ⟨.ty T,H,I,rfl,h⟩ hn hd
theorem DL{t T:String}(ht:t∈["NoneType","bool","int","str","tuple","list","dict"])(hT:T∈["int","bool","tuple","str"]):PySem.W.kitOne K (.type t) (.type T)=some (zZ t T):=by
  simp only [List.mem_cons,List.not_mem_nil,or_false] at ht hT
  rcases ht with rfl | rfl | rfl | rfl | rfl | rfl | rfl<;>rcases hT with rfl | rfl | rfl | rfl<;>rfl
theorem Ck(d:PyData):E5 d∈["NoneType","bool","int","str","tuple","list","dict"]:=by cases d<;>simp [E5]
theorem E3{F H:Hp}{d:PyData}{v:V}(h:DA K F d v)(s:aD F H):G' K H v (E5 d):=by
  have h:=DA.mono s h
  cases d with
  | none=>rw [iF.mp h];rfl
  | bool b=>rw [dW.mp h];rfl
  | int b=>rw [bY.mp h];rfl
  | str b=>rw [yv.mp h];rfl
  | tuple ds=>obtain⟨a,xs,rfl,h1,_⟩:=eF.mp h;exact .inl ⟨rfl,xs,h1⟩
  | list ds=>obtain⟨a,xs,rfl,h1,_⟩:=dc.mp h;exact .inr (.inl ⟨rfl,xs,h1⟩)
  | dict m=>simp only [DA] at h;obtain⟨a,m,rfl,h1,_⟩:=h;exact .inr (.inr ⟨rfl,_,h1⟩)
theorem AX{f:FE}{σ:L2.St}{H:Hp}{Q Q':VK}(h:fE K f σ H Q)(m:∀v H1,Q v H1→Q' v H1):fE K f σ H Q':=by
  obtain⟨F,e,r,e',R,hf,q⟩:=h
  exact⟨F,e,r,e',R,hf,fun F' H' v x R' A=>m _ _ (q F' H' v x R' A)⟩
theorem FU{T:String}:Fo K (fun v H Q=>∃t,t∈["NoneType","bool","int","str","tuple","list","dict"]∧G' K H v t∧Q (.bl (zZ t T)) H) (iB T):=by
  intro σ H0 F H e x z v Q R A hg q
  unfold iB at hg
  cases x with
  | d d=>
    cases hg
    exact⟨E5 d,Ck d,E3 A R.sm,q F H _ (eU.refl _ _ _ _) R dG⟩
  | l xs=>
    cases hg
    obtain⟨l,vs,rfl,h1,h2,h3,h4⟩:=A
    exact⟨"list",by simp,.inr (.inl ⟨rfl,vs,cW.of h3⟩),q F H _ (eU.refl _ _ _ _) R dG⟩
  | s i=>
    cases hg
    obtain⟨h1,xs,h2⟩:=A
    obtain⟨l,vs,h3,h4,h5,h6⟩:=R.own i xs h2
    rw [h1] at h3;cases h3
    exact⟨"list",by simp,.inr (.inl ⟨rfl,vs,cW.of h5⟩),q F H _ (eU.refl _ _ _ _) R dG⟩
theorem lH{x:Str}{T:String}(hK:X.K=K)(hT:T∈["int","bool","tuple","str"])(hg:Gl X "isinstance")(hm:X.mg "isinstance"=none)(hgT:Gl X x)(hmT:X.mg x=none)(HQ:bootBuiltins x=some (.type T))(hn:x≠"__name__")(hd:(x==("__debug__":Str))=false)
    (ha:PE X a (fE K fa))(he:starEach [a,.Name x p2] X.env=(false,eval a X.env)::starEach [.Name x p2] X.env)(hpl:(backTo pos (starEach [.Name x p2] X.env)).any (·.1)=false):
    PE X (.Call (.Name "isinstance" p) [a,.Name x p2] [] pos) (fE K (jW (iB T) fa)):=
  (pR (yq (T:=T)) hg hm boot_isinstance (sC ha (sC (zm hgT hmT HQ hn hd) ni) he) (by decide) (by decide) he hpl).mono fun σ H Q h=>by
    subst hK
    have h1:=As (FU (T:=T)) h
    refine AX h1 fun v H1 ⟨t,ht,k,q⟩=>?_
    exact⟨v,t,_,rfl,k,DL ht hT,q⟩
end
end L2
namespace L2
open PySem PySem.Spec PyProof.Rows
section
variable{X:Cx}{K:PySem.W.Frag}
end
end L2
namespace L2
open PySem PySem.Spec PyProof.Rows
section
variable{X:Cx}{K:PySem.W.Frag}{σ:L2.St}{F H:Hp}{e:En}{pos p1 p2:Pos}
end
end L2
namespace L2
open PySem PySem.Spec PyProof.Rows
section
variable{X:Cx}{K:PySem.W.Frag}{a b c d:Expr}{ta tb tc td:TE}{fa fb fc fd:FE}{pos:Pos}
end
end L2
namespace L2
open PySem PySem.Spec PyProof.Rows
section
variable{X:Cx}{K:PySem.W.Frag}{a b:Expr}{es:List Expr}{fa fb:FE}{fs:FA}{pos p apos:Pos}
end
end L2
namespace L2
open PySem PySem.Spec PyProof.Rows
section
variable{X:Cx}{K:PySem.W.Frag}{a b:Expr}{fa fb:FE}{fs:FA}{pos p p2 p3:Pos}
end
end L2
namespace L2
open PySem PySem.Spec PyProof.Rows
def bq(W:aM)(as:List Int):Int:=bp W (W.rng.filter fun k=> !as.contains k)
def wI(l:Nat):Int:=1000*(2 ^ (16 - l) - 1)
structure HX (W:aM) (k:Int) (as:List Int) (y n:Fr):Prop where
  y:GZ (bq W (aM.askd as k)) (wI (as.length+1)) y
  n:GZ (bq W (aM.askd as k)) (wI (as.length+1)) n
  len:as.length≤15
  inw:jO W k
  new:k∉as
def lk(ws:List Fr)(l:Int):Fr:=if l= -1 then(0,1) else ws.getD l.toNat (0,1)
structure Ih (W:aM) (S:Nat→Std) (n:Nat) (ws:List Fr):Prop where
  len:ws.length=n
  at':∀(j:Nat) (f:Fr),ws[j]?=some f→GZ (bq W (S j).1) (wI (S j).1.length) f
end L2
namespace L2
open PySem PySem.Spec PyProof.Rows
theorem jy{cs:En}{g:FG}{ft:FT}{fe:FE}{b:PyData→Bool}{y:PyData→PyData}{u:PyData→En}(n:Nat):∀(items:List PyData) (t:En) (acc:List PyData),t.length=n→(∀x∈items,∀t:En,t.length=n→g x (cs++t)=some (cs++u x))→(∀x∈items,(u x).length=n)→
    (∀x∈items,ft (cs++u x)=some (b x,cs++u x))→(∀x∈items,b x=true→fe (cs++u x)=some (.d (y x),cs++u x))→acc.length+items.length≤1000000→
    ∃t',t'.length=n∧cK g ft fe items (cs++t) acc=some (acc++(items.filter b).map y,cs++t')
  | [],t,acc,h,_,_,_,_,_=>⟨t,h,by simp [cK]⟩
  | x::r,t,acc,h,hg,hu,h1,h2,hl=>by
    have h1x:=h1 x (by simp)
    unfold cK
    rw [hg x (by simp) t h]
    simp only [Option.bind_some,h1x]
    cases hb:b x with
    | true=>
      simp only [if_true,h2 x (by simp) hb,Option.bind_some,ma]
      rw [if_pos (by simp at hl;lia)]
      obtain⟨t',e1,ih⟩:=jy (b:=b) (y:=y) (u:=u) n r (u x) (acc++[y x]) (hu x (by simp)) (fun z hz=>hg z (by simp [hz])) (fun z hz=>hu z (by simp [hz])) (fun z hz=>h1 z (by simp [hz])) (fun z hz=>h2 z (by simp [hz])) (by simp at hl ⊢;lia)
      exact⟨t',e1,by rw [ih];simp [hb]⟩
    | false=>
      simp only [Bool.false_eq_true,if_false]
      obtain⟨t',e1,ih⟩:=jy (b:=b) (y:=y) (u:=u) n r (u x) acc (hu x (by simp)) (fun z hz=>hg z (by simp [hz])) (fun z hz=>hu z (by simp [hz])) (fun z hz=>h1 z (by simp [hz])) (fun z hz=>h2 z (by simp [hz])) (by simp at hl;lia)
      exact⟨t',e1,by rw [ih];simp [hb]⟩
end L2
namespace L2
open PySem PySem.Spec PyProof.Rows
section
variable{X:Cx}{K:PySem.W.Frag}{a:Expr}{fa:FE}{pos p pos2 p2:Pos}
end
end L2
namespace L2
open PySem PySem.Spec PyProof.Rows
section
variable{X:Cx}{K:PySem.W.Frag}{a:Expr}{fa:FE}
end
end L2
namespace L2
open PySem PySem.Spec PyProof.Rows
abbrev Rn:=List (Int × Bool)
def AZ(R:Rn):List Int:=R.map (·.1)
def CN(W:aM)(R:Rn):List Int:=(R.filter (·.2)).flatMap fun r=>[(W.tie r.1).one,(W.tie r.1).other]
structure Ie (W:aM) (R:Rn) (asked taken:List Int):Prop where
  pa:asked.Perm (AZ R)
  pt:taken.Perm (CN W R)
  inw:∀k∈AZ R,jO W k
  nd:(AZ R).Nodup
  nk:(CN W R).Nodup
  bd:∀t:Int,0≤t→t < W.things→W.many (AZ R) t≤W.pat.getD t.toNat 0
  ak:(R.length:Int)≤W.asks
  sa:asked.Pairwise (· ≤·)
  st:taken.Pairwise (· ≤·)
end L2
namespace L2
open PySem PySem.Spec PyProof.Rows
section
variable{prog:Program}{w:World}{A:Around}{R:Result→Shared→Prop}
def mj(elt tg iter tg2 iter2:Expr)(ifs ifs2:List Expr)(scope:Scope)(pos:Pos)(acc:Value)(env:Env)(k:Sem PySem.Fin):Sem PySem.Fin:=do
  let x ←eval iter2 env
  standAt iter2.pos
  let x ←foldedSetIterable iter2 env x
  let _ ←runOwn (.compStart (.ListComp elt [⟨tg,iter,ifs,0⟩,⟨tg2,iter2,ifs2,0⟩] scope pos) 1 (←holding [x] (pyIter x)) acc env) env
  k
theorem rV(elt tg iter tg2 iter2:Expr)(ifs ifs2:List Expr)(scope:Scope)(pos:Pos)(it acc:Value)(env:Env):
    compTurn (.ListComp elt [⟨tg,iter,ifs,0⟩,⟨tg2,iter2,ifs2,0⟩] scope pos) 0 it acc env=(do
      standAt iter.pos
      match ←pyNext it with
      | none=>pure (.done .next)
      | some v=>
        letOwnedTupleGo tg it v
        assign tg env v
        let mut ok:=true
        for c in ifs do
          if ok then ok ←isTrue c env (eval c env)
        if ok then mj elt tg iter tg2 iter2 ifs ifs2 scope pos acc env (again (.compLoop (.ListComp elt [⟨tg,iter,ifs,0⟩,⟨tg2,iter2,ifs2,0⟩] scope pos) 0 it acc env))
        else again (.compLoop (.ListComp elt [⟨tg,iter,ifs,0⟩,⟨tg2,iter2,ifs2,0⟩] scope pos) 0 it acc env)):=by rfl
theorem tG(elt tg iter tg2 iter2:Expr)(ifs ifs2:List Expr)(scope:Scope)(pos:Pos)(it acc:Value)(env:Env):
    compTurn (.ListComp elt [⟨tg,iter,ifs,0⟩,⟨tg2,iter2,ifs2,0⟩] scope pos) 1 it acc env=(do
      standAt iter2.pos
      match ←pyNext it with
      | none=>pure (.done .next)
      | some v=>
        letOwnedTupleGo tg2 it v
        assign tg2 env v
        let mut ok:=true
        for c in ifs2 do
          if ok then ok ←isTrue c env (eval c env)
        if ok then
          (do let _ ←call (.builtin "list.append") [acc,←eval elt env])
        again (.compLoop (.ListComp elt [⟨tg,iter,ifs,0⟩,⟨tg2,iter2,ifs2,0⟩] scope pos) 1 it acc env)):=by rfl
def AR(prog:Program)(w:World)(A:Around)(B:Sem PySem.Fin→Sem PySem.Fin)(tg:Expr)(ifs:List Expr)(env:Env)(it:Value)(onward:Shared→Prop)(v:Value)(u:Shared):Prop:=
  wpAny (model prog w) A (letOwnedTupleGo tg it v) (fun _ u1=>wpAny (model prog w) A (assign tg env v) (fun _ u2=>wpAny (model prog w) A
    (forIn ifs true fun c r=>if r=true then do let ok ←isTrue c env (eval c env);pure (ForInStep.yield ok) else pure (ForInStep.yield r)) (fun ok u3=>if ok=true then(∀(k:Sem PySem.Fin) (Q:PySem.Fin→Shared→Prop) (E:Value→Shared→Prop),(∀u5,onward u5→wpAny (model prog w) A k Q E u5)→wpAny (model prog w) A (B k) Q E u3) else onward u3) wq u2) wq u1) wq u
theorem rS{elt tg iter tg2 iter2:Expr}{ifs ifs2:List Expr}{scope:Scope}{pos:Pos}{it acc:Value}{env:Env}(J:Nat→Shared→Prop)
    (turn:∀n u,J n u→wpAny (model prog w) A (pyNext it) (fun r u1=>(r=none→R (.ok .next) u1)∧∀v,r=some v→AR prog w A (mj elt tg iter tg2 iter2 ifs ifs2 scope pos acc env) tg ifs env it (fun u2=>∃m,m < n∧J m u2) v u1) wq u){n0:Nat}{u0:Shared}(gK:J n0 u0):
    codeAny (model prog w) A (.compLoop (.ListComp elt [⟨tg,iter,ifs,0⟩,⟨tg2,iter2,ifs2,0⟩] scope pos) 0 it acc env) R u0:=by
  refine codeAny_loop rfl J (fun n u ju=>?_) n0 gK
  show wpAny _ A ((compTurn (.ListComp elt [⟨tg,iter,ifs,0⟩,⟨tg2,iter2,ifs2,0⟩] scope pos) 0 it acc env).onRaise _) _ _ u;refine wpAny_noted ?_;rw [rV]
  refine wpAny_bind (wpAny_standAt (wpAny_bind (wpAny_mono (turn n u ju) (fun r u1 k1=>?_) fun _ _ z=>z.elim)))
  cases r with
  | none=>exact wpAny_pure (k1.1 rfl)
  | some v=>
    refine wpAny_bind (wpAny_mono (k1.2 v rfl) (fun _ u2 k2=>wpAny_bind (wpAny_mono k2 (fun _ u3 k3=>wpAny_bind (wpAny_mono k3 (fun ok u4 k4=>?_) fun _ _ z=>z.elim)) fun _ _ z=>z.elim)) fun _ _ z=>z.elim)
    cases ok with
    | false=>rw [if_neg Bool.false_ne_true] at k4;exact wpAny_pure ⟨rfl,k4⟩
    | true=>
      rw [if_pos rfl] at k4
      exact k4 _ _ _ fun u6 k6=>wpAny_pure ⟨rfl,k6⟩
theorem tF{elt tg iter tg2 iter2:Expr}{ifs ifs2:List Expr}{scope:Scope}{pos:Pos}{it acc:Value}{env:Env}(J:Nat→Shared→Prop)
    (turn:∀n u,J n u→wpAny (model prog w) A (pyNext it) (fun r u1=>(r=none→R (.ok .next) u1)∧∀v,r=some v→yt prog w A elt tg2 ifs2 env it acc (fun u2=>∃m,m < n∧J m u2) v u1) wq u){n0:Nat}{u0:Shared}(gK:J n0 u0):
    codeAny (model prog w) A (.compLoop (.ListComp elt [⟨tg,iter,ifs,0⟩,⟨tg2,iter2,ifs2,0⟩] scope pos) 1 it acc env) R u0:=by
  refine codeAny_loop rfl J (fun n u ju=>?_) n0 gK
  show wpAny _ A ((compTurn (.ListComp elt [⟨tg,iter,ifs,0⟩,⟨tg2,iter2,ifs2,0⟩] scope pos) 1 it acc env).onRaise _) _ _ u;refine wpAny_noted ?_;rw [tG]
  refine wpAny_bind (wpAny_standAt (wpAny_bind (wpAny_mono (turn n u ju) (fun r u1 k1=>?_) fun _ _ z=>z.elim)))
  cases r with
  | none=>exact wpAny_pure (k1.1 rfl)
  | some v=>
    refine wpAny_bind (wpAny_mono (k1.2 v rfl) (fun _ u2 k2=>wpAny_bind (wpAny_mono k2 (fun _ u3 k3=>wpAny_bind (wpAny_mono k3 (fun ok u4 k4=>?_) fun _ _ z=>z.elim)) fun _ _ z=>z.elim)) fun _ _ z=>z.elim)
    cases ok with
    | false=>rw [if_neg Bool.false_ne_true] at k4;exact wpAny_pure ⟨rfl,k4⟩
    | true=>
      rw [if_pos rfl] at k4
      refine wpAny_bind (wpAny_bind (wpAny_mono k4 (fun x u5 k5=>wpAny_bind (wpAny_mono k5 (fun _ u6 k6=>?_) fun _ _ z=>z.elim)) fun _ _ z=>z.elim));exact wpAny_pure (wpAny_pure ⟨rfl,k6⟩)
theorem rT{elt tg iter tg2 iter2:Expr}{ifs ifs2:List Expr}{scope:Scope}{pos:Pos}{it acc:Value}{env:Env}{s:Shared}
    (h0:codeAny (model prog w) A (.compLoop (.ListComp elt [⟨tg,iter,ifs,0⟩,⟨tg2,iter2,ifs2,0⟩] scope pos) 1 it acc env) R s)
    (h:wpAny (model prog w) A (pyIter it) (fun it' s'=>codeAny (model prog w) A (.compLoop (.ListComp elt [⟨tg,iter,ifs,0⟩,⟨tg2,iter2,ifs2,0⟩] scope pos) 1 it' acc env) R s') (notedBy (model prog w) A env fun x s'=>R (.error x) s') s):
    codeAny (model prog w) A (.compStart (.ListComp elt [⟨tg,iter,ifs,0⟩,⟨tg2,iter2,ifs2,0⟩] scope pos) 1 it acc env) R s:=by
  refine codeAny_of_tree ?_;show wpAny _ _ ((compStart (.ListComp elt [⟨tg,iter,ifs,0⟩,⟨tg2,iter2,ifs2,0⟩] scope pos) 1 it acc env).onRaise (fun x=>do noteFrame x env;standAt theWindowsPlace)) _ _ s
  refine wpAny_notedAt ?_;unfold compStart
  show wpAny _ _ (ask >>= _) _ _ s
  refine wpAny_bind (wpAny_askSetting (wpAny_ite ?_));split
  · first | exact wpAny_bind (wpAny_pure (wpAny_pure (And.intro rfl h0))) | exact wpAny_pure (And.intro rfl h0)
  · first | exact wpAny_bind (wpAny_rule (wpAny_bind (wpAny_standAt (wpAny_bind (wpAny_mono h (fun it' s' h'=>wpAny_pure (And.intro rfl h')) fun _ _ x=>x))))) | (refine wpAny_bind (wpAny_rule ?_);show wpAny _ _ (standAt iter2.pos >>= _) _ _ s;exact wpAny_bind (wpAny_standAt (wpAny_bind (wpAny_mono h (fun it' s' h'=>wpAny_pure (And.intro rfl h')) fun _ _ x=>x))))
end
def Ab(l:Addr)(wi:TI)(g:TG)(tc:TT)(te:TE)(σ:L2.St)(H:Hp)(N:L2.St→Hp→Prop):Prop:=
  wi σ H fun J H1=>∃W:Nat→Nat→L2.St→Hp→Prop,(∃m,W 0 m σ H1)∧∀i m σ' H',W i m σ' H'→
    (J.stop i H'∧N σ' H')∨(J.go i H'∧∃N2:L2.St→Hp→Prop,(∀σ2 H2,N2 σ2 H2→∃m',m' < m∧W (i+1) m' σ2 H2)∧
      ∀x H2,J.yld i H' x H2→g x σ' H2 fun σ2 H3=>tc σ2 H3 fun b H4=>if b=true then te σ2 H4 fun v H5=>∃ys,H5 l=some (.lst ys)∧ys.length < sizeLine∧N2 σ2 (bc H5 l (.lst (ys++[v]))) else N2 σ2 H4)
theorem yG{Y:Cx}{elt tg iter tg2 iter2:Expr}{ifs ifs2:List Expr}{scope:Scope}{pos:Pos}{wi:TI}{g:TG}{tc:TT}{te:TE}(hc:Y.calm=true)(hxe:Y.xe=wq)(hi:PI Y tg2 iter2 wi)(hg:PG Y tg2 g)(ht:uB Y ifs2 tc)(he:PE Y elt te)
    (hs:∀x,foldedSetIterable iter2 Y.env x=pure x){pins:List (Addr × Obj)}{s:Shared}{σ:L2.St}{H:Hp}{D:Addr}{N:L2.St→Hp→Prop}(I:aI Y pins σ H s)(h:Ab D wi g tc te σ H N)(k:Sem PySem.Fin)(Q:PySem.Fin→Shared→Prop)(E:Value→Shared→Prop)(hk:∀s',(∃σ' H',aI Y pins σ' H' s'∧N σ' H')→wpAny (model Y.prog Y.w) Y.A k Q E s'):
    wpAny (model Y.prog Y.w) Y.A (mj elt tg iter tg2 iter2 ifs ifs2 scope pos (.ref D) Y.env k) Q E s:=by
  unfold mj
  have hi':=hi pins s σ H _ I h
  rw [hxe] at hi'
  refine wpAny_bind (wpAny_mono hi' (fun v s1 h1=>wpAny_bind (wpAny_standAt (wpAny_bind (wpAny_of_eq (hs v) (wpAny_bind (wpAny_holding (wpAny_mono h1 (fun itv s2 h2=>?_) fun _ _ z=>z.elim))))))) fun _ _ z=>z.elim)
  obtain⟨it,fp,tn,J,H2,rfl,I2,T,st2,f2,W,⟨m0,w0⟩,turn⟩:=h2
  have stat:∀{H':Hp},(∀b∈fp,H' b=none)→∀b∈fp,gM Y pins H' b:=fun hn b hb=>⟨hn b hb,(f2 b hb).2⟩
  have loop:codeAny (model Y.prog Y.w) Y.A (.compLoop (.ListComp elt [⟨tg,iter,ifs,0⟩,⟨tg2,iter2,ifs2,0⟩] scope pos) 1 (.ref it) (.ref D) Y.env) (fun r s'=>match r with | .ok f=>wpAny (model Y.prog Y.w) Y.A k Q E s' | .error e=>cameBackBy (model Y.prog Y.w) Y.A Y.env E e s') s2:=by
    refine tF (fun n s'=>∃i σ' H',aI Y pins σ' H' s'∧tn i s'.heap∧(∀b∈fp,H' b=none)∧W i n σ' H') ?_ (n0:=m0) ⟨0,σ,H2,I2,st2,fun b hb=>(f2 b hb).1,w0⟩
    rintro n s3 ⟨i,σ3,H3,I3,st3,fr3,w3⟩
    rcases turn i n σ3 H3 w3 with ⟨stop,qn⟩ | ⟨go,N2,hN,step⟩
    · refine bN (T.done Y rfl rfl rfl hc i pins s3 σ3 H3 wq I3 (stat fr3) st3 stop) fun r s4 ⟨hr,I4⟩=>?_
      subst hr
      exact⟨fun _=>hk _ ⟨σ3,H3,I4,qn⟩,fun v z=>by cases z⟩
    · refine bN (T.item Y rfl rfl rfl hc i pins s3 σ3 H3 wq I3 (stat fr3) st3 go) fun r s4 ⟨u,hr,h4⟩=>?_
      subst hr
      refine⟨fun z=>(by cases z),fun v z=>?_⟩
      cases z
      refine bN h4 fun _ s5 ⟨x,H5,I5,r5,y5,st5,fr5⟩=>?_
      have I5':=I5.pinned (stat fr5) (T.obj _ _ st5)
      have again:∀{σ8:L2.St} {H8:Hp} {s8:Shared},aI Y (pins++kB fp s5.heap) σ8 H8 s8→N2 σ8 H8→∃m,m < n∧∃i σ' H',aI Y pins σ' H' s8∧tn i s8.heap∧(∀b∈fp,H' b=none)∧W i m σ' H':=fun{σ8 H8 s8} I8 n8=>by
        obtain⟨m',hm,w8⟩:=hN σ8 H8 n8
        refine⟨m',hm,i+1,σ8,H8,I8.unpinned,T.keep _ _ _ st5 fun b hb o e=>(I8.pin (b,o) (List.mem_append_right _ (List.mem_append_right _ (cf hb e)))).1,fun b hb=>?_,w8⟩
        obtain⟨o,e,d⟩:=T.obj _ _ st5 b hb
        exact(I8.pin (b,o) (List.mem_append_right _ (List.mem_append_right _ (cf hb e)))).2.1
      have hg':=hg _ s5 σ3 H5 x u _ I5' r5 (step x H5 y5)
      rw [hxe] at hg'
      refine bN hg' fun _ s8 ⟨σ8,H8,I8,q8⟩=>?_
      have ht':=ht _ s8 σ8 H8 _ I8 q8
      rw [hxe] at ht'
      refine bN ht' fun ok s9 ⟨H9,I9,q9⟩=>?_
      cases ok with
      | false=>
        rw [if_neg Bool.false_ne_true] at q9 ⊢
        exact again I9 q9
      | true=>
        rw [if_pos rfl] at q9 ⊢
        have he':=he _ s9 σ8 H9 _ I9 q9
        rw [hxe] at he'
        refine bN he' fun v s10 ⟨xv,H10,I10,r10,ys,hl,hz,n10⟩=>?_
        have ha:=jc _ s10 σ8 H10 (.ref D) [xv] (.ref D) [v] (fun _ H=>N2 σ8 H) I10 rfl (.cons r10 .nil) ⟨D,ys,xv,rfl,rfl,hl,hz,n10⟩
        rw [hxe] at ha
        refine bN ha fun _ s11 ⟨_,H11,I11,_,q11⟩=>?_
        exact again I11 q11
  exact wpAny_bind (wpAny_runOwn (rT loop (T.self Y.A 0 _ _ _ st2 loop)))
structure vt (cp:List (Nat × Str)) (nT:Nat) (wi:TI) (g:TG) (tc:TT) (wi2:TI) (g2:TG) (tc2:TT) (te:TE) (σ:L2.St) (H:Hp) (Q:VK):Prop where
  go:wi σ H fun J H1=>∀l,H1 l=none→
  ∃W:Nat→Nat→L2.St→Hp→Prop,(∃m,W 0 m (eR cp nT σ) (bc H1 l (.lst [])))∧∀i m σ' H',W i m σ' H'→
    (J.stop i H'∧Q (.ref l) H')∨(J.go i H'∧∃N:L2.St→Hp→Prop,(∀σ2 H2,N σ2 H2→∃m',m' < m∧W (i+1) m' σ2 H2)∧
      ∀x H2,J.yld i H' x H2→g x σ' H2 fun σ2 H3=>tc σ2 H3 fun b H4=>if b=true then Ab l wi2 g2 tc2 te σ2 H4 N else N σ2 H4)
def jx(g:FG)(ft:FT)(fi2:FI)(g2:FG)(ft2:FT)(fe:FE):List PyData→En→List PyData→Option (List PyData × En)
  | [],e,acc=>some (acc,e)
  | x::r,e,acc=>(g x e).bind fun e1=>(ft e1).bind fun b=>if b.1=true then(fi2 b.2).bind fun p=>if p.2.1=[] then(cK g2 ft2 fe p.1 p.2.2 acc).bind fun z=>jx g ft fi2 g2 ft2 fe r z.2 z.1 else none else jx g ft fi2 g2 ft2 fe r b.2 acc
def nI(cp:List (Nat × Str))(nT:Nat)(fi:FI)(g:FG)(ft:FT)(fi2:FI)(g2:FG)(ft2:FT)(fe:FE):FE:=fun e=>(fi e).bind fun p=>if (p.2.1.all fun q=> !(cp.any fun c=>c.1==q.1))=true then(jx g ft fi2 g2 ft2 fe p.1 (mX cp nT p.2.2) []).bind fun z=>if ka cp z.2 p.2.2=true then some (.l z.1,nH (mx cp) z.2 p.2.2) else none else none
section
variable{K:PySem.W.Frag}{F H:Hp}{σ:L2.St}{e:En}{cp:List (Nat × Str)}{nT:Nat}
theorem xZ{Q:VK}{fi fi2:FI}{g g2:FG}{W:List Nat}{ft ft2:FT}{fe:FE}(hn:(cp.map (·.1)).Nodup)(hW:∀j∈W,cp.length≤j)(h:fE K (nI cp nT fi g ft fi2 g2 ft2 fe) σ H Q):vt cp nT (fI K fi) (fG K g W) (fT K ft) (fI K fi2) (fG K g2 W) (fT K ft2) (fE K fe) σ H Q:=by
  obtain⟨F0,e0,z,e',R0,hf,q⟩:=h
  unfold nI at hf
  obtain⟨⟨items,own,e1⟩,h1,hf⟩:=Option.bind_eq_some_iff.mp hf
  dsimp only at hf
  split at hf
  case isFalse=>cases hf
  case isTrue hO=>
  obtain⟨⟨out,eo⟩,h2,hf⟩:=Option.bind_eq_some_iff.mp hf
  dsimp only at hf
  split at hf
  case isFalse=>cases hf
  case isTrue hB=>
  cases hf
  refine⟨⟨F0,e0,items,own,e1,R0,h1,fun J F1 H1 X1 R1 kp ok=>?_⟩⟩
  intro l hl
  obtain⟨Ri,sub⟩:=R1.inn (nT:=nT) hn
  have hFl:F1 l=none:=R1.freeF hl
  let Iv:Nat→L2.St→Hp→Prop:=fun i=>CI K W (eR cp nT σ) F1 H1 (mX cp nT e1) l fun _ ei acc=>jx g ft fi2 g2 ft2 fe (items.drop i) ei acc=some (out,eo)
  have notown:∀p∈own,∀a,σ[p.1]?=some (some (.ref a))→¬dt (eR cp nT σ) (mX cp nT e1) H1 a:=by
    rintro p hp a ha ⟨k,zf⟩
    obtain⟨xs,c1,c2⟩:=zf.resolve_right fun⟨xss,_,_,z,_⟩=>jB k xss z
    obtain⟨i,s,d1,d2⟩:=jA c1
    have e2:=mS d1 c2
    have:p.1=i:=R1.inj p.1 i p.2 xs a (kp p hp) d2 ha e2
    have hh:=List.all_eq_true.mp hO p hp
    simp only [Bool.not_eq_true',List.any_eq_false,beq_iff_eq] at hh
    exact hh (i,s) (List.mem_of_getElem? d1) this.symm
  refine⟨fun i m σ' H'=>m=items.length - i∧i≤items.length∧Iv i σ' H',⟨items.length,by simp,Nat.zero_le _,.mk (Ri.putT hFl (fun z=>(Ri.ownH l z) hl)).1 (d9.refl.putT hl (Ri.putT hFl (fun z=>(Ri.ownH l z) hl)).2) hFl (fun z=>(Ri.ownH l (((Ri.putT hFl (fun z=>(Ri.ownH l z) hl)).2 l).mp z)) hl) ay aU.nil h2⟩,?_⟩
  rintro i m σ' H' ⟨rfl,hi,⟨R',X',fl,no,hl',da,hc⟩⟩
  rename_i F' ei acc vs
  have held:wN K σ F' H' own:=fun p hp=>by
    obtain⟨a,us,c1,c2,c3,c4⟩:=R1.own p.1 p.2 (kp p hp)
    exact⟨a,us,c1,X'.tmp a _ c3 (notown p hp a c1),c4.mono X'.sf⟩
  obtain⟨go,stop,yld⟩:=ok F' H' X'.sf R'.sm held
  by_cases hlt:i < items.length
  · have hd:items.drop i=items[i]::items.drop (i+1):=List.drop_eq_getElem_cons hlt
    rw [hd] at hc
    unfold jx at hc
    obtain⟨e2,c2,hc⟩:=Option.bind_eq_some_iff.mp hc
    obtain⟨⟨b,e3⟩,c3,hc⟩:=Option.bind_eq_some_iff.mp hc
    refine .inr ⟨go i hlt,Iv (i+1),fun σ2 H2 r=>⟨items.length - (i+1),by lia,rfl,hlt,r⟩,fun x H2 hy=>?_⟩
    obtain⟨F2,sH,sF2,sm2,fz,hx⟩:=yld i items[i] x H2 (List.getElem?_eq_getElem hlt) hy
    obtain⟨R2,X2⟩:=R'.step sH sF2 sm2 fz
    refine⟨F2,ei,items[i],e2,R2,hx,c2,fun σ3 X3 R3=>⟨F2,e2,b,e3,R3,c3,fun F4 H4 X4 R4=>?_⟩⟩
    have hlH2:H2 l=some (.lst vs):=sH _ _ hl'
    have no2:¬dt σ' ei H2 l:=fun z=>by
      rcases X2.ow l z with z | z
      · exact no z
      · rw [hl'] at z;cases z
    have no3:¬dt σ3 e2 H2 l:=fun z=>by
      rcases X3.own l z with z | z
      · exact no2 z
      · rw [hlH2] at z;cases z
    have fl2:F2 l=none:=fz l fl (by rw [hl'];simp)
    have hlH4:H4 l=some (.lst vs):=X4.tmp l _ hlH2 no3
    have fl4:F4 l=none:=X4.fr l vs fl2 hlH2 no3
    have no4:¬dt σ3 e3 H4 l:=fun z=>by
      rcases X4.ow l z with z | z
      · exact no3 z
      · rw [hlH2] at z;cases z
    have E4:d9 W (eR cp nT σ) F1 H1 (mX cp nT e1) σ3 F4 H4 e3:=((X'.trans X2.s).trans X3).trans X4.s
    have da4:=da.mono (sF2.trans X4.sf)
    cases b with
    | false=>
      rw [if_neg (by simp)] at hc
      exact Bc (.mk R4 E4 fl4 no4 hlH4 da4 hc)
    | true=>
      rw [if_pos rfl] at hc
      obtain⟨⟨its2,own2,e5⟩,c5,hc⟩:=Option.bind_eq_some_iff.mp hc
      dsimp only at hc
      split at hc
      case isFalse=>cases hc
      case isTrue ho2=>
      subst ho2
      obtain⟨⟨acc2,e6⟩,c6,hc⟩:=Option.bind_eq_some_iff.mp hc
      refine Bd ⟨F4,e3,its2,[],e5,R4,c5,fun J2 F5 H5 X5 R5 _ ok2=>?_⟩
      have hlH5:H5 l=some (.lst vs):=X5.tmp l _ hlH4 no4
      have fl5:F5 l=none:=X5.fr l vs fl4 hlH4 no4
      have no5:¬dt σ3 e5 H5 l:=fun z=>by
        rcases X5.ow l z with z | z
        · exact no4 z
        · rw [hlH4] at z;cases z
      let Iv2:Nat→L2.St→Hp→Prop:=fun j=>CI K W (eR cp nT σ) F1 H1 (mX cp nT e1) l fun F' ei acc=>aD F5 F'∧cK g2 ft2 fe (its2.drop j) ei acc=some (acc2,e6)
      refine⟨fun j m σ' H'=>m=its2.length - j∧j≤its2.length∧Iv2 j σ' H',⟨its2.length,by simp,Nat.zero_le _,.mk R5 (E4.trans X5.s) fl5 no5 hlH5 (da4.mono X5.sf) ⟨aD.refl _,c6⟩⟩,?_⟩
      rintro j m σ6 H6 ⟨rfl,hj,⟨R6,X6,fl6,no6,hl6,da6,s6,hc6⟩⟩
      rename_i F6 ei6 acc6 vs6
      obtain⟨go2,stop2,yld2⟩:=ok2 F6 H6 s6 R6.sm (fun p hp=>by cases hp)
      by_cases hjt:j < its2.length
      · have hd2:its2.drop j=its2[j]::its2.drop (j+1):=List.drop_eq_getElem_cons hjt
        rw [hd2] at hc6
        unfold cK at hc6
        obtain⟨e7,c7,hc6⟩:=Option.bind_eq_some_iff.mp hc6
        obtain⟨⟨b8,e8⟩,c8,hc6⟩:=Option.bind_eq_some_iff.mp hc6
        refine .inr ⟨go2 j hjt,Iv2 (j+1),fun σ2 H2 r=>⟨its2.length - (j+1),by lia,rfl,hjt,r⟩,fun x7 H7 hy7=>?_⟩
        obtain⟨F7,sH7,sF7,sm7,fz7,hx7⟩:=yld2 j its2[j] x7 H7 (List.getElem?_eq_getElem hjt) hy7
        obtain⟨R7,X7⟩:=R6.step sH7 sF7 sm7 fz7
        refine⟨F7,ei6,its2[j],e7,R7,hx7,c7,fun σ8 X8 R8=>⟨F7,e7,b8,e8,R8,c8,fun F9 H9 X9 R9=>?_⟩⟩
        have hlH7:H7 l=some (.lst vs6):=sH7 _ _ hl6
        have no7:¬dt σ6 ei6 H7 l:=fun z=>by
          rcases X7.ow l z with z | z
          · exact no6 z
          · rw [hl6] at z;cases z
        have no8:¬dt σ8 e7 H7 l:=fun z=>by
          rcases X8.own l z with z | z
          · exact no7 z
          · rw [hlH7] at z;cases z
        have fl7:F7 l=none:=fz7 l fl6 (by rw [hl6];simp)
        have hlH9:H9 l=some (.lst vs6):=X9.tmp l _ hlH7 no8
        have fl9:F9 l=none:=X9.fr l vs6 fl7 hlH7 no8
        have no9:¬dt σ8 e8 H9 l:=fun z=>by
          rcases X9.ow l z with z | z
          · exact no8 z
          · rw [hlH7] at z;cases z
        have E9:d9 W (eR cp nT σ) F1 H1 (mX cp nT e1) σ8 F9 H9 e8:=((X6.trans X7.s).trans X8).trans X9.s
        have s9:aD F5 F9:=(s6.trans sF7).trans X9.sf
        cases b8 with
        | false=>
          rw [if_neg (by simp)] at hc6
          exact Bc (.mk R9 E9 fl9 no9 hlH9 (da6.mono (sF7.trans X9.sf)) ⟨s9,hc6⟩)
        | true=>
          rw [if_pos rfl] at hc6
          obtain⟨⟨r,e10⟩,c10,hc6⟩:=Option.bind_eq_some_iff.mp hc6
          obtain⟨d,c11,hc6⟩:=Option.bind_eq_some_iff.mp hc6
          split at hc6
          case isFalse=>cases hc6
          case isTrue hlen=>
          refine Bd ⟨F9,e8,r,e10,R9,c10,fun Fa Ha v Xa Ra Aa=>?_⟩
          have hlHa:Ha l=some (.lst vs6):=Xa.tmp l _ hlH9 no9
          have fla:Fa l=none:=Xa.fr l vs6 fl9 hlH9 no9
          have noa:¬dt σ8 e10 Ha l:=fun z=>by
            rcases Xa.ow l z with z | z
            · exact no9 z
            · rw [hlH9] at z;cases z
          obtain⟨Fb,Rb,sb,db,fb⟩:=dJ.frozen Ra (rs:=[r]) (vs:=[v]) ⟨v,[],rfl,Aa,rfl⟩ (kZ c11)
          have flb:Fb l=none:=fb l fla (by rw [hlH9];simp)
          have Xb:=Xa.frz sb fb
          have ll:=da6.len
          have sl:sizeLine=16777216:=sizeLine_eq
          have dv:DA K Fb d v:=by
            simp only [aU] at db
            obtain⟨v',r',e',hv,_⟩:=db
            cases e';exact hv
          obtain⟨Rc,oc⟩:=Rb.putT (ws:=vs6++[v]) flb noa
          exact⟨vs6,hlHa,by lia,.mk Rc ((E9.trans Xb.s).putT hl oc) flb (fun z=>noa ((oc l).mp z)) ay ((da6.mono (sF7.trans (X9.sf.trans (Xa.sf.trans sb)))).append (aU.one dv)) ⟨s9.trans (Xa.sf.trans sb),hc6⟩⟩
      · have hd2:its2.drop j=[]:=List.drop_eq_nil_of_le (by lia)
        rw [hd2] at hc6
        cases hc6
        exact .inl ⟨stop2 j (by lia),.mk R6 X6 fl6 no6 hl6 da6 hc⟩
  · have hd:items.drop i=[]:=List.drop_eq_nil_of_le (by lia)
    rw [hd] at hc
    cases hc
    refine .inl ⟨stop i (by lia),?_⟩
    obtain⟨R9,X9,o9⟩:=p_ R1 sub jB X'.sf X'.dom X'.fr X'.lst X'.tmp R' (fun i k xs g1 g2=>X'.wr k fun z=>by
      obtain⟨s,g⟩:=et g2
      have:=(List.getElem?_eq_some_iff.mp g).1
      have:=hW k z
      lia) fun i k xs g1 g2=>by
        obtain⟨s,g⟩:=et g2
        unfold ka at hB
        have hb:=List.all_eq_true.mp hB _ (List.mem_of_getElem? g)
        simp only [g1,g2,Option.getD_some,xi,Bool.not_true,Bool.false_or] at hb
        exact wf.mp hb
    exact q F' H' (.ref l) (X1.trans X9) R9 ⟨l,vs,rfl,X1.dom l hl,fl,hl',da,fun z=>R1.ownH l (o9 l z) hl⟩
end
theorem PG.wide{X:Cx}{K:PySem.W.Frag}{tg:Expr}{g:FG}{W W':List Nat}(h:PG X tg (fG K g W))(hw:∀j,j∈W→j∈W'):PG X tg (fG K g W'):=h.mono fun v σ H Q ⟨F,e,x,e',R,d,hg,q⟩=>⟨F,e,x,e',R,d,hg,fun σ' x=>q σ' (x.mono hw)⟩
section
variable{X:Cx}{K:PySem.W.Frag}{pos:Pos}
end
theorem tY{X:Cx}{ix:Nat}{nm:Str}{posn poss:Pos}{elt iter tg iter2 tg2:Expr}{ifs ifs2:List Expr}{scope:Scope}{pos:Pos}{wi wi2:TI}{g g2:TG}{tc tc2:TT}{te:TE}(sc0:Scope)(N0:List Str)(cp:List (Nat × Str))(tgN:List Str)
    (hc:X.calm=true)(hsc:X.env.scope=sc0)(hN0:X.N=N0)(hi:PI X tg iter wi)
    (hg:∀C s0 H0 fp,PG (aw X scope cp tgN C s0 H0 fp) tg g)
    (ht:∀C s0 H0 fp,uB (aw X scope cp tgN C s0 H0 fp) ifs tc)
    (hi2:∀C s0 H0 fp,PI (aw X scope cp tgN C s0 H0 fp) tg2 iter2 wi2)
    (hg2:∀C s0 H0 fp,PG (aw X scope cp tgN C s0 H0 fp) tg2 g2)
    (ht2:∀C s0 H0 fp,uB (aw X scope cp tgN C s0 H0 fp) ifs2 tc2)
    (he:∀C s0 H0 fp,PE (aw X scope cp tgN C s0 H0 fp) elt te)
    (hk:scope.kind=.function)(hcell:∀y∈scope.names,y.2≠.cell)(hnames:∀y∈scope.names,y.2=.local→scope.names.lookup y.1=some .local)
    (hfr:∀y∈scope.names,y.2=.free→scope.names.lookup y.1=some .free∧sc0.names.lookup y.1=some .cell)
    (hcp:∀p∈cp,N0[p.1]?=some p.2)(hcq:∀p∈cp,sc0.names.lookup p.2=some .cell∧scope.names.lookup p.2=some .free)
    (hNd:X.N.Nodup)(hix:X.N[ix]?=some nm)(hlc:X.env.scope.names.lookup nm=some .local)(hsw:swapsWith (.ListComp elt [⟨tg,iter,ifs,0⟩,⟨tg2,iter2,ifs2,0⟩] scope pos) (some (.Name nm posn)) poss.line X.env=pure true)
    (hs2:∀C s0 H0 fp x,foldedSetIterable iter2 (aw X scope cp tgN C s0 H0 fp).env x=pure x)(hs:∀x,foldedSetIterable iter X.env x=pure x:=by intro _;rfl):
    PS X (.Assign [.Name nm posn] (.ListComp elt [⟨tg,iter,ifs,0⟩,⟨tg2,iter2,ifs2,0⟩] scope pos) poss) (Ca (vt cp tgN.length wi g tc wi2 g2 tc2 te) (wa ix)):=by
  intro pins s σ H D0 I h
  let Q:VK:=fun x H1=>D0.nx (σ.set ix (some x)) H1
  have h:vt cp tgN.length wi g tc wi2 g2 tc2 te σ H Q:=h
  have hkind:∀x,X.env.kindOf x=sc0.names.lookup x:=fun x=>by unfold Env.kindOf;rw [hsc]
  have hfree:∀y∈scope.names,y.2=.free→∃c,X.env.cells.lookup y.1=some c:=fun y hy e=>I.ok.has y.1 (.inl (by rw [hkind];exact(hfr y hy e).2))
  rw [exec_Assign_Name_used _ _ _ _ hsw]
  refine wpAny_bind (wpAny_standAt (wpAny_bind ?_))
  unfold evalThenUse
  refine wpAny_bind ?_
  refine wpAny_comprehension_free (use:=some (assign (.Name nm posn) X.env)) rfl hs (lN hfree) hk hnames (wpAny_mono (hi pins s σ H _ I h.go) (fun xv s₁ h₁=>wpAny_mono h₁ (fun itv s₂ h₂=>?_) fun _ _ e=>e) fun _ _ e=>e)
  obtain⟨it,fp,tn,J,H2,rfl,I2,T,st2,f2,hq⟩:=h₂
  refine wpAny_newObj_type ?_
  have hlF:H2 s₂.heap.objs.size=none:=I2.hok.fresh (Nat.le_refl _)
  have I3:aI X pins σ (bc H2 s₂.heap.objs.size (.lst [])) {s₂ with heap:=s₂.heap.push {cls:=.type "list",data:=.seq ([]:List Value).toArray}}:=I2.lnew (t':=s₂.toks) .nil (Nat.zero_le _)
  obtain⟨W,⟨m0,w0⟩,turn⟩:=hq _ hlF
  have f3:∀b∈fp,gM X pins (bc H2 s₂.heap.objs.size (.lst [])) b:=fun b hb=>by
    obtain⟨f0,fr⟩:=f2 b hb
    obtain⟨o,ho,_⟩:=T.obj _ _ st2 b hb
    exact⟨by rw [aF (Nat.ne_of_lt (Heap.lt_size ho))];exact f0,fr⟩
  have st3:tn 0 (s₂.heap.push {cls:=.type "list",data:=.seq ([]:List Value).toArray}):=T.keep _ _ _ st2 fun b _ o e=>Heap.get?_push_of_some _ e
  generalize hD:s₂.heap.objs.size=D at*
  generalize hs3:({s₂ with heap:=s₂.heap.push {cls:=.type "list",data:=.seq ([]:List Value).toArray}}:Shared)=s₃ at*
  have hst3:tn 0 s₃.heap:=by rw [←hs3];exact st3
  refine wpAny_newFunctionEnv hcell (by intro y hy;simp at hy) (fun h₁ hns₁ hsb₁=>?_) hk
  generalize hC:s₃.heap.objs.size=C at*
  have old:∀b o,s₃.heap.get? b=some o→h₁.get? b=some o:=fun b o e=>hsb₁.extBut b o (by rw [←hC];exact Nat.ne_of_lt (Heap.lt_size e)) (Heap.get?_push_of_some _ e)
  have nC:∀b o,s₃.heap.get? b=some o→b≠C:=fun b o e=>by rw [←hC];exact Nat.ne_of_lt (Heap.lt_size e)
  have hHC:(bc H2 D (.lst [])) C=none:=I3.hok.fresh (by rw [hC];exact Nat.le_refl _)
  have clS:∀x c,(ig X.env scope.names []).lookup x=some c→X.env.cells.lookup x=some c:=fun x c e=>jw _ _ x c hfree (fun _ _ z=>by simp at z) e
  have clH:∀x,(∃y∈scope.names,y.1=x∧y.2=.free)→∃c,(ig X.env scope.names []).lookup x=some c:=fun x e=>l8 _ _ x (.inl e)
  have ok':(aw X scope cp tgN C s₃ (bc H2 D (.lst [])) fp).Ok:=by
    refine⟨I.ok.mod,hk,I.ok.glob,I.ok.blt,by rw [←hC];exact Nat.le_refl _,fun x y c e1 e2=>I.ok.inj x y c (clS _ _ e1) (clS _ _ e2),fun x e=>clH x (cI hcell e),fun x c e1 e2=>?_,I.ok.hd,I.ok.frames,.inl rfl,fun b hb=>?_,fun b o e=>I3.bs b o e,?_,fun b o e hb=>?_,fun b hb z=>?_,I3.stack,fun b hb=>I3.stkFree b hb⟩
    · exfalso
      have e1':scope.names.lookup x=some .local:=by simpa [aw] using e1
      have e2':=clS x c e2
      obtain⟨c',hc'⟩:∃y∈scope.names,y.1=x∧y.2=.free:=by
        by_cases q:∃y∈scope.names,y.1=x∧y.2=.free
        · exact q
        · exfalso
          have:∀(names:List (Str × NameKind)) (cs:List (Str × Addr)),(¬∃y∈names,y.1=x∧y.2=.free)→cs.lookup x=none→(ig X.env names cs).lookup x=none:=by
            intro names
            induction names with
            | nil=>intro cs _ h;exact h
            | cons y r ih=>
              intro cs hn hcs
              obtain⟨n,k⟩:=y
              refine ih _ (fun⟨y,hy,z⟩=>hn ⟨y,List.mem_cons_of_mem _ hy,z⟩) ?_
              by_cases hk:(k==NameKind.free)=true
              · rw [if_pos hk,List.lookup_cons]
                cases hx:x==n with
                | true=>exact absurd ⟨(n,k),List.mem_cons_self,(by simpa using hx:x=n).symm,by simpa using hk⟩ hn
                | false=>exact hcs
              · rw [if_neg hk];exact hcs
          have z:=this scope.names [] q rfl
          have e2'':(ig X.env scope.names []).lookup x=some c:=e2
          rw [z] at e2'';cases e2''
      have z:=(hfr c' hc'.1 hc'.2.2).1
      rw [hc'.2.1,e1'] at z;cases z
    · obtain⟨f0,f1,f4,f5,f6,f7⟩:=f3 b hb
      obtain⟨o,ho,_⟩:=T.obj _ _ hst3 b hb
      exact⟨nC b o ho,fun x c e=>f6 x c (clS x c e)⟩
    · exact Nat.le_trans I.ok.bsz I3.sz
    · obtain⟨f0,f1,f4,f5,f6,f7⟩:=f3 b hb
      rcases f5 with z | z
      · exact I.ok.noex b o e z
      · have:=(I.ok.bs b o e).1
        exact absurd (Nat.lt_of_lt_of_le (Heap.lt_size this) z) (Nat.lt_irrefl _)
    · obtain⟨f0,f1,f4,f5,f6,f7⟩:=f3 b hb
      rcases List.mem_cons.mp (I3.stkSub b z) with z | z
      · exact f1 z
      · exact f4 z
  have I4:aI (aw X scope cp tgN C s₃ (bc H2 D (.lst [])) fp) [] (eR cp tgN.length σ) (bc H2 D (.lst [])) {s₃ with heap:=h₁,toks:=s₃.toks+([]:List (Str × Value)).length}:=by
    refine⟨ok',rfl,I3.bare,Un.kept old,⟨_,hns₁,fun i x v e1 e2 e3=>?_⟩,fun x c e=>?_,hHC,fun x c e=>I3.freeC x c (clS x c e),fun p hp=>by simp [aw] at hp,I3.hok.kept old,by simp [eR,aw]⟩
    · have hlt:i < cp.length:=by
        by_cases q:i < cp.length
        · exact q
        · exfalso
          unfold eR at e2
          rw [List.getElem?_append_right (by simp;lia)] at e2
          rw [List.getElem?_replicate] at e2
          split at e2<;>cases e2
      have e1':(cp.map (·.2))[i]?=some x:=by
        have e1'':(cp.map (·.2)++tgN)[i]?=some x:=e1
        rwa [List.getElem?_append_left (by simp;exact hlt)] at e1''
      have e2':(cp.map (fun p=>(σ[p.1]?).join))[i]?=some (some v):=by
        unfold eR at e2
        rwa [List.getElem?_append_left (by simp;exact hlt)] at e2
      rw [List.getElem?_map,List.getElem?_eq_getElem hlt] at e1' e2'
      have ex:(cp[i]).2=x:=by simpa using e1'
      have ev:(σ[(cp[i]).1]?).join=some v:=by simpa using e2'
      have ev':σ[(cp[i]).1]?=some (some v):=by
        cases q:σ[(cp[i]).1]? with
        | none=>rw [q] at ev;cases ev
        | some z=>rw [q] at ev;simp only [Option.join_some] at ev;rw [ev]
      have hN:=hcp cp[i] (List.getElem_mem hlt)
      rw [←hN0] at hN
      obtain⟨hcl,hcf⟩:=hcq cp[i] (List.getElem_mem hlt)
      rw [ex] at hN hcl hcf
      obtain⟨m,hn,hl⟩:=I3.loc
      obtain⟨u,r,l⟩:=hl _ x v hN ev' (.inr (.inl (by rw [hsc];exact hcl)))
      refine⟨u,r,.inr ?_⟩
      rcases l with ⟨k1,_⟩ | ⟨k1,c,hcc,o,ho,hd⟩
      · rw [hkind,hcl] at k1;cases k1
      · have e3':(relabel scope X.env).names.lookup x=some .local∨(relabel scope X.env).names.lookup x=some .cell∨(relabel scope X.env).names.lookup x=some .free:=e3
        have nl:(relabel scope X.env).names.lookup x=some .cell∨(relabel scope X.env).names.lookup x=some .free:=by
          rcases e3' with z | z | z
          · exact absurd z (dY hcf)
          · exact .inl z
          · exact .inr z
        obtain⟨c',hc'⟩:=clH x (cI hcell nl)
        have:=clS x c' hc'
        rw [hcc] at this;cases this
        exact⟨nl,c,hc',o,old c o ho,hd⟩
    · obtain⟨v,o,ho,hd⟩:=I3.cell x c (clS x c e)
      exact⟨v,o,old c o ho,hd⟩
  have hst4:tn 0 h₁:=T.keep _ _ _ hst3 fun b _ o e=>old b o e
  have loop:codeAny (model X.prog X.w) X.A (.compLoop (.ListComp elt [⟨tg,iter,ifs,0⟩,⟨tg2,iter2,ifs2,0⟩] scope pos) 0 (.ref it) (.ref D) (compEnvC scope (ig X.env scope.names []) C X.env))
      (compPost (model X.prog X.w) X.A X.xe (some (assign (.Name nm posn) X.env)) (fun _ s'=>wpAny (model X.prog X.w) X.A (pure ()) (fun _ s''=>wpAny (model X.prog X.w) X.A (pure Flow.next) (SP X pins D0) X.xe s'') X.xe s') (.ref D) C) {s₃ with heap:=h₁,toks:=s₃.toks+([]:List (Str × Value)).length}:=by
    refine rS (fun n s'=>∃i σ' H',aI (aw X scope cp tgN C s₃ (bc H2 D (.lst [])) fp) [] σ' H' s'∧tn i s'.heap∧(∀b∈fp,H' b=none)∧W i n σ' H') ?_ (n0:=m0) ⟨0,_,_,I4,hst4,fun b hb=>(f3 b hb).1,w0⟩
    rintro n s5 ⟨i,σ5,H5,I5,st5,fr5,w5⟩
    have stat:∀{H':Hp},(∀b∈fp,H' b=none)→∀b∈fp,gM (aw X scope cp tgN C s₃ (bc H2 D (.lst [])) fp) [] H' b:=fun hn b hb=>
      ⟨hn b hb,(ok'.exf b hb).1,ok'.exfs b hb,.inl hb,(ok'.exf b hb).2,fun p hp=>by simp [aw] at hp⟩
    rcases turn i n σ5 H5 w5 with ⟨stop,qn⟩ | ⟨go,N,hN,step⟩
    · refine bN (T.done (aw X scope cp tgN C s₃ (bc H2 D (.lst [])) fp) rfl rfl rfl hc i [] s5 σ5 H5 (fun _ _=>False) I5 (stat fr5) st5 stop) fun r s6 ⟨hr,I6⟩=>?_
      subst hr
      refine⟨fun _=>?_,fun v z=>by cases z⟩
      obtain⟨m,hn,_⟩:=I6.loc
      have I7:aI X pins σ H5 s6:=by
        have key:∀h':Heap,Heap.SameBut C s6.heap h'→aI X pins σ H5 {s6 with heap:=h'}:=fun h' sb=>by
          have ub:=I6.base
          have kp:∀b u,b≠C→s6.heap.get? b=some u→h'.get? b=some u:=fun b u ne e=>sb.extBut b u ne e
          have nit:∀b u,H5 b=some u→b≠C:=fun b u e z=>by
            have:=I6.free
            rw [z] at e
            rw [show H5 C=none from this] at e;cases e
          refine I3.call' (s':={s6 with heap:=h'}) (ch:=fp) I6.os ⟨fun b o e n hb hx=>kp b o (nC b o e) (ub.keep b o e n hb hx),fun b o e n hb hx=>?_,ub.free,fun b o e hx=>?_,ub.tups,ub.frzs,ub.tbls⟩ (fun b u e=>?_) I6.bare (fun b hb=>?_)
          · obtain⟨sl,q⟩:=ub.slot b o e n hb hx
            exact⟨sl,kp b _ (nC b o e) q⟩
          · obtain⟨o',q⟩:=ub.there b o e hx
            exact⟨o',kp b _ (nC b o e) q⟩
          · refine(I6.hok b u e).stay (fun c v hc q=>kp c v ?_ q) (fun _ q=>q) fun _ _ q=>q
            rcases hc with z | z
            · rw [z];exact nit b u e
            · exact nit c _ z
          · obtain⟨f0,f1,f4,f5,f6,f7⟩:=f3 b hb
            exact⟨f5,f1,f6,f7⟩
        exact key s6.heap ⟨rfl,fun _ _=>rfl⟩
      have fC:gM X pins H5 C:=I3.fpOk (by rw [hC];exact Nat.le_refl _) I6.free
      show wpAny (model X.prog X.w) X.A (assign (.Name nm posn) X.env (.ref D)) _ X.xe s6
      refine wpAny_assign_Name (nE (v:=.ref D) I7 hNd hix (Or.inl hlc) rfl (fun s' I' hsb=>?_) (Or.inr hlc))
      obtain⟨a,sb,ha⟩:=hsb
      have nCa:C≠a:=by
        rcases ha with z | z
        · rw [z];exact fC.2.1
        · exact fun e=>fC.2.2.2.2.1 _ _ z e.symm
      obtain⟨oN,esN,epN,hoN,rN⟩:=hn
      refine⟨m,⟨oN,esN,epN,(sb.2 C nCa).trans hoN,rN⟩,fun h' sb'=>wpAny_pure (wpAny_pure ?_)⟩
      have I8:aI X pins (σ.set ix (some (.ref D))) H5 {s' with heap:=h',toks:=s'.toks}:=I'.turnedL (t':=s'.toks) (fp:=[C]) (fun b hb=>by rw [List.mem_singleton.mp hb];exact fC) fun b o nb e=>sb'.extBut b o (by simpa using nb) e
      exact⟨_,H5,I8,qn⟩
    · refine bN (T.item (aw X scope cp tgN C s₃ (bc H2 D (.lst [])) fp) rfl rfl rfl hc i [] s5 σ5 H5 (fun _ _=>False) I5 (stat fr5) st5 go) fun r s6 ⟨u,hr,h6⟩=>?_
      subst hr
      refine⟨fun z=>(by cases z),fun v z=>?_⟩
      cases z
      refine bN h6 fun _ s7 ⟨x,H7,I7,r7,y7,st7,fr7⟩=>?_
      have I7':=I7.pinned (stat fr7) (T.obj _ _ st7)
      have again:∀{σ8:L2.St} {H8:Hp} {s8:Shared},aI (aw X scope cp tgN C s₃ (bc H2 D (.lst [])) fp) ([]++kB fp s7.heap) σ8 H8 s8→N σ8 H8→∃m,m < n∧∃i σ' H',aI (aw X scope cp tgN C s₃ (bc H2 D (.lst [])) fp) [] σ' H' s8∧tn i s8.heap∧(∀b∈fp,H' b=none)∧W i m σ' H':=fun{σ8 H8 s8} I8 n8=>by
        obtain⟨m',hm,w8⟩:=hN σ8 H8 n8
        refine⟨m',hm,i+1,σ8,H8,I8.unpinned,T.keep _ _ _ st7 fun b hb o e=>(I8.pin (b,o) (List.mem_append_right _ (List.mem_append_right _ (cf hb e)))).1,fun b hb=>?_,w8⟩
        obtain⟨o,e,d⟩:=T.obj _ _ st7 b hb
        exact(I8.pin (b,o) (List.mem_append_right _ (List.mem_append_right _ (cf hb e)))).2.1
      refine bN (hg C s₃ (bc H2 D (.lst [])) fp _ s7 σ5 H7 x u _ I7' r7 (step x H7 y7)) fun _ s8 ⟨σ8,H8,I8,q8⟩=>?_
      refine bN (ht C s₃ (bc H2 D (.lst [])) fp _ s8 σ8 H8 _ I8 q8) fun ok s9 ⟨H9,I9,q9⟩=>?_
      cases ok with
      | false=>
        rw [if_neg Bool.false_ne_true] at q9 ⊢
        exact again I9 q9
      | true=>
        rw [if_pos rfl] at q9 ⊢
        exact fun k Q' E' hk=>yG (Y:=aw X scope cp tgN C s₃ (bc H2 D (.lst [])) fp) hc rfl (hi2 C s₃ _ fp) (hg2 C s₃ _ fp) (ht2 C s₃ _ fp) (he C s₃ _ fp) (hs2 C s₃ _ fp) I9 q9 k Q' E' fun s' ⟨σ11,H11,I11,q11⟩=>hk s' (again I11 q11)
  exact codeAny_compStart_list loop (T.self X.A 0 _ _ _ hst4 loop)
section
variable{X:Cx}{K:PySem.W.Frag}{pos:Pos}
theorem vi{ix:Nat}{nm:Str}{posn poss:Pos}{elt iter tg iter2 tg2:Expr}{ifs ifs2:List Expr}{scope:Scope}{fi fi2:FI}{g g2:FG}{ft ft2:FT}{fe:FE}{W W2:List Nat}(sc0:Scope)(N0:List Str)(cp:List (Nat × Str))(tgN:List Str)
    (hc:X.calm=true)(hsc:X.env.scope=sc0)(hN0:X.N=N0)(hi:PI X tg iter (fI K fi))
    (hg:∀C s0 H0 fp,PG (aw X scope cp tgN C s0 H0 fp) tg (fG K g W))
    (ht:∀C s0 H0 fp,uB (aw X scope cp tgN C s0 H0 fp) ifs (fT K ft))
    (hi2:∀C s0 H0 fp,PI (aw X scope cp tgN C s0 H0 fp) tg2 iter2 (fI K fi2))
    (hg2:∀C s0 H0 fp,PG (aw X scope cp tgN C s0 H0 fp) tg2 (fG K g2 W2))
    (ht2:∀C s0 H0 fp,uB (aw X scope cp tgN C s0 H0 fp) ifs2 (fT K ft2))
    (he:∀C s0 H0 fp,PE (aw X scope cp tgN C s0 H0 fp) elt (fE K fe))
    (hk:scope.kind=.function)(hcell:∀y∈scope.names,y.2≠.cell)(hnames:∀y∈scope.names,y.2=.local→scope.names.lookup y.1=some .local)
    (hfr:∀y∈scope.names,y.2=.free→scope.names.lookup y.1=some .free∧sc0.names.lookup y.1=some .cell)
    (hcp:∀p∈cp,N0[p.1]?=some p.2)(hcq:∀p∈cp,sc0.names.lookup p.2=some .cell∧scope.names.lookup p.2=some .free)(hnd:(cp.map (·.1)).Nodup)(hW:∀j∈W++W2,cp.length≤j)
    (hNd:X.N.Nodup)(hix:X.N[ix]?=some nm)(hlc:X.env.scope.names.lookup nm=some .local)(hsw:swapsWith (.ListComp elt [⟨tg,iter,ifs,0⟩,⟨tg2,iter2,ifs2,0⟩] scope pos) (some (.Name nm posn)) poss.line X.env=pure true)
    (hs2:∀C s0 H0 fp x,foldedSetIterable iter2 (aw X scope cp tgN C s0 H0 fp).env x=pure x)(hs:∀x,foldedSetIterable iter X.env x=pure x):
    PS X (.Assign [.Name nm posn] (.ListComp elt [⟨tg,iter,ifs,0⟩,⟨tg2,iter2,ifs2,0⟩] scope pos) poss) (fS K (a8 ix (nI cp tgN.length fi g ft fi2 g2 ft2 fe)) [ix]):=(tY sc0 N0 cp tgN hc hsc hN0 hi (fun C s0 H0 fp=>(hg C s0 H0 fp).wide fun j hj=>List.mem_append_left W2 hj) ht hi2 (fun C s0 H0 fp=>(hg2 C s0 H0 fp).wide fun j hj=>List.mem_append_right W hj) ht2 he hk hcell hnames hfr hcp hcq hNd hix hlc hsw hs2 hs).mono fun D σ H h=>by
  obtain⟨F,e,fl,R,hf,q⟩:=h
  unfold a8 at hf
  obtain⟨⟨r,e1⟩,h1,hf⟩:=Option.bind_eq_some_iff.mp hf
  obtain⟨e2,h2,hf⟩:=Option.map_eq_some_iff.mp hf
  cases hf
  refine xZ hnd hW ⟨F,e,r,e1,R,h1,fun F1 H1 v X1 R1 A1=>?_⟩
  obtain⟨x,R2⟩:=vh R X1 R1 A1 h2
  exact q F1 H1 _ x R2
variable{o:Expr}{fo:FE}{apos cpos:Pos}
end
end L2
namespace L2
open PySem PySem.Spec PyProof.Rows
section
variable{X:Cx}{K:PySem.W.Frag}
def Il:List Int→Int
  | []=>0
  | x::r=>r.foldl max x
end
end L2
namespace L2
open PySem PySem.Spec PyProof.Rows
structure H_ (f:Fr):Prop where
  pos:0 < f.2
  cop:Int.gcd f.1 f.2=1
def Ij(t:oC)(b:Bool):Fr:=if b then(t.top,t.bot) else(t.bot - t.top,t.bot)
abbrev Pg:=List Int × Int
def Im(t:oC)(p:Pg):Bool:= !p.1.contains t.one&& !p.1.contains t.other
def Hc(t:oC)(p:Pg):Pg:=(p.1++[t.one,t.other],p.2+t.worth)
def Ip(ps:List Pg)(t:oC):List Pg:=ps++(ps.filter (Im t)).map (Hc t)
def Io(ts:List oC):List Pg:=ts.foldl Ip [([],0)]
structure HM (k:Nat) (ps:List Pg):Prop where
  ne:ps≠[]
  len:ps.length≤2 ^ k
  pt:∀p∈ps,p.1.length≤2*k∧0≤p.2∧p.2≤1000*(k:Int)
def HQ(ts:List oC):Int:=Il ((Io ts).map (·.2))
end L2
namespace L2
open PySem PySem.Spec PyProof.Rows
end L2
namespace L2
open PySem PySem.Spec PyProof.Rows
section
variable{prog:Program}{w:World}{A:Around}{E:Value→Shared→Prop}{s:Shared}
end
section
variable{X:Cx}{a:Expr}{ta:TA}{p p2 pos pos2:Pos}
variable{K:PySem.W.Frag}{fs:FA}{p3:Pos}
end
end L2
namespace L2
open PySem PySem.Spec PyProof.Rows
def FR(lo hi:Int):PyData→Bool
  | .int i=>decide (lo≤i)&&decide (i≤hi)
  | _=>false
theorem qK{α:Type}(p:α→Bool):∀(ds:List α),m4 (ds.map fun d=>PyData.bool (p d))=some (ds.map p)
  | []=>rfl
  | d::r=>by simp [m4,qK p r]
theorem tJ{α:Type}{e:En}(p:α→Bool)(ds:List α):g1 (jP lx) e [.l (ds.map fun d=>.bool (p d))]=some (.d (.bool (ds.all p))):=by
  simp [g1,jP,eQ,lx,qK p,List.all_map]
theorem lP{α:Type}:∀(l:List α) (i:Nat) (h:i < l.length),(l[i]::l.eraseIdx i).Perm l
  | x::r,0,_=>.refl _
  | x::r,i+1,h=>(List.Perm.swap x _ _).trans ((lP r i (by simpa using h)).cons x)
  | [],_,h=>by simp at h
theorem cut_len{xs:List PyData}{lo hi:Option Int}:(cutD xs lo hi).length≤xs.length:=by
  unfold cutD
  rw [List.length_take,List.length_drop]
  lia
theorem m7{own:iA}{g:FG}{f:FS}{Z:Rv}(ok:PyData→Bool)(P Q:En→Prop):∀(items:List PyData) (e:En),(∀x∈items,∀e,P e→∃e1,g x e=some e1∧(ok x=true→∃e2,f e1=some (.nx e2)∧keeps own e2∧P e2)∧(ok x=false→∃e2,f e1=some (.rt Z e2)∧Q e2))→P e→
    (items.all ok=true→∃e',eZ own g f items e=some (.nx e')∧P e')∧(items.all ok=false→∃e',eZ own g f items e=some (.rt Z e')∧Q e')
  | [],e,_,h=>⟨fun _=>⟨e,rfl,h⟩,fun z=>by simp at z⟩
  | x::r,e,hs,h=>by
    obtain⟨e1,h1,h2,h3⟩:=hs x (by simp) e h
    rw [List.all_cons]
    cases c:ok x with
    | true=>
      obtain⟨e2,h4,h5,h6⟩:=h2 c
      have ih:=m7 ok P Q r e2 (fun y hy=>hs y (by simp [hy])) h6
      rw [Bool.true_and]
      have e0:eZ own g f (x::r) e=eZ own g f r e2:=by
        simp only [eZ,h1,h4,Option.bind_some]
        rw [if_pos h5]
      rw [e0]
      exact ih
    | false=>
      obtain⟨e2,h4,h5⟩:=h3 c
      refine⟨fun z=>by simp at z,fun _=>⟨e2,?_,h5⟩⟩
      simp only [eZ,h1,h4,Option.bind_some]
end L2
namespace L2
open PySem PySem.Spec PyProof.Rows
mutual
def wt:PyData→Nat
  | .list xs=>Au xs+1
  | .tuple xs=>Au xs+1
  | .dict _=>1
  | .none=>1
  | .bool _=>1
  | .int _=>1
  | .str _=>1
def Au:List PyData→Nat
  | []=>0
  | x::r=>wt x+Au r
end
structure Iu (d:PyData) (k:Nat):Prop where
  lay:d.canLay0=true
  sh:d.showable=true
  dp:d.depth≤k
  ln:d.shown.length+2≤104*wt d
  so:PyData.strOk d.shown=true
def Ii:PyData→Bool
  | .tuple [.int t,.int b]=>decide (0≤t)&&(decide (t≤b)&&(decide (1≤b)&&(decide (b≤100)&&decide (Int.gcd t b=1))))
  | _=>false
def uq(n:Int):PyData→Bool
  | .tuple [.int a,.int b,c,w]=>decide (0≤a)&&(decide (a < b)&&(decide (b≤n - 1)&&(Ii c&&FR 0 1000 w)))
  | _=>false
theorem tK{e:En}{xs:List PyData}{neg:Bool}(hs:SeqAt.shaped (.tuple xs)=true):bw neg e (.d (.tuple xs)) (.d (.tuple []))=some (.d (.bool (if neg then !xs.isEmpty else xs.isEmpty))):=by
  unfold bw
  simp only [kc,Option.bind_some,hs]
  have h0:SeqAt.shaped (.tuple [])=true:=by simp [SeqAt.shaped,PyData.canLay0,PyData.canLayAll0,PyData.depth,PyData.depthAll]
  rw [h0]
  cases xs<;>simp [PyData.eqv,PyData.eqvAll]
end L2
namespace L2
open PySem PySem.Spec PyProof.Rows
section
variable{X:Cx}{K:PySem.W.Frag}
variable{a b:Expr}{fa fb:FE}{pos:Pos}
end
end L2
namespace L2
open PySem PySem.Spec PyProof.Rows
def tx(s:Str):List Nat:=s.cps.toList
end L2
namespace L2
open PySem PySem.Spec PyProof.Rows
def wO(i:Nat)(l:Int):Prop:=l= -1∨(i:Int) < l
def iY(T:List Nd):Prop:=∀(i:Nat) (x:Nd),T[i]?=some x→wO i x.yes∧wO i x.no
end L2
namespace L2
open PySem PySem.Spec PyProof.Rows
theorem xo{ws:List Int}{k:Nat}{w v:Int}(hw:ws[k]?=some w)(hv:v∈ws):v=w∨v∈ws.eraseIdx k:=by
  obtain⟨hk,e⟩:=List.getElem?_eq_some_iff.mp hw
  have:=(lP ws k hk).mem_iff (a:=v)
  rw [List.mem_cons,e] at this
  exact this.mpr hv
def rL(T:List Nd)(ws order:List Int):Prop:=∀(j:Nat) (w:Int),order[j]?=some w→∀l∈r9 (bG T w),l∈ws∨∃j':Nat,j < j'∧order[j']?=some l
theorem rL.first{T:List Nd}{ws:List Int}:rL T ws []:=fun j w h=>by simp at h
theorem rL.turn{T:List Nd}{ws ws' order:List Int}{w:Int}(h:rL T ws order)(h1:∀v∈ws,v=w∨v∈ws')(h2:∀l∈r9 (bG T w),l∈ws'):rL T ws' (order++[w]):=fun j u hj l hl=>by
  by_cases c:j < order.length
  · rw [List.getElem?_append_left c] at hj
    rcases h j u hj l hl with q | ⟨j',a,b⟩
    · rcases h1 l q with rfl | q
      · exact .inr ⟨order.length,c,by simp⟩
      · exact .inl q
    · exact .inr ⟨j',a,by rw [List.getElem?_append_left (List.getElem?_eq_some_iff.mp b).1];exact b⟩
  · have hj':=(List.getElem?_eq_some_iff.mp hj).1
    simp at hj'
    have:j=order.length:=by lia
    subst this
    simp at hj
    subst hj
    exact .inl (h2 l hl)
def lw(order nums:List Int)(i:Nat):Prop:=∀(j:Nat) (l:Int),j < i→order[j]?=some l→(j:Int)≤nums.getD l.toNat (-1)
theorem lw.first{order nums:List Int}:lw order nums 0:=fun j l h=>by lia
theorem lw.set{order nums:List Int}{i:Nat}{w:Int}(h:lw order nums i)(hw:order[i]?=some w)(hl:w.toNat < nums.length):lw order (nums.set w.toNat (i:Int)) (i+1):=fun j l hj e=>by
  rw [List.getD_eq_getElem?_getD]
  by_cases c:w.toNat=l.toNat
  · rw [←c,List.getElem?_set_self hl]
    show(j:Int)≤(i:Int)
    lia
  · rw [List.getElem?_set_ne c]
    by_cases d:j < i
    · have:=h j l d e
      rwa [List.getD_eq_getElem?_getD] at this
    · have:j=i:=by lia
      subst this
      rw [hw] at e
      cases e
      exact absurd rfl c
theorem xH{T:List Nd}{order nums:List Int}{W:aM}{S:Nat→Std}(h:dN W T S)(ho:∀w∈order,0≤w∧w < (T.length:Int))(hn:jY order T.length nums)(hg:lw order nums order.length)(hw:rL T [] order):iY (order.map (renum T nums)):=fun j y hy=>by
  rw [List.getElem?_map] at hy
  obtain⟨w,hw2,rfl⟩:=Option.map_eq_some_iff.mp hy
  obtain⟨a0,a1⟩:=ho w (List.mem_of_getElem? hw2)
  have o:=h _ _ (eO a0 a1)
  have key:∀l:Int,l=(bG T w).yes∨l=(bG T w).no→ -1≤l→l < (T.length:Int)→wO j (nm nums l):=fun l hl l0 l1=>by
    by_cases c:l= -1
    · left
      subst c
      unfold nm atI mq
      rw [if_neg (by decide),if_pos (by rw [hn.len];lia)]
      simp only [Option.bind_some]
      rw [show(-1+(nums.length:Int)).toNat=T.length by rw [hn.len];lia,hn.top]
      rfl
    · right
      have hm:l∈r9 (bG T w):=by
        unfold r9
        rw [List.mem_filter]
        refine⟨?_,by simpa using c⟩
        rcases hl with rfl | rfl<;>simp
      rcases hw j w hw2 l hm with q | ⟨j',q1,q2⟩
      · cases q
      · have g:=hg j' l (List.getElem?_eq_some_iff.mp q2).1 q2
        have e:nm nums l=nums.getD l.toNat (-1):=by
          unfold nm atI mq
          rw [if_pos (by lia),if_pos (by rw [hn.len];lia)]
          simp only [Option.bind_some,List.getD_eq_getElem?_getD]
        rw [e]
        lia
  exact⟨key _ (.inl rfl) o.yes.rng.1 o.yes.rng.2,key _ (.inr rfl) o.no.rng.1 o.no.rng.2⟩
end L2
namespace L2
open PySem PySem.Spec PyProof.Rows
section
variable{X:Cx}{K:PySem.W.Frag}{es:List Expr}{k0:Nat}{tp:Pos}{a b:Expr}{fs:FA}{p pos:Pos}
end
end L2
namespace L2
open PySem PySem.Spec PyProof.Rows
def CZ(x:Nd)(b:Bool):Int:=if b=true then x.yes else x.no
def jQ(T:List Nd)(i:Nat)(b:Bool):Int:=match T[i]? with
  | some x=>CZ x b
  | none=> -1
theorem bZ{T:List Nd}{i:Nat}{x:Nd}{b:Bool}(h:T[i]?=some x):jQ T i b=CZ x b:=by unfold jQ;rw [h]
theorem dg{T:List Nd}{i:Nat}{b:Bool}(h:T[i]?=none):jQ T i b= -1:=by unfold jQ;rw [h]
theorem yS{x:Nd}{s n:Int}{b:Bool}(hs:s=0∨s=1):CZ (iD x s n) b=if b=(s==0) then n else CZ x b:=by
  rcases hs with rfl | rfl<;>cases b<;>simp [CZ,iD]
def uF(T:List Nd):Prop:=∀(i j:Nat) (a b:Bool),jQ T i a=jQ T j b→jQ T i a≠ -1→i=j∧a=b
def Cr(w:Wt):Int × Int:=(w.par,w.side)
structure vL (T:List Nd) (ws:List Wt):Prop where
  unq:uF T
  rng:∀i a,jQ T i a= -1∨(0 < jQ T i a∧jQ T i a < (T.length:Int))
  free:∀w∈ws,w.par= -1∨(0≤w.par∧w.par < (T.length:Int)∧jQ T w.par.toNat (w.side==0)= -1)
  dst:(ws.map Cr).Nodup
  side:∀w∈ws,w.side=0∨w.side=1
theorem vL.first{s:Std}:vL [] [⟨s, -1,0⟩]:=⟨fun i j a b _ h=>absurd (dg (by simp)) h,fun i a=>.inl (dg (by simp)),fun w hw=>by simp at hw;subst hw;exact .inl rfl,by simp,fun w hw=>by simp at hw;subst hw;exact .inl rfl⟩
theorem vL.less{T:List Nd}{w:Wt}{ws:List Wt}(h:vL T (w::ws)):vL T ws:=⟨h.unq,h.rng,fun v hv=>h.free v (by simp [hv]),(List.nodup_cons.mp h.dst).2,fun v hv=>h.side v (by simp [hv])⟩
theorem yQ{T:List Nd}{p s k:Int}{i:Nat}{a:Bool}(hs:s=0∨s=1)(hp:p= -1∨(0≤p∧p < (T.length:Int))):
    jQ ((if 0≤p then T.modify p.toNat (fun x=>iD x s T.length) else T)++[⟨k, -1, -1⟩]) i a=if (i:Int)=p∧a=(s==0) then(T.length:Int) else jQ T i a:=by
  generalize hT:(if 0≤p then T.modify p.toNat (fun x=>iD x s T.length) else T)=T'
  have len:T'.length=T.length:=by rw [←hT];split<;>simp
  by_cases c:i < T.length
  · have hx:T[i]?=some T[i]:=List.getElem?_eq_getElem c
    generalize T[i]=x at hx
    by_cases e:(i:Int)=p
    · have e2:p.toNat=i:=by lia
      have:(T'++[(⟨k, -1, -1⟩:Nd)])[i]?=some (iD x s T.length):=by
        rw [List.getElem?_append_left (by lia),←hT,if_pos (by lia),List.getElem?_modify,e2,hx]
        simp
      rw [bZ this,yS hs,bZ hx]
      simp [e]
    · have:(T'++[(⟨k, -1, -1⟩:Nd)])[i]?=some x:=by
        rw [List.getElem?_append_left (by lia),←hT]
        split
        · rw [List.getElem?_modify,hx]
          have:¬p.toNat=i:=by lia
          simp [this]
        · exact hx
      rw [bZ this,bZ hx,if_neg (fun z=>e z.1)]
  · rw [if_neg (fun z=>by lia),dg (T:=T) (List.getElem?_eq_none (by lia))]
    by_cases d:i=T.length
    · subst d
      rw [bZ (x:=⟨k, -1, -1⟩) (by rw [List.getElem?_append_right (by lia),len];simp)]
      cases a<;>rfl
    · exact dg (List.getElem?_eq_none (by simp [len];lia))
theorem vL.more{T:List Nd}{w:Wt}{ws:List Wt}{k:Int}{s1 s2:Std}(h:vL T (w::ws)):
    vL ((if 0≤w.par then T.modify w.par.toNat (fun x=>iD x w.side T.length) else T)++[⟨k, -1, -1⟩]) (ws++[⟨s1,T.length,0⟩,⟨s2,T.length,1⟩]):=by
  have hs:=h.side w (by simp)
  have hp:w.par= -1∨(0≤w.par∧w.par < (T.length:Int)):=(h.free w (by simp)).imp id fun z=>⟨z.1,z.2.1⟩
  have F:=fun i a=>yQ (T:=T) (k:=k) (i:=i) (a:=a) hs hp
  have len:((if 0≤w.par then T.modify w.par.toNat (fun x=>iD x w.side T.length) else T)++[(⟨k, -1, -1⟩:Nd)]).length=T.length+1:=by
    rw [List.length_append];split<;>simp
  generalize (if 0≤w.par then T.modify w.par.toNat (fun x=>iD x w.side T.length) else T)++[(⟨k, -1, -1⟩:Nd)]=T' at F len
  have hd:=h.dst
  rw [List.map_cons,List.nodup_cons] at hd
  refine⟨fun i j a b e n=>?_,fun i a=>?_,fun v hv=>?_,?_,fun v hv=>?_⟩
  · rw [F,F] at e
    rw [F] at n
    have r1:=h.rng i a
    have r2:=h.rng j b
    by_cases c1:(i:Int)=w.par∧a=(w.side==0)
    · by_cases c2:(j:Int)=w.par∧b=(w.side==0)
      · exact⟨by lia,by rw [c1.2,c2.2]⟩
      · rw [if_pos c1,if_neg c2] at e
        lia
    · by_cases c2:(j:Int)=w.par∧b=(w.side==0)
      · rw [if_neg c1,if_pos c2] at e
        lia
      · rw [if_neg c1,if_neg c2] at e
        rw [if_neg c1] at n
        exact h.unq i j a b e n
  · rw [F,len]
    split
    · rename_i c;right;lia
    · have:=h.rng i a;lia
  · rw [len]
    rcases List.mem_append.mp hv with hv | hv
    · rcases h.free v (by simp [hv]) with z | ⟨z1,z2,z3⟩
      · exact .inl z
      · refine .inr ⟨z1,by lia,?_⟩
        rw [F,if_neg ?_]
        · exact z3
        · intro ⟨c1,c2⟩
          refine hd.1 (List.mem_map.mpr ⟨v,hv,?_⟩)
          have e1:v.par=w.par:=by lia
          have e2:v.side=w.side:=by
            rcases h.side v (by simp [hv]) with q | q<;>rcases hs with r | r<;>rw [q,r] at c2 ⊢<;>simp at c2
          unfold Cr
          rw [e1,e2]
    · have:v.par=(T.length:Int):=by
        simp only [List.mem_cons,List.not_mem_nil,or_false] at hv
        rcases hv with rfl | rfl<;>rfl
      refine .inr ⟨by lia,by lia,?_⟩
      rw [this,F,if_neg (by lia)]
      exact dg (List.getElem?_eq_none (by simp))
  · rw [List.map_append,List.nodup_append]
    refine⟨hd.2,by simp [Cr],fun x hx y hy=>?_⟩
    obtain⟨v,hv,rfl⟩:=List.mem_map.mp hx
    have hv2:=h.free v (by simp [hv])
    intro e
    have:y.1=(T.length:Int):=by
      simp only [List.map_cons,List.map_nil,List.mem_cons,List.not_mem_nil,or_false,Cr] at hy
      rcases hy with rfl | rfl<;>rfl
    rw [←e] at this
    have:v.par=(T.length:Int):=this
    lia
  · rcases List.mem_append.mp hv with hv | hv
    · exact h.side v (by simp [hv])
    · simp only [List.mem_cons,List.not_mem_nil,or_false] at hv
      rcases hv with rfl | rfl
      · exact .inl rfl
      · exact .inr rfl
theorem r_{T:List Nd}{w l:Int}(h0:0≤w)(h1:w < (T.length:Int)):l∈r9 (bG T w)↔ l≠ -1∧∃b,jQ T w.toNat b=l:=by
  have hx:=eO h0 h1
  unfold r9
  rw [List.mem_filter]
  simp only [List.mem_cons,List.not_mem_nil,or_false,bne_iff_ne]
  constructor
  · rintro⟨rfl | rfl,n⟩
    · exact⟨n,true,bZ hx⟩
    · exact⟨n,false,bZ hx⟩
  · rintro⟨n,b,e⟩
    rw [bZ hx] at e
    refine⟨?_,n⟩
    cases b
    · exact .inr e.symm
    · exact .inl e.symm
theorem xl{T:List Nd}{w:Int}(u:uF T)(h0:0≤w)(h1:w < (T.length:Int)):(r9 (bG T w)).Nodup:=by
  have hx:=eO h0 h1
  have key:(bG T w).yes=(bG T w).no→(bG T w).yes= -1:=fun e=>by
    by_cases c:(bG T w).yes= -1
    · exact c
    · have e1:jQ T w.toNat true=(bG T w).yes:=bZ hx
      have e2:jQ T w.toNat false=(bG T w).no:=bZ hx
      have:=(u w.toNat w.toNat true false (by rw [e1,e2];exact e) (by rw [e1];exact c)).2
      cases this
  unfold r9
  by_cases c1:(bG T w).yes= -1
  · by_cases c2:(bG T w).no= -1<;>simp [c1,c2]
  · by_cases c2:(bG T w).no= -1
    · simp [c1,c2]
    · have:¬(bG T w).yes=(bG T w).no:=fun e=>c1 (key e)
      simp [c1,c2,this]
structure AF (T:List Nd) (w0 ws order:List Int):Prop where
  nd:(order++ws).Nodup
  par:∀v∈order++ws,v=0∨∃u∈order,∃b,jQ T u.toNat b=v∧v≠ -1
  fst:(order=[]∧ws=w0)∨order[0]?=some 0
theorem AF.first{T:List Nd}{w0:List Int}(h:w0=[]∨w0=[0]):AF T w0 w0 []:=by
  rcases h with rfl | rfl
  · exact⟨by simp,fun v hv=>by simp at hv,.inl ⟨rfl,rfl⟩⟩
  · exact⟨by simp,fun v hv=>by simp at hv;exact .inl hv,.inl ⟨rfl,rfl⟩⟩
theorem AF.turn{T:List Nd}{w0 ws order:List Int}{k:Nat}{w:Int}(hw0:w0=[]∨w0=[0])(h:AF T w0 ws order)(u:uF T)(rg:∀i a,jQ T i a= -1∨(0 < jQ T i a∧jQ T i a < (T.length:Int)))(ho:∀v∈order++ws,0≤v∧v < (T.length:Int))(hw:ws[k]?=some w):AF T w0 (ws.eraseIdx k++r9 (bG T w)) (order++[w]):=by
  obtain⟨hk,e⟩:=List.getElem?_eq_some_iff.mp hw
  have hwm:w∈ws:=List.mem_of_getElem? hw
  obtain⟨a0,a1⟩:=ho w (by simp [hwm])
  have pm:(order++[w]++ws.eraseIdx k).Perm (order++ws):=by
    rw [List.append_assoc]
    refine List.Perm.append_left _ ?_
    have:=lP ws k hk
    rw [e] at this
    exact this
  have nd:=h.nd
  refine⟨?_,fun v hv=>?_,?_⟩
  · rw [←List.append_assoc,List.nodup_append]
    refine⟨pm.nodup_iff.mpr nd,xl u a0 a1,fun x hx y hy e2=>?_⟩
    subst e2
    obtain⟨n,b,eb⟩:=(r_ a0 a1).mp hy
    have hx':=pm.mem_iff.mp hx
    rcases h.par x hx' with z | ⟨v,hv,c,ec,_⟩
    · have:=rg w.toNat b;lia
    · have q:=(u v.toNat w.toNat c b (by rw [ec,eb]) (by rw [ec];exact n)).1
      obtain⟨v0,v1⟩:=ho v (by simp [hv])
      have:v=w:=by lia
      subst this
      rw [List.nodup_append] at nd
      exact nd.2.2 v hv v hwm rfl
  · rw [←List.append_assoc] at hv
    rcases List.mem_append.mp hv with hv | hv
    · rcases h.par v (pm.mem_iff.mp hv) with z | ⟨x,hx,b,q⟩
      · exact .inl z
      · exact .inr ⟨x,by simp [hx],b,q⟩
    · obtain⟨n,b,eb⟩:=(r_ a0 a1).mp hv
      exact .inr ⟨w,by simp,b,eb,n⟩
  · right
    rcases h.fst with ⟨z1,z2⟩ | z
    · subst z1 z2
      rcases hw0 with q | q
      · rw [q] at hwm;cases hwm
      · rw [q] at hwm
        simp at hwm
        subst hwm
        rfl
    · rw [List.getElem?_append_left (List.getElem?_eq_some_iff.mp z).1];exact z
def iZ(T:List Nd):Prop:=uF T∧∀j:Nat,0 < j→j < T.length→∃i b,jQ T i b=(j:Int)
theorem pN{order:List Int}(h:order.Nodup){i j:Nat}{w:Int}(hi:order[i]?=some w)(hj:order[j]?=some w):i=j:=by
  obtain⟨a,e1⟩:=List.getElem?_eq_some_iff.mp hi
  obtain⟨b,e2⟩:=List.getElem?_eq_some_iff.mp hj
  have pw:=List.pairwise_iff_getElem.mp h
  rcases Nat.lt_trichotomy i j with c | c | c
  · exact absurd (e1.trans e2.symm) (pw i j a b c)
  · exact c
  · exact absurd (e2.trans e1.symm) (pw j i b a c)
theorem vw{T:List Nd}{order nums w0:List Int}{W:aM}{S:Nat→Std}(h:dN W T S)(u:uF T)(ho:∀w∈order,0≤w∧w < (T.length:Int))(hn:jY order T.length nums)(hg:lw order nums order.length)(hw:rL T [] order)(hr:AF T w0 [] order):iZ (order.map (renum T nums)):=by
  have nd:order.Nodup:=by have:=hr.nd;rwa [List.append_nil] at this
  have nmE:∀l:Int,0≤l→l < (T.length:Int)→nm nums l=nums.getD l.toNat (-1):=fun l l0 l1=>by
    unfold nm atI mq
    rw [if_pos l0,if_pos (by rw [hn.len];lia)]
    simp only [Option.bind_some,List.getD_eq_getElem?_getD]
  have nm1:nm nums (-1)= -1:=by
    unfold nm atI mq
    rw [if_neg (by decide),if_pos (by rw [hn.len];lia)]
    simp only [Option.bind_some]
    rw [show(-1+(nums.length:Int)).toNat=T.length by rw [hn.len];lia,hn.top]
    rfl
  have inv:∀(j:Nat) (l:Int),order[j]?=some l→nm nums l=(j:Int):=fun j l hj=>by
    obtain⟨l0,l1⟩:=ho l (List.mem_of_getElem? hj)
    have g:=hg j l (List.getElem?_eq_some_iff.mp hj).1 hj
    rw [nmE l l0 l1]
    have hx:nums[l.toNat]?=some (nums.getD l.toNat (-1)):=by
      have:l.toNat < nums.length:=by rw [hn.len];lia
      simp [this]
    rcases hn.at' l.toNat _ (by lia) hx with z | ⟨p,z1,z2⟩
    · lia
    · rw [show((l.toNat:Nat):Int)=l by lia] at z2
      rw [z1,pN nd z2 hj]
  have lkR:∀(i:Nat) (w:Int) (b:Bool),order[i]?=some w→jQ (order.map (renum T nums)) i b=nm nums (jQ T w.toNat b):=fun i w b hi=>by
    obtain⟨a0,a1⟩:=ho w (List.mem_of_getElem? hi)
    rw [bZ (x:=renum T nums w) (by rw [List.getElem?_map,hi];rfl),bZ (eO a0 a1)]
    cases b<;>rfl
  have inO:∀(i:Nat) (w:Int) (b:Bool),order[i]?=some w→jQ T w.toNat b≠ -1→∃p:Nat,order[p]?=some (jQ T w.toNat b):=fun i w b hi n=>by
    obtain⟨a0,a1⟩:=ho w (List.mem_of_getElem? hi)
    rcases hw i w hi (jQ T w.toNat b) ((r_ a0 a1).mpr ⟨n,b,rfl⟩) with q | ⟨p,_,q⟩
    · cases q
    · exact⟨p,q⟩
  refine⟨fun i j a b e n=>?_,fun j j0 j1=>?_⟩
  · cases hi:order[i]? with
    | none=>exact absurd (dg (by rw [List.getElem?_map,hi];rfl)) n
    | some w=>
      cases hj:order[j]? with
      | none=>rw [dg (i:=j) (by rw [List.getElem?_map,hj];rfl)] at e;exact absurd e n
      | some v=>
        rw [lkR i w a hi] at e n
        rw [lkR j v b hj] at e
        have n1:jQ T w.toNat a≠ -1:=fun z=>n (by rw [z,nm1])
        have n2:jQ T v.toNat b≠ -1:=fun z=>n (by rw [e,z,nm1])
        obtain⟨p,hp⟩:=inO i w a hi n1
        obtain⟨q,hq⟩:=inO j v b hj n2
        rw [inv p _ hp,inv q _ hq] at e
        have:p=q:=by lia
        subst this
        rw [hp] at hq
        have e3:=Option.some.inj hq
        obtain⟨e4,e5⟩:=u w.toNat v.toNat a b e3 n1
        obtain⟨a0,a1⟩:=ho w (List.mem_of_getElem? hi)
        obtain⟨b0,b1⟩:=ho v (List.mem_of_getElem? hj)
        have:w=v:=by lia
        subst this
        exact⟨pN nd hi hj,e5⟩
  · rw [List.length_map] at j1
    have hj:order[j]?=some order[j]:=List.getElem?_eq_getElem j1
    generalize order[j]=v at hj
    have h0:order[0]?=some 0:=by
      rcases hr.fst with ⟨z,_⟩ | z
      · rw [z] at j1;simp at j1
      · exact z
    rcases hr.par v (by rw [List.append_nil];exact List.mem_of_getElem? hj) with z | ⟨x,hx,b,e,n⟩
    · subst z
      have:=pN nd h0 hj
      lia
    · obtain⟨i,hi⟩:=List.getElem?_of_mem hx
      exact⟨i,b,by rw [lkR i x b hi,e];exact inv j v hj⟩
theorem pQ{T:List Nd}(o:iY T){i:Nat}{x:Nd}(hx:T[i]?=some x)(b:Bool):wO i (CZ x b):=by
  cases b
  · exact(o i x hx).2
  · exact(o i x hx).1
theorem nS{cs:En}{g g2:FG}{ft ft2:FT}{fi2:FI}{fe:FE}{f:PyData→List PyData}(n:Nat):∀(items:List PyData) (t:En) (acc:List PyData),t.length=n→(∀x∈items,(f x).length≤2)→(∀x∈items,∀(t:En) (acc:List PyData),t.length=n→acc.length+2≤1000000→∃e1 e2 its e3 t',g x (cs++t)=some e1∧ft e1=some (true,e2)∧fi2 e2=some (its,[],e3)∧cK g2 ft2 fe its e3 acc=some (acc++f x,cs++t')∧t'.length=n)→acc.length+2*items.length≤1000000→
    ∃t',t'.length=n∧jx g ft fi2 g2 ft2 fe items (cs++t) acc=some (acc++items.flatMap f,cs++t')
  | [],t,acc,h,_,_,_=>⟨t,h,by simp [jx]⟩
  | x::r,t,acc,h,hf,hs,hl=>by
    simp only [List.length_cons] at hl
    obtain⟨e1,e2,its,e3,t1,a1,a2,a3,a4,a5⟩:=hs x (by simp) t acc h (by lia)
    have:=hf x (by simp)
    obtain⟨t',b1,b2⟩:=nS n r t1 (acc++f x) a5 (fun y hy=>hf y (by simp [hy])) (fun y hy=>hs y (by simp [hy])) (by rw [List.length_append];lia)
    refine⟨t',b1,?_⟩
    unfold jx
    simp only [a1,a2,a3,a4,b2,Option.bind_some,if_true,List.flatMap_cons,List.append_assoc]
theorem xY{cp:List (Nat × Str)}{nT:Nat}{fi fi2:FI}{g g2:FG}{ft ft2:FT}{fe:FE}{e e1 cs:En}{t t':En}{items out:List PyData}(h1:fi e=some (items,[],e1))(hc:mX cp nT e1=cs++t)(hl:cs.length=cp.length)(h3:jx g ft fi2 g2 ft2 fe items (mX cp nT e1) []=some (out,cs++t')):nI cp nT fi g ft fi2 g2 ft2 fe e=some (.l out,e1):=by
  have key:=dU (cp:=cp) (nT:=nT) (fi:=fun _=>some ([.none],[],e1)) (g:=fun _ _=>some (cs++t')) (ft:=fun e=>some (false,e)) (fe:=fe) (e:=e) (cs:=cs) (t:=t) (t':=t') (out:=[]) rfl hc hl rfl
  have c0:cK (fun _ _=>some (cs++t')) (fun e=>some (false,e)) fe [.none] (mX cp nT e1) []=some ([],cs++t'):=rfl
  unfold cT at key
  unfold nI
  rw [h1]
  simp only [Option.bind_some,List.all_nil,if_true,h3,c0] at key ⊢
  split at key
  · rename_i q
    rw [if_pos q]
    have:=Option.some.inj key
    have e2:nH (mx cp) (cs++t') e1=e1:=(Prod.ext_iff.mp this).2
    rw [e2]
  · cases key
end L2
namespace L2
open PySem PySem.Spec PyProof.Rows
section
variable{prog:Program}{w:World}{A:Around}{E:Value→Shared→Prop}{s:Shared}
end
section
variable{X:Cx}{tg a:Expr}{ta:TA}{p pos:Pos}
end
section
variable{X:Cx}{K:PySem.W.Frag}{σ:L2.St}{tg a:Expr}{fs:FA}{p pos:Pos}
end
end L2
namespace L2
open PySem PySem.Spec PyProof.Rows
section
variable{X:Cx}{a k:Expr}{p2 pos:Pos}{fa fk:FE}{K:PySem.W.Frag}
section
variable{prog:Program}{w:World}{A:Around}{E:Value→Shared→Prop}{s:Shared}
end
end
end L2
namespace L2
open PySem PySem.Spec PyProof.Rows
def sJ(a:Int)(n:Nat):List Int:=(List.range n).map fun(k:Nat)=>a+(k:Int)
theorem zN{a:Int}{n:Nat}:(sJ a n).length=n:=by simp [sJ]
section
variable{X:Cx}{a b:Expr}{ta:TA}{p p2 pos pos2:Pos}{K:PySem.W.Frag}{fs:FA}
theorem wY(hg:Gl X "range")(hm:X.mg "range"=none)(ha:PA X [a,b] ta)(hs:starEach [a,b] X.env=[(false,eval a X.env),(false,eval b X.env)])(hs2:starEach [b] X.env=[(false,eval b X.env)]){pins:List (Addr × Obj)}{s:Shared}{σ:L2.St}{H:Hp}{R:Int→Int→Hp→Prop}(I:aI X pins σ H s)(h:ta σ H fun vs H1=>∃i j:Int,vs=[.int i,.int j]∧R i j H1):
    wpAny (model X.prog X.w) X.A (eval (.Call (.Name "range" p) [a,b] [] pos) X.env) (fun v s1=>∃(r:Addr) (i j:Int) (H1:Hp) (t u w:Tok),v=.ref r∧IsRange s1.heap r i j 1 t u w∧r < s1.heap.objs.size∧aI X pins σ H1 s1∧R i j H1) X.xe s:=by
  refine Call_ (gD I hg hm boot_range (PyProof.Rows.callWith_type1 (bN (ha pos pins s σ H _ I h) fun us s1 ⟨vs,H1,I1,r1,q1⟩=>?_) (by rw [hs,hs2]) (by rw [hs2];rfl)))
  obtain⟨i,j,e,q⟩:=q1
  subst e
  cases r1 with
  | cons r rr=>
    cases rr with
    | cons r' rr=>
      cases rr
      obtain⟨t,rfl⟩:=r
      obtain⟨t',rfl⟩:=r'
      exact call_range_2 ⟨_,i,j,H1,_,_,_,rfl,IsRange.new ..,by simp [Heap.size_push],I1.kept fun b o e=>Heap.get?_push_of_some _ e,q⟩
def HB(ta:TA):TE:=fun σ H Q=>ta σ H fun vs H1=>∃i j:Int,vs=[.int i,.int j]∧(0≤i∧i≤100000∧0≤j∧j≤100000∧∀l,H1 l=none→Q (.ref l) (bc H1 l (.lst ((sJ i (j - i).toNat).map V.int))))
theorem qr(hc:X.calm=true)(hgl:Gl X "list")(hml:X.mg "list"=none)(hg:Gl X "range")(hm:X.mg "range"=none)(ha:PA X [a,b] ta)(hs:starEach [a,b] X.env=[(false,eval a X.env),(false,eval b X.env)])(hs2:starEach [b] X.env=[(false,eval b X.env)])
    (he:starEach [.Call (.Name "range" p) [a,b] [] pos] X.env=(false,eval (.Call (.Name "range" p) [a,b] [] pos) X.env)::starEach [] X.env):PE X (.Call (.Name "list" p2) [.Call (.Name "range" p) [a,b] [] pos] [] pos2) (HB ta):=by
  intro pins s σ H Q I h
  refine wpAny_Call_Name_kw (gD I hgl hml PyProof.Rows.boot_list ?_ (by decide) (by decide))
  refine PyProof.Rows.callWith_type1 ?_ he rfl
  rw [he]
  refine Calls.spliced_cons (bN (wY hg hm ha hs hs2 I h) fun u s1 ⟨r,i,j,H1,t,u1,w,e,hr,lt,I1,i0,i1,j0,j1,q⟩=>?_)
  subst e
  refine wpAny_pure ?_
  have hsm:Builtin.Range.small i j 1=true:=small_one (by lia) (by lia) (by lia) (by lia)
  refine call_list_range (n:=(j - i).toNat) (I1.ok.hd hc) hr hsm (by rw [rangeSize_one];split<;>lia) (Nat.le_trans (show(j - i).toNat≤100000 by lia) (by decide)) fun h' tk acc c hk hD hI=>?_
  have hf:H1 s1.heap.objs.size=none:=I1.hok.fresh (Nat.le_refl _)
  have vv:aW ((sJ i (j - i).toNat).map V.int) acc.toList:=by
    have z:=wH acc.toList (fun k=>i+(k:Int)) fun k v e=>by
      obtain⟨t,ht⟩:=hI.2 k v (by simpa using e)
      exact⟨t,by rw [ht];simp⟩
    rw [Array.length_toList,hI.1] at z
    rw [sJ,List.map_map]
    exact z
  refine⟨.ref s1.heap.objs.size,_,I1.laid (o:=.lst ((sJ i (j - i).toNat).map V.int)) hk (Nat.le_refl _) ⟨?_,acc.toList,c,vv,by simpa using hD⟩,rfl,q _ hf⟩
  rw [List.length_map,zN,sizeLine_eq];lia
def kS(fs:FA):FE:=fun e=>(fs e).bind fun p=>match p.1 with
  | [r,t]=>(bA r).bind fun i=>(bA t).bind fun j=>if 0≤i∧i≤100000∧0≤j∧j≤100000 then some (.l ((sJ i (j - i).toNat).map .int),p.2) else none
  | _=>none
theorem sE(hc:X.calm=true)(hgl:Gl X "list")(hml:X.mg "list"=none)(hg:Gl X "range")(hm:X.mg "range"=none)(ha:PA X [a,b] (fA K fs))(hs:starEach [a,b] X.env=[(false,eval a X.env),(false,eval b X.env)])(hs2:starEach [b] X.env=[(false,eval b X.env)])
    (he:starEach [.Call (.Name "range" p) [a,b] [] pos] X.env=[(false,eval (.Call (.Name "range" p) [a,b] [] pos) X.env)]):PE X (.Call (.Name "list" p2) [.Call (.Name "range" p) [a,b] [] pos] [] pos2) (fE K (kS fs)):=(qr hc hgl hml hg hm ha hs hs2 he).mono fun σ H Q h=>by
  obtain⟨F,e,z,e',R,hf,q⟩:=h
  unfold kS at hf
  obtain⟨⟨rs,e1⟩,h1,hf⟩:=Option.bind_eq_some_iff.mp hf
  match rs,h1,hf with
  | [r,t],h1,hf=>
  obtain⟨i,h2,hf⟩:=Option.bind_eq_some_iff.mp hf
  obtain⟨j,h3,hf⟩:=Option.bind_eq_some_iff.mp hf
  split at hf
  case isFalse=>cases hf
  case isTrue hj=>
  cases hf
  refine⟨F,e,_,e1,R,h1,fun F1 H1 vs X1 R1 A1=>?_⟩
  obtain⟨v,u,rfl,A2,A3⟩:=oU A1
  refine⟨i,j,by rw [bx A2 h2,bx A3 h3],hj.1,hj.2.1,hj.2.2.1,hj.2.2.2,fun t ht=>?_⟩
  obtain⟨R3,X3,hF,no⟩:=R1.newL (vs:=(sJ i (j - i).toNat).map V.int) ht
  exact q _ _ _ (X1.trans X3) R3 ⟨t,_,rfl,X1.dom _ ht,hF,ay,aU.ints.mpr rfl,no⟩
end
section
variable{X:Cx}{o i e:Expr}{fo fi:FE}{tpos pos:Pos}{K:PySem.W.Frag}
def Gu(K:PySem.W.Frag):V→V→Hp→VK→Prop:=fun x y H Q=>∃p xs i v,x=.ref p∧y=.int i∧0≤i∧cW K H p xs∧xs[i.toNat]?=some v∧Q v H
theorem xc:Fk X (Gu X.K):=by
  intro pins s σ H o i ov iv Q I ro ri h
  obtain⟨p,xs,k,z,rfl,rfl,k0,hq,he,q⟩:=h
  cases ro
  obtain⟨t,rfl⟩:=ri
  obtain⟨its,r,pl,hz⟩:=I.list hq
  obtain⟨w,ew,rw'⟩:=r.get he
  have hl:=r.length
  have hn:=pG
  have:=(List.getElem?_eq_some_iff.mp he).1
  exact wpAny_getItem_list pl.isList k0 (by lia) (by simpa using ew) ⟨z,H,I,rw',q⟩
def wy(fo fi:FE)(c:Int):FS:=fun e=>(fo e).bind fun o=>(fi o.2).bind fun i=>(bA i.1).bind fun k=>(iW i.2 o.1).bind fun s=>if 0≤k then
    match s.2[k.toNat]? with
    | some (.int x)=>some (.nx (i.2.set s.1 (some (.l (s.2.set k.toNat (.int (x+c)))))))
    | _=>none
  else none
theorem B2{c:Int}(ho:PE X o (fE K fo))(hi:PE X i (fE K fi))(he:PE X e (fE K (vC (.int c))))(hK:X.K=K)
    (ha:∀ov iv new,augStore i ov iv new=(do holding [new,ov,iv] (setItem ov iv new);release [new,ov,iv] [];pure .next)):PS X (.AugAssign (.Subscript o i tpos) .Add e pos) (fS K (wy fo fi c) []):=(BS ho hi (hK ▸ xc) he DD p8 ha).mono fun D σ H h=>by
  obtain⟨F,e,fl,R,hf,q⟩:=h
  unfold wy at hf
  obtain⟨⟨ro,e2⟩,g3,hf⟩:=Option.bind_eq_some_iff.mp hf
  obtain⟨⟨ri,e3⟩,g4,hf⟩:=Option.bind_eq_some_iff.mp hf
  obtain⟨k,g5,hf⟩:=Option.bind_eq_some_iff.mp hf
  obtain⟨⟨n,xs⟩,g6,hf⟩:=Option.bind_eq_some_iff.mp hf
  split at hf
  case isFalse=>cases hf
  case isTrue k0=>
  split at hf
  case h_2=>cases hf
  case h_1 x g7=>
  cases hf
  obtain⟨z6,g6'⟩:=nB g6
  dsimp only at z6 g6' g7
  subst z6
  refine⟨F,e,_,e2,R,g3,fun F2 H2 u X2 R2 A2=>⟨F2,e2,ri,e3,R2,g4,fun F3 H3 w X3 R3 A3=>?_⟩⟩
  obtain⟨h1,_⟩:=A2
  obtain⟨l,vs,k1,k2,k3,k4⟩:=R3.own n xs g6'
  rw [h1] at k1;cases k1
  obtain⟨v,hv,dv⟩:=k4.get g7
  have hv2:v=V.int x:=by simpa only [DA] using dv
  subst hv2
  refine⟨l,vs,k,_,rfl,bx A3 g5,k0,.inl (.inl k3),hv,F3,e3,.d (.int c),e3,R3,rfl,fun F4 H4 y X4 R4 A4=>?_⟩
  have hy:y=V.int c:=bx A4 rfl
  subst hy
  refine⟨x,c,rfl,rfl,?_⟩
  obtain⟨l',vs',j1,j2,j3,j4⟩:=R4.own n xs g6'
  rw [h1] at j1;cases j1
  have hlt:=(List.getElem?_eq_some_iff.mp g7).1
  have hix:mq vs'.length k=some k.toNat:=by
    rw [←j4.len]
    unfold mq
    rw [if_pos k0,if_pos (by lia)]
  refine⟨l,vs',k,k.toNat,rfl,bx A3 g5,j3,hix,?_⟩
  obtain⟨R5,X5⟩:=R4.putL g6' h1 (j4.set (d:=.int (x+c)) (v:=V.int (x+c)) (by simp only [DA]) k.toNat)
  exact q _ _ σ (((X2.trans X3).trans X4).trans X5).s R5
end
end L2
namespace L2
open PySem PySem.Spec PyProof.Rows
section
variable{X:Cx}{K:PySem.W.Frag}
end
end L2
namespace L2
open PySem PySem.Spec PyProof.Rows
section
open PySem.MeetsSeq2 PySem.AutoSeq1 PySem.SeqAt
end
section
variable{X:Cx}{K:PySem.W.Frag}{o a:Expr}{to te:TE}{name:Str}{apos cpos:Pos}{T id:String}{r:V→List V→Hp→VK→Prop}{fo fa:FE}
def gC(ns:List Int)(k:Int):Option Nat:=some (ns.count k)
end
end L2
namespace L2
open PySem PySem.Spec PyProof.Rows
section
variable{X:Cx}{K:PySem.W.Frag}{o a:Expr}{apos cpos:Pos}{fo fa:FE}
end
end L2
namespace L2
open PySem PySem.Spec PyProof.Rows
section
variable{K:PySem.W.Frag}{F H:Hp}{σ:L2.St}{e:En}{cp:List (Nat × Str)}{nT:Nat}
end
section
variable{X:Cx}{K:PySem.W.Frag}{a b:Expr}{es:List Expr}{fa fb:FE}{fs:FA}{pos p p2 p3:Pos}{lo hi:Option Expr}
end
end L2
namespace L2
open PySem PySem.Spec PyProof.Rows
section
variable{X:Cx}{K:PySem.W.Frag}
end
end L2
namespace L2
open PySem PySem.Spec PyProof.Rows
section
variable{X:Cx}{K:PySem.W.Frag}{a b:Expr}{fa fb:FE}{pos:Pos}
end
end L2
namespace L2
open PySem PySem.Spec PyProof.Rows
section
variable{X:Cx}{K:PySem.W.Frag}
theorem tu{prog:Program}{w:World}{A:Around}{E:Value→Shared→Prop}{s:Shared}{t:Addr}{vs:List Value}{Q:List Value→Shared→Prop}(ht:s.heap.IsList t vs.toArray)
    (h:Q vs {s with heap:=(s.heap.push (seqObj "list" #[] 0)).update s.heap.objs.size (Obj.mapSeq (· ++vs.toArray))})(hsz:vs.length≤sizeLine):wpAny (model prog w) A (collect (.ref t)) Q E s:=by
  obtain⟨o,ho,hc,n,hd⟩:=id ht;unfold collect;refine wpAny_bind (wpAny_runValue (codeAny_builtin entry_proto_collect' ?_))
  show wpAny _ _ (do again (.builtin "list.__iadd__" ⟨[←newList [],.ref t],[]⟩)) _ _ s
  refine wpAny_bind (wpAny_newList (wpAny_pure ⟨Code.quiet_builtin _ (by decide+kernel),?_⟩));refine codeAny_builtin entry_list_iadd' ?_
  show wpAny _ _ (Builtin.List.listExtendWith (.ref s.heap.objs.size) (.ref t) (.ref s.heap.objs.size)) _ _ {s with heap:=s.heap.push (seqObj "list" #[] 0)}
  unfold Builtin.List.listExtendWith;have ho':(s.heap.push (seqObj "list" #[] 0)).get? t=some o:=Heap.get?_push_of_some _ ho
  refine wpAny_bind (wpAny_typeOf (T:="list") ⟨o,ho',hc⟩ ?_)
  rw [if_pos (by rw [show(Value.type "list"==Value.type "list")=true from rfl,Bool.or_true,Bool.true_or])]
  refine wpAny_bind (listItems_at ho' hd ?_);refine wpAny_bind (listItems_at (xs:=#[]) (n:=0) (Heap.get?_push_size _ rfl) rfl ?_)
  rw [if_neg (by simp)];refine wpAny_bind (listUpdate_at (xs:=#[]) (n:=0) (Heap.get?_push_size _ rfl) rfl ?_ (Nat.zero_le _) (by show(#[]++vs.toArray).size≤sizeLine+1;simp only [Array.size_append,List.size_toArray,List.length_nil];lia))
  refine wpAny_pure ?_
  show wpAny (model prog w) A (load s.heap.objs.size >>= fun o=>match o.data with | .seq xs _=>pure xs.toList | _=>unsupported "internal:collect") Q E {s with heap:=(s.heap.push (seqObj "list" #[] 0)).update s.heap.objs.size (Obj.mapSeq (· ++vs.toArray))}
  refine wpAny_bind (wpAny_load (get?_update_seq (Heap.get?_push_size _ rfl) _) ?_);show wpAny _ _ (pure ((#[]:Array Value)++vs.toArray).toList) Q E _;rw [show((#[]:Array Value)++vs.toArray).toList=vs by simp];exact wpAny_pure h
theorem vn{prog:Program}{w:World}{A:Around}{E:Value→Shared→Prop}{s:Shared}{t:Addr}{vs:List Value}{ns:List Int}{Q:Value→Shared→Prop}(ht:s.heap.IsList t vs.toArray)(hI:IntsAre vs ns)(h64:vs.length < 64)
    (h:∀(out:Array Value) (ns':List Int),IntsAre out.toList ns'→ns'.Perm ns→ns'.Pairwise (· ≤·)→Q (.ref (s.heap.objs.size+1)) {s with heap:=sortedAll s.heap vs out}):wpAny (model prog w) A (call (.builtin "sorted") [.ref t]) Q E s:=by
  refine Calls.call_function_entry kind_sorted plain_sorted entry_sorted (args_sorted1 _) ?_;unfold Builtin.«sorted»
  refine wpAny_bind (m:=checkCount "sorted" 1 1 _) (wpAny_pure ?_);refine wpAny_bind (tu ht ?_ (Nat.le_trans (Nat.le_of_lt h64) (by decide)))
  have z:((s.heap.push (seqObj "list" #[] 0)).update s.heap.objs.size (Obj.mapSeq (· ++vs.toArray))).objs.size=s.heap.objs.size+1:=by rw [Heap.size_update,size_push']
  have o:(((s.heap.push (seqObj "list" #[] 0)).update s.heap.objs.size (Obj.mapSeq (· ++vs.toArray))).push (seqObj "list" vs.toArray 0)).get? (s.heap.objs.size+1)=some (seqObj "list" vs.toArray 0):=by rw [←z];exact Heap.get?_push_size _ rfl
  refine wpAny_bind (wpAny_newList ?_);show wpAny _ _ _ _ _ {s with heap:=((s.heap.push (seqObj "list" #[] 0)).update s.heap.objs.size (Obj.mapSeq (· ++vs.toArray))).push (seqObj "list" vs.toArray 0)}
  rw [z];refine wpAny_bind (wpAny_holding (wpAny_call_entry slot_list_sort ⟨_,o,rfl⟩ entry_list_sort (list_sort_tree o hI h64 fun out ns' b1 b2 b3=>⟨_,rfl,?_⟩) (args_list_sort _)))
  exact wpAny_pure ⟨_,rfl,h out ns' b1 b2 b3⟩
theorem rR:ed X (.builtin "sorted") (fun xs H Q=>∃(a:Addr) (ns:List Int),xs=[.ref a]∧cW X.K H a (ns.map V.int)∧ns.length < 64∧∀(l:Addr) (ns':List Int) (H':Hp),aD H H'→H l=none→H' l=some (.lst (ns'.map V.int))→ns'.Perm ns→ns'.Pairwise (· ≤·)→Q (.ref l) H'):=by
  intro pins s σ H xs us Q I r h
  obtain⟨a,ns,rfl,hs,h64,q⟩:=h
  obtain⟨u,rfl,ru⟩:=nh r
  cases ru
  obtain⟨its,rv,p,hz⟩:=I.list hs
  have hl:=rv.length
  rw [List.length_map] at hl
  refine vn p.isList (pE rv) (by lia) fun out ns' a1 a2 a3=>?_
  obtain⟨e,he⟩:=sortedAll_at s.heap its out
  have hf:H (s.heap.objs.size+1)=none:=I.hok.fresh (Nat.le_succ _)
  refine⟨.ref (s.heap.objs.size+1),bc H (s.heap.objs.size+1) (.lst (ns'.map V.int)),I.laid (t':=s.toks) (fun _ _=>sortedAll_old) (Nat.le_succ _) ⟨?_,out.toList,e,lm a1,?_⟩,rfl,q _ ns' _ (aD.new hf) hf ay a2 a3⟩
  · rw [List.length_map,a2.length_eq]
    exact Nat.le_trans (Nat.le_of_lt h64) (by decide)
  · simpa [seqObj] using he
def df:En→Rv→Option Rv:=fun e x=>(eQ e x).bind fun z=>(eW z.2).bind fun ns=>if ns.length < 64 then some (.l ((eX ns).map .int)) else none
def zL(K:PySem.W.Frag):List V→Hp→VK→Prop:=fun xs H Q=>∃(a:Addr) (ns:List Int),xs=[.ref a]∧(cW K H a (ns.map V.int)∨cg K H a (ns.map V.int))∧ns.length < 64∧∀(l:Addr) (H':Hp),aD H H'→H l=none→H' l=some (.lst ((eX ns).map V.int))→Q (.ref l) H'
theorem uK:ed X (.builtin "sorted") (zL X.K):=by
  intro pins s σ H xs us Q I rv h
  obtain⟨a,ns,e1,e2,e3,q⟩:=h
  rcases e2 with e2 | e2
  · exact rR pins s σ H xs us Q I rv ⟨a,ns,e1,e2,e3,fun l ns' H' sm hn hl hp hs=>q l H' sm hn (by rw [←mT hp hs];exact hl)⟩
  · exact nR pins s σ H xs us Q I rv ⟨a,ns,e1,e2,e3,fun l ns' H' sm hn hl hp hs=>q l H' sm hn (by rw [←mT hp hs];exact hl)⟩
theorem B':eV K (zL K) (g1 df):=iE fun σ H0 F H e x z v Q R A hg q=>by
  unfold df at hg
  obtain⟨⟨b,ds⟩,h1,hg⟩:=Option.bind_eq_some_iff.mp hg
  obtain⟨ns,h6,hg⟩:=Option.bind_eq_some_iff.mp hg
  split at hg
  case isFalse=>cases hg
  case isTrue hl=>
  cases hg
  obtain⟨p,vs,rfl,d1,s1⟩:=dZ R A h1
  have e1:ds=ns.map .int:=pF h6
  subst e1
  have e2:=aU.ints.mp d1
  subst e2
  refine⟨p,ns,rfl,?_,hl,fun l H' sm hn hl'=>?_⟩
  · cases b with
    | true=>exact .inl s1
    | false=>exact .inr s1
  obtain⟨R4,X4⟩:=R.same sm
  exact q F H' _ X4 R4 ⟨l,_,rfl,hn,R.freeF hn,hl',aU.ints.mpr rfl,fun z=>R.ownH l ((R.sameOwn sm l).mp z) hn⟩
theorem lY(hK:X.K=K):oY X K "sorted" (g1 df):=⟨.inl ⟨_,_,hK ▸ uK,B',PyProof.Rows.boot_sorted⟩⟩
theorem yB{e:En}{i:Nat}{ns:List Int}(hi:e[i]?=some (some (.l (ns.map .int))))(h:ns.length < 64):g1 df e [.s i]=some (.l ((eX ns).map .int)):=by
  simp [g1,df,eQ,hi,dz,h]
theorem mh{e:En}{ns:List Int}(h:ns.length < 64):g1 df e [.d (.tuple (ns.map .int))]=some (.l ((eX ns).map .int)):=by
  simp [g1,df,eQ,dz,h]
end
end L2
namespace L2
open PySem PySem.Spec PyProof.Rows
structure Sw (b:Bool) (n dep:Nat) (d:PyData):Prop where
  dl:bif b then yZ d=true else d.hasDict=false
  sh:d.showable=true
  dp:d.depth≤dep
  ln:d.shown.length+2≤n
  so:PyData.strOk d.shown=true
end L2
namespace L2
open PySem PySem.Spec PyProof.Rows
structure S1 (n:Nat) (f:Fr):Prop where
  low:H_ f
  lo:0≤f.1
  hi:f.1≤f.2
  bt:Bt n f.2
structure Iy (b f g:Fr):Prop where
  pf:0 < f.2
  pg:0 < g.2
  eq:g.1*(f.2*b.1)=g.2*(f.1*b.2)
end L2
namespace L2
open PySem PySem.Spec PyProof.Rows
def vR(f:Fr):Rat:=(f.1:Rat) / (f.2:Rat)
def cR(t:oC)(b:Bool):Rat:=vR (Ij t b)
end L2
namespace L2
open PySem PySem.Spec PyProof.Rows
theorem AI{a:List Int}{k q:Int}:q∈aM.askd a k↔ q∈a∨q=k:=by
  unfold aM.askd
  rw [(iy _).mem_iff,List.mem_append]
  simp
theorem DP{W:aM}{n:Nat}{S:Nat→Std}{i:Nat}{x:Nd}(h:rK W n S i x)(b:Bool):lU W n S i x.tie b (CZ x b):=by
  cases b
  · exact h.no
  · exact h.yes
theorem BI{l m:List Int}(hl:l.Nodup)(hm:m.Nodup)(h:∀x,x∈l↔ x∈m):l.Perm m:=by
  induction l generalizing m with
  | nil=>
    cases m with
    | nil=>exact .refl _
    | cons y r=>exact absurd ((h y).mpr (by simp)) (by simp)
  | cons x r ih=>
    have hx:x∈m:=(h x).mp (by simp)
    have nd:=List.nodup_cons.mp hl
    refine List.Perm.trans (.cons x (ih nd.2 (hm.erase x) fun y=>?_)) (List.perm_cons_erase hx).symm
    rw [hm.mem_erase_iff]
    constructor
    · intro hy
      exact⟨fun e=>nd.1 (e ▸ hy),(h y).mp (by simp [hy])⟩
    · rintro⟨ne,hy⟩
      rcases List.mem_cons.mp ((h y).mpr hy) with e | e
      · exact absurd e ne
      · exact e
def yR(T:List Nd)(i:Nat):List Int:=(if jQ T i true= -1 then [] else [jQ T i true])++(if jQ T i false= -1 then [] else [jQ T i false])
def pH(T:List Nd):Nat→List Int
  | 0=>[]
  | m+1=>pH T m++yR T m
theorem mr{T:List Nd}{i:Nat}{y:Int}:y∈yR T i↔ y≠ -1∧∃b,jQ T i b=y:=by
  unfold yR
  rw [List.mem_append]
  constructor
  · rintro(h | h)
    · split at h
      · cases h
      · rename_i c;simp at h;subst h;exact⟨c,true,rfl⟩
    · split at h
      · cases h
      · rename_i c;simp at h;subst h;exact⟨c,false,rfl⟩
  · rintro⟨ne,b,rfl⟩
    cases b
    · right;rw [if_neg ne];simp
    · left;rw [if_neg ne];simp
theorem xk{T:List Nd}(u:uF T)(i:Nat):(yR T i).Nodup:=by
  unfold yR
  split
  · split<;>simp
  · rename_i c
    split
    · simp
    · simp only [List.cons_append,List.nil_append,List.nodup_cons,List.mem_cons,List.not_mem_nil,or_false,not_false_eq_true,List.nodup_nil,and_true]
      intro e
      have:=u i i true false e c
      cases this.2
theorem oR{T:List Nd}{y:Int}:∀m,y∈pH T m↔ ∃i,i < m∧y∈yR T i
  | 0=>by simp [pH]
  | m+1=>by
    rw [pH,List.mem_append,oR m]
    constructor
    · rintro(⟨i,hi,h⟩ | h)
      · exact⟨i,by lia,h⟩
      · exact⟨m,by lia,h⟩
    · rintro⟨i,hi,h⟩
      by_cases c:i=m
      · subst c;exact .inr h
      · exact .inl ⟨i,by lia,h⟩
theorem qV{T:List Nd}(u:uF T):∀m,(pH T m).Nodup
  | 0=>List.nodup_nil
  | m+1=>by
    rw [pH,List.nodup_append]
    refine⟨qV u m,xk u m,fun a ha b hb e=>?_⟩
    subst e
    obtain⟨i,hi,hm⟩:=(oR m).mp ha
    obtain⟨ne,b1,e1⟩:=mr.mp hm
    obtain⟨_,b2,e2⟩:=mr.mp hb
    have:=(u i m b1 b2 (by rw [e1,e2]) (by rw [e1];exact ne)).1
    lia
theorem yP{T:List Nd}{W:aM}{S:Nat→Std}(h:dN W T S)(o:iY T)(t:iZ T):(0::pH T T.length).Perm ((List.range (max 1 T.length)).map Int.ofNat):=by
  have lt:∀i b,jQ T i b≠ -1→0 < jQ T i b∧jQ T i b < (T.length:Int):=fun i b ne=>by
    cases hx:T[i]? with
    | none=>exact absurd (dg hx) ne
    | some x=>
      rw [bZ hx] at ne ⊢
      have r:=(DP (h i x hx) b).rng
      have:=pQ o hx b
      rcases this with z | z
      · exact absurd z ne
      · lia
  refine BI (List.nodup_cons.mpr ⟨fun hm=>?_,qV t.1 _⟩) ?_ fun y=>?_
  · obtain⟨i,_,hi⟩:=(oR _).mp hm
    obtain⟨ne,b,e⟩:=mr.mp hi
    have:=lt i b (by rw [e];exact ne)
    lia
  · exact List.Pairwise.map _ (fun a b hab e=>hab (Int.ofNat.inj e)) List.nodup_range
  · rw [List.mem_cons,oR,List.mem_map]
    constructor
    · rintro(rfl | ⟨i,_,hi⟩)
      · exact⟨0,by simp;lia,rfl⟩
      · obtain⟨ne,b,e⟩:=mr.mp hi
        have:=lt i b (by rw [e];exact ne)
        refine⟨y.toNat,by simp;lia,?_⟩
        show(y.toNat:Int)=y
        lia
    · rintro⟨j,hj,rfl⟩
      by_cases c:j=0
      · left;subst c;rfl
      · right
        have hj':j < T.length:=by simp at hj;lia
        obtain⟨i,b,e⟩:=t.2 j (by lia) hj'
        have ne:jQ T i b≠ -1:=by rw [e];lia
        have il:i < T.length:=by
          by_cases z:i < T.length
          · exact z
          · exact absurd (dg (List.getElem?_eq_none (by lia))) ne
        exact⟨i,il,mr.mpr ⟨by show(j:Int)≠ -1;lia,b,e⟩⟩
def hR(t:oC):Rat:=cR t true*(t.worth:Rat)
end L2
namespace L2
open PySem PySem.Spec PyProof.Rows
structure CC (O:aM) (ss ws:List Std):Prop where
  len:ss.length=ws.length
  at':∀j,(ss.getD j ([],[])).1=(ws.getD j ([],[])).1∧(ss.getD j ([],[])).2.length≤2*(ss.getD j ([],[])).1.length∧∀k∈(ss.getD j ([],[])).1,jO O k
theorem Am{W:aM}{t:List Int}{k:Int}{b:Bool}:(W.took t k b).length≤t.length+2:=by
  unfold aM.took
  split
  · rw [(iy _).length_eq];simp
  · lia
theorem pk{α:Type}{l:List α}{i j:Nat}{v d:α}(hi:i < l.length):(l.set i v).getD j d=if j=i then v else l.getD j d:=by
  simp only [List.getD_eq_getElem?_getD]
  by_cases e:j=i
  · subst e;rw [if_pos rfl,List.getElem?_set_self hi];rfl
  · rw [if_neg e,List.getElem?_set_ne (fun z=>e z.symm)]
theorem CC.stp{O W:aM}{ss ws:List Std}{i:Nat}{k:Int}{b:Bool}{l:Int}(h:CC O ss ws)(hk:jO O k)(hl: -1≤l∧l < (ss.length:Int)):CC O (L2.stp O ss i k b l) (L2.stp W ws i k b l):=by
  unfold L2.stp
  by_cases c:l= -1
  · rw [if_pos c,if_pos c];exact h
  · rw [if_neg c,if_neg c]
    have hl':l.toNat < ss.length:=by lia
    refine⟨by rw [List.length_set,List.length_set];exact h.len,fun j=>?_⟩
    rw [pk hl',pk (by rw [←h.len];exact hl')]
    by_cases e:j=l.toNat
    · rw [if_pos e,if_pos e]
      obtain⟨a1,a2,a3⟩:=h.at' i
      refine⟨?_,?_,fun q hq=>?_⟩
      · show aM.askd _ k=aM.askd _ k
        rw [a1]
      · have l1:(nxt O (ss.getD i ([],[])) k b).2.length≤(ss.getD i ([],[])).2.length+2:=Am
        have l2:(nxt O (ss.getD i ([],[])) k b).1.length=(ss.getD i ([],[])).1.length+1:=i3
        lia
      · rcases AI.mp hq with z | z
        · exact a3 q z
        · rw [z];exact hk
    · rw [if_neg e,if_neg e]
      exact h.at' j
structure Cy (O:aM) (T:List Nd):Prop where
  tie:∀(i:Nat) (x:Nd),T[i]?=some x→jO O x.tie
  lk:∀(i:Nat) (x:Nd),T[i]?=some x→(-1≤x.yes∧x.yes < (T.length:Int))∧(-1≤x.no∧x.no < (T.length:Int))
theorem jk{W:aM}{T:List Nd}:∀m,(aE W T m).length=T.length
  | 0=>by simp [aE]
  | m+1=>by
    rw [aE]
    cases h:T[m]? with
    | none=>exact jk m
    | some x=>simp only [std1,li];exact jk m
theorem CC.all{O W:aM}{T:List Nd}(h:Cy O T):∀m,CC O (aE O T m) (aE W T m)
  | 0=>⟨by simp [aE],fun j=>by
    have e:(aE O T 0).getD j ([],[])=([],[]):=by
      rw [aE,List.getD_eq_getElem?_getD,List.getElem?_replicate];split<;>rfl
    have e2:(aE W T 0).getD j ([],[])=([],[]):=by
      rw [aE,List.getD_eq_getElem?_getD,List.getElem?_replicate];split<;>rfl
    rw [e,e2]
    exact⟨rfl,Nat.le_refl _,fun k hk=>by cases hk⟩⟩
  | m+1=>by
    have ih:=CC.all (W:=W) h m
    cases hx:T[m]? with
    | none=>rw [aE,aE,hx];exact ih
    | some x=>
      rw [kQ hx,kQ hx]
      have l:=h.lk m x hx
      have sl:=jk (W:=O) (T:=T) m
      exact(ih.stp (h.tie m x hx) (by rw [sl];exact l.1)).stp (h.tie m x hx) (by rw [li,sl];exact l.2)
theorem lj{W:aM}{ss:List Std}{i j:Nat}{k:Int}{b:Bool}{l:Int}(h:l= -1∨l.toNat≠j):(stp W ss i k b l).getD j ([],[])=ss.getD j ([],[]):=by
  unfold stp
  by_cases c:l= -1
  · rw [if_pos c]
  · rw [if_neg c]
    simp only [List.getD_eq_getElem?_getD]
    rw [List.getElem?_set_ne (by rcases h with z | z;exact absurd z c;exact z)]
theorem zY{W:aM}{ss:List Std}{i j:Nat}{k:Int}{b:Bool}{l:Int}(h:l≠ -1)(hl:l.toNat < ss.length)(hj:j=l.toNat):(stp W ss i k b l).getD j ([],[])=nxt W (ss.getD i ([],[])) k b:=by
  unfold stp
  rw [if_neg h,pk hl,if_pos hj]
theorem yN{W O:aM}(ok:W.Ok){T:List Nd}{S:Nat→Std}(h:dN W T S)(o:iY T)(hO:Cy O T)(m i:Nat)(hi:i < T.length):((aE O T m).getD i ([],[])).1.length≤15∧((aE O T m).getD i ([],[])).2.length≤30:=by
  obtain⟨a1,a2,_⟩:=(CC.all (W:=W) hO m).at' i
  have s:=(lq.all ok h m).short ok h hi
  rw [a1] at*
  lia
theorem ui{W:aM}{T:List Nd}{S:Nat→Std}(h:dN W T S)(o:iY T)(t:iZ T)(h0:0 < T.length→S 0=([],[])):∀m,m≤T.length→∀j,j < T.length→(j=0∨∃i b,i < m∧jQ T i b=(j:Int))→(aE W T m).getD j ([],[])=S j
  | 0,_,j,hj,hp=>by
    rcases hp with rfl | ⟨i,b,hi,_⟩
    · rw [h0 hj,aE,List.getD_eq_getElem?_getD,List.getElem?_replicate];split<;>rfl
    · lia
  | m+1,hm,j,hj,hp=>by
    have hx:=List.getElem?_eq_getElem (show m < T.length by lia)
    have nd:=h m _ hx
    have ih:=ui h o t h0 m (by lia)
    have sl:=jk (W:=W) (T:=T) m
    have Sm:(aE W T m).getD m ([],[])=S m:=ih m (by lia) (by
      by_cases c:m=0
      · exact .inl c
      · obtain⟨i,b,e⟩:=t.2 m (by lia) (by lia)
        refine .inr ⟨i,b,?_,e⟩
        cases hx2:T[i]? with
        | none=>rw [dg hx2] at e;lia
        | some x=>
          rw [bZ hx2] at e
          have:=pQ o hx2 b
          rcases this with z | z<;>lia)
    rw [kQ hx]
    unfold std1
    have o1:=pQ o hx true
    have o2:=pQ o hx false
    change wO m (T[m]).yes at o1
    change wO m (T[m]).no at o2
    have ne:(T[m]).yes≠ -1→(T[m]).yes≠(T[m]).no:=fun c e=>by
      have:=t.1 m m true false (by rw [bZ hx,bZ hx];exact e) (by rw [bZ hx];exact c)
      cases this.2
    have my:(T[m]).yes= -1∨(T[m]).yes.toNat≠m:=by rcases o1 with z | z;exact .inl z;exact .inr (by lia)
    by_cases cn:(j:Int)=(T[m]).no
    · -- led to by the no of node m
      have n1:(T[m]).no≠ -1:=by lia
      rcases nd.no with z | ⟨z1,z2,z3⟩
      · exact absurd z n1
      · rw [zY n1 (by rw [li,sl];lia) (by lia),lj my,Sm,←z3]
        congr 1
        lia
    · rw [lj (by by_cases z:(T[m]).no= -1;exact .inl z;exact .inr (by rcases nd.no with q | ⟨q,_,_⟩<;>lia))]
      by_cases cy:(j:Int)=(T[m]).yes
      · have n1:(T[m]).yes≠ -1:=by lia
        rcases nd.yes with z | ⟨z1,z2,z3⟩
        · exact absurd z n1
        · rw [zY n1 (by rw [sl];lia) (by lia),Sm,←z3]
          congr 1
          lia
      · rw [lj (by by_cases z:(T[m]).yes= -1;exact .inl z;exact .inr (by rcases nd.yes with q | ⟨q,_,_⟩<;>lia))]
        refine ih j hj ?_
        rcases hp with z | ⟨i,b,hi,e⟩
        · exact .inl z
        · refine .inr ⟨i,b,?_,e⟩
          by_cases c:i=m
          · subst c
            rw [bZ hx] at e
            cases b
            · exact absurd e.symm cn
            · exact absurd e.symm cy
          · lia
theorem EQ{W:aM}{T:List Nd}{S:Nat→Std}(h:dN W T S)(o:iY T)(t:iZ T)(h0:0 < T.length→S 0=([],[])){j:Nat}(hj:j < T.length):(aE W T T.length).getD j ([],[])=S j:=by
  refine ui h o t h0 T.length (Nat.le_refl _) j hj ?_
  by_cases c:j=0
  · exact .inl c
  · obtain⟨i,b,e⟩:=t.2 j (by lia) hj
    refine .inr ⟨i,b,?_,e⟩
    by_cases z:i < T.length
    · exact z
    · rw [dg (List.getElem?_eq_none (by lia))] at e;lia
def md(O:aM)(T:List Nd):Bool:=T.all fun x=>decide (0≤x.tie)&&decide (x.tie < (O.ties.length:Int))
def qm(O:aM)(p:Nd × Std):Bool:=O.may p.2.1 p.2.2 p.1.tie
def A_(O:aM)(T:List Nd):Bool:=md O T&&(T.zip (aE O T T.length)).all (qm O)
theorem pb{O W:aM}{T:List Nd}{S:Nat→Std}(h:dN W T S)(hf:md O T=true):Cy O T:=by
  refine⟨fun i x hx=>?_,fun i x hx=>⟨(h i x hx).yes.rng,(h i x hx).no.rng⟩⟩
  have:=List.all_eq_true.mp hf x (List.mem_of_getElem? hx)
  rw [Bool.and_eq_true,decide_eq_true_eq,decide_eq_true_eq] at this
  exact this
theorem Ba{W:aM}{T:List Nd}{S:Nat→Std}(h:dN W T S)(o:iY T)(t:iZ T)(h0:0 < T.length→S 0=([],[])):A_ W T=true:=by
  unfold A_
  rw [Bool.and_eq_true]
  constructor
  · refine List.all_eq_true.mpr fun x hx=>?_
    obtain⟨i,hi⟩:=List.getElem?_of_mem hx
    have:=(h i x hi).tie
    rw [Bool.and_eq_true,decide_eq_true_eq,decide_eq_true_eq]
    exact this
  · refine List.all_eq_true.mpr fun p hp=>?_
    obtain⟨i,hi⟩:=List.getElem?_of_mem hp
    rw [List.getElem?_zip_eq_some] at hi
    have il:=(List.getElem?_eq_some_iff.mp hi.1).1
    have e:=EQ h o t h0 il
    rw [List.getD_eq_getElem?_getD,hi.2] at e
    have e':p.2=S i:=e
    unfold qm
    rw [e']
    exact(h i p.1 hi.1).may
theorem nG{T:List Nd}{W:aM}{S:Nat→Std}(h:dN W T S)(o:iY T)(t:iZ T):(pH T T.length).Perm ((List.range (T.length - 1)).map fun(i:Nat)=>(1:Int)+(i:Int)):=by
  have p:=yP h o t
  have e:(List.range (max 1 T.length)).map Int.ofNat=0::(List.range (T.length - 1)).map fun(i:Nat)=>(1:Int)+(i:Int):=by
    rw [show max 1 T.length=(T.length - 1)+1 by lia,List.range_succ_eq_map,List.map_cons,List.map_map]
    congr 1
    refine List.map_congr_left fun i _=>?_
    show((i+1:Nat):Int)=1+(i:Int)
    lia
  rw [e] at p
  exact(List.perm_cons _).mp p
theorem zX{n:Nat}{l:List Int}(h:l.Perm ((List.range n).map fun(i:Nat)=>(1:Int)+(i:Int))):eX l=(List.range n).map fun(i:Nat)=>(1:Int)+(i:Int):=by
  refine(mT h.symm ?_).symm
  rw [List.pairwise_map]
  exact List.pairwise_lt_range.imp fun h=>by lia
theorem AQ{T:List Nd}{W:aM}{S:Nat→Std}(h:dN W T S)(o:iY T)(t:iZ T){j:Nat}(h1:0 < j)(h2:j < T.length):(pH T T.length).count (j:Int)=1:=by
  rw [(nG h o t).count_eq]
  have nd:((List.range (T.length - 1)).map fun(i:Nat)=>(1:Int)+(i:Int)).Nodup:=by
    unfold List.Nodup
    rw [List.pairwise_map]
    exact List.pairwise_lt_range.imp fun h=>by lia
  rw [nd.count,if_pos]
  exact List.mem_map.mpr ⟨j - 1,by simp;lia,by lia⟩
end L2
namespace V14
open PySem PySem.Spec PyProof.Rows L2
variable{P:Program}{w:World}{K:W.Frag}{mg:Str→Option Value}{base:Heap}{f:Addr}{fd:FuncData}
local macro_rules|`(tactic|trivial)=>`(tactic|first|exact .inl rfl|exact .inr rfl|assumption)
local macro_rules|`(¬$n:num)=>`(@qw _ _ $n _ _ (by rfl) (by rfl) (by decide))
local macro_rules|`($a∘$b)=>`(@Hv _ _ _ _ _ _ $a $b (by rfl))
def top(i:Nat):Stmt:=PySem.Challenge.pw_askedpairs_k14_trees_in_other_webs.main.body.getD i (.Pass ⟨0,0,0,0⟩)
theorem og{α:Type u}{β:Type v}{f:α→β}:List.map f []=[]:=rfl
theorem oa{α:Type u}{β:Type v}{f:α→β}{a:α}{l:List α}:List.map f (a::l)=f a::List.map f l:=rfl
theorem nX{α:Type u}{l:List α}:[]++l=l:=rfl
theorem nW{α:Type u}{a:α}{l m:List α}:(a::l)++m=a::(l++m):=rfl
theorem nZ{α:Type u}{a:α}{l:List α}:(a::l)[0]?=some a:=rfl
theorem n_{α:Type u}{a:α}{l:List α}{i:Nat}:(a::l)[i+1]?=l[i]?:=rfl
theorem nY{α:Type u}{β:Type v}{a:α}{f:α→Option β}:Option.bind (some a) f=f a:=rfl
theorem oh{α:Type u}{β:Type v}{a:α}{f:α→β}:Option.map f (some a)=some (f a):=rfl
abbrev eu:Stmt:=top 1
abbrev bQ:Stmt:=top 2
abbrev gu:Stmt:=top 3
abbrev dq:Stmt:=top 6
abbrev ey:Stmt:=top 7
abbrev cA:Stmt:=top 8
abbrev h9:Stmt:=top 9
abbrev dn:Stmt:=top 10
abbrev jh:Stmt:=top 14
abbrev ji:Stmt:=top 15
abbrev cB:Stmt:=top 16
abbrev cC:Stmt:=top 17
abbrev h8:Stmt:=top 18
abbrev eA:Stmt:=top 19
abbrev mI:Stmt:=top 21
abbrev mH:Stmt:=top 22
abbrev iU:Stmt:=top 23
abbrev tZ:Stmt:=top 24
abbrev t9:Stmt:=top 25
abbrev pT:Stmt:=top 26
abbrev kN:Stmt:=top 27
abbrev mJ:Stmt:=top 28
abbrev pU:Stmt:=top 29
abbrev t_:Stmt:=top 30
abbrev kO:Stmt:=top 31
abbrev fx:Stmt:=top 32
abbrev rd:Stmt:=top 33
abbrev je:Stmt:=top 34
abbrev hX:Stmt:=top 35
abbrev lc:Stmt:=top 36
abbrev kP:Stmt:=top 37
abbrev gp:Stmt:=top 38
abbrev gq:Stmt:=top 39
abbrev jg:Stmt:=top 40
abbrev jf:Stmt:=top 41
abbrev cJ:Stmt:=top 42
abbrev eP:Stmt:=top 43
abbrev dH:Stmt:=top 44
abbrev pW:Stmt:=top 45
structure jm (mg:Str→Option Value):Prop where
  b_abs:mg "abs"=none
  b_len:mg "len"=none
  b_min:mg "min"=none
  b_max:mg "max"=none
  b_range:mg "range"=none
  b_tuple:mg "tuple"=none
  b_int:mg "int"=none
  b_sorted:mg "sorted"=none
  b_zip:mg "zip"=none
  b_enumerate:mg "enumerate"=none
  b_isinstance:mg "isinstance"=none
  b_bool:mg "bool"=none
  b_all:mg "all"=none
  b_list:mg "list"=none
noncomputable def nL:FS:=(ba (eS (jW (iB "int") (ab 0)) (jV (jW (iB "bool") (ab 0)))))
noncomputable def dh:FM:=gS 1 0 [] nL
theorem mM:aH ["thing"] ["thing"] (am eu):=⟨rfl,rfl,rfl,by decide+kernel,rfl,by decide+kernel,by decide+kernel⟩
theorem sr(h:be K mg "is_number" eu f fd ["thing"])(T:jm mg):aL P w K mg base bH 1 f fd ["thing"] (bM K 1 dh):=by
  have nd:=mM.nd
  exact h.fn mM rfl rfl (fun cdv A outer s H E hr=>(@aj _ _ _ _ _ (@aA _ _ _ _ _ (@jE _ _ _ _ _ _ _ _ (@lH _ _ _ _ _ _ _ _ "int" rfl (by decide) rfl T.b_isinstance rfl T.b_int PyProof.Rows.boot_int (by decide) (by decide) (¬0) (by rfl) (by rfl)) (@kL _ _ _ _ _ _ (@zF _ _ _ _ _ (@lH _ _ _ _ _ _ _ _ "bool" rfl (by decide) rfl T.b_isinstance rfl T.b_bool PyProof.Rows.boot_bool (by decide) (by decide) (¬0) (by rfl) (by rfl))))))))
noncomputable def d_:FS:=(ba (eS (bW 1 dh (aa (ab 0) ah)) (iz A7 A7 (ab 1) (ab 0) (ab 2))))
noncomputable def bu:FM:=gS 3 0 [] d_
theorem gJ:aH ["thing","low","high"] ["thing","low","high"] (am bQ):=⟨rfl,rfl,rfl,by decide+kernel,rfl,by decide+kernel,by decide+kernel⟩
theorem ls(h:be K mg "is_number_within" bQ f fd ["thing","low","high"])(T:jm mg){f_is_number:Addr}{e_is_number:FuncData}(h_is_number:be K mg "is_number" eu f_is_number e_is_number ["thing"])(G_is_number:aL P w K mg base bH 1 f_is_number e_is_number ["thing"] (bM K 1 dh)):aL P w K mg base bH 2 f fd ["thing","low","high"] (bM K 3 bu):=by
  have nd:=gJ.nd
  exact h.fn gJ rfl rfl (fun cdv A outer s H E hr=>(@aj _ _ _ _ _ (@aA _ _ _ _ _ (@jE _ _ _ _ _ _ _ _ (@a' _ _ _ _ _ _ _ _ _ _ _ _ _ _ _ h_is_number G_is_number (hr.mono (by decide)) ((¬0)∘ac) (by rfl) (by decide) (by rfl) (by rfl)) (@kL _ _ _ _ _ _ (@sD _ _ _ _ _ _ _ _ _ _ _ _ _ (@AL _ _) (@AL _ _) (¬1) (¬0) (¬2) (by with_unfolding_all rfl)))))))
noncomputable def nM:FS:=(ba (eS (jW (iB "tuple") (ab 0)) (av (bw false) (aC (g1 cV) (aa (ab 0) ah)) (ab 1))))
noncomputable def gf:FM:=gS 2 0 [] nM
theorem mN:aH ["thing","many"] ["thing","many"] (am gu):=⟨rfl,rfl,rfl,by decide+kernel,rfl,by decide+kernel,by decide+kernel⟩
theorem su(h:be K mg "is_row_of" gu f fd ["thing","many"])(T:jm mg):aL P w K mg base bH 1 f fd ["thing","many"] (bM K 2 gf):=by
  have nd:=mN.nd
  exact h.fn mN rfl rfl (fun cdv A outer s H E hr=>(@aj _ _ _ _ _ (@aA _ _ _ _ _ (@jE _ _ _ _ _ _ _ _ (@lH _ _ _ _ _ _ _ _ "tuple" rfl (by decide) rfl T.b_isinstance rfl T.b_tuple PyProof.Rows.boot_tuple (by decide) (by decide) (¬0) (by rfl) (by rfl)) (@kL _ _ _ _ _ _ (@mB _ _ _ _ _ _ _ _ _ (@qg _ _ _ rfl hr) (@aP _ _ _ _ _ _ _ _ _ (@b_len _ _ rfl) (by rfl) T.b_len ((¬0)∘ac) (by decide) (by decide) (by rfl) (by rfl)) (¬1) (aO _)))))))
noncomputable def nQ:FS:=(ba (lu (av dX (av dX (ab 0) (vC (.int 1))) (ab 1)) bO (bJ (vC (.int 2)))))
noncomputable def cc:FM:=gS 2 0 [] nQ
theorem mQ:aH ["web","tie"] ["web","tie"] (am dq):=⟨rfl,rfl,rfl,by decide+kernel,rfl,by decide+kernel,by decide+kernel⟩
theorem sy(h:be K mg "things_of" dq f fd ["web","tie"])(T:jm mg):aL P w K mg base bH 1 f fd ["web","tie"] (bM K 2 cc):=by
  have nd:=mQ.nd
  exact h.fn mQ rfl rfl (fun cdv A outer s H E hr=>(@aj _ _ _ _ _ (@aA _ _ _ _ _ (@bR _ _ _ _ _ _ _ _ _ _ rfl (@bV _ _ _ _ _ _ _ rfl (@bV _ _ _ _ _ _ _ rfl (¬0) ae (fun _ _=>rfl)) (¬1) (fun _ _=>rfl)) (@bS _ _) (@bT _ _ _ _ ae)))))
noncomputable def lB:FI:=(iC (ab 1))
noncomputable def dO:FT:=(ax (av (w6 false) (ab 0) (bW 2 cc (aa (ab 1) (aa (ab 2) ah)))))
noncomputable def dQ:FE:=(ab 2)
noncomputable def nO:FS:=(ba (aC (g1 cV) (aa (cT [(2,"thing"),(0,"web")] 1 lB (af 2) dO dQ) ah)))
noncomputable def gh:FM:=gS 3 0 [] nO
theorem mO:aH ["web","asked","thing"] ["web","asked","thing"] (am ey):=⟨rfl,rfl,rfl,by decide+kernel,rfl,by decide+kernel,by decide+kernel⟩
theorem sv(h:be K mg "many_asks" ey f fd ["web","asked","thing"])(T:jm mg){f_things_of:Addr}{e_things_of:FuncData}(h_things_of:be K mg "things_of" dq f_things_of e_things_of ["web","tie"])(G_things_of:aL P w K mg base bH 1 f_things_of e_things_of ["web","tie"] (bM K 2 cc)):aL P w K mg base bH 2 f fd ["web","asked","thing"] (bM K 3 gh):=by
  have nd:=mO.nd
  exact h.fn mO rfl rfl (fun cdv A outer s H E hr=>(@aj _ _ _ _ _ (@aA _ _ _ _ _ (@aP _ _ _ _ _ _ _ _ _ (@b_len _ _ rfl) (by rfl) T.b_len ((@jD _ _ _ _ _ _ _ _ _ _ _ _ _ (am ey) ["web","asked","thing"] [(2,"thing"),(0,"web")] ["tie"] rfl rfl rfl (@dM _ _ _ _ _ rfl (¬1))
        (fun C s0 H0 fp=>(@ap _ _ _ 2 _ (show List.Nodup (["thing","web","tie"]:List Str) by decide+kernel) rfl (Or.inl rfl) (by trivial))) (fun C s0 H0 fp=>(@mF _ _ _ _ (@aV _ _ _ _ _ _ _ _ _ (@yn _ _ _ rfl hr) (¬0) (@a' _ _ _ _ _ _ _ _ _ _ _ _ _ _ _ h_things_of G_things_of (hr.mono (by decide)) ((¬1)∘((¬2)∘ac)) (by rfl) (by decide) (by rfl) (by rfl)) (by with_unfolding_all rfl))))
        (fun C s0 H0 fp=>(¬2)) rfl (by decide+kernel) (by decide+kernel) (by decide+kernel) (by decide+kernel) (by decide+kernel) (by decide+kernel) (by decide+kernel) (by intro _;rfl))∘ac) (by decide) (by decide) (by rfl) (by rfl)))))
noncomputable def eY:FS:=(au (jH (ab 1) (aZ (ao (af 3) (ao (af 4) aX))))
    (ba (eS (av (w6 true) (ab 2) (ab 4)) (av tL (bW 3 gh (aa (ab 0) (aa (ab 3) (aa (ab 2) ah)))) (av dX (av dX (ab 0) (vC (.int 2))) (ab 2))))))
noncomputable def bL:FM:=gS 3 2 (([3]++([4]++[]))++[]) eY
theorem iO:aH ["web","stand","thing","asked","taken"] ["web","stand","thing"] (am cA):=⟨rfl,rfl,rfl,by decide+kernel,rfl,by decide+kernel,by decide+kernel⟩
theorem mw(h:be K mg "bears_one_more" cA f fd ["web","stand","thing"])(T:jm mg){f_many_asks:Addr}{e_many_asks:FuncData}(h_many_asks:be K mg "many_asks" ey f_many_asks e_many_asks ["web","asked","thing"])(G_many_asks:aL P w K mg base bH 2 f_many_asks e_many_asks ["web","asked","thing"] (bM K 3 gh)):aL P w K mg base bH 3 f fd ["web","stand","thing"] (bM K 3 bL):=by
  have nd:=iO.nd
  exact h.fn iO rfl rfl (fun cdv A outer s H E hr=>(@ag _ _ _ _ _ _ _ _ (@jF _ _ _ _ _ _ _ _ (¬1) (@cz _ _ _ _ _ _ _ _ rfl rfl (@ar _ _ _ _ _ _ _ _ (@ap _ _ _ 3 _ nd rfl (Or.inl rfl) (by trivial)) (@ar _ _ _ _ _ _ _ _ (@ap _ _ _ 4 _ nd rfl (Or.inl rfl) (by trivial)) (@bC _ _) (by rfl)) (by rfl)) (aB (aB cw)) (by rfl) (by rfl)) (by rfl) (by rfl) (by rfl))
      (@aj _ _ _ _ _ (@aA _ _ _ _ _ (@jE _ _ _ _ _ _ _ _ (@mB _ _ _ _ _ _ _ _ _ (@AM _ _ _ rfl hr) (¬2) (¬4) (by with_unfolding_all rfl)) (@kL _ _ _ _ _ _ (@mB _ _ _ _ _ _ _ _ _ (@sZ _ _) (@a' _ _ _ _ _ _ _ _ _ _ _ _ _ _ _ h_many_asks G_many_asks (hr.mono (by decide)) ((¬0)∘((¬3)∘((¬2)∘ac))) (by rfl) (by decide) (by rfl) (by rfl)) (@bV _ _ _ _ _ _ _ rfl (@bV _ _ _ _ _ _ _ rfl (¬0) ae (fun _ _=>rfl)) (¬2) (fun _ _=>rfl)) (aO _))))))))
noncomputable def ox:FI:=(iC (bW 2 cc (aa (ab 0) (aa (ab 2) ah))))
noncomputable def ke:FE:=(bW 3 bL (aa (ab 0) (aa (ab 1) (aa (ab 2) ah))))
noncomputable def kX:FS:=(au (a8 3 (av dX (ab 1) (vC (.int 0))))
    (au (fF (oX (ax (av (w6 false) (ab 2) (ab 3))) (ax (av uO (aC (g1 cV) (aa (ab 3) ah)) (av dX (ab 0) (vC (.int 3))))))
    (ba (vC (.bool false)))
    bI)
    (ba (aC (g1 (jP lx)) (aa (cT [(0,"web"),(1,"stand")] 1 ox (af 2) cF ke) ah)))))
noncomputable def ff:FM:=gS 3 1 ([3]++(([]++[])++[])) kX
theorem p7:aH ["web","stand","tie","asked"] ["web","stand","tie"] (am h9):=⟨rfl,rfl,rfl,by decide+kernel,rfl,by decide+kernel,by decide+kernel⟩
theorem vc(h:be K mg "may_ask" h9 f fd ["web","stand","tie"])(T:jm mg){f_bears_one_more:Addr}{e_bears_one_more:FuncData}(h_bears_one_more:be K mg "bears_one_more" cA f_bears_one_more e_bears_one_more ["web","stand","thing"])(G_bears_one_more:aL P w K mg base bH 3 f_bears_one_more e_bears_one_more ["web","stand","thing"] (bM K 3 bL)){f_things_of:Addr}{e_things_of:FuncData}(h_things_of:be K mg "things_of" dq f_things_of e_things_of ["web","tie"])(G_things_of:aL P w K mg base bH 1 f_things_of e_things_of ["web","tie"] (bM K 2 cc)):aL P w K mg base bH 4 f fd ["web","stand","tie"] (bM K 3 ff):=by
  have nd:=p7.nd
  exact h.fn p7 rfl rfl (fun cdv A outer s H E hr=>(@ag _ _ _ _ _ _ _ _ (@aK _ _ _ _ _ 3 _ _ nd rfl (Or.inl rfl) (@bV _ _ _ _ _ _ _ rfl (¬1) ae (fun _ _=>rfl)) (by rfl) (by trivial))
      (@ag _ _ _ _ _ _ _ _ (@bD _ _ _ _ _ _ _ _ _ _ _ (@nv _ _ _ _ (@kM _ _ _ _ _ _ _ _ (@aV _ _ _ _ _ _ _ _ _ (@yn _ _ _ rfl hr) (¬2) (¬3) (by with_unfolding_all rfl)) (@jG _ _ _ _ _ (@aV _ _ _ _ _ _ _ _ _ (@sY _ _) (@aP _ _ _ _ _ _ _ _ _ (@b_len _ _ rfl) (by rfl) T.b_len ((¬3)∘ac) (by decide) (by decide) (by rfl) (by rfl)) (@bV _ _ _ _ _ _ _ rfl (¬0) ae (fun _ _=>rfl)) (aO _)))))
      (@aj _ _ _ _ _ (@aA _ _ _ _ _ (@ce _ _ _ _ _)))
      (@aR _ _))
      (@aj _ _ _ _ _ (@aA _ _ _ _ _ (@aP _ _ _ _ _ _ _ _ _ (@b_all _ _ _ rfl hr) (by rfl) T.b_all ((@jD _ _ _ _ _ _ _ _ _ _ _ _ _ (am h9) ["web","stand","tie","asked"] [(0,"web"),(1,"stand")] ["thing"] rfl rfl rfl (@dM _ _ _ _ _ rfl (@a' _ _ _ _ _ _ _ _ _ _ _ _ _ _ _ h_things_of G_things_of (hr.mono (by decide)) ((¬0)∘((¬2)∘ac)) (by rfl) (by decide) (by rfl) (by rfl)))
        (fun C s0 H0 fp=>(@ap _ _ _ 2 _ (show List.Nodup (["web","stand","thing"]:List Str) by decide+kernel) rfl (Or.inl rfl) (by trivial))) (fun C s0 H0 fp=>(@iN _ _))
        (fun C s0 H0 fp=>(@a' _ _ _ _ _ _ _ _ _ _ _ _ _ _ _ h_bears_one_more G_bears_one_more (hr.mono (by decide)) ((¬0)∘((¬1)∘((¬2)∘ac))) (by rfl) (by decide) (by rfl) (by rfl))) rfl (by decide+kernel) (by decide+kernel) (by decide+kernel) (by decide+kernel) (by decide+kernel) (by decide+kernel) (by decide+kernel) (by intro _;rfl))∘ac) (by decide) (by decide) (by rfl) (by rfl)))))))
noncomputable def ie:FS:=(au (jH (ab 1) (aZ (ao (af 4) (ao (af 5) aX))))
    (au (fF (ax (ab 3))
    (a8 5 (aC (g1 cP) (aa (aC (g1 df) (aa (av bv (ab 5) (bW 2 cc (aa (ab 0) (aa (ab 2) ah)))) ah)) ah)))
    bI)
    (ba (br (aa (aC (g1 cP) (aa (aC (g1 df) (aa (av bv (ab 4) (br (aa (ab 2) ah))) ah)) ah)) (aa (ab 5) ah))))))
noncomputable def cx:FM:=gS 4 2 (([4]++([5]++[]))++(([5]++[])++[])) ie
theorem jU:aH ["web","stand","tie","truth","asked","taken"] ["web","stand","tie","truth"] (am dn):=⟨rfl,rfl,rfl,by decide+kernel,rfl,by decide+kernel,by decide+kernel⟩
theorem oI(h:be K mg "stand_behind" dn f fd ["web","stand","tie","truth"])(T:jm mg){f_things_of:Addr}{e_things_of:FuncData}(h_things_of:be K mg "things_of" dq f_things_of e_things_of ["web","tie"])(G_things_of:aL P w K mg base bH 1 f_things_of e_things_of ["web","tie"] (bM K 2 cc)):aL P w K mg base bH 2 f fd ["web","stand","tie","truth"] (bM K 4 cx):=by
  have nd:=jU.nd
  exact h.fn jU rfl rfl (fun cdv A outer s H E hr=>(@ag _ _ _ _ _ _ _ _ (@jF _ _ _ _ _ _ _ _ (¬1) (@cz _ _ _ _ _ _ _ _ rfl rfl (@ar _ _ _ _ _ _ _ _ (@ap _ _ _ 4 _ nd rfl (Or.inl rfl) (by trivial)) (@ar _ _ _ _ _ _ _ _ (@ap _ _ _ 5 _ nd rfl (Or.inl rfl) (by trivial)) (@bC _ _) (by rfl)) (by rfl)) (aB (aB cw)) (by rfl) (by rfl)) (by rfl) (by rfl) (by rfl))
      (@ag _ _ _ _ _ _ _ _ (@bD _ _ _ _ _ _ _ _ _ _ _ (@cQ _ _ _ _ (¬3) (by intro _;rfl))
      (@aj _ _ _ _ _ (@aK _ _ _ _ _ 5 _ _ nd rfl (Or.inl rfl) (@aP _ _ _ _ _ _ _ _ _ (@b_tuple _ _ rfl) (by rfl) T.b_tuple ((@aP _ _ _ _ _ _ _ _ _ (@lY _ _ rfl) (by rfl) T.b_sorted ((@bB _ _ _ _ _ _ _ rfl (¬5) (@a' _ _ _ _ _ _ _ _ _ _ _ _ _ _ _ h_things_of G_things_of (hr.mono (by decide)) ((¬0)∘((¬2)∘ac)) (by rfl) (by decide) (by rfl) (by rfl)))∘ac) (by decide) (by decide) (by rfl) (by rfl))∘ac) (by decide) (by decide) (by rfl) (by rfl)) (by rfl) (by trivial)))
      (@aR _ _))
      (@aj _ _ _ _ _ (@aA _ _ _ _ _ (@aT _ _ _ _ _ _ ((@aP _ _ _ _ _ _ _ _ _ (@b_tuple _ _ rfl) (by rfl) T.b_tuple ((@aP _ _ _ _ _ _ _ _ _ (@lY _ _ rfl) (by rfl) T.b_sorted ((@bB _ _ _ _ _ _ _ rfl (¬4) (@aT _ _ _ _ _ _ ((¬2)∘ac)))∘ac) (by decide) (by decide) (by rfl) (by rfl))∘ac) (by decide) (by decide) (by rfl) (by rfl))∘((¬5)∘ac))))))))
noncomputable def qC:FS:=(ba (eS (bW 1 dh (aa (ab 0) ah)) (qc (av (bw false) (ab 0) (vC (.int (-1)))) (iz tL tL (ab 1) (ab 0) (ab 2)))))
noncomputable def gZ:FM:=gS 3 0 [] qC
theorem p4:aH ["thing","at","many"] ["thing","at","many"] (am jh):=⟨rfl,rfl,rfl,by decide+kernel,rfl,by decide+kernel,by decide+kernel⟩
theorem u_(h:be K mg "is_link" jh f fd ["thing","at","many"])(T:jm mg){f_is_number:Addr}{e_is_number:FuncData}(h_is_number:be K mg "is_number" eu f_is_number e_is_number ["thing"])(G_is_number:aL P w K mg base bH 1 f_is_number e_is_number ["thing"] (bM K 1 dh)){t_END:Tok}(m_END:mg "END"=some (.int (-1) t_END)):aL P w K mg base bH 2 f fd ["thing","at","many"] (bM K 3 gZ):=by
  have nd:=p4.nd
  exact h.fn p4 rfl rfl (fun cdv A outer s H E hr=>(@aj _ _ _ _ _ (@aA _ _ _ _ _ (@jE _ _ _ _ _ _ _ _ (@a' _ _ _ _ _ _ _ _ _ _ _ _ _ _ _ h_is_number G_is_number (hr.mono (by decide)) ((¬0)∘ac) (by rfl) (by decide) (by rfl) (by rfl)) (@kL _ _ _ _ _ _ (@Gq _ _ _ _ _ _ _ _ (@mB _ _ _ _ _ _ _ _ _ (@qg _ _ _ rfl hr) (¬0) (@mC _ _ _ (V.int (-1)) _ _ (PyData.int (-1)) rfl m_END ⟨_,rfl⟩ (fun _=>bY.mpr rfl) (by decide)) (aO _)) (@kL _ _ _ _ _ _ (@sD _ _ _ _ _ _ _ _ _ _ _ _ _ (@sZ _ _) (@sZ _ _) (¬1) (¬0) (¬2) (by with_unfolding_all rfl)))))))))
noncomputable def qE:FS:=(au (fF (gG (ax (bW 2 gf (aa (ab 1) (aa (vC (.int 3)) ah)))))
    (ba (vC (.bool false)))
    bI)
    (au (jH (ab 1) (aZ (ao (af 4) (ao (af 5) (ao (af 6) aX)))))
    (ba (eS (bW 3 bu (aa (ab 4) (aa (vC (.int 0)) (aa (av gw (aC (g1 cV) (aa (av dX (ab 0) (vC (.int 1))) ah)) (vC (.int 1))) ah)))) (eS (bW 3 gZ (aa (ab 5) (aa (ab 2) (aa (ab 3) ah)))) (bW 3 gZ (aa (ab 6) (aa (ab 2) (aa (ab 3) ah)))))))))
noncomputable def jb:FM:=gS 4 3 (([]++[])++(([4]++([5]++([6]++[])))++[])) qE
theorem p5:aH ["web","thing","at","many","tie","yes","no"] ["web","thing","at","many"] (am ji):=⟨rfl,rfl,rfl,by decide+kernel,rfl,by decide+kernel,by decide+kernel⟩
theorem va(h:be K mg "is_node" ji f fd ["web","thing","at","many"])(T:jm mg){f_is_row_of:Addr}{e_is_row_of:FuncData}(h_is_row_of:be K mg "is_row_of" gu f_is_row_of e_is_row_of ["thing","many"])(G_is_row_of:aL P w K mg base bH 1 f_is_row_of e_is_row_of ["thing","many"] (bM K 2 gf)){f_is_number_within:Addr}{e_is_number_within:FuncData}(h_is_number_within:be K mg "is_number_within" bQ f_is_number_within e_is_number_within ["thing","low","high"])(G_is_number_within:aL P w K mg base bH 2 f_is_number_within e_is_number_within ["thing","low","high"] (bM K 3 bu)){f_is_link:Addr}{e_is_link:FuncData}(h_is_link:be K mg "is_link" jh f_is_link e_is_link ["thing","at","many"])(G_is_link:aL P w K mg base bH 2 f_is_link e_is_link ["thing","at","many"] (bM K 3 gZ)):aL P w K mg base bH 3 f fd ["web","thing","at","many"] (bM K 4 jb):=by
  have nd:=p5.nd
  exact h.fn p5 rfl rfl (fun cdv A outer s H E hr=>(@ag _ _ _ _ _ _ _ _ (@bD _ _ _ _ _ _ _ _ _ _ _ (@fm _ _ _ _ _ (@cQ _ _ _ _ (@a' _ _ _ _ _ _ _ _ _ _ _ _ _ _ _ h_is_row_of G_is_row_of (hr.mono (by decide)) ((¬1)∘(ae∘ac)) (by rfl) (by decide) (by rfl) (by rfl)) (by intro _;rfl)))
      (@aj _ _ _ _ _ (@aA _ _ _ _ _ (@ce _ _ _ _ _)))
      (@aR _ _))
      (@ag _ _ _ _ _ _ _ _ (@jF _ _ _ _ _ _ _ _ (¬1) (@cz _ _ _ _ _ _ _ _ rfl rfl (@ar _ _ _ _ _ _ _ _ (@ap _ _ _ 4 _ nd rfl (Or.inl rfl) (by trivial)) (@ar _ _ _ _ _ _ _ _ (@ap _ _ _ 5 _ nd rfl (Or.inl rfl) (by trivial)) (@ar _ _ _ _ _ _ _ _ (@ap _ _ _ 6 _ nd rfl (Or.inl rfl) (by trivial)) (@bC _ _) (by rfl)) (by rfl)) (by rfl)) (aB (aB (aB cw))) (by rfl) (by rfl)) (by rfl) (by rfl) (by rfl))
      (@aj _ _ _ _ _ (@aA _ _ _ _ _ (@jE _ _ _ _ _ _ _ _ (@a' _ _ _ _ _ _ _ _ _ _ _ _ _ _ _ h_is_number_within G_is_number_within (hr.mono (by decide)) ((¬4)∘(ae∘((@oz _ _ _ _ _ _ _ (@aP _ _ _ _ _ _ _ _ _ (@b_len _ _ rfl) (by rfl) T.b_len ((@bV _ _ _ _ _ _ _ rfl (¬0) ae (fun _ _=>rfl))∘ac) (by decide) (by decide) (by rfl) (by rfl)) ae)∘ac))) (by rfl) (by decide) (by rfl) (by rfl)) (@jE _ _ _ _ _ _ _ _ (@a' _ _ _ _ _ _ _ _ _ _ _ _ _ _ _ h_is_link G_is_link (hr.mono (by decide)) ((¬5)∘((¬2)∘((¬3)∘ac))) (by rfl) (by decide) (by rfl) (by rfl)) (@kL _ _ _ _ _ _ (@a' _ _ _ _ _ _ _ _ _ _ _ _ _ _ _ h_is_link G_is_link (hr.mono (by decide)) ((¬6)∘((¬2)∘((¬3)∘ac))) (by rfl) (by decide) (by rfl) (by rfl))))))))))
noncomputable def i9:FI:=(iC (ab 0))
noncomputable def dy:FI:=(iC (lu (ab 0) (bJ (vC (.int 1))) bO))
noncomputable def bK:FT:=(ax (av (bw true) (ab 1) (vC (.int (-1)))))
noncomputable def bi:FE:=(ab 1)
noncomputable def j8:FS:=(au (a8 1 (nI [] 2 i9 (af 0) cF dy (af 1) bK bi))
    (ba (av (bw false) (aC (g1 df) (aa (ab 1) ah)) (kS (aa (vC (.int 1)) (aa (aC (g1 cV) (aa (ab 0) ah)) ah))))))
noncomputable def di:FM:=gS 1 1 ([1]++[]) j8
theorem jS:aH ["tree","told"] ["tree"] (am cB):=⟨rfl,rfl,rfl,by decide+kernel,rfl,by decide+kernel,by decide+kernel⟩
theorem oG(h:be K mg "is_told_once" cB f fd ["tree"])(T:jm mg){t_END:Tok}(m_END:mg "END"=some (.int (-1) t_END)):aL P w K mg base bH 1 f fd ["tree"] (bM K 1 di):=by
  have nd:=jS.nd
  exact h.fn jS rfl rfl (fun cdv A outer s H E hr=>(@ag _ _ _ _ _ _ _ _ (@vi _ _ _ (1) _ _ _ _ _ _ _ _ _ _ _ _ _ _ _ _ _ _ _ _ (am cB) ["tree","told"] [] ["node","link"] rfl rfl rfl (@dM _ _ _ _ _ rfl (¬0))
        (fun C s0 H0 fp=>(@ap _ _ _ 0 _ (show List.Nodup (["node","link"]:List Str) by decide+kernel) rfl (Or.inl rfl) (by trivial))) (fun C s0 H0 fp=>(@iN _ _)) (fun C s0 H0 fp=>(@dM _ _ _ _ _ rfl (@bR _ _ _ _ _ _ _ _ _ _ rfl (¬0) (@bT _ _ _ _ ae) (@bS _ _)))) (fun C s0 H0 fp=>(@ap _ _ _ 1 _ (show List.Nodup (["node","link"]:List Str) by decide+kernel) rfl (Or.inl rfl) (by trivial))) (fun C s0 H0 fp=>(@mF _ _ _ _ (@aV _ _ _ _ _ _ _ _ _ (@l6 _ _ _ rfl hr) (¬1) (@mC _ _ _ (V.int (-1)) _ _ (PyData.int (-1)) rfl m_END ⟨_,rfl⟩ (fun _=>bY.mpr rfl) (by decide)) (aO _))))
        (fun C s0 H0 fp=>(¬1)) rfl (by decide+kernel) (by decide+kernel) (by decide+kernel) (by decide+kernel) (by decide+kernel) (by decide+kernel) (by decide+kernel) nd rfl rfl (by rfl) (by intro _ _ _ _ _;rfl) (by intro _;rfl))
      (@aj _ _ _ _ _ (@aA _ _ _ _ _ (@mB _ _ _ _ _ _ _ _ _ (@qg _ _ _ rfl hr) (@aP _ _ _ _ _ _ _ _ _ (@lY _ _ rfl) (by rfl) T.b_sorted ((¬1)∘ac) (by decide) (by decide) (by rfl) (by rfl)) (@sE _ _ _ _ _ _ _ _ _ rfl rfl T.b_list rfl T.b_range (ae∘((@aP _ _ _ _ _ _ _ _ _ (@b_len _ _ rfl) (by rfl) T.b_len ((¬0)∘ac) (by decide) (by decide) (by rfl) (by rfl))∘ac)) (by rfl) (by rfl) (by rfl)) (aO _))))))
noncomputable def i_:FI:=(pv (aa (ab 1) ah))
noncomputable def cm:FE:=(bW 4 jb (aa (ab 0) (aa (ab 3) (aa (ab 2) (aa (aC (g1 cV) (aa (ab 1) ah)) ah)))))
noncomputable def j_:FS:=(au (fF (oX (gG (ax (jW (iB "tuple") (ab 1)))) (ax (av CT (aC (g1 cV) (aa (ab 1) ah)) (vC (.int (300))))))
    (ba (vC (.bool false)))
    bI)
    (au (fF (gG (ax (aC (g1 (jP lx)) (aa (cT [(0,"web"),(1,"thing")] 2 i_ (aZ (ao (af 2) (ao (af 3) aX))) cF cm) ah))))
    (ba (vC (.bool false)))
    bI)
    (ba (bW 1 di (aa (ab 1) ah)))))
noncomputable def dj:FM:=gS 2 0 (([]++[])++(([]++[])++[])) j_
theorem jT:aH ["web","thing"] ["web","thing"] (am cC):=⟨rfl,rfl,rfl,by decide+kernel,rfl,by decide+kernel,by decide+kernel⟩
theorem oH(h:be K mg "is_tree_form" cC f fd ["web","thing"])(T:jm mg){f_is_told_once:Addr}{e_is_told_once:FuncData}(h_is_told_once:be K mg "is_told_once" cB f_is_told_once e_is_told_once ["tree"])(G_is_told_once:aL P w K mg base bH 1 f_is_told_once e_is_told_once ["tree"] (bM K 1 di)){f_is_node:Addr}{e_is_node:FuncData}(h_is_node:be K mg "is_node" ji f_is_node e_is_node ["web","thing","at","many"])(G_is_node:aL P w K mg base bH 3 f_is_node e_is_node ["web","thing","at","many"] (bM K 4 jb)){t_MOST_NODES:Tok}(m_MOST_NODES:mg "MOST_NODES"=some (.int (300) t_MOST_NODES)):aL P w K mg base bH 4 f fd ["web","thing"] (bM K 2 dj):=by
  have nd:=jT.nd
  exact h.fn jT rfl rfl (fun cdv A outer s H E hr=>(@ag _ _ _ _ _ _ _ _ (@bD _ _ _ _ _ _ _ _ _ _ _ (@nv _ _ _ _ (@kM _ _ _ _ _ _ _ _ (@fm _ _ _ _ _ (@cQ _ _ _ _ (@lH _ _ _ _ _ _ _ _ "tuple" rfl (by decide) rfl T.b_isinstance rfl T.b_tuple PyProof.Rows.boot_tuple (by decide) (by decide) (¬1) (by rfl) (by rfl)) (by intro _;rfl))) (@jG _ _ _ _ _ (@aV _ _ _ _ _ _ _ _ _ (@Dq _ _) (@aP _ _ _ _ _ _ _ _ _ (@b_len _ _ rfl) (by rfl) T.b_len ((¬1)∘ac) (by decide) (by decide) (by rfl) (by rfl)) (@mC _ _ _ (V.int (300)) _ _ (PyData.int (300)) rfl m_MOST_NODES ⟨_,rfl⟩ (fun _=>bY.mpr rfl) (by decide)) (aO _)))))
      (@aj _ _ _ _ _ (@aA _ _ _ _ _ (@ce _ _ _ _ _)))
      (@aR _ _))
      (@ag _ _ _ _ _ _ _ _ (@bD _ _ _ _ _ _ _ _ _ _ _ (@fm _ _ _ _ _ (@cQ _ _ _ _ (@aP _ _ _ _ _ _ _ _ _ (@b_all _ _ _ rfl hr) (by rfl) T.b_all ((@jD _ _ _ _ _ _ _ _ _ _ _ _ _ (am cC) ["web","thing"] [(0,"web"),(1,"thing")] ["at","node"] rfl rfl rfl (@mD _ _ _ _ _ _ _ _ _ rfl rfl T.b_enumerate ((¬1)∘ac) (by rfl))
        (fun C s0 H0 fp=>(@cz _ _ _ _ _ _ _ _ rfl rfl (@ar _ _ _ _ _ _ _ _ (@ap _ _ _ 2 _ (show List.Nodup (["web","thing","at","node"]:List Str) by decide+kernel) rfl (Or.inl rfl) (by trivial)) (@ar _ _ _ _ _ _ _ _ (@ap _ _ _ 3 _ (show List.Nodup (["web","thing","at","node"]:List Str) by decide+kernel) rfl (Or.inl rfl) (by trivial)) (@bC _ _) (by rfl)) (by rfl)) (aB (aB cw)) (by rfl) (by rfl))) (fun C s0 H0 fp=>(@iN _ _))
        (fun C s0 H0 fp=>(@a' _ _ _ _ _ _ _ _ _ _ _ _ _ _ _ h_is_node G_is_node (hr.mono (by decide)) ((¬0)∘((¬3)∘((¬2)∘((@aP _ _ _ _ _ _ _ _ _ (@b_len _ _ rfl) (by rfl) T.b_len ((¬1)∘ac) (by decide) (by decide) (by rfl) (by rfl))∘ac)))) (by rfl) (by decide) (by rfl) (by rfl))) rfl (by decide+kernel) (by decide+kernel) (by decide+kernel) (by decide+kernel) (by decide+kernel) (by decide+kernel) (by decide+kernel) (by intro _;rfl))∘ac) (by decide) (by decide) (by rfl) (by rfl)) (by intro _;rfl)))
      (@aj _ _ _ _ _ (@aA _ _ _ _ _ (@ce _ _ _ _ _)))
      (@aR _ _))
      (@aj _ _ _ _ _ (@aA _ _ _ _ _ (@a' _ _ _ _ _ _ _ _ _ _ _ _ _ _ _ h_is_told_once G_is_told_once (hr.mono (by decide)) ((¬1)∘ac) (by rfl) (by decide) (by rfl) (by rfl)))))))
noncomputable def lC:FI:=(iC (br (aa (br (aa (ab 5) (aa (vC (.bool true)) ah))) (aa (br (aa (ab 6) (aa (vC (.bool false)) ah))) ah))))
noncomputable def fy:FS:=(fF (ax (av (bw true) (ab 7) (vC (.int (-1)))))
    (ua (bW 4 cx (aa (ab 0) (aa (av dX (ab 2) (ab 3)) (aa (ab 4) (aa (ab 8) ah))))) (ab 2) (ab 7))
    bI)
noncomputable def lD:FI:=(pv (aa (ab 1) ah))
noncomputable def fB:FS:=(dm (([7]++([8]++[]))++([]++[])) lC (aZ (ao (af 7) (ao (af 8) aX))) fy)
noncomputable def lF:FI:=(iC (ab 1))
noncomputable def iQ:FE:=(vC (.tuple [.tuple [],.tuple []]))
noncomputable def nP:FS:=(au (a8 2 (cT [] 1 lF (af 0) cF iQ))
    (au (dm (([3]++(([4]++([5]++([6]++[])))++[]))++(([7]++([8]++[]))++([]++[]))) lD (aZ (ao (af 3) (ao (aZ (ao (af 4) (ao (af 5) (ao (af 6) aX)))) aX))) fB)
    (ba (aC (g1 cP) (aa (ab 2) ah)))))
noncomputable def gj:FM:=gS 2 7 ([2]++((([3]++(([4]++([5]++([6]++[])))++[]))++(([7]++([8]++[]))++([]++[])))++[])) nP
theorem mP:aH ["web","tree","stands","at","tie","yes","no","link","truth"] ["web","tree"] (am eA):=⟨rfl,rfl,rfl,by decide+kernel,rfl,by decide+kernel,by decide+kernel⟩
theorem sx(h:be K mg "stands_of" eA f fd ["web","tree"])(T:jm mg){f_stand_behind:Addr}{e_stand_behind:FuncData}(h_stand_behind:be K mg "stand_behind" dn f_stand_behind e_stand_behind ["web","stand","tie","truth"])(G_stand_behind:aL P w K mg base bH 2 f_stand_behind e_stand_behind ["web","stand","tie","truth"] (bM K 4 cx)){g_FIRST_STAND:Addr}(m_FIRST_STAND:mg "FIRST_STAND"=some (.ref g_FIRST_STAND))(c_FIRST_STAND:∀F,DA K F (.tuple [.tuple [],.tuple []]) (.ref g_FIRST_STAND)){t_END:Tok}(m_END:mg "END"=some (.int (-1) t_END)):aL P w K mg base bH 3 f fd ["web","tree"] (bM K 2 gj):=by
  have nd:=mP.nd
  exact h.fn mP rfl rfl (fun cdv A outer s H E hr=>(@ag _ _ _ _ _ _ _ _ (@q_ _ _ _ (2) _ _ _ _ _ _ _ _ _ _ _ _ _ (am eA) ["web","tree","stands","at","tie","yes","no","link","truth"] [] ["node"] rfl rfl rfl (@dM _ _ _ _ _ rfl (¬1))
        (fun C s0 H0 fp=>(@ap _ _ _ 0 _ (show List.Nodup (["node"]:List Str) by decide+kernel) rfl (Or.inl rfl) (by trivial))) (fun C s0 H0 fp=>(@iN _ _))
        (fun C s0 H0 fp=>(@mC _ _ _ (V.ref g_FIRST_STAND) _ _ (PyData.tuple [.tuple [],.tuple []]) rfl m_FIRST_STAND rfl c_FIRST_STAND (by decide))) rfl (by decide+kernel) (by decide+kernel) (by decide+kernel) (by decide+kernel) (by decide+kernel) (by decide+kernel) (by decide+kernel) nd rfl rfl (by rfl) (by intro _;rfl))
      (@ag _ _ _ _ _ _ _ _ (@cH _ _ _ _ _ _ _ _ _ _ _ PassesOwn.never rfl (@mD _ _ _ _ _ _ _ _ _ rfl rfl T.b_enumerate ((¬1)∘ac) (by rfl)) (@cz _ _ _ _ _ _ _ _ rfl rfl (@ar _ _ _ _ _ _ _ _ (@ap _ _ _ 3 _ nd rfl (Or.inl rfl) (by trivial)) (@ar _ _ _ _ _ _ _ _ (@cz _ _ _ _ _ _ _ _ rfl rfl (@ar _ _ _ _ _ _ _ _ (@ap _ _ _ 4 _ nd rfl (Or.inl rfl) (by trivial)) (@ar _ _ _ _ _ _ _ _ (@ap _ _ _ 5 _ nd rfl (Or.inl rfl) (by trivial)) (@ar _ _ _ _ _ _ _ _ (@ap _ _ _ 6 _ nd rfl (Or.inl rfl) (by trivial)) (@bC _ _) (by rfl)) (by rfl)) (by rfl)) (aB (aB (aB cw))) (by rfl) (by rfl)) (@bC _ _) (by rfl)) (by rfl)) (aB (aB cw)) (by rfl) (by rfl))
      (@aj _ _ _ _ _ (@cH _ _ _ _ _ _ _ _ _ _ _ PassesOwn.never rfl (@dM _ _ _ _ _ rfl (@aT _ _ _ _ _ _ ((@aT _ _ _ _ _ _ ((¬5)∘((@ce _ _ _ _ _)∘ac)))∘((@aT _ _ _ _ _ _ ((¬6)∘((@ce _ _ _ _ _)∘ac)))∘ac)))) (@cz _ _ _ _ _ _ _ _ rfl rfl (@ar _ _ _ _ _ _ _ _ (@ap _ _ _ 7 _ nd rfl (Or.inl rfl) (by trivial)) (@ar _ _ _ _ _ _ _ _ (@ap _ _ _ 8 _ nd rfl (Or.inl rfl) (by trivial)) (@bC _ _) (by rfl)) (by rfl)) (aB (aB cw)) (by rfl) (by rfl))
      (@aj _ _ _ _ _ (@bD _ _ _ _ _ _ _ _ _ _ _ (@aV _ _ _ _ _ _ _ _ _ (@l6 _ _ _ rfl hr) (¬7) (@mC _ _ _ (V.int (-1)) _ _ (PyData.int (-1)) rfl m_END ⟨_,rfl⟩ (fun _=>bY.mpr rfl) (by decide)) (aO _))
      (@aj _ _ _ _ _ (@vk _ _ _ _ _ _ _ _ _ _ (@a' _ _ _ _ _ _ _ _ _ _ _ _ _ _ _ h_stand_behind G_stand_behind (hr.mono (by decide)) ((¬0)∘((@bV _ _ _ _ _ _ _ rfl (¬2) (¬3) (fun _ _=>rfl))∘((¬4)∘((¬8)∘ac)))) (by rfl) (by decide) (by rfl) (by rfl)) (¬2) (¬7) (by intro _;rfl) (by rfl) (by rfl) (by rfl)))
      (@aR _ _))) (by intro _;rfl))) (by intro _;rfl))
      (@aj _ _ _ _ _ (@aA _ _ _ _ _ (@aP _ _ _ _ _ _ _ _ _ (@b_tuple _ _ rfl) (by rfl) T.b_tuple ((¬2)∘ac) (by decide) (by decide) (by rfl) (by rfl)))))))
noncomputable def iM:FI:=(ou (aa (ab 1) (aa (bW 2 gj (aa (ab 0) (aa (ab 1) ah))) ah)))
noncomputable def fP:FE:=(bW 3 ff (aa (ab 0) (aa (ab 2) (aa (av dX (ab 1) (vC (.int 0))) ah))))
noncomputable def mZ:FS:=(au (fF (gG (ax (bW 2 dj (aa (ab 0) (aa (ab 1) ah)))))
    (ba (vC (.bool false)))
    bI)
    (ba (aC (g1 (jP lx)) (aa (cT [(0,"web")] 2 iM (aZ (ao (af 1) (ao (af 2) aX))) cF fP) ah))))
noncomputable def er:FM:=gS 2 0 (([]++[])++[]) mZ
theorem p6:aH ["web","thing"] ["web","thing"] (am h8):=⟨rfl,rfl,rfl,by decide+kernel,rfl,by decide+kernel,by decide+kernel⟩
theorem vb(h:be K mg "is_tree" h8 f fd ["web","thing"])(T:jm mg){f_is_tree_form:Addr}{e_is_tree_form:FuncData}(h_is_tree_form:be K mg "is_tree_form" cC f_is_tree_form e_is_tree_form ["web","thing"])(G_is_tree_form:aL P w K mg base bH 4 f_is_tree_form e_is_tree_form ["web","thing"] (bM K 2 dj)){f_may_ask:Addr}{e_may_ask:FuncData}(h_may_ask:be K mg "may_ask" h9 f_may_ask e_may_ask ["web","stand","tie"])(G_may_ask:aL P w K mg base bH 4 f_may_ask e_may_ask ["web","stand","tie"] (bM K 3 ff)){f_stands_of:Addr}{e_stands_of:FuncData}(h_stands_of:be K mg "stands_of" eA f_stands_of e_stands_of ["web","tree"])(G_stands_of:aL P w K mg base bH 3 f_stands_of e_stands_of ["web","tree"] (bM K 2 gj)):aL P w K mg base bH 5 f fd ["web","thing"] (bM K 2 er):=by
  have nd:=p6.nd
  exact h.fn p6 rfl rfl (fun cdv A outer s H E hr=>(@ag _ _ _ _ _ _ _ _ (@bD _ _ _ _ _ _ _ _ _ _ _ (@fm _ _ _ _ _ (@cQ _ _ _ _ (@a' _ _ _ _ _ _ _ _ _ _ _ _ _ _ _ h_is_tree_form G_is_tree_form (hr.mono (by decide)) ((¬0)∘((¬1)∘ac)) (by rfl) (by decide) (by rfl) (by rfl)) (by intro _;rfl)))
      (@aj _ _ _ _ _ (@aA _ _ _ _ _ (@ce _ _ _ _ _)))
      (@aR _ _))
      (@aj _ _ _ _ _ (@aA _ _ _ _ _ (@aP _ _ _ _ _ _ _ _ _ (@b_all _ _ _ rfl hr) (by rfl) T.b_all ((@jD _ _ _ _ _ _ _ _ _ _ _ _ _ (am h8) ["web","thing"] [(0,"web")] ["node","stand"] rfl rfl rfl (@vj _ _ _ _ _ _ _ _ _ _ rfl rfl T.b_zip ((¬1)∘((@a' _ _ _ _ _ _ _ _ _ _ _ _ _ _ _ h_stands_of G_stands_of (hr.mono (by decide)) ((¬0)∘((¬1)∘ac)) (by rfl) (by decide) (by rfl) (by rfl))∘ac)) (by rfl) (by rfl))
        (fun C s0 H0 fp=>(@cz _ _ _ _ _ _ _ _ rfl rfl (@ar _ _ _ _ _ _ _ _ (@ap _ _ _ 1 _ (show List.Nodup (["web","node","stand"]:List Str) by decide+kernel) rfl (Or.inl rfl) (by trivial)) (@ar _ _ _ _ _ _ _ _ (@ap _ _ _ 2 _ (show List.Nodup (["web","node","stand"]:List Str) by decide+kernel) rfl (Or.inl rfl) (by trivial)) (@bC _ _) (by rfl)) (by rfl)) (aB (aB cw)) (by rfl) (by rfl))) (fun C s0 H0 fp=>(@iN _ _))
        (fun C s0 H0 fp=>(@a' _ _ _ _ _ _ _ _ _ _ _ _ _ _ _ h_may_ask G_may_ask (hr.mono (by decide)) ((¬0)∘((¬2)∘((@bV _ _ _ _ _ _ _ rfl (¬1) ae (fun _ _=>rfl))∘ac))) (by rfl) (by decide) (by rfl) (by rfl))) rfl (by decide+kernel) (by decide+kernel) (by decide+kernel) (by decide+kernel) (by decide+kernel) (by decide+kernel) (by decide+kernel) (by intro _;rfl))∘ac) (by decide) (by decide) (by rfl) (by rfl))))))
noncomputable def vQ:FS:=(au (a8 2 (av a9 (av bv (av bv (av gy (av a9 (ab 0) (vC (.int 2147483647))) (vC (.int 48271))) (av gy (av gy (vC (.int 7919)) (ab 1)) (ab 1))) (vC (.int 104729))) (vC (.int 2147483647))))
    (ba (av a9 (av gy (ab 2) (ab 2)) (vC (.int 2147483629)))))
noncomputable def lb:FM:=gS 2 1 ([2]++[]) vQ
theorem ue:aH ["_law_cell","_law_k","_law_number"] ["_law_cell","_law_k"] (am mI):=⟨rfl,rfl,rfl,by decide+kernel,rfl,by decide+kernel,by decide+kernel⟩
theorem y3(h:be K mg "_law_mixed" mI f fd ["_law_cell","_law_k"])(T:jm mg):aL P w K mg base bH 1 f fd ["_law_cell","_law_k"] (bM K 2 lb):=by
  have nd:=ue.nd
  exact h.fn ue rfl rfl (fun cdv A outer s H E hr=>(@ag _ _ _ _ _ _ _ _ (@aK _ _ _ _ _ 2 _ _ nd rfl (Or.inl rfl) (@bf _ _ _ _ _ _ _ (@bB _ _ _ _ _ _ _ rfl (@bB _ _ _ _ _ _ _ rfl (@kG _ _ _ _ _ _ _ rfl (@bf _ _ _ _ _ _ _ (¬0) ae) ae) (@kG _ _ _ _ _ _ _ rfl (@kG _ _ _ _ _ _ _ rfl ae (¬1)) (¬1))) ae) ae) (by rfl) (by trivial))
      (@aj _ _ _ _ _ (@aA _ _ _ _ _ (@bf _ _ _ _ _ _ _ (@kG _ _ _ _ _ _ _ rfl (¬2) (¬2)) ae)))))
noncomputable def gX:FT:=(jK (ax (av uO (ab 3) (av uP (vC (.int 10)) (vC (.int 18))))) (ax (av tL (aC (g1 cV) (aa (ab 1) ah)) (vC (.int 900)))))
noncomputable def kU:FS:=(au (cE (bX bg (ab 1) (aa (av a9 (ab 3) (vC (.int 2147483629))) ah)))
    (a8 3 (av gH (ab 3) (vC (.int 2147483629)))))
noncomputable def k9:FI:=(eM (aa (vC (.int 12)) ah))
noncomputable def i4:FS:=(cE (bX bg (ab 1) (aa (bW 2 lb (aa (bW 2 lb (aa (ab 3) (aa (av bv (av gy (vC (.int 3)) (ab 4)) (vC (.int 1))) ah))) (aa (av bv (av bv (ab 4) (ab 2)) (vC (.int 2))) ah))) ah)))
noncomputable def m_:FI:=(eM (aa (aC (g2 tM) (aa (aC (g1 cV) (aa (ab 0) ah)) (aa (vC (.int 63)) ah))) ah))
noncomputable def gW:FS:=(au (a8 3 (aC (g1 wZ) (aa (av dX (ab 0) (ab 2)) ah)))
    (au (fF (ax (av tL (ab 3) (av uP (vC (.int 10)) (vC (.int 18)))))
    (dm ([4]++[]) k9 (af 4) i4)
    bI)
    (au (jI (2 ^ 4200) gX kU)
    (fF (ax (av uO (ab 3) (vC (.int 2147483629))))
    (cE (bX bg (ab 1) (aa (av a9 (ab 3) (vC (.int 2147483629))) ah)))
    bI))))
noncomputable def vO:FS:=(au (a8 1 (dr ah))
    (au (dm ([2]++([3]++((([4]++[])++[])++(([]++[3])++([]++[]))))) m_ (af 2) gW)
    (ba (ab 1))))
noncomputable def ms:FM:=gS 1 4 ([1]++(([2]++([3]++((([4]++[])++[])++(([]++[3])++([]++[])))))++[])) vO
theorem uc:aH ["_law_script","_law_drawn","_law_k","_law_cell","_law_j"] ["_law_script"] (am mH):=⟨rfl,rfl,rfl,by decide+kernel,rfl,by decide+kernel,by decide+kernel⟩
theorem y1(h:be K mg "_law_draws" mH f fd ["_law_script"])(T:jm mg){fLmixed:Addr}{eLmixed:FuncData}(hLmixed:be K mg "_law_mixed" mI fLmixed eLmixed ["_law_cell","_law_k"])(GLmixed:aL P w K mg base bH 1 fLmixed eLmixed ["_law_cell","_law_k"] (bM K 2 lb)):aL P w K mg base bH 2 f fd ["_law_script"] (bM K 1 ms):=by
  have nd:=uc.nd
  exact h.fn uc rfl rfl (fun cdv A outer s H E hr=>(@ag _ _ _ _ _ _ _ _ (@aK _ _ _ _ _ 1 _ _ nd rfl (Or.inl rfl) (@bP _ _ _ _ _ ac) (by rfl) (by trivial))
      (@ag _ _ _ _ _ _ _ _ (@cH _ _ _ _ _ _ _ _ _ _ _ PassesOwn.never rfl (@fj _ _ _ _ _ _ _ rfl T.b_range ((@aP _ _ _ _ _ _ _ _ _ (@b_min _ _ rfl) (by rfl) T.b_min ((@aP _ _ _ _ _ _ _ _ _ (@b_len _ _ rfl) (by rfl) T.b_len ((¬0)∘ac) (by decide) (by decide) (by rfl) (by rfl))∘(ae∘ac)) (by decide) (by decide) (by rfl) (by rfl))∘ac) (by rfl)) (@ap _ _ _ 2 _ nd rfl (Or.inl rfl) (by trivial))
      (@ag _ _ _ _ _ _ _ _ (@aK _ _ _ _ _ 3 _ _ nd rfl (Or.inl rfl) (@aP _ _ _ _ _ _ _ _ _ (@b_abs _ _) (by rfl) T.b_abs ((@bV _ _ _ _ _ _ _ rfl (¬0) (¬2) (fun _ _=>rfl))∘ac) (by decide) (by decide) (by rfl) (by rfl)) (by rfl) (by trivial))
      (@ag _ _ _ _ _ _ _ _ (@bD _ _ _ _ _ _ _ _ _ _ _ (@aV _ _ _ _ _ _ _ _ _ (@sZ _ _) (¬3) (@C5 _ _ _ _ _ _ _ ae ae) (aO _))
      (@aj _ _ _ _ _ (@cH _ _ _ _ _ _ _ _ _ _ _ PassesOwn.never rfl (@fj _ _ _ _ _ _ _ rfl T.b_range (ae∘ac) (by rfl)) (@ap _ _ _ 4 _ nd rfl (Or.inl rfl) (by trivial))
      (@aj _ _ _ _ _ (@dF _ _ _ _ _ (@dk _ _ _ _ _ _ _ _ _ rfl (¬1) ((@a' _ _ _ _ _ _ _ _ _ _ _ _ _ _ _ hLmixed GLmixed (hr.mono (by decide)) ((@a' _ _ _ _ _ _ _ _ _ _ _ _ _ _ _ hLmixed GLmixed (hr.mono (by decide)) ((¬3)∘((@bB _ _ _ _ _ _ _ rfl (@kG _ _ _ _ _ _ _ rfl ae (¬4)) ae)∘ac)) (by rfl) (by decide) (by rfl) (by rfl))∘((@bB _ _ _ _ _ _ _ rfl (@bB _ _ _ _ _ _ _ rfl (¬4) (¬2)) ae)∘ac)) (by rfl) (by decide) (by rfl) (by rfl))∘ac) (by rfl) (by rfl) (by rfl) (by rfl) (by rfl)) (by rfl))) (by intro _;rfl)))
      (@aR _ _))
      (@ag _ _ _ _ _ _ _ _ (@mE _ _ _ _ _ _ _ _ _ PassesOwn.never (@nv _ _ _ _ (@pS _ _ _ _ _ _ _ _ (@aV _ _ _ _ _ _ _ _ _ (@sY _ _) (¬3) (@C5 _ _ _ _ _ _ _ ae ae) (aO _)) (@oT _ _ _ _ _ (@aV _ _ _ _ _ _ _ _ _ (@sZ _ _) (@aP _ _ _ _ _ _ _ _ _ (@b_len _ _ rfl) (by rfl) T.b_len ((¬1)∘ac) (by decide) (by decide) (by rfl) (by rfl)) ae (aO _)))))
      (@ag _ _ _ _ _ _ _ _ (@dF _ _ _ _ _ (@dk _ _ _ _ _ _ _ _ _ rfl (¬1) ((@bf _ _ _ _ _ _ _ (¬3) ae)∘ac) (by rfl) (by rfl) (by rfl) (by rfl) (by rfl)) (by rfl))
      (@aj _ _ _ _ _ (@aK _ _ _ _ _ 3 _ _ nd rfl (Or.inl rfl) (@kD _ _ _ _ _ _ _ (¬3) ae) (by rfl) (by trivial)))))
      (@aj _ _ _ _ _ (@bD _ _ _ _ _ _ _ _ _ _ _ (@aV _ _ _ _ _ _ _ _ _ (@sY _ _) (¬3) ae (aO _))
      (@aj _ _ _ _ _ (@dF _ _ _ _ _ (@dk _ _ _ _ _ _ _ _ _ rfl (¬1) ((@bf _ _ _ _ _ _ _ (¬3) ae)∘ac) (by rfl) (by rfl) (by rfl) (by rfl) (by rfl)) (by rfl)))
      (@aR _ _)))))) (by intro _;rfl))
      (@aj _ _ _ _ _ (@aA _ _ _ _ _ (¬1))))))
noncomputable def uI:FS:=(au (fF (ax (av (bw false) (ab 0) (dr ah)))
    (ba (vC (.int 0)))
    bI)
    (ba (bX eN (ab 0) (aa (vC (.int 0)) ah))))
noncomputable def a_:FM:=gS 1 0 (([]++[])++[]) uI
theorem wz:aH ["_law_drawn"] ["_law_drawn"] (am iU):=⟨rfl,rfl,rfl,by decide+kernel,rfl,by decide+kernel,by decide+kernel⟩
theorem Bn(h:be K mg "_law_next" iU f fd ["_law_drawn"])(T:jm mg):aL P w K mg base bH 1 f fd ["_law_drawn"] (bM K 1 a_):=by
  have nd:=wz.nd
  exact h.fn wz rfl rfl (fun cdv A outer s H E hr=>(@ag _ _ _ _ _ _ _ _ (@bD _ _ _ _ _ _ _ _ _ _ _ (@aV _ _ _ _ _ _ _ _ _ (@qg _ _ _ rfl hr) (¬0) (@bP _ _ _ _ _ ac) (aO _))
      (@aj _ _ _ _ _ (@aA _ _ _ _ _ ae))
      (@aR _ _))
      (@aj _ _ _ _ _ (@aA _ _ _ _ _ (@sI _ _ _ _ _ _ _ _ _ rfl (¬0) (ae∘ac) (by rfl) (by rfl) (by rfl) (by rfl) (by rfl))))))
noncomputable def l5:FT:=(ax (av (bw true) (ab 1) (vC (.int 0))))
noncomputable def oM:FS:=(pV 0 1 (aa (ab 1) (aa (av a9 (ab 0) (ab 1)) ah)))
noncomputable def CD:FS:=(au (jI (2 ^ 4200) l5 oM)
    (ba (aC (g1 wZ) (aa (ab 0) ah))))
noncomputable def tP:FM:=gS 2 0 ([0,1]++[]) CD
theorem zS:aH ["_law_one","_law_other"] ["_law_one","_law_other"] (am tZ):=⟨rfl,rfl,rfl,by decide+kernel,rfl,by decide+kernel,by decide+kernel⟩
theorem DX(h:be K mg "_law_gcd" tZ f fd ["_law_one","_law_other"])(T:jm mg):aL P w K mg base bH 1 f fd ["_law_one","_law_other"] (bM K 2 tP):=by
  have nd:=zS.nd
  exact h.fn zS rfl rfl (fun cdv A outer s H E hr=>(@ag _ _ _ _ _ _ _ _ (@mE _ _ _ _ _ _ _ _ _ PassesOwn.never (@aV _ _ _ _ _ _ _ _ _ (@l6 _ _ _ rfl hr) (¬1) ae (aO _))
      (@aj _ _ _ _ _ (@EA _ _ _ _ _ 0 1 _ _ _ _ _ _ _ _ _ rfl nd rfl rfl (by decide) rfl rfl ((¬1)∘((@bf _ _ _ _ _ _ _ (¬0) (¬1))∘ac)) (by rfl) (by rfl))))
      (@aj _ _ _ _ _ (@aA _ _ _ _ _ (@aP _ _ _ _ _ _ _ _ _ (@b_abs _ _) (by rfl) T.b_abs ((¬0)∘ac) (by decide) (by decide) (by rfl) (by rfl))))))
noncomputable def CF:FS:=(au (a8 2 (bW 2 tP (aa (ab 0) (aa (ab 1) ah))))
    (ba (br (aa (av gH (ab 0) (ab 2)) (aa (av gH (ab 1) (ab 2)) ah)))))
noncomputable def qX:FM:=gS 2 1 ([2]++[]) CF
theorem zT:aH ["_law_top","_law_bottom","_law_common"] ["_law_top","_law_bottom"] (am t9):=⟨rfl,rfl,rfl,by decide+kernel,rfl,by decide+kernel,by decide+kernel⟩
theorem DY(h:be K mg "_law_low" t9 f fd ["_law_top","_law_bottom"])(T:jm mg){fLgcd:Addr}{eLgcd:FuncData}(hLgcd:be K mg "_law_gcd" tZ fLgcd eLgcd ["_law_one","_law_other"])(GLgcd:aL P w K mg base bH 1 fLgcd eLgcd ["_law_one","_law_other"] (bM K 2 tP)):aL P w K mg base bH 2 f fd ["_law_top","_law_bottom"] (bM K 2 qX):=by
  have nd:=zT.nd
  exact h.fn zT rfl rfl (fun cdv A outer s H E hr=>(@ag _ _ _ _ _ _ _ _ (@aK _ _ _ _ _ 2 _ _ nd rfl (Or.inl rfl) (@a' _ _ _ _ _ _ _ _ _ _ _ _ _ _ _ hLgcd GLgcd (hr.mono (by decide)) ((¬0)∘((¬1)∘ac)) (by rfl) (by decide) (by rfl) (by rfl)) (by rfl) (by trivial))
      (@aj _ _ _ _ _ (@aA _ _ _ _ _ (@aT _ _ _ _ _ _ ((@kD _ _ _ _ _ _ _ (¬0) (¬2))∘((@kD _ _ _ _ _ _ _ (¬1) (¬2))∘ac)))))))
noncomputable def yj:FS:=(au (fF (ax (ab 1))
    (ba (av FC (ab 0) (vC (.bool true))))
    bI)
    (ba (av FC (ab 0) (vC (.bool false)))))
noncomputable def pI:FM:=gS 2 0 (([]++[])++[]) yj
theorem wA:aH ["_law_found","_law_due"] ["_law_found","_law_due"] (am pT):=⟨rfl,rfl,rfl,by decide+kernel,rfl,by decide+kernel,by decide+kernel⟩
theorem Bo(h:be K mg "_law_says" pT f fd ["_law_found","_law_due"])(T:jm mg):aL P w K mg base bH 1 f fd ["_law_found","_law_due"] (bM K 2 pI):=by
  have nd:=wA.nd
  exact h.fn wA rfl rfl (fun cdv A outer s H E hr=>(@ag _ _ _ _ _ _ _ _ (@bD _ _ _ _ _ _ _ _ _ _ _ (@cQ _ _ _ _ (¬1) (by intro _;rfl))
      (@aj _ _ _ _ _ (@aA _ _ _ _ _ (@mB _ _ _ _ _ _ _ _ _ (@Fx _ _) (¬0) (@ce _ _ _ _ _) (aO _))))
      (@aR _ _))
      (@aj _ _ _ _ _ (@aA _ _ _ _ _ (@mB _ _ _ _ _ _ _ _ _ (@Fx _ _) (¬0) (@ce _ _ _ _ _) (aO _))))))
noncomputable def j7:FS:=(au (fF (ax (av (bw false) (ab 1) (vC (.int 0))))
    (ba (av dX (dr (aa (br (aa (vC (.int 1)) (aa (vC (.int 2)) ah))) (aa (br (aa (vC (.int 1)) (aa (vC (.int 3)) ah))) (aa (br (aa (vC (.int 2)) (aa (vC (.int 3)) ah))) (aa (br (aa (vC (.int 1)) (aa (vC (.int 1)) ah))) (aa (br (aa (vC (.int 0)) (aa (vC (.int 1)) ah))) (aa (br (aa (vC (.int 3)) (aa (vC (.int 4)) ah))) ah))))))) (av a9 (ab 0) (vC (.int 6)))))
    bI)
    (au (fF (ax (av (bw false) (ab 1) (vC (.int 1))))
    (au (a8 2 (av bv (vC (.int 2)) (av a9 (ab 0) (vC (.int 9)))))
    (ba (bW 2 qX (aa (av bv (vC (.int 1)) (av a9 (av gH (ab 0) (vC (.int 9))) (av gw (ab 2) (vC (.int 1))))) (aa (ab 2) ah)))))
    bI)
    (au (fF (ax (av (bw false) (ab 1) (vC (.int 2))))
    (au (a8 2 (av bv (vC (.int 1)) (av a9 (ab 0) (vC (.int 100)))))
    (ba (bW 2 qX (aa (av a9 (av gH (ab 0) (vC (.int 100))) (av bv (ab 2) (vC (.int 1)))) (aa (ab 2) ah)))))
    bI)
    (ba (br (aa (vC (.int 1)) (aa (vC (.int 1)) ah)))))))
noncomputable def f_:FM:=gS 2 1 (([]++[])++((([2]++[])++[])++((([2]++[])++[])++[]))) j7
theorem rj:aH ["_law_number","_law_kind","_law_bottom"] ["_law_number","_law_kind"] (am kN):=⟨rfl,rfl,rfl,by decide+kernel,rfl,by decide+kernel,by decide+kernel⟩
theorem xA(h:be K mg "_law_chance" kN f fd ["_law_number","_law_kind"])(T:jm mg){fLlow:Addr}{eLlow:FuncData}(hLlow:be K mg "_law_low" t9 fLlow eLlow ["_law_top","_law_bottom"])(GLlow:aL P w K mg base bH 2 fLlow eLlow ["_law_top","_law_bottom"] (bM K 2 qX)):aL P w K mg base bH 3 f fd ["_law_number","_law_kind"] (bM K 2 f_):=by
  have nd:=rj.nd
  exact h.fn rj rfl rfl (fun cdv A outer s H E hr=>(@ag _ _ _ _ _ _ _ _ (@bD _ _ _ _ _ _ _ _ _ _ _ (@aV _ _ _ _ _ _ _ _ _ (@qg _ _ _ rfl hr) (¬1) ae (aO _))
      (@aj _ _ _ _ _ (@aA _ _ _ _ _ (@bV _ _ _ _ _ _ _ rfl (@bP _ _ _ _ _ ((@aT _ _ _ _ _ _ (ae∘(ae∘ac)))∘((@aT _ _ _ _ _ _ (ae∘(ae∘ac)))∘((@aT _ _ _ _ _ _ (ae∘(ae∘ac)))∘((@aT _ _ _ _ _ _ (ae∘(ae∘ac)))∘((@aT _ _ _ _ _ _ (ae∘(ae∘ac)))∘((@aT _ _ _ _ _ _ (ae∘(ae∘ac)))∘ac))))))) (@bf _ _ _ _ _ _ _ (¬0) ae) (fun _ _=>rfl))))
      (@aR _ _))
      (@ag _ _ _ _ _ _ _ _ (@bD _ _ _ _ _ _ _ _ _ _ _ (@aV _ _ _ _ _ _ _ _ _ (@qg _ _ _ rfl hr) (¬1) ae (aO _))
      (@ag _ _ _ _ _ _ _ _ (@aK _ _ _ _ _ 2 _ _ nd rfl (Or.inl rfl) (@bB _ _ _ _ _ _ _ rfl ae (@bf _ _ _ _ _ _ _ (¬0) ae)) (by rfl) (by trivial))
      (@aj _ _ _ _ _ (@aA _ _ _ _ _ (@a' _ _ _ _ _ _ _ _ _ _ _ _ _ _ _ hLlow GLlow (hr.mono (by decide)) ((@bB _ _ _ _ _ _ _ rfl ae (@bf _ _ _ _ _ _ _ (@kD _ _ _ _ _ _ _ (¬0) ae) (@oz _ _ _ _ _ _ _ (¬2) ae)))∘((¬2)∘ac)) (by rfl) (by decide) (by rfl) (by rfl)))))
      (@aR _ _))
      (@ag _ _ _ _ _ _ _ _ (@bD _ _ _ _ _ _ _ _ _ _ _ (@aV _ _ _ _ _ _ _ _ _ (@qg _ _ _ rfl hr) (¬1) ae (aO _))
      (@ag _ _ _ _ _ _ _ _ (@aK _ _ _ _ _ 2 _ _ nd rfl (Or.inl rfl) (@bB _ _ _ _ _ _ _ rfl ae (@bf _ _ _ _ _ _ _ (¬0) ae)) (by rfl) (by trivial))
      (@aj _ _ _ _ _ (@aA _ _ _ _ _ (@a' _ _ _ _ _ _ _ _ _ _ _ _ _ _ _ hLlow GLlow (hr.mono (by decide)) ((@bf _ _ _ _ _ _ _ (@kD _ _ _ _ _ _ _ (¬0) ae) (@bB _ _ _ _ _ _ _ rfl (¬2) ae))∘((¬2)∘ac)) (by rfl) (by decide) (by rfl) (by rfl)))))
      (@aR _ _))
      (@aj _ _ _ _ _ (@aA _ _ _ _ _ (@aT _ _ _ _ _ _ (ae∘(ae∘ac)))))))))
noncomputable def vS:FS:=(ba (av dX (dr (aa (av a9 (ab 0) (vC (.int 7))) (aa (av bv (vC (.int 5)) (av a9 (ab 0) (vC (.int 2)))) (aa (av a9 (ab 0) (vC (.int 1001))) (aa (av gw (vC (.int 1000)) (av a9 (ab 0) (vC (.int 3)))) ah))))) (av a9 (ab 1) (vC (.int 4)))))
noncomputable def mv:FM:=gS 2 0 [] vS
theorem uf:aH ["_law_number","_law_kind"] ["_law_number","_law_kind"] (am mJ):=⟨rfl,rfl,rfl,by decide+kernel,rfl,by decide+kernel,by decide+kernel⟩
theorem y4(h:be K mg "_law_worth" mJ f fd ["_law_number","_law_kind"])(T:jm mg):aL P w K mg base bH 1 f fd ["_law_number","_law_kind"] (bM K 2 mv):=by
  have nd:=uf.nd
  exact h.fn uf rfl rfl (fun cdv A outer s H E hr=>(@aj _ _ _ _ _ (@aA _ _ _ _ _ (@bV _ _ _ _ _ _ _ rfl (@bP _ _ _ _ _ ((@bf _ _ _ _ _ _ _ (¬0) ae)∘((@bB _ _ _ _ _ _ _ rfl ae (@bf _ _ _ _ _ _ _ (¬0) ae))∘((@bf _ _ _ _ _ _ _ (¬0) ae)∘((@oz _ _ _ _ _ _ _ ae (@bf _ _ _ _ _ _ _ (¬0) ae))∘ac))))) (@bf _ _ _ _ _ _ _ (¬1) ae) (fun _ _=>rfl)))))
noncomputable def pB:FI:=(eM (aa (ab 2) ah))
noncomputable def i6:FS:=(au (a8 8 (bW 1 a_ (aa (ab 0) ah)))
    (au (a8 9 (av dX (dr (aa (av a9 (ab 8) (ab 1)) (aa (vC (.int 0)) (aa (av a9 (ab 7) (ab 1)) (aa (av a9 (ab 8) (ab 1)) (aa (av a9 (ab 8) (vC (.int 2))) (aa (av a9 (ab 8) (ab 1)) ah))))))) (ab 3)))
    (au (a8 10 (av a9 (av bv (av bv (ab 9) (vC (.int 1))) (av a9 (av gH (ab 8) (vC (.int 12))) (av gw (ab 1) (vC (.int 1))))) (ab 1)))
    (au (fF (ax (av (bw false) (ab 3) (vC (.int 4))))
    (jH (br (aa (vC (.int 0)) (aa (vC (.int 1)) ah))) (aZ (ao (af 9) (ao (af 10) aX))))
    bI)
    (au (a8 11 (bW 1 a_ (aa (ab 0) ah)))
    (au (a8 12 (br (aa (aC (g2 tM) (aa (ab 9) (aa (ab 10) ah))) (aa (aC (g2 oD) (aa (ab 9) (aa (ab 10) ah))) ah))))
    (cE (bX bg (ab 6) (aa (av bv (ab 12) (br (aa (bW 2 f_ (aa (ab 11) (aa (ab 4) ah))) (aa (bW 2 mv (aa (av gH (ab 11) (vC (.int 10007))) (aa (ab 5) ah))) ah)))) ah)))))))))
noncomputable def yk:FS:=(au (a8 3 (av a9 (bW 1 a_ (aa (ab 0) ah)) (vC (.int 6))))
    (au (a8 4 (av a9 (bW 1 a_ (aa (ab 0) ah)) (vC (.int 4))))
    (au (a8 5 (av a9 (bW 1 a_ (aa (ab 0) ah)) (vC (.int 4))))
    (au (a8 6 (dr ah))
    (au (dm ([7]++([8]++([9]++([10]++((([9]++([10]++[]))++[])++([11]++([12]++[]))))))) pB (af 7) i6)
    (ba (aC (g1 cP) (aa (ab 6) ah))))))))
noncomputable def pJ:FM:=gS 3 10 ([3]++([4]++([5]++([6]++(([7]++([8]++([9]++([10]++((([9]++([10]++[]))++[])++([11]++([12]++[])))))))++[]))))) yk
theorem wB:aH ["_law_drawn","_law_things","_law_many","_law_shape","_law_odds","_law_worths","_law_found","_law_k","_law_number","_law_one","_law_other","_law_cell","_law_ends"] ["_law_drawn","_law_things","_law_many"] (am pU):=⟨rfl,rfl,rfl,by decide+kernel,rfl,by decide+kernel,by decide+kernel⟩
theorem Bp(h:be K mg "_law_ties" pU f fd ["_law_drawn","_law_things","_law_many"])(T:jm mg){fLnext:Addr}{eLnext:FuncData}(hLnext:be K mg "_law_next" iU fLnext eLnext ["_law_drawn"])(GLnext:aL P w K mg base bH 1 fLnext eLnext ["_law_drawn"] (bM K 1 a_)){fLchance:Addr}{eLchance:FuncData}(hLchance:be K mg "_law_chance" kN fLchance eLchance ["_law_number","_law_kind"])(GLchance:aL P w K mg base bH 3 fLchance eLchance ["_law_number","_law_kind"] (bM K 2 f_)){fLworth:Addr}{eLworth:FuncData}(hLworth:be K mg "_law_worth" mJ fLworth eLworth ["_law_number","_law_kind"])(GLworth:aL P w K mg base bH 1 fLworth eLworth ["_law_number","_law_kind"] (bM K 2 mv)):aL P w K mg base bH 4 f fd ["_law_drawn","_law_things","_law_many"] (bM K 3 pJ):=by
  have nd:=wB.nd
  exact h.fn wB rfl rfl (fun cdv A outer s H E hr=>(@ag _ _ _ _ _ _ _ _ (@aK _ _ _ _ _ 3 _ _ nd rfl (Or.inl rfl) (@bf _ _ _ _ _ _ _ (@a' _ _ _ _ _ _ _ _ _ _ _ _ _ _ _ hLnext GLnext (hr.mono (by decide)) ((¬0)∘ac) (by rfl) (by decide) (by rfl) (by rfl)) ae) (by rfl) (by trivial))
      (@ag _ _ _ _ _ _ _ _ (@aK _ _ _ _ _ 4 _ _ nd rfl (Or.inl rfl) (@bf _ _ _ _ _ _ _ (@a' _ _ _ _ _ _ _ _ _ _ _ _ _ _ _ hLnext GLnext (hr.mono (by decide)) ((¬0)∘ac) (by rfl) (by decide) (by rfl) (by rfl)) ae) (by rfl) (by trivial))
      (@ag _ _ _ _ _ _ _ _ (@aK _ _ _ _ _ 5 _ _ nd rfl (Or.inl rfl) (@bf _ _ _ _ _ _ _ (@a' _ _ _ _ _ _ _ _ _ _ _ _ _ _ _ hLnext GLnext (hr.mono (by decide)) ((¬0)∘ac) (by rfl) (by decide) (by rfl) (by rfl)) ae) (by rfl) (by trivial))
      (@ag _ _ _ _ _ _ _ _ (@aK _ _ _ _ _ 6 _ _ nd rfl (Or.inl rfl) (@bP _ _ _ _ _ ac) (by rfl) (by trivial))
      (@ag _ _ _ _ _ _ _ _ (@cH _ _ _ _ _ _ _ _ _ _ _ PassesOwn.never rfl (@fj _ _ _ _ _ _ _ rfl T.b_range ((¬2)∘ac) (by rfl)) (@ap _ _ _ 7 _ nd rfl (Or.inl rfl) (by trivial))
      (@ag _ _ _ _ _ _ _ _ (@aK _ _ _ _ _ 8 _ _ nd rfl (Or.inl rfl) (@a' _ _ _ _ _ _ _ _ _ _ _ _ _ _ _ hLnext GLnext (hr.mono (by decide)) ((¬0)∘ac) (by rfl) (by decide) (by rfl) (by rfl)) (by rfl) (by trivial))
      (@ag _ _ _ _ _ _ _ _ (@aK _ _ _ _ _ 9 _ _ nd rfl (Or.inl rfl) (@bV _ _ _ _ _ _ _ rfl (@bP _ _ _ _ _ ((@bf _ _ _ _ _ _ _ (¬8) (¬1))∘(ae∘((@bf _ _ _ _ _ _ _ (¬7) (¬1))∘((@bf _ _ _ _ _ _ _ (¬8) (¬1))∘((@bf _ _ _ _ _ _ _ (¬8) ae)∘((@bf _ _ _ _ _ _ _ (¬8) (¬1))∘ac))))))) (¬3) (fun _ _=>rfl)) (by rfl) (by trivial))
      (@ag _ _ _ _ _ _ _ _ (@aK _ _ _ _ _ 10 _ _ nd rfl (Or.inl rfl) (@bf _ _ _ _ _ _ _ (@bB _ _ _ _ _ _ _ rfl (@bB _ _ _ _ _ _ _ rfl (¬9) ae) (@bf _ _ _ _ _ _ _ (@kD _ _ _ _ _ _ _ (¬8) ae) (@oz _ _ _ _ _ _ _ (¬1) ae))) (¬1)) (by rfl) (by trivial))
      (@ag _ _ _ _ _ _ _ _ (@bD _ _ _ _ _ _ _ _ _ _ _ (@aV _ _ _ _ _ _ _ _ _ (@qg _ _ _ rfl hr) (¬3) ae (aO _))
      (@aj _ _ _ _ _ (@jF _ _ _ _ _ _ _ _ (@aT _ _ _ _ _ _ (ae∘(ae∘ac))) (@cz _ _ _ _ _ _ _ _ rfl rfl (@ar _ _ _ _ _ _ _ _ (@ap _ _ _ 9 _ nd rfl (Or.inl rfl) (by trivial)) (@ar _ _ _ _ _ _ _ _ (@ap _ _ _ 10 _ nd rfl (Or.inl rfl) (by trivial)) (@bC _ _) (by rfl)) (by rfl)) (aB (aB cw)) (by rfl) (by rfl)) (by rfl) (by rfl) (by rfl)))
      (@aR _ _))
      (@ag _ _ _ _ _ _ _ _ (@aK _ _ _ _ _ 11 _ _ nd rfl (Or.inl rfl) (@a' _ _ _ _ _ _ _ _ _ _ _ _ _ _ _ hLnext GLnext (hr.mono (by decide)) ((¬0)∘ac) (by rfl) (by decide) (by rfl) (by rfl)) (by rfl) (by trivial))
      (@ag _ _ _ _ _ _ _ _ (@aK _ _ _ _ _ 12 _ _ nd rfl (Or.inl rfl) (@aT _ _ _ _ _ _ ((@aP _ _ _ _ _ _ _ _ _ (@b_min _ _ rfl) (by rfl) T.b_min ((¬9)∘((¬10)∘ac)) (by decide) (by decide) (by rfl) (by rfl))∘((@aP _ _ _ _ _ _ _ _ _ (@b_max _ _ rfl) (by rfl) T.b_max ((¬9)∘((¬10)∘ac)) (by decide) (by decide) (by rfl) (by rfl))∘ac))) (by rfl) (by trivial))
      (@aj _ _ _ _ _ (@dF _ _ _ _ _ (@dk _ _ _ _ _ _ _ _ _ rfl (¬6) ((@bB _ _ _ _ _ _ _ rfl (¬12) (@aT _ _ _ _ _ _ ((@a' _ _ _ _ _ _ _ _ _ _ _ _ _ _ _ hLchance GLchance (hr.mono (by decide)) ((¬11)∘((¬4)∘ac)) (by rfl) (by decide) (by rfl) (by rfl))∘((@a' _ _ _ _ _ _ _ _ _ _ _ _ _ _ _ hLworth GLworth (hr.mono (by decide)) ((@kD _ _ _ _ _ _ _ (¬11) ae)∘((¬5)∘ac)) (by rfl) (by decide) (by rfl) (by rfl))∘ac))))∘ac) (by rfl) (by rfl) (by rfl) (by rfl) (by rfl)) (by rfl))))))))) (by intro _;rfl))
      (@aj _ _ _ _ _ (@aA _ _ _ _ _ (@aP _ _ _ _ _ _ _ _ _ (@b_tuple _ _ rfl) (by rfl) T.b_tuple ((¬6)∘ac) (by decide) (by decide) (by rfl) (by rfl))))))))))
noncomputable def r6:FI:=(eM (aa (ab 3) ah))
noncomputable def oO:FS:=(cE (bX bg (ab 7) (aa (av dX (dr (aa (vC (.int 20)) (aa (av bv (vC (.int 1)) (av a9 (bW 1 a_ (aa (ab 0) ah)) (vC (.int 3)))) (aa (av a9 (bW 1 a_ (aa (ab 0) ah)) (vC (.int 21))) ah)))) (ab 6)) ah)))
noncomputable def CG:FS:=(au (a8 3 (av a9 (bW 1 a_ (aa (ab 0) ah)) (av bv (ab 1) (vC (.int 1)))))
    (au (a8 4 (av gy (av a9 (bW 1 a_ (aa (ab 0) ah)) (av bv (ab 2) (vC (.int 1)))) (aC (g1 w_) (aa (av CT (ab 3) (vC (.int 1))) ah))))
    (au (a8 5 (bW 3 pJ (aa (ab 0) (aa (aC (g2 oD) (aa (vC (.int 2)) (aa (ab 3) ah))) (aa (ab 4) ah)))))
    (au (a8 6 (av a9 (bW 1 a_ (aa (ab 0) ah)) (vC (.int 3))))
    (au (a8 7 (dr ah))
    (au (dm ([8]++[]) r6 (af 8) oO)
    (au (a8 9 (av dX (dr (aa (vC (.int 40)) (aa (av bv (vC (.int 1)) (av a9 (bW 1 a_ (aa (ab 0) ah)) (aC (g2 oD) (aa (vC (.int 1)) (aa (ab 4) ah))))) (aa (av a9 (bW 1 a_ (aa (ab 0) ah)) (vC (.int 41))) ah)))) (av a9 (bW 1 a_ (aa (ab 0) ah)) (vC (.int 3)))))
    (ba (br (aa (ab 3) (aa (ab 5) (aa (aC (g1 cP) (aa (ab 7) ah)) (aa (ab 9) ah)))))))))))))
noncomputable def tQ:FM:=gS 3 7 ([3]++([4]++([5]++([6]++([7]++(([8]++[])++([9]++[]))))))) CG
theorem zV:aH ["_law_drawn","_law_most","_law_ties_here","_law_things","_law_many","_law_rows","_law_way","_law_patience","_law_k","_law_asks"] ["_law_drawn","_law_most","_law_ties_here"] (am t_):=⟨rfl,rfl,rfl,by decide+kernel,rfl,by decide+kernel,by decide+kernel⟩
theorem D3(h:be K mg "_law_web" t_ f fd ["_law_drawn","_law_most","_law_ties_here"])(T:jm mg){fLties:Addr}{eLties:FuncData}(hLties:be K mg "_law_ties" pU fLties eLties ["_law_drawn","_law_things","_law_many"])(GLties:aL P w K mg base bH 4 fLties eLties ["_law_drawn","_law_things","_law_many"] (bM K 3 pJ)){fLnext:Addr}{eLnext:FuncData}(hLnext:be K mg "_law_next" iU fLnext eLnext ["_law_drawn"])(GLnext:aL P w K mg base bH 1 fLnext eLnext ["_law_drawn"] (bM K 1 a_)):aL P w K mg base bH 5 f fd ["_law_drawn","_law_most","_law_ties_here"] (bM K 3 tQ):=by
  have nd:=zV.nd
  exact h.fn zV rfl rfl (fun cdv A outer s H E hr=>(@ag _ _ _ _ _ _ _ _ (@aK _ _ _ _ _ 3 _ _ nd rfl (Or.inl rfl) (@bf _ _ _ _ _ _ _ (@a' _ _ _ _ _ _ _ _ _ _ _ _ _ _ _ hLnext GLnext (hr.mono (by decide)) ((¬0)∘ac) (by rfl) (by decide) (by rfl) (by rfl)) (@bB _ _ _ _ _ _ _ rfl (¬1) ae)) (by rfl) (by trivial))
      (@ag _ _ _ _ _ _ _ _ (@aK _ _ _ _ _ 4 _ _ nd rfl (Or.inl rfl) (@kG _ _ _ _ _ _ _ rfl (@bf _ _ _ _ _ _ _ (@a' _ _ _ _ _ _ _ _ _ _ _ _ _ _ _ hLnext GLnext (hr.mono (by decide)) ((¬0)∘ac) (by rfl) (by decide) (by rfl) (by rfl)) (@bB _ _ _ _ _ _ _ rfl (¬2) ae)) (@aP _ _ _ _ _ _ _ _ _ (@b_int _ _) (by rfl) T.b_int ((@mB _ _ _ _ _ _ _ _ _ (@Dq _ _) (¬3) ae (aO _))∘ac) (by decide) (by decide) (by rfl) (by rfl))) (by rfl) (by trivial))
      (@ag _ _ _ _ _ _ _ _ (@aK _ _ _ _ _ 5 _ _ nd rfl (Or.inl rfl) (@a' _ _ _ _ _ _ _ _ _ _ _ _ _ _ _ hLties GLties (hr.mono (by decide)) ((¬0)∘((@aP _ _ _ _ _ _ _ _ _ (@b_max _ _ rfl) (by rfl) T.b_max (ae∘((¬3)∘ac)) (by decide) (by decide) (by rfl) (by rfl))∘((¬4)∘ac))) (by rfl) (by decide) (by rfl) (by rfl)) (by rfl) (by trivial))
      (@ag _ _ _ _ _ _ _ _ (@aK _ _ _ _ _ 6 _ _ nd rfl (Or.inl rfl) (@bf _ _ _ _ _ _ _ (@a' _ _ _ _ _ _ _ _ _ _ _ _ _ _ _ hLnext GLnext (hr.mono (by decide)) ((¬0)∘ac) (by rfl) (by decide) (by rfl) (by rfl)) ae) (by rfl) (by trivial))
      (@ag _ _ _ _ _ _ _ _ (@aK _ _ _ _ _ 7 _ _ nd rfl (Or.inl rfl) (@bP _ _ _ _ _ ac) (by rfl) (by trivial))
      (@ag _ _ _ _ _ _ _ _ (@cH _ _ _ _ _ _ _ _ _ _ _ PassesOwn.never rfl (@fj _ _ _ _ _ _ _ rfl T.b_range ((¬3)∘ac) (by rfl)) (@ap _ _ _ 8 _ nd rfl (Or.inl rfl) (by trivial))
      (@aj _ _ _ _ _ (@dF _ _ _ _ _ (@dk _ _ _ _ _ _ _ _ _ rfl (¬7) ((@bV _ _ _ _ _ _ _ rfl (@bP _ _ _ _ _ (ae∘((@bB _ _ _ _ _ _ _ rfl ae (@bf _ _ _ _ _ _ _ (@a' _ _ _ _ _ _ _ _ _ _ _ _ _ _ _ hLnext GLnext (hr.mono (by decide)) ((¬0)∘ac) (by rfl) (by decide) (by rfl) (by rfl)) ae))∘((@bf _ _ _ _ _ _ _ (@a' _ _ _ _ _ _ _ _ _ _ _ _ _ _ _ hLnext GLnext (hr.mono (by decide)) ((¬0)∘ac) (by rfl) (by decide) (by rfl) (by rfl)) ae)∘ac)))) (¬6) (fun _ _=>rfl))∘ac) (by rfl) (by rfl) (by rfl) (by rfl) (by rfl)) (by rfl))) (by intro _;rfl))
      (@ag _ _ _ _ _ _ _ _ (@aK _ _ _ _ _ 9 _ _ nd rfl (Or.inl rfl) (@bV _ _ _ _ _ _ _ rfl (@bP _ _ _ _ _ (ae∘((@bB _ _ _ _ _ _ _ rfl ae (@bf _ _ _ _ _ _ _ (@a' _ _ _ _ _ _ _ _ _ _ _ _ _ _ _ hLnext GLnext (hr.mono (by decide)) ((¬0)∘ac) (by rfl) (by decide) (by rfl) (by rfl)) (@aP _ _ _ _ _ _ _ _ _ (@b_max _ _ rfl) (by rfl) T.b_max (ae∘((¬4)∘ac)) (by decide) (by decide) (by rfl) (by rfl))))∘((@bf _ _ _ _ _ _ _ (@a' _ _ _ _ _ _ _ _ _ _ _ _ _ _ _ hLnext GLnext (hr.mono (by decide)) ((¬0)∘ac) (by rfl) (by decide) (by rfl) (by rfl)) ae)∘ac)))) (@bf _ _ _ _ _ _ _ (@a' _ _ _ _ _ _ _ _ _ _ _ _ _ _ _ hLnext GLnext (hr.mono (by decide)) ((¬0)∘ac) (by rfl) (by decide) (by rfl) (by rfl)) ae) (fun _ _=>rfl)) (by rfl) (by trivial))
      (@aj _ _ _ _ _ (@aA _ _ _ _ _ (@aT _ _ _ _ _ _ ((¬3)∘((¬5)∘((@aP _ _ _ _ _ _ _ _ _ (@b_tuple _ _ rfl) (by rfl) T.b_tuple ((¬7)∘ac) (by decide) (by decide) (by rfl) (by rfl))∘((¬9)∘ac)))))))))))))))
noncomputable def sV:FS:=(au (jH (ab 0) (aZ (ao (af 1) (ao (af 2) (ao (af 3) (ao (af 4) aX))))))
    (ba (br (aa (ab 1) (aa (ab 2) (aa (av gy (br (aa (vC (.int 20)) ah)) (ab 1)) (aa (vC (.int 40)) ah)))))))
noncomputable def iq:FM:=gS 1 4 (([1]++([2]++([3]++([4]++[]))))++[]) sV
theorem rk:aH ["_law_web_here","_law_things","_law_ties_here","_law_patience","_law_asks"] ["_law_web_here"] (am kO):=⟨rfl,rfl,rfl,by decide+kernel,rfl,by decide+kernel,by decide+kernel⟩
theorem xB(h:be K mg "_law_enough" kO f fd ["_law_web_here"])(T:jm mg):aL P w K mg base bH 1 f fd ["_law_web_here"] (bM K 1 iq):=by
  have nd:=rk.nd
  exact h.fn rk rfl rfl (fun cdv A outer s H E hr=>(@ag _ _ _ _ _ _ _ _ (@jF _ _ _ _ _ _ _ _ (¬0) (@cz _ _ _ _ _ _ _ _ rfl rfl (@ar _ _ _ _ _ _ _ _ (@ap _ _ _ 1 _ nd rfl (Or.inl rfl) (by trivial)) (@ar _ _ _ _ _ _ _ _ (@ap _ _ _ 2 _ nd rfl (Or.inl rfl) (by trivial)) (@ar _ _ _ _ _ _ _ _ (@ap _ _ _ 3 _ nd rfl (Or.inl rfl) (by trivial)) (@ar _ _ _ _ _ _ _ _ (@ap _ _ _ 4 _ nd rfl (Or.inl rfl) (by trivial)) (@bC _ _) (by rfl)) (by rfl)) (by rfl)) (by rfl)) (aB (aB (aB (aB cw)))) (by rfl) (by rfl)) (by rfl) (by rfl) (by rfl))
      (@aj _ _ _ _ _ (@aA _ _ _ _ _ (@aT _ _ _ _ _ _ ((¬1)∘((¬2)∘((@kG _ _ _ _ _ _ _ rfl (@aT _ _ _ _ _ _ (ae∘ac)) (¬1))∘(ae∘ac)))))))))
noncomputable def oq:FI:=(iC (ab 1))
noncomputable def fL:FT:=(ax (av (w6 false) (ab 0) (lu (av dX (av dX (ab 1) (vC (.int 1))) (ab 2)) bO (bJ (vC (.int 2))))))
noncomputable def fN:FE:=(ab 2)
noncomputable def qA:FS:=(ba (aC (g1 cV) (aa (cT [(2,"_law_thing"),(0,"_law_web_here")] 1 oq (af 2) fL fN) ah)))
noncomputable def en:FM:=gS 3 0 [] qA
theorem pY:aH ["_law_web_here","_law_asked","_law_thing"] ["_law_web_here","_law_asked","_law_thing"] (am fx):=⟨rfl,rfl,rfl,by decide+kernel,rfl,by decide+kernel,by decide+kernel⟩
theorem uY(h:be K mg "_law_asks_of" fx f fd ["_law_web_here","_law_asked","_law_thing"])(T:jm mg):aL P w K mg base bH 1 f fd ["_law_web_here","_law_asked","_law_thing"] (bM K 3 en):=by
  have nd:=pY.nd
  exact h.fn pY rfl rfl (fun cdv A outer s H E hr=>(@aj _ _ _ _ _ (@aA _ _ _ _ _ (@aP _ _ _ _ _ _ _ _ _ (@b_len _ _ rfl) (by rfl) T.b_len ((@jD _ _ _ _ _ _ _ _ _ _ _ _ _ (am fx) ["_law_web_here","_law_asked","_law_thing"] [(2,"_law_thing"),(0,"_law_web_here")] ["_law_tie"] rfl rfl rfl (@dM _ _ _ _ _ rfl (¬1))
        (fun C s0 H0 fp=>(@ap _ _ _ 2 _ (show List.Nodup (["_law_thing","_law_web_here","_law_tie"]:List Str) by decide+kernel) rfl (Or.inl rfl) (by trivial))) (fun C s0 H0 fp=>(@mF _ _ _ _ (@aV _ _ _ _ _ _ _ _ _ (@yn _ _ _ rfl hr) (¬0) (@bR _ _ _ _ _ _ _ _ _ _ rfl (@bV _ _ _ _ _ _ _ rfl (@bV _ _ _ _ _ _ _ rfl (¬1) ae (fun _ _=>rfl)) (¬2) (fun _ _=>rfl)) (@bS _ _) (@bT _ _ _ _ ae)) (by with_unfolding_all rfl))))
        (fun C s0 H0 fp=>(¬2)) rfl (by decide+kernel) (by decide+kernel) (by decide+kernel) (by decide+kernel) (by decide+kernel) (by decide+kernel) (by decide+kernel) (by intro _;rfl))∘ac) (by decide) (by decide) (by rfl) (by rfl)))))
noncomputable def wd:FI:=(iC (lu (av dX (av dX (ab 0) (vC (.int 1))) (ab 2)) bO (bJ (vC (.int 2)))))
noncomputable def js:FS:=(fF (oX (ax (av (w6 false) (ab 5) (ab 4))) (ax (av uO (bW 3 en (aa (ab 0) (aa (ab 3) (aa (ab 5) ah)))) (av dX (av dX (ab 0) (vC (.int 2))) (ab 5)))))
    (ba (vC (.bool false)))
    bI)
noncomputable def qB:FS:=(au (jH (ab 1) (aZ (ao (af 3) (ao (af 4) aX))))
    (au (fF (oX (ax (av (w6 false) (ab 2) (ab 3))) (ax (av uO (aC (g1 cV) (aa (ab 3) ah)) (av dX (ab 0) (vC (.int 3))))))
    (ba (vC (.bool false)))
    bI)
    (au (dm ([5]++([]++[])) wd (af 5) js)
    (ba (vC (.bool true))))))
noncomputable def jR:FM:=gS 3 3 (([3]++([4]++[]))++(([]++[])++(([5]++([]++[]))++[]))) qB
theorem zU:aH ["_law_web_here","_law_stand","_law_tie","_law_asked","_law_taken","_law_thing"] ["_law_web_here","_law_stand","_law_tie"] (am rd):=⟨rfl,rfl,rfl,by decide+kernel,rfl,by decide+kernel,by decide+kernel⟩
theorem DZ(h:be K mg "_law_may" rd f fd ["_law_web_here","_law_stand","_law_tie"])(T:jm mg){fLasks_of:Addr}{eLasks_of:FuncData}(hLasks_of:be K mg "_law_asks_of" fx fLasks_of eLasks_of ["_law_web_here","_law_asked","_law_thing"])(GLasks_of:aL P w K mg base bH 1 fLasks_of eLasks_of ["_law_web_here","_law_asked","_law_thing"] (bM K 3 en)):aL P w K mg base bH 2 f fd ["_law_web_here","_law_stand","_law_tie"] (bM K 3 jR):=by
  have nd:=zU.nd
  exact h.fn zU rfl rfl (fun cdv A outer s H E hr=>(@ag _ _ _ _ _ _ _ _ (@jF _ _ _ _ _ _ _ _ (¬1) (@cz _ _ _ _ _ _ _ _ rfl rfl (@ar _ _ _ _ _ _ _ _ (@ap _ _ _ 3 _ nd rfl (Or.inl rfl) (by trivial)) (@ar _ _ _ _ _ _ _ _ (@ap _ _ _ 4 _ nd rfl (Or.inl rfl) (by trivial)) (@bC _ _) (by rfl)) (by rfl)) (aB (aB cw)) (by rfl) (by rfl)) (by rfl) (by rfl) (by rfl))
      (@ag _ _ _ _ _ _ _ _ (@bD _ _ _ _ _ _ _ _ _ _ _ (@nv _ _ _ _ (@kM _ _ _ _ _ _ _ _ (@aV _ _ _ _ _ _ _ _ _ (@yn _ _ _ rfl hr) (¬2) (¬3) (by with_unfolding_all rfl)) (@jG _ _ _ _ _ (@aV _ _ _ _ _ _ _ _ _ (@sY _ _) (@aP _ _ _ _ _ _ _ _ _ (@b_len _ _ rfl) (by rfl) T.b_len ((¬3)∘ac) (by decide) (by decide) (by rfl) (by rfl)) (@bV _ _ _ _ _ _ _ rfl (¬0) ae (fun _ _=>rfl)) (aO _)))))
      (@aj _ _ _ _ _ (@aA _ _ _ _ _ (@ce _ _ _ _ _)))
      (@aR _ _))
      (@ag _ _ _ _ _ _ _ _ (@cH _ _ _ _ _ _ _ _ _ _ _ PassesOwn.never rfl (@dM _ _ _ _ _ rfl (@bR _ _ _ _ _ _ _ _ _ _ rfl (@bV _ _ _ _ _ _ _ rfl (@bV _ _ _ _ _ _ _ rfl (¬0) ae (fun _ _=>rfl)) (¬2) (fun _ _=>rfl)) (@bS _ _) (@bT _ _ _ _ ae))) (@ap _ _ _ 5 _ nd rfl (Or.inl rfl) (by trivial))
      (@aj _ _ _ _ _ (@bD _ _ _ _ _ _ _ _ _ _ _ (@nv _ _ _ _ (@kM _ _ _ _ _ _ _ _ (@aV _ _ _ _ _ _ _ _ _ (@yn _ _ _ rfl hr) (¬5) (¬4) (by with_unfolding_all rfl)) (@jG _ _ _ _ _ (@aV _ _ _ _ _ _ _ _ _ (@sY _ _) (@a' _ _ _ _ _ _ _ _ _ _ _ _ _ _ _ hLasks_of GLasks_of (hr.mono (by decide)) ((¬0)∘((¬3)∘((¬5)∘ac))) (by rfl) (by decide) (by rfl) (by rfl)) (@bV _ _ _ _ _ _ _ rfl (@bV _ _ _ _ _ _ _ rfl (¬0) ae (fun _ _=>rfl)) (¬5) (fun _ _=>rfl)) (aO _)))))
      (@aj _ _ _ _ _ (@aA _ _ _ _ _ (@ce _ _ _ _ _)))
      (@aR _ _))) (by intro _;rfl))
      (@aj _ _ _ _ _ (@aA _ _ _ _ _ (@ce _ _ _ _ _)))))))
noncomputable def o8:FS:=(au (jH (ab 1) (aZ (ao (af 4) (ao (af 5) aX))))
    (au (a8 6 (ab 5))
    (au (fF (ax (ab 3))
    (a8 6 (aC (g1 cP) (aa (aC (g1 df) (aa (av bv (ab 5) (lu (av dX (av dX (ab 0) (vC (.int 1))) (ab 2)) bO (bJ (vC (.int 2))))) ah)) ah)))
    bI)
    (ba (br (aa (aC (g1 cP) (aa (aC (g1 df) (aa (av bv (ab 4) (br (aa (ab 2) ah))) ah)) ah)) (aa (ab 6) ah)))))))
noncomputable def dR:FM:=gS 4 3 (([4]++([5]++[]))++([6]++(([6]++[])++[]))) o8
theorem rh:aH ["_law_web_here","_law_stand","_law_tie","_law_truth","_law_asked","_law_taken","_law_more"] ["_law_web_here","_law_stand","_law_tie","_law_truth"] (am je):=⟨rfl,rfl,rfl,by decide+kernel,rfl,by decide+kernel,by decide+kernel⟩
theorem xx(h:be K mg "_law_behind" je f fd ["_law_web_here","_law_stand","_law_tie","_law_truth"])(T:jm mg):aL P w K mg base bH 1 f fd ["_law_web_here","_law_stand","_law_tie","_law_truth"] (bM K 4 dR):=by
  have nd:=rh.nd
  exact h.fn rh rfl rfl (fun cdv A outer s H E hr=>(@ag _ _ _ _ _ _ _ _ (@jF _ _ _ _ _ _ _ _ (¬1) (@cz _ _ _ _ _ _ _ _ rfl rfl (@ar _ _ _ _ _ _ _ _ (@ap _ _ _ 4 _ nd rfl (Or.inl rfl) (by trivial)) (@ar _ _ _ _ _ _ _ _ (@ap _ _ _ 5 _ nd rfl (Or.inl rfl) (by trivial)) (@bC _ _) (by rfl)) (by rfl)) (aB (aB cw)) (by rfl) (by rfl)) (by rfl) (by rfl) (by rfl))
      (@ag _ _ _ _ _ _ _ _ (@aK _ _ _ _ _ 6 _ _ nd rfl (Or.inl rfl) (¬5) (by rfl) (by trivial))
      (@ag _ _ _ _ _ _ _ _ (@bD _ _ _ _ _ _ _ _ _ _ _ (@cQ _ _ _ _ (¬3) (by intro _;rfl))
      (@aj _ _ _ _ _ (@aK _ _ _ _ _ 6 _ _ nd rfl (Or.inl rfl) (@aP _ _ _ _ _ _ _ _ _ (@b_tuple _ _ rfl) (by rfl) T.b_tuple ((@aP _ _ _ _ _ _ _ _ _ (@lY _ _ rfl) (by rfl) T.b_sorted ((@bB _ _ _ _ _ _ _ rfl (¬5) (@bR _ _ _ _ _ _ _ _ _ _ rfl (@bV _ _ _ _ _ _ _ rfl (@bV _ _ _ _ _ _ _ rfl (¬0) ae (fun _ _=>rfl)) (¬2) (fun _ _=>rfl)) (@bS _ _) (@bT _ _ _ _ ae)))∘ac) (by decide) (by decide) (by rfl) (by rfl))∘ac) (by decide) (by decide) (by rfl) (by rfl)) (by rfl) (by trivial)))
      (@aR _ _))
      (@aj _ _ _ _ _ (@aA _ _ _ _ _ (@aT _ _ _ _ _ _ ((@aP _ _ _ _ _ _ _ _ _ (@b_tuple _ _ rfl) (by rfl) T.b_tuple ((@aP _ _ _ _ _ _ _ _ _ (@lY _ _ rfl) (by rfl) T.b_sorted ((@bB _ _ _ _ _ _ _ rfl (¬4) (@aT _ _ _ _ _ _ ((¬2)∘ac)))∘ac) (by decide) (by decide) (by rfl) (by rfl))∘ac) (by decide) (by decide) (by rfl) (by rfl))∘((¬6)∘ac)))))))))
noncomputable def km:FI:=(eM (aa (aC (g1 cV) (aa (av dX (ab 0) (vC (.int 1))) ah)) ah))
noncomputable def fK:FT:=(ax (bW 3 jR (aa (ab 0) (aa (ab 1) (aa (ab 2) ah)))))
noncomputable def fM:FE:=(ab 2)
noncomputable def qz:FS:=(ba (cT [(0,"_law_web_here"),(1,"_law_stand")] 1 km (af 2) fK fM))
noncomputable def ja:FM:=gS 2 0 [] qz
theorem pX:aH ["_law_web_here","_law_stand"] ["_law_web_here","_law_stand"] (am hX):=⟨rfl,rfl,rfl,by decide+kernel,rfl,by decide+kernel,by decide+kernel⟩
theorem uX(h:be K mg "_law_askable" hX f fd ["_law_web_here","_law_stand"])(T:jm mg){fLmay:Addr}{eLmay:FuncData}(hLmay:be K mg "_law_may" rd fLmay eLmay ["_law_web_here","_law_stand","_law_tie"])(GLmay:aL P w K mg base bH 2 fLmay eLmay ["_law_web_here","_law_stand","_law_tie"] (bM K 3 jR)):aL P w K mg base bH 3 f fd ["_law_web_here","_law_stand"] (bM K 2 ja):=by
  have nd:=pX.nd
  exact h.fn pX rfl rfl (fun cdv A outer s H E hr=>(@aj _ _ _ _ _ (@aA _ _ _ _ _ (@jD _ _ _ _ _ _ _ _ _ _ _ _ _ (am hX) ["_law_web_here","_law_stand"] [(0,"_law_web_here"),(1,"_law_stand")] ["_law_tie"] rfl rfl rfl (@fj _ _ _ _ _ _ _ rfl T.b_range ((@aP _ _ _ _ _ _ _ _ _ (@b_len _ _ rfl) (by rfl) T.b_len ((@bV _ _ _ _ _ _ _ rfl (¬0) ae (fun _ _=>rfl))∘ac) (by decide) (by decide) (by rfl) (by rfl))∘ac) (by rfl))
        (fun C s0 H0 fp=>(@ap _ _ _ 2 _ (show List.Nodup (["_law_web_here","_law_stand","_law_tie"]:List Str) by decide+kernel) rfl (Or.inl rfl) (by trivial))) (fun C s0 H0 fp=>(@mF _ _ _ _ (@cQ _ _ _ _ (@a' _ _ _ _ _ _ _ _ _ _ _ _ _ _ _ hLmay GLmay (hr.mono (by decide)) ((¬0)∘((¬1)∘((¬2)∘ac))) (by rfl) (by decide) (by rfl) (by rfl)) (by intro _;rfl))))
        (fun C s0 H0 fp=>(¬2)) rfl (by decide+kernel) (by decide+kernel) (by decide+kernel) (by decide+kernel) (by decide+kernel) (by decide+kernel) (by decide+kernel) (by intro _;rfl)))))
noncomputable def qS:FI:=(yF 3)
noncomputable def k7:FE:=(aC (g1 cP) (aa (ab 0) ah))
noncomputable def i7:FT:=(ax (av (bw true) (ab 4) (dr ah)))
noncomputable def i5:FS:=(au (jH (bX eN (ab 4) (aa (vC (.int 0)) ah)) (aZ (ao (af 5) (ao (af 6) (ao (af 7) aX)))))
    (au (a8 8 (bW 2 ja (aa (ab 1) (aa (ab 5) ah))))
    (au (a8 9 (bW 1 a_ (aa (ab 0) ah)))
    (fF (jK (ax (av (bw true) (ab 8) (dr ah))) (jK (ax (av tL (gL 3) (ab 2))) (oX (ax (av (bw true) (av a9 (ab 9) (vC (.int 7))) (vC (.int 6)))) (ax (av tL (ab 6) (vC (.int 0)))))))
    (au (a8 10 (av dX (ab 8) (av a9 (av gH (ab 9) (vC (.int 7))) (aC (g1 cV) (aa (ab 8) ah)))))
    (au (fF (ax (av uO (ab 6) (vC (.int 0))))
    (rf 3 (gL 3) (ab 6) (xr (nC 1) (xt 7)))
    bI)
    (au (cE (bX bg (ab 4) (aa (br (aa (bW 4 dR (aa (ab 1) (aa (ab 5) (aa (ab 10) (aa (vC (.bool true)) ah))))) (aa (gL 3) (aa (vC (.int 0)) ah)))) ah)))
    (au (cE (bX bg (ab 4) (aa (br (aa (bW 4 dR (aa (ab 1) (aa (ab 5) (aa (ab 10) (aa (vC (.bool false)) ah))))) (aa (gL 3) (aa (vC (.int 1)) ah)))) ah)))
    (cE (uu 3 (dr (aa (ab 10) (aa (jW kl (vC (.int 1))) (aa (jW kl (vC (.int 1))) ah))))))))))
    bI))))
noncomputable def vP:FS:=(au (zR 3)
    (au (a8 4 (dr (aa (br (aa (br (aa (br ah) (aa (br ah) ah))) (aa (jW kl (vC (.int 1))) (aa (vC (.int 0)) ah)))) ah)))
    (au (jI (2 ^ 4200) i7 i5)
    (ba (aC (g1 cP) (aa (cT [] 1 qS (af 0) cF k7) ah))))))
noncomputable def k_:FM:=gS 3 8 ([3]++([4]++((([5]++([6]++([7]++[])))++([8]++([9]++(([10]++(([]++[])++([]++([]++[]))))++[]))))++[]))) vP
theorem ud:aH ["_law_drawn","_law_web_here","_law_most","_law_nodes","_law_waiting","_law_stand","_law_parent","_law_side","_law_some","_law_number","_law_tie"] ["_law_drawn","_law_web_here","_law_most"] (am lc):=⟨rfl,rfl,rfl,by decide+kernel,rfl,by decide+kernel,by decide+kernel⟩
theorem y2(h:be K mg "_law_grown" lc f fd ["_law_drawn","_law_web_here","_law_most"])(T:jm mg){fLaskable:Addr}{eLaskable:FuncData}(hLaskable:be K mg "_law_askable" hX fLaskable eLaskable ["_law_web_here","_law_stand"])(GLaskable:aL P w K mg base bH 3 fLaskable eLaskable ["_law_web_here","_law_stand"] (bM K 2 ja)){fLnext:Addr}{eLnext:FuncData}(hLnext:be K mg "_law_next" iU fLnext eLnext ["_law_drawn"])(GLnext:aL P w K mg base bH 1 fLnext eLnext ["_law_drawn"] (bM K 1 a_)){fLbehind:Addr}{eLbehind:FuncData}(hLbehind:be K mg "_law_behind" je fLbehind eLbehind ["_law_web_here","_law_stand","_law_tie","_law_truth"])(GLbehind:aL P w K mg base bH 1 fLbehind eLbehind ["_law_web_here","_law_stand","_law_tie","_law_truth"] (bM K 4 dR)):aL P w K mg base bH 4 f fd ["_law_drawn","_law_web_here","_law_most"] (bM K 3 k_):=by
  have nd:=ud.nd
  exact h.fn ud rfl rfl (fun cdv A outer s H E hr=>(@ag _ _ _ _ _ _ _ _ (@B3 _ _ _ _ _ _ 3 nd rfl (Or.inl rfl) (by rfl) (by trivial))
      (@ag _ _ _ _ _ _ _ _ (@aK _ _ _ _ _ 4 _ _ nd rfl (Or.inl rfl) (@bP _ _ _ _ _ ((@aT _ _ _ _ _ _ ((@aT _ _ _ _ _ _ ((@aT _ _ _ _ _ _ ac)∘((@aT _ _ _ _ _ _ ac)∘ac)))∘((@kJ _ _ _ _ _ ae)∘(ae∘ac))))∘ac)) (by rfl) (by trivial))
      (@ag _ _ _ _ _ _ _ _ (@mE _ _ _ _ _ _ _ _ _ PassesOwn.never (@aV _ _ _ _ _ _ _ _ _ (@l6 _ _ _ rfl hr) (¬4) (@bP _ _ _ _ _ ac) (aO _))
      (@ag _ _ _ _ _ _ _ _ (@jF _ _ _ _ _ _ _ _ (@sI _ _ _ _ _ _ _ _ _ rfl (¬4) (ae∘ac) (by rfl) (by rfl) (by rfl) (by rfl) (by rfl)) (@cz _ _ _ _ _ _ _ _ rfl rfl (@ar _ _ _ _ _ _ _ _ (@ap _ _ _ 5 _ nd rfl (Or.inl rfl) (by trivial)) (@ar _ _ _ _ _ _ _ _ (@ap _ _ _ 6 _ nd rfl (Or.inl rfl) (by trivial)) (@ar _ _ _ _ _ _ _ _ (@ap _ _ _ 7 _ nd rfl (Or.inl rfl) (by trivial)) (@bC _ _) (by rfl)) (by rfl)) (by rfl)) (aB (aB (aB cw))) (by rfl) (by rfl)) (by rfl) (by rfl) (by rfl))
      (@ag _ _ _ _ _ _ _ _ (@aK _ _ _ _ _ 8 _ _ nd rfl (Or.inl rfl) (@a' _ _ _ _ _ _ _ _ _ _ _ _ _ _ _ hLaskable GLaskable (hr.mono (by decide)) ((¬1)∘((¬5)∘ac)) (by rfl) (by decide) (by rfl) (by rfl)) (by rfl) (by trivial))
      (@ag _ _ _ _ _ _ _ _ (@aK _ _ _ _ _ 9 _ _ nd rfl (Or.inl rfl) (@a' _ _ _ _ _ _ _ _ _ _ _ _ _ _ _ hLnext GLnext (hr.mono (by decide)) ((¬0)∘ac) (by rfl) (by decide) (by rfl) (by rfl)) (by rfl) (by trivial))
      (@aj _ _ _ _ _ (@bD _ _ _ _ _ _ _ _ _ _ _ (@nv _ _ _ _ (@pS _ _ _ _ _ _ _ _ (@aV _ _ _ _ _ _ _ _ _ (@l6 _ _ _ rfl hr) (¬8) (@bP _ _ _ _ _ ac) (aO _)) (@pS _ _ _ _ _ _ _ _ (@aV _ _ _ _ _ _ _ _ _ (@sZ _ _) (@sG _ _ _ _ _ _ 3 rfl (by rfl) (by first | exact Or.inl rfl | exact Or.inr (Or.inl rfl) | exact Or.inr (Or.inr rfl)) (by decide) (by decide) (by rfl) T.b_len (by rfl) (by rfl) (by rfl)) (¬2) (aO _)) (@oT _ _ _ _ _ (@nv _ _ _ _ (@kM _ _ _ _ _ _ _ _ (@aV _ _ _ _ _ _ _ _ _ (@l6 _ _ _ rfl hr) (@bf _ _ _ _ _ _ _ (¬9) ae) ae (aO _)) (@jG _ _ _ _ _ (@aV _ _ _ _ _ _ _ _ _ (@sZ _ _) (¬6) ae (aO _)))))))))
      (@ag _ _ _ _ _ _ _ _ (@aK _ _ _ _ _ 10 _ _ nd rfl (Or.inl rfl) (@bV _ _ _ _ _ _ _ rfl (¬8) (@bf _ _ _ _ _ _ _ (@kD _ _ _ _ _ _ _ (¬9) ae) (@aP _ _ _ _ _ _ _ _ _ (@b_len _ _ rfl) (by rfl) T.b_len ((¬8)∘ac) (by decide) (by decide) (by rfl) (by rfl))) (fun _ _=>rfl)) (by rfl) (by trivial))
      (@ag _ _ _ _ _ _ _ _ (@bD _ _ _ _ _ _ _ _ _ _ _ (@aV _ _ _ _ _ _ _ _ _ (@sY _ _) (¬6) ae (aO _))
      (@aj _ _ _ _ _ (@B4 _ _ _ _ _ _ 3 _ _ _ _ _ _ _ rfl (@sG _ _ _ _ _ _ 3 rfl (by rfl) (by first | exact Or.inl rfl | exact Or.inr (Or.inl rfl) | exact Or.inr (Or.inr rfl)) (by decide) (by decide) (by rfl) T.b_len (by rfl) (by rfl) (by rfl)) (by rfl) (by first | exact Or.inl rfl | exact Or.inr (Or.inl rfl) | exact Or.inr (Or.inr rfl)) (by decide) (by decide) (¬6) (fun _ _=>rfl) (@Ex _ _ _ _ _ _ _ (@Ey _ _ _ _ _) (@Ez _ _ _ _ 7 (by rfl) (by first | exact Or.inl rfl | exact Or.inr (Or.inl rfl) | exact Or.inr (Or.inr rfl)) (by decide) (by decide))) (by intro _;rfl) (by rfl) (by rfl) (by rfl)))
      (@aR _ _))
      (@ag _ _ _ _ _ _ _ _ (@dF _ _ _ _ _ (@dk _ _ _ _ _ _ _ _ _ rfl (¬4) ((@aT _ _ _ _ _ _ ((@a' _ _ _ _ _ _ _ _ _ _ _ _ _ _ _ hLbehind GLbehind (hr.mono (by decide)) ((¬1)∘((¬5)∘((¬10)∘((@ce _ _ _ _ _)∘ac)))) (by rfl) (by decide) (by rfl) (by rfl))∘((@sG _ _ _ _ _ _ 3 rfl (by rfl) (by first | exact Or.inl rfl | exact Or.inr (Or.inl rfl) | exact Or.inr (Or.inr rfl)) (by decide) (by decide) (by rfl) T.b_len (by rfl) (by rfl) (by rfl))∘(ae∘ac))))∘ac) (by rfl) (by rfl) (by rfl) (by rfl) (by rfl)) (by rfl))
      (@ag _ _ _ _ _ _ _ _ (@dF _ _ _ _ _ (@dk _ _ _ _ _ _ _ _ _ rfl (¬4) ((@aT _ _ _ _ _ _ ((@a' _ _ _ _ _ _ _ _ _ _ _ _ _ _ _ hLbehind GLbehind (hr.mono (by decide)) ((¬1)∘((¬5)∘((¬10)∘((@ce _ _ _ _ _)∘ac)))) (by rfl) (by decide) (by rfl) (by rfl))∘((@sG _ _ _ _ _ _ 3 rfl (by rfl) (by first | exact Or.inl rfl | exact Or.inr (Or.inl rfl) | exact Or.inr (Or.inr rfl)) (by decide) (by decide) (by rfl) T.b_len (by rfl) (by rfl) (by rfl))∘(ae∘ac))))∘ac) (by rfl) (by rfl) (by rfl) (by rfl) (by rfl)) (by rfl))
      (@aj _ _ _ _ _ (@dF _ _ _ _ _ (@Eu _ _ _ _ _ _ 3 _ _ rfl (by rfl) (by first | exact Or.inl rfl | exact Or.inr (Or.inl rfl) | exact Or.inr (Or.inr rfl)) (by decide) (by decide) (@bP _ _ _ _ _ ((¬10)∘((@kJ _ _ _ _ _ ae)∘((@kJ _ _ _ _ _ ae)∘ac)))) (by rfl) (by rfl) (by rfl) (by rfl) (by rfl) (by rfl)) (by rfl)))))))
      (@aR _ _)))))))
      (@aj _ _ _ _ _ (@aA _ _ _ _ _ (@aP _ _ _ _ _ _ _ _ _ (@b_tuple _ _ rfl) (by rfl) T.b_tuple ((@jD _ _ _ _ _ _ _ _ _ _ _ _ _ (am lc) ["_law_drawn","_law_web_here","_law_most","_law_nodes","_law_waiting","_law_stand","_law_parent","_law_side","_law_some","_law_number","_law_tie"] [] ["_law_node"] rfl rfl rfl (@B1 _ _ _ _ 3 _ rfl (by rfl) (by first | exact Or.inl rfl | exact Or.inr (Or.inl rfl) | exact Or.inr (Or.inr rfl)) (by decide) (by decide))
        (fun C s0 H0 fp=>(@ap _ _ _ 0 _ (show List.Nodup (["_law_node"]:List Str) by decide+kernel) rfl (Or.inl rfl) (by trivial))) (fun C s0 H0 fp=>(@iN _ _))
        (fun C s0 H0 fp=>(@aP _ _ _ _ _ _ _ _ _ (@b_tuple _ _ rfl) (by rfl) T.b_tuple ((¬0)∘ac) (by decide) (by decide) (by rfl) (by rfl))) rfl (by decide+kernel) (by decide+kernel) (by decide+kernel) (by decide+kernel) (by decide+kernel) (by decide+kernel) (by decide+kernel) (by intro _;rfl))∘ac) (by decide) (by decide) (by rfl) (by rfl))))))))
noncomputable def sW:FS:=(ba (eS (jW (iB "int") (ab 1)) (eS (jV (jW (iB "bool") (ab 1))) (iz A7 tL (vC (.int 0)) (ab 1) (aC (g1 cV) (aa (av dX (ab 0) (vC (.int 1))) ah))))))
noncomputable def kx:FM:=gS 2 0 [] sW
theorem rl:aH ["_law_web_here","_law_thing"] ["_law_web_here","_law_thing"] (am kP):=⟨rfl,rfl,rfl,by decide+kernel,rfl,by decide+kernel,by decide+kernel⟩
theorem xC(h:be K mg "_law_is_tie" kP f fd ["_law_web_here","_law_thing"])(T:jm mg):aL P w K mg base bH 1 f fd ["_law_web_here","_law_thing"] (bM K 2 kx):=by
  have nd:=rl.nd
  exact h.fn rl rfl rfl (fun cdv A outer s H E hr=>(@aj _ _ _ _ _ (@aA _ _ _ _ _ (@jE _ _ _ _ _ _ _ _ (@lH _ _ _ _ _ _ _ _ "int" rfl (by decide) rfl T.b_isinstance rfl T.b_int PyProof.Rows.boot_int (by decide) (by decide) (¬1) (by rfl) (by rfl)) (@jE _ _ _ _ _ _ _ _ (@zF _ _ _ _ _ (@lH _ _ _ _ _ _ _ _ "bool" rfl (by decide) rfl T.b_isinstance rfl T.b_bool PyProof.Rows.boot_bool (by decide) (by decide) (¬1) (by rfl) (by rfl))) (@kL _ _ _ _ _ _ (@sD _ _ _ _ _ _ _ _ _ _ _ _ _ (@AL _ _) (@sZ _ _) ae (¬1) (@aP _ _ _ _ _ _ _ _ _ (@b_len _ _ rfl) (by rfl) T.b_len ((@bV _ _ _ _ _ _ _ rfl (¬0) ae (fun _ _=>rfl))∘ac) (by decide) (by decide) (by rfl) (by rfl)) (by with_unfolding_all rfl))))))))
noncomputable def iR:FI:=(iC (lu (ab 0) (bJ (vC (.int 1))) bO))
noncomputable def cL:FS:=(au (fF (oX (gG (ax (jW (iB "int") (ab 3)))) (oX (ax (jW (iB "bool") (ab 3))) (ax (av uO (ab 3) (ab 2)))))
    (ba (vC (.bool false)))
    bI)
    (fF (jK (ax (av (bw true) (ab 3) (jW kl (vC (.int 1))))) (ax (av A7 (ab 3) (ab 1))))
    (ba (vC (.bool false)))
    bI))
noncomputable def nK:FS:=(au (dm ([3]++(([]++[])++([]++[]))) iR (af 3) cL)
    (ba (vC (.bool true))))
noncomputable def f9:FM:=gS 3 1 (([3]++(([]++[])++([]++[])))++[]) nK
theorem mK:aH ["_law_thing","_law_at","_law_many","_law_link"] ["_law_thing","_law_at","_law_many"] (am gp):=⟨rfl,rfl,rfl,by decide+kernel,rfl,by decide+kernel,by decide+kernel⟩
theorem sj(h:be K mg "_law_are_links" gp f fd ["_law_thing","_law_at","_law_many"])(T:jm mg):aL P w K mg base bH 1 f fd ["_law_thing","_law_at","_law_many"] (bM K 3 f9):=by
  have nd:=mK.nd
  exact h.fn mK rfl rfl (fun cdv A outer s H E hr=>(@ag _ _ _ _ _ _ _ _ (@cH _ _ _ _ _ _ _ _ _ _ _ PassesOwn.never rfl (@dM _ _ _ _ _ rfl (@bR _ _ _ _ _ _ _ _ _ _ rfl (¬0) (@bT _ _ _ _ ae) (@bS _ _))) (@ap _ _ _ 3 _ nd rfl (Or.inl rfl) (by trivial))
      (@ag _ _ _ _ _ _ _ _ (@bD _ _ _ _ _ _ _ _ _ _ _ (@nv _ _ _ _ (@kM _ _ _ _ _ _ _ _ (@fm _ _ _ _ _ (@cQ _ _ _ _ (@lH _ _ _ _ _ _ _ _ "int" rfl (by decide) rfl T.b_isinstance rfl T.b_int PyProof.Rows.boot_int (by decide) (by decide) (¬3) (by rfl) (by rfl)) (by intro _;rfl))) (@kM _ _ _ _ _ _ _ _ (@cQ _ _ _ _ (@lH _ _ _ _ _ _ _ _ "bool" rfl (by decide) rfl T.b_isinstance rfl T.b_bool PyProof.Rows.boot_bool (by decide) (by decide) (¬3) (by rfl) (by rfl)) (by intro _;rfl)) (@jG _ _ _ _ _ (@aV _ _ _ _ _ _ _ _ _ (@sY _ _) (¬3) (¬2) (aO _))))))
      (@aj _ _ _ _ _ (@aA _ _ _ _ _ (@ce _ _ _ _ _)))
      (@aR _ _))
      (@aj _ _ _ _ _ (@bD _ _ _ _ _ _ _ _ _ _ _ (@nv _ _ _ _ (@pS _ _ _ _ _ _ _ _ (@aV _ _ _ _ _ _ _ _ _ (@l6 _ _ _ rfl hr) (¬3) (@kJ _ _ _ _ _ ae) (aO _)) (@oT _ _ _ _ _ (@aV _ _ _ _ _ _ _ _ _ (@AL _ _) (¬3) (¬1) (aO _)))))
      (@aj _ _ _ _ _ (@aA _ _ _ _ _ (@ce _ _ _ _ _)))
      (@aR _ _)))) (by intro _;rfl))
      (@aj _ _ _ _ _ (@aA _ _ _ _ _ (@ce _ _ _ _ _)))))
noncomputable def iS:FI:=(iC (lu (ab 4) (bJ (vC (.int 1))) bO))
noncomputable def cM:FS:=(fF (ax (av (bw true) (ab 5) (jW kl (vC (.int 1)))))
    (wy (ab 2) (ab 5) 1)
    bI)
noncomputable def lA:FI:=(pv (aa (ab 1) ah))
noncomputable def cN:FS:=(au (fF (oX (gG (ax (jW (iB "tuple") (ab 4)))) (oX (ax (av (bw true) (aC (g1 cV) (aa (ab 4) ah)) (vC (.int 3)))) (gG (ax (bW 2 kx (aa (ab 0) (aa (av dX (ab 4) (vC (.int 0))) ah)))))))
    (ba (vC (.bool false)))
    bI)
    (au (fF (gG (ax (bW 3 f9 (aa (ab 4) (aa (ab 3) (aa (aC (g1 cV) (aa (ab 1) ah)) ah))))))
    (ba (vC (.bool false)))
    bI)
    (dm ([5]++([]++[])) iS (af 5) cM)))
noncomputable def j6:FS:=(au (fF (oX (gG (ax (jW (iB "tuple") (ab 1)))) (ax (av CT (aC (g1 cV) (aa (ab 1) ah)) (vC (.int 300)))))
    (ba (vC (.bool false)))
    bI)
    (au (a8 2 (av gy (dr (aa (vC (.int 0)) ah)) (aC (g1 cV) (aa (ab 1) ah))))
    (au (dm (([3]++([4]++[]))++(([]++[])++(([]++[])++([5]++([]++[]))))) lA (aZ (ao (af 3) (ao (af 4) aX))) cN)
    (ba (av (bw false) (lu (ab 2) (bJ (vC (.int 1))) bO) (av gy (dr (aa (vC (.int 1)) ah)) (aC (g1 cV) (aa (lu (ab 2) (bJ (vC (.int 1))) bO) ah))))))))
noncomputable def el:FM:=gS 2 4 (([]++[])++([2]++((([3]++([4]++[]))++(([]++[])++(([]++[])++([5]++([]++[])))))++[]))) j6
theorem mL:aH ["_law_web_here","_law_thing","_law_links","_law_at","_law_node","_law_link"] ["_law_web_here","_law_thing"] (am gq):=⟨rfl,rfl,rfl,by decide+kernel,rfl,by decide+kernel,by decide+kernel⟩
theorem sk(h:be K mg "_law_are_nodes" gq f fd ["_law_web_here","_law_thing"])(T:jm mg){fLare_links:Addr}{eLare_links:FuncData}(hLare_links:be K mg "_law_are_links" gp fLare_links eLare_links ["_law_thing","_law_at","_law_many"])(GLare_links:aL P w K mg base bH 1 fLare_links eLare_links ["_law_thing","_law_at","_law_many"] (bM K 3 f9)){fLis_tie:Addr}{eLis_tie:FuncData}(hLis_tie:be K mg "_law_is_tie" kP fLis_tie eLis_tie ["_law_web_here","_law_thing"])(GLis_tie:aL P w K mg base bH 1 fLis_tie eLis_tie ["_law_web_here","_law_thing"] (bM K 2 kx)):aL P w K mg base bH 2 f fd ["_law_web_here","_law_thing"] (bM K 2 el):=by
  have nd:=mL.nd
  exact h.fn mL rfl rfl (fun cdv A outer s H E hr=>(@ag _ _ _ _ _ _ _ _ (@bD _ _ _ _ _ _ _ _ _ _ _ (@nv _ _ _ _ (@kM _ _ _ _ _ _ _ _ (@fm _ _ _ _ _ (@cQ _ _ _ _ (@lH _ _ _ _ _ _ _ _ "tuple" rfl (by decide) rfl T.b_isinstance rfl T.b_tuple PyProof.Rows.boot_tuple (by decide) (by decide) (¬1) (by rfl) (by rfl)) (by intro _;rfl))) (@jG _ _ _ _ _ (@aV _ _ _ _ _ _ _ _ _ (@Dq _ _) (@aP _ _ _ _ _ _ _ _ _ (@b_len _ _ rfl) (by rfl) T.b_len ((¬1)∘ac) (by decide) (by decide) (by rfl) (by rfl)) ae (aO _)))))
      (@aj _ _ _ _ _ (@aA _ _ _ _ _ (@ce _ _ _ _ _)))
      (@aR _ _))
      (@ag _ _ _ _ _ _ _ _ (@aK _ _ _ _ _ 2 _ _ nd rfl (Or.inl rfl) (@kG _ _ _ _ _ _ _ rfl (@bP _ _ _ _ _ (ae∘ac)) (@aP _ _ _ _ _ _ _ _ _ (@b_len _ _ rfl) (by rfl) T.b_len ((¬1)∘ac) (by decide) (by decide) (by rfl) (by rfl))) (by rfl) (by trivial))
      (@ag _ _ _ _ _ _ _ _ (@cH _ _ _ _ _ _ _ _ _ _ _ PassesOwn.never rfl (@mD _ _ _ _ _ _ _ _ _ rfl rfl T.b_enumerate ((¬1)∘ac) (by rfl)) (@cz _ _ _ _ _ _ _ _ rfl rfl (@ar _ _ _ _ _ _ _ _ (@ap _ _ _ 3 _ nd rfl (Or.inl rfl) (by trivial)) (@ar _ _ _ _ _ _ _ _ (@ap _ _ _ 4 _ nd rfl (Or.inl rfl) (by trivial)) (@bC _ _) (by rfl)) (by rfl)) (aB (aB cw)) (by rfl) (by rfl))
      (@ag _ _ _ _ _ _ _ _ (@bD _ _ _ _ _ _ _ _ _ _ _ (@nv _ _ _ _ (@kM _ _ _ _ _ _ _ _ (@fm _ _ _ _ _ (@cQ _ _ _ _ (@lH _ _ _ _ _ _ _ _ "tuple" rfl (by decide) rfl T.b_isinstance rfl T.b_tuple PyProof.Rows.boot_tuple (by decide) (by decide) (¬4) (by rfl) (by rfl)) (by intro _;rfl))) (@kM _ _ _ _ _ _ _ _ (@aV _ _ _ _ _ _ _ _ _ (@l6 _ _ _ rfl hr) (@aP _ _ _ _ _ _ _ _ _ (@b_len _ _ rfl) (by rfl) T.b_len ((¬4)∘ac) (by decide) (by decide) (by rfl) (by rfl)) ae (aO _)) (@jG _ _ _ _ _ (@fm _ _ _ _ _ (@cQ _ _ _ _ (@a' _ _ _ _ _ _ _ _ _ _ _ _ _ _ _ hLis_tie GLis_tie (hr.mono (by decide)) ((¬0)∘((@bV _ _ _ _ _ _ _ rfl (¬4) ae (fun _ _=>rfl))∘ac)) (by rfl) (by decide) (by rfl) (by rfl)) (by intro _;rfl)))))))
      (@aj _ _ _ _ _ (@aA _ _ _ _ _ (@ce _ _ _ _ _)))
      (@aR _ _))
      (@ag _ _ _ _ _ _ _ _ (@bD _ _ _ _ _ _ _ _ _ _ _ (@fm _ _ _ _ _ (@cQ _ _ _ _ (@a' _ _ _ _ _ _ _ _ _ _ _ _ _ _ _ hLare_links GLare_links (hr.mono (by decide)) ((¬4)∘((¬3)∘((@aP _ _ _ _ _ _ _ _ _ (@b_len _ _ rfl) (by rfl) T.b_len ((¬1)∘ac) (by decide) (by decide) (by rfl) (by rfl))∘ac))) (by rfl) (by decide) (by rfl) (by rfl)) (by intro _;rfl)))
      (@aj _ _ _ _ _ (@aA _ _ _ _ _ (@ce _ _ _ _ _)))
      (@aR _ _))
      (@aj _ _ _ _ _ (@cH _ _ _ _ _ _ _ _ _ _ _ PassesOwn.never rfl (@dM _ _ _ _ _ rfl (@bR _ _ _ _ _ _ _ _ _ _ rfl (¬4) (@bT _ _ _ _ ae) (@bS _ _))) (@ap _ _ _ 5 _ nd rfl (Or.inl rfl) (by trivial))
      (@aj _ _ _ _ _ (@bD _ _ _ _ _ _ _ _ _ _ _ (@aV _ _ _ _ _ _ _ _ _ (@l6 _ _ _ rfl hr) (¬5) (@kJ _ _ _ _ _ ae) (aO _))
      (@aj _ _ _ _ _ (@B2 _ _ _ _ _ _ _ _ _ _ (¬2) (¬5) ae rfl (fun _ _ _=>rfl)))
      (@aR _ _))) (by intro _;rfl))))) (by intro _;rfl))
      (@aj _ _ _ _ _ (@aA _ _ _ _ _ (@mB _ _ _ _ _ _ _ _ _ (@qg _ _ _ rfl hr) (@bR _ _ _ _ _ _ _ _ _ _ rfl (¬2) (@bT _ _ _ _ ae) (@bS _ _)) (@kG _ _ _ _ _ _ _ rfl (@bP _ _ _ _ _ (ae∘ac)) (@aP _ _ _ _ _ _ _ _ _ (@b_len _ _ rfl) (by rfl) T.b_len ((@bR _ _ _ _ _ _ _ _ _ _ rfl (¬2) (@bT _ _ _ _ ae) (@bS _ _))∘ac) (by decide) (by decide) (by rfl) (by rfl))) (aO _))))))))
noncomputable def pz:FI:=(iC (dr (aa (br (aa (vC (.bool true)) (aa (av dX (ab 4) (vC (.int 1))) ah))) (aa (br (aa (vC (.bool false)) (aa (av dX (ab 4) (vC (.int 2))) ah))) ah))))
noncomputable def jt:FS:=(fF (ax (av (bw true) (ab 6) (jW kl (vC (.int 1)))))
    (ua (bW 4 dR (aa (ab 0) (aa (av dX (ab 2) (ab 3)) (aa (av dX (ab 4) (vC (.int 0))) (aa (ab 5) ah))))) (ab 2) (ab 6))
    bI)
noncomputable def pA:FI:=(pv (aa (ab 1) ah))
noncomputable def jv:FS:=(dm (([5]++([6]++[]))++([]++[])) pz (aZ (ao (af 5) (ao (af 6) aX))) jt)
noncomputable def sX:FS:=(au (a8 2 (av gy (dr (aa (br (aa (br ah) (aa (br ah) ah))) ah)) (aC (g1 cV) (aa (ab 1) ah))))
    (au (dm (([3]++([4]++[]))++(([5]++([6]++[]))++([]++[]))) pA (aZ (ao (af 3) (ao (af 4) aX))) jv)
    (ba (aC (g1 cP) (aa (ab 2) ah)))))
noncomputable def ir:FM:=gS 2 5 ([2]++((([3]++([4]++[]))++(([5]++([6]++[]))++([]++[])))++[])) sX
theorem rm:aH ["_law_web_here","_law_tree","_law_stands_here","_law_at","_law_node","_law_truth","_law_link"] ["_law_web_here","_law_tree"] (am jg):=⟨rfl,rfl,rfl,by decide+kernel,rfl,by decide+kernel,by decide+kernel⟩
theorem xD(h:be K mg "_law_stands" jg f fd ["_law_web_here","_law_tree"])(T:jm mg){fLbehind:Addr}{eLbehind:FuncData}(hLbehind:be K mg "_law_behind" je fLbehind eLbehind ["_law_web_here","_law_stand","_law_tie","_law_truth"])(GLbehind:aL P w K mg base bH 1 fLbehind eLbehind ["_law_web_here","_law_stand","_law_tie","_law_truth"] (bM K 4 dR)):aL P w K mg base bH 2 f fd ["_law_web_here","_law_tree"] (bM K 2 ir):=by
  have nd:=rm.nd
  exact h.fn rm rfl rfl (fun cdv A outer s H E hr=>(@ag _ _ _ _ _ _ _ _ (@aK _ _ _ _ _ 2 _ _ nd rfl (Or.inl rfl) (@kG _ _ _ _ _ _ _ rfl (@bP _ _ _ _ _ ((@aT _ _ _ _ _ _ ((@aT _ _ _ _ _ _ ac)∘((@aT _ _ _ _ _ _ ac)∘ac)))∘ac)) (@aP _ _ _ _ _ _ _ _ _ (@b_len _ _ rfl) (by rfl) T.b_len ((¬1)∘ac) (by decide) (by decide) (by rfl) (by rfl))) (by rfl) (by trivial))
      (@ag _ _ _ _ _ _ _ _ (@cH _ _ _ _ _ _ _ _ _ _ _ PassesOwn.never rfl (@mD _ _ _ _ _ _ _ _ _ rfl rfl T.b_enumerate ((¬1)∘ac) (by rfl)) (@cz _ _ _ _ _ _ _ _ rfl rfl (@ar _ _ _ _ _ _ _ _ (@ap _ _ _ 3 _ nd rfl (Or.inl rfl) (by trivial)) (@ar _ _ _ _ _ _ _ _ (@ap _ _ _ 4 _ nd rfl (Or.inl rfl) (by trivial)) (@bC _ _) (by rfl)) (by rfl)) (aB (aB cw)) (by rfl) (by rfl))
      (@aj _ _ _ _ _ (@cH _ _ _ _ _ _ _ _ _ _ _ PassesOwn.never rfl (@dM _ _ _ _ _ rfl (@bP _ _ _ _ _ ((@aT _ _ _ _ _ _ ((@ce _ _ _ _ _)∘((@bV _ _ _ _ _ _ _ rfl (¬4) ae (fun _ _=>rfl))∘ac)))∘((@aT _ _ _ _ _ _ ((@ce _ _ _ _ _)∘((@bV _ _ _ _ _ _ _ rfl (¬4) ae (fun _ _=>rfl))∘ac)))∘ac)))) (@cz _ _ _ _ _ _ _ _ rfl rfl (@ar _ _ _ _ _ _ _ _ (@ap _ _ _ 5 _ nd rfl (Or.inl rfl) (by trivial)) (@ar _ _ _ _ _ _ _ _ (@ap _ _ _ 6 _ nd rfl (Or.inl rfl) (by trivial)) (@bC _ _) (by rfl)) (by rfl)) (aB (aB cw)) (by rfl) (by rfl))
      (@aj _ _ _ _ _ (@bD _ _ _ _ _ _ _ _ _ _ _ (@aV _ _ _ _ _ _ _ _ _ (@l6 _ _ _ rfl hr) (¬6) (@kJ _ _ _ _ _ ae) (aO _))
      (@aj _ _ _ _ _ (@vk _ _ _ _ _ _ _ _ _ _ (@a' _ _ _ _ _ _ _ _ _ _ _ _ _ _ _ hLbehind GLbehind (hr.mono (by decide)) ((¬0)∘((@bV _ _ _ _ _ _ _ rfl (¬2) (¬3) (fun _ _=>rfl))∘((@bV _ _ _ _ _ _ _ rfl (¬4) ae (fun _ _=>rfl))∘((¬5)∘ac)))) (by rfl) (by decide) (by rfl) (by rfl)) (¬2) (¬6) (by intro _;rfl) (by rfl) (by rfl) (by rfl)))
      (@aR _ _))) (by intro _;rfl))) (by intro _;rfl))
      (@aj _ _ _ _ _ (@aA _ _ _ _ _ (@aP _ _ _ _ _ _ _ _ _ (@b_tuple _ _ rfl) (by rfl) T.b_tuple ((¬2)∘ac) (by decide) (by decide) (by rfl) (by rfl)))))))
noncomputable def ko:FI:=(ou (aa (ab 1) (aa (bW 2 ir (aa (ab 0) (aa (ab 1) ah))) ah)))
noncomputable def fJ:FS:=(fF (gG (ax (bW 3 jR (aa (ab 0) (aa (ab 3) (aa (av dX (ab 2) (vC (.int 0))) ah))))))
    (ba (vC (.bool false)))
    bI)
noncomputable def kW:FS:=(au (fF (gG (ax (bW 2 el (aa (ab 0) (aa (ab 1) ah)))))
    (ba (vC (.bool false)))
    bI)
    (au (dm (([2]++([3]++[]))++([]++[])) ko (aZ (ao (af 2) (ao (af 3) aX))) fJ)
    (ba (vC (.bool true)))))
noncomputable def dA:FM:=gS 2 2 (([]++[])++((([2]++([3]++[]))++([]++[]))++[])) kW
theorem pZ:aH ["_law_web_here","_law_thing","_law_node","_law_stand"] ["_law_web_here","_law_thing"] (am jf):=⟨rfl,rfl,rfl,by decide+kernel,rfl,by decide+kernel,by decide+kernel⟩
theorem uZ(h:be K mg "_law_is_tree" jf f fd ["_law_web_here","_law_thing"])(T:jm mg){fLare_nodes:Addr}{eLare_nodes:FuncData}(hLare_nodes:be K mg "_law_are_nodes" gq fLare_nodes eLare_nodes ["_law_web_here","_law_thing"])(GLare_nodes:aL P w K mg base bH 2 fLare_nodes eLare_nodes ["_law_web_here","_law_thing"] (bM K 2 el)){fLstands:Addr}{eLstands:FuncData}(hLstands:be K mg "_law_stands" jg fLstands eLstands ["_law_web_here","_law_tree"])(GLstands:aL P w K mg base bH 2 fLstands eLstands ["_law_web_here","_law_tree"] (bM K 2 ir)){fLmay:Addr}{eLmay:FuncData}(hLmay:be K mg "_law_may" rd fLmay eLmay ["_law_web_here","_law_stand","_law_tie"])(GLmay:aL P w K mg base bH 2 fLmay eLmay ["_law_web_here","_law_stand","_law_tie"] (bM K 3 jR)):aL P w K mg base bH 3 f fd ["_law_web_here","_law_thing"] (bM K 2 dA):=by
  have nd:=pZ.nd
  exact h.fn pZ rfl rfl (fun cdv A outer s H E hr=>(@ag _ _ _ _ _ _ _ _ (@bD _ _ _ _ _ _ _ _ _ _ _ (@fm _ _ _ _ _ (@cQ _ _ _ _ (@a' _ _ _ _ _ _ _ _ _ _ _ _ _ _ _ hLare_nodes GLare_nodes (hr.mono (by decide)) ((¬0)∘((¬1)∘ac)) (by rfl) (by decide) (by rfl) (by rfl)) (by intro _;rfl)))
      (@aj _ _ _ _ _ (@aA _ _ _ _ _ (@ce _ _ _ _ _)))
      (@aR _ _))
      (@ag _ _ _ _ _ _ _ _ (@cH _ _ _ _ _ _ _ _ _ _ _ PassesOwn.never rfl (@vj _ _ _ _ _ _ _ _ _ _ rfl rfl T.b_zip ((¬1)∘((@a' _ _ _ _ _ _ _ _ _ _ _ _ _ _ _ hLstands GLstands (hr.mono (by decide)) ((¬0)∘((¬1)∘ac)) (by rfl) (by decide) (by rfl) (by rfl))∘ac)) (by rfl) (by rfl)) (@cz _ _ _ _ _ _ _ _ rfl rfl (@ar _ _ _ _ _ _ _ _ (@ap _ _ _ 2 _ nd rfl (Or.inl rfl) (by trivial)) (@ar _ _ _ _ _ _ _ _ (@ap _ _ _ 3 _ nd rfl (Or.inl rfl) (by trivial)) (@bC _ _) (by rfl)) (by rfl)) (aB (aB cw)) (by rfl) (by rfl))
      (@aj _ _ _ _ _ (@bD _ _ _ _ _ _ _ _ _ _ _ (@fm _ _ _ _ _ (@cQ _ _ _ _ (@a' _ _ _ _ _ _ _ _ _ _ _ _ _ _ _ hLmay GLmay (hr.mono (by decide)) ((¬0)∘((¬3)∘((@bV _ _ _ _ _ _ _ rfl (¬2) ae (fun _ _=>rfl))∘ac))) (by rfl) (by decide) (by rfl) (by rfl)) (by intro _;rfl)))
      (@aj _ _ _ _ _ (@aA _ _ _ _ _ (@ce _ _ _ _ _)))
      (@aR _ _))) (by intro _;rfl))
      (@aj _ _ _ _ _ (@aA _ _ _ _ _ (@ce _ _ _ _ _))))))
noncomputable def ku:FI:=(iC (ab 3))
noncomputable def eH:FE:=(br (aa (av dX (av dX (ab 1) (ab 2)) (vC (.int 0))) (aa (av dX (ab 0) (av dX (av dX (ab 1) (ab 2)) (vC (.int 1)))) (aa (av dX (ab 0) (av dX (av dX (ab 1) (ab 2)) (vC (.int 2)))) ah))))
noncomputable def kv:FI:=(pv (aa (ab 3) ah))
noncomputable def eD:FS:=(ua (ab 5) (ab 4) (ab 6))
noncomputable def ip:FI:=(iC (lu (av dX (ab 1) (av dX (ab 3) (jW kl (vC (.int 1))))) (bJ (vC (.int 1))) bO))
noncomputable def eE:FT:=(ax (av (bw true) (ab 0) (jW kl (vC (.int 1)))))
noncomputable def eI:FE:=(ab 0)
noncomputable def c_:FT:=(ax (av (bw true) (ab 2) (dr ah)))
noncomputable def cZ:FS:=(au (cE (bX bg (ab 3) (aa (bX eN (ab 2) (aa (av a9 (bW 1 a_ (aa (ab 0) ah)) (aC (g1 cV) (aa (ab 2) ah))) ah)) ah)))
    (cE (Cn (ab 2) (cT [] 1 ip (af 0) eE eI))))
noncomputable def lX:FS:=(au (a8 2 (lu (dr (aa (vC (.int 0)) ah)) bO (bJ (aC (g1 cV) (aa (ab 1) ah)))))
    (au (a8 3 (dr ah))
    (au (jI (2 ^ 4200) c_ cZ)
    (au (a8 4 (av gy (dr (aa (jW kl (vC (.int 1))) ah)) (av bv (aC (g1 cV) (aa (ab 1) ah)) (vC (.int 1)))))
    (au (dm (([5]++([6]++[]))++[]) kv (aZ (ao (af 5) (ao (af 6) aX))) eD)
    (ba (aC (g1 cP) (aa (cT [(4,"_law_numbers"),(1,"_law_tree")] 1 ku (af 2) cF eH) ah))))))))
noncomputable def dD:FM:=gS 2 5 ([2]++([3]++(([]++[])++([4]++((([5]++([6]++[]))++[])++[]))))) lX
theorem lK:aH ["_law_drawn","_law_tree","_law_waiting","_law_order","_law_numbers","_law_at","_law_node"] ["_law_drawn","_law_tree"] (am cJ):=⟨rfl,rfl,rfl,by decide+kernel,rfl,by decide+kernel,by decide+kernel⟩
theorem qq(h:be K mg "_law_renumbered" cJ f fd ["_law_drawn","_law_tree"])(T:jm mg){fLnext:Addr}{eLnext:FuncData}(hLnext:be K mg "_law_next" iU fLnext eLnext ["_law_drawn"])(GLnext:aL P w K mg base bH 1 fLnext eLnext ["_law_drawn"] (bM K 1 a_)):aL P w K mg base bH 2 f fd ["_law_drawn","_law_tree"] (bM K 2 dD):=by
  have nd:=lK.nd
  exact h.fn lK rfl rfl (fun cdv A outer s H E hr=>(@ag _ _ _ _ _ _ _ _ (@aK _ _ _ _ _ 2 _ _ nd rfl (Or.inl rfl) (@bR _ _ _ _ _ _ _ _ _ _ rfl (@bP _ _ _ _ _ (ae∘ac)) (@bS _ _) (@bT _ _ _ _ (@aP _ _ _ _ _ _ _ _ _ (@b_len _ _ rfl) (by rfl) T.b_len ((¬1)∘ac) (by decide) (by decide) (by rfl) (by rfl)))) (by rfl) (by trivial))
      (@ag _ _ _ _ _ _ _ _ (@aK _ _ _ _ _ 3 _ _ nd rfl (Or.inl rfl) (@bP _ _ _ _ _ ac) (by rfl) (by trivial))
      (@ag _ _ _ _ _ _ _ _ (@mE _ _ _ _ _ _ _ _ _ PassesOwn.never (@aV _ _ _ _ _ _ _ _ _ (@l6 _ _ _ rfl hr) (¬2) (@bP _ _ _ _ _ ac) (aO _))
      (@ag _ _ _ _ _ _ _ _ (@dF _ _ _ _ _ (@dk _ _ _ _ _ _ _ _ _ rfl (¬3) ((@sI _ _ _ _ _ _ _ _ _ rfl (¬2) ((@bf _ _ _ _ _ _ _ (@a' _ _ _ _ _ _ _ _ _ _ _ _ _ _ _ hLnext GLnext (hr.mono (by decide)) ((¬0)∘ac) (by rfl) (by decide) (by rfl) (by rfl)) (@aP _ _ _ _ _ _ _ _ _ (@b_len _ _ rfl) (by rfl) T.b_len ((¬2)∘ac) (by decide) (by decide) (by rfl) (by rfl)))∘ac) (by rfl) (by rfl) (by rfl) (by rfl) (by rfl))∘ac) (by rfl) (by rfl) (by rfl) (by rfl) (by rfl)) (by rfl))
      (@aj _ _ _ _ _ (@dF _ _ _ _ _ (@zC _ _ _ _ _ _ _ _ rfl (¬2) (@jD _ _ _ _ _ _ _ _ _ _ _ _ _ (am cJ) ["_law_drawn","_law_tree","_law_waiting","_law_order","_law_numbers","_law_at","_law_node"] [] ["_law_link"] rfl rfl rfl (@dM _ _ _ _ _ rfl (@bR _ _ _ _ _ _ _ _ _ _ rfl (@bV _ _ _ _ _ _ _ rfl (¬1) (@bV _ _ _ _ _ _ _ rfl (¬3) (@kJ _ _ _ _ _ ae) (fun _ _=>rfl)) (fun _ _=>rfl)) (@bT _ _ _ _ ae) (@bS _ _)))
        (fun C s0 H0 fp=>(@ap _ _ _ 0 _ (show List.Nodup (["_law_link"]:List Str) by decide+kernel) rfl (Or.inl rfl) (by trivial))) (fun C s0 H0 fp=>(@mF _ _ _ _ (@aV _ _ _ _ _ _ _ _ _ (@l6 _ _ _ rfl hr) (¬0) (@kJ _ _ _ _ _ ae) (aO _))))
        (fun C s0 H0 fp=>(¬0)) rfl (by decide+kernel) (by decide+kernel) (by decide+kernel) (by decide+kernel) (by decide+kernel) (by decide+kernel) (by decide+kernel) (by intro _;rfl)) (by rfl) (by rfl) (by rfl) (by rfl) (by rfl) (by rfl)) (by rfl)))))
      (@ag _ _ _ _ _ _ _ _ (@aK _ _ _ _ _ 4 _ _ nd rfl (Or.inr rfl) (@kG _ _ _ _ _ _ _ rfl (@bP _ _ _ _ _ ((@kJ _ _ _ _ _ ae)∘ac)) (@bB _ _ _ _ _ _ _ rfl (@aP _ _ _ _ _ _ _ _ _ (@b_len _ _ rfl) (by rfl) T.b_len ((¬1)∘ac) (by decide) (by decide) (by rfl) (by rfl)) ae)) (by rfl) (by trivial))
      (@ag _ _ _ _ _ _ _ _ (@cH _ _ _ _ _ _ _ _ _ _ _ PassesOwn.never rfl (@mD _ _ _ _ _ _ _ _ _ rfl rfl T.b_enumerate ((¬3)∘ac) (by rfl)) (@cz _ _ _ _ _ _ _ _ rfl rfl (@ar _ _ _ _ _ _ _ _ (@ap _ _ _ 5 _ nd rfl (Or.inl rfl) (by trivial)) (@ar _ _ _ _ _ _ _ _ (@ap _ _ _ 6 _ nd rfl (Or.inl rfl) (by trivial)) (@bC _ _) (by rfl)) (by rfl)) (aB (aB cw)) (by rfl) (by rfl))
      (@aj _ _ _ _ _ (@vk _ _ _ _ _ _ _ _ _ _ (¬5) (¬4) (¬6) (by intro _;rfl) (by rfl) (by rfl) (by rfl))) (by intro _;rfl))
      (@aj _ _ _ _ _ (@aA _ _ _ _ _ (@aP _ _ _ _ _ _ _ _ _ (@b_tuple _ _ rfl) (by rfl) T.b_tuple ((@jD _ _ _ _ _ _ _ _ _ _ _ _ _ (am cJ) ["_law_drawn","_law_tree","_law_waiting","_law_order","_law_numbers","_law_at","_law_node"] [(4,"_law_numbers"),(1,"_law_tree")] ["_law_node"] rfl rfl rfl (@dM _ _ _ _ _ rfl (¬3))
        (fun C s0 H0 fp=>(@ap _ _ _ 2 _ (show List.Nodup (["_law_numbers","_law_tree","_law_node"]:List Str) by decide+kernel) rfl (Or.inl rfl) (by trivial))) (fun C s0 H0 fp=>(@iN _ _))
        (fun C s0 H0 fp=>(@aT _ _ _ _ _ _ ((@bV _ _ _ _ _ _ _ rfl (@bV _ _ _ _ _ _ _ rfl (¬1) (¬2) (fun _ _=>rfl)) ae (fun _ _=>rfl))∘((@bV _ _ _ _ _ _ _ rfl (¬0) (@bV _ _ _ _ _ _ _ rfl (@bV _ _ _ _ _ _ _ rfl (¬1) (¬2) (fun _ _=>rfl)) ae (fun _ _=>rfl)) (fun _ _=>rfl))∘((@bV _ _ _ _ _ _ _ rfl (¬0) (@bV _ _ _ _ _ _ _ rfl (@bV _ _ _ _ _ _ _ rfl (¬1) (¬2) (fun _ _=>rfl)) ae (fun _ _=>rfl)) (fun _ _=>rfl))∘ac))))) rfl (by decide+kernel) (by decide+kernel) (by decide+kernel) (by decide+kernel) (by decide+kernel) (by decide+kernel) (by decide+kernel) (by intro _;rfl))∘ac) (by decide) (by decide) (by rfl) (by rfl))))))))))
noncomputable def ik:FI:=(ou (aa (bW 2 ir (aa (ab 0) (aa (ab 1) ah))) (aa (ab 1) ah)))
noncomputable def cX:FS:=(au (a8 6 (av bv (av dX (ab 4) (vC (.int 0))) (lu (ab 5) bO (bJ (vC (.int 1))))))
    (au (a8 7 (aC (g1 cV) (aa (ab 6) ah)))
    (au (fF (ax (av uO (ab 2) (vC (.int 0))))
    (a8 7 (bW 3 en (aa (ab 0) (aa (ab 6) (aa (ab 2) ah)))))
    bI)
    (a8 3 (aC (g2 oD) (aa (ab 3) (aa (ab 7) ah)))))))
noncomputable def lW:FS:=(au (a8 3 (vC (.int 0)))
    (au (dm (([4]++([5]++[]))++([6]++([7]++(([7]++[])++[3])))) ik (aZ (ao (af 4) (ao (af 5) aX))) cX)
    (ba (ab 3))))
noncomputable def dB:FM:=gS 3 5 ([3]++((([4]++([5]++[]))++([6]++([7]++(([7]++[])++[3]))))++[])) lW
theorem lI:aH ["_law_web_here","_law_tree","_law_thing","_law_most","_law_stand","_law_node","_law_asked","_law_many"] ["_law_web_here","_law_tree","_law_thing"] (am eP):=⟨rfl,rfl,rfl,by decide+kernel,rfl,by decide+kernel,by decide+kernel⟩
theorem qo(h:be K mg "_law_most_asked" eP f fd ["_law_web_here","_law_tree","_law_thing"])(T:jm mg){fLstands:Addr}{eLstands:FuncData}(hLstands:be K mg "_law_stands" jg fLstands eLstands ["_law_web_here","_law_tree"])(GLstands:aL P w K mg base bH 2 fLstands eLstands ["_law_web_here","_law_tree"] (bM K 2 ir)){fLasks_of:Addr}{eLasks_of:FuncData}(hLasks_of:be K mg "_law_asks_of" fx fLasks_of eLasks_of ["_law_web_here","_law_asked","_law_thing"])(GLasks_of:aL P w K mg base bH 1 fLasks_of eLasks_of ["_law_web_here","_law_asked","_law_thing"] (bM K 3 en)):aL P w K mg base bH 3 f fd ["_law_web_here","_law_tree","_law_thing"] (bM K 3 dB):=by
  have nd:=lI.nd
  exact h.fn lI rfl rfl (fun cdv A outer s H E hr=>(@ag _ _ _ _ _ _ _ _ (@aK _ _ _ _ _ 3 _ _ nd rfl (Or.inl rfl) ae (by rfl) (by trivial))
      (@ag _ _ _ _ _ _ _ _ (@cH _ _ _ _ _ _ _ _ _ _ _ PassesOwn.never rfl (@vj _ _ _ _ _ _ _ _ _ _ rfl rfl T.b_zip ((@a' _ _ _ _ _ _ _ _ _ _ _ _ _ _ _ hLstands GLstands (hr.mono (by decide)) ((¬0)∘((¬1)∘ac)) (by rfl) (by decide) (by rfl) (by rfl))∘((¬1)∘ac)) (by rfl) (by rfl)) (@cz _ _ _ _ _ _ _ _ rfl rfl (@ar _ _ _ _ _ _ _ _ (@ap _ _ _ 4 _ nd rfl (Or.inl rfl) (by trivial)) (@ar _ _ _ _ _ _ _ _ (@ap _ _ _ 5 _ nd rfl (Or.inl rfl) (by trivial)) (@bC _ _) (by rfl)) (by rfl)) (aB (aB cw)) (by rfl) (by rfl))
      (@ag _ _ _ _ _ _ _ _ (@aK _ _ _ _ _ 6 _ _ nd rfl (Or.inl rfl) (@bB _ _ _ _ _ _ _ rfl (@bV _ _ _ _ _ _ _ rfl (¬4) ae (fun _ _=>rfl)) (@bR _ _ _ _ _ _ _ _ _ _ rfl (¬5) (@bS _ _) (@bT _ _ _ _ ae))) (by rfl) (by trivial))
      (@ag _ _ _ _ _ _ _ _ (@aK _ _ _ _ _ 7 _ _ nd rfl (Or.inl rfl) (@aP _ _ _ _ _ _ _ _ _ (@b_len _ _ rfl) (by rfl) T.b_len ((¬6)∘ac) (by decide) (by decide) (by rfl) (by rfl)) (by rfl) (by trivial))
      (@ag _ _ _ _ _ _ _ _ (@bD _ _ _ _ _ _ _ _ _ _ _ (@aV _ _ _ _ _ _ _ _ _ (@sY _ _) (¬2) ae (aO _))
      (@aj _ _ _ _ _ (@aK _ _ _ _ _ 7 _ _ nd rfl (Or.inl rfl) (@a' _ _ _ _ _ _ _ _ _ _ _ _ _ _ _ hLasks_of GLasks_of (hr.mono (by decide)) ((¬0)∘((¬6)∘((¬2)∘ac))) (by rfl) (by decide) (by rfl) (by rfl)) (by rfl) (by trivial)))
      (@aR _ _))
      (@aj _ _ _ _ _ (@aK _ _ _ _ _ 3 _ _ nd rfl (Or.inl rfl) (@aP _ _ _ _ _ _ _ _ _ (@b_max _ _ rfl) (by rfl) T.b_max ((¬3)∘((¬7)∘ac)) (by decide) (by decide) (by rfl) (by rfl)) (by rfl) (by trivial)))))) (by intro _;rfl))
      (@aj _ _ _ _ _ (@aA _ _ _ _ _ (¬3))))))
noncomputable def io:FI:=(iC (dr (aa (ab 11) (aa (aC (g2 oD) (aa (vC (.int 0)) (aa (av gw (ab 11) (vC (.int 1))) ah))) ah))))
noncomputable def eC:FS:=(cE (bX bg (ab 9) (aa (br (aa (ab 3) (aa (ab 4) (aa (av bv (av bv (lu (ab 5) bO (bJ (ab 10))) (br (aa (ab 12) ah))) (lu (ab 5) (bJ (av bv (ab 10) (vC (.int 1)))) bO)) (aa (ab 6) ah))))) ah)))
noncomputable def kr:FI:=(eM (aa (ab 3) ah))
noncomputable def cY:FS:=(au (a8 11 (bW 3 dB (aa (ab 1) (aa (ab 2) (aa (ab 10) ah)))))
    (dm ([12]++[]) io (af 12) eC))
noncomputable def eL:FI:=(iC (ab 8))
noncomputable def ck:FE:=(br (aa (ab 0) (aa (ab 1) (aa (ab 2) (aa (ab 3) ah)))))
noncomputable def gQ:FS:=(au (jH (ab 1) (aZ (ao (af 3) (ao (af 4) (ao (af 5) (ao (af 6) aX))))))
    (au (a8 7 (bW 3 dB (aa (ab 1) (aa (ab 2) (aa (jW kl (vC (.int 1))) ah)))))
    (au (a8 8 (dr (aa (ab 7) (aa (aC (g2 oD) (aa (vC (.int 0)) (aa (av gw (ab 7) (vC (.int 1))) ah))) (aa (aC (g2 tM) (aa (vC (.int 40)) (aa (av bv (ab 6) (vC (.int 1))) ah))) (aa (aC (g2 oD) (aa (vC (.int 0)) (aa (av gw (ab 6) (vC (.int 1))) ah))) ah))))))
    (au (a8 9 (cT [(3,"_law_things"),(4,"_law_ties_here"),(5,"_law_patience")] 1 eL (af 3) cF ck))
    (au (dm ([10]++([11]++([12]++[]))) kr (af 10) cY)
    (au (fF (ax (av (bw true) (ab 4) (br ah)))
    (au (a8 13 (av a9 (bW 1 a_ (aa (ab 0) ah)) (aC (g1 cV) (aa (ab 4) ah))))
    (au (a8 14 (av a9 (bW 1 a_ (aa (ab 0) ah)) (ab 3)))
    (au (a8 15 (av a9 (av bv (av bv (ab 14) (vC (.int 1))) (av a9 (bW 1 a_ (aa (ab 0) ah)) (av gw (ab 3) (vC (.int 1))))) (ab 3)))
    (au (a8 16 (av bv (br (aa (aC (g2 tM) (aa (ab 14) (aa (ab 15) ah))) (aa (aC (g2 oD) (aa (ab 14) (aa (ab 15) ah))) ah))) (lu (av dX (ab 4) (ab 13)) (bJ (vC (.int 2))) bO)))
    (au (cE (bX bg (ab 9) (aa (br (aa (ab 3) (aa (av bv (av bv (lu (ab 4) bO (bJ (ab 13))) (br (aa (ab 16) ah))) (lu (ab 4) (bJ (av bv (ab 13) (vC (.int 1)))) bO)) (aa (ab 5) (aa (ab 6) ah))))) ah)))
    (cE (bX bg (ab 9) (aa (br (aa (ab 3) (aa (lu (ab 4) bO (bJ (jW kl (vC (.int 1))))) (aa (ab 5) (aa (ab 6) ah))))) ah))))))))
    bI)
    (ba (ab 9))))))))
noncomputable def dC:FM:=gS 3 14 (([3]++([4]++([5]++([6]++[]))))++([7]++([8]++([9]++(([10]++([11]++([12]++[])))++((([13]++([14]++([15]++([16]++([]++[])))))++[])++[])))))) gQ
theorem lJ:aH ["_law_drawn","_law_web_here","_law_tree","_law_things","_law_ties_here","_law_patience","_law_asks","_law_need","_law_numbers","_law_found","_law_thing","_law_due","_law_number","_law_at","_law_one","_law_other","_law_changed"] ["_law_drawn","_law_web_here","_law_tree"] (am dH):=⟨rfl,rfl,rfl,by decide+kernel,rfl,by decide+kernel,by decide+kernel⟩
theorem qp(h:be K mg "_law_other_webs" dH f fd ["_law_drawn","_law_web_here","_law_tree"])(T:jm mg){fLmost_asked:Addr}{eLmost_asked:FuncData}(hLmost_asked:be K mg "_law_most_asked" eP fLmost_asked eLmost_asked ["_law_web_here","_law_tree","_law_thing"])(GLmost_asked:aL P w K mg base bH 3 fLmost_asked eLmost_asked ["_law_web_here","_law_tree","_law_thing"] (bM K 3 dB)){fLnext:Addr}{eLnext:FuncData}(hLnext:be K mg "_law_next" iU fLnext eLnext ["_law_drawn"])(GLnext:aL P w K mg base bH 1 fLnext eLnext ["_law_drawn"] (bM K 1 a_)):aL P w K mg base bH 4 f fd ["_law_drawn","_law_web_here","_law_tree"] (bM K 3 dC):=by
  have nd:=lJ.nd
  exact h.fn lJ rfl rfl (fun cdv A outer s H E hr=>(@ag _ _ _ _ _ _ _ _ (@jF _ _ _ _ _ _ _ _ (¬1) (@cz _ _ _ _ _ _ _ _ rfl rfl (@ar _ _ _ _ _ _ _ _ (@ap _ _ _ 3 _ nd rfl (Or.inr rfl) (by trivial)) (@ar _ _ _ _ _ _ _ _ (@ap _ _ _ 4 _ nd rfl (Or.inr rfl) (by trivial)) (@ar _ _ _ _ _ _ _ _ (@ap _ _ _ 5 _ nd rfl (Or.inr rfl) (by trivial)) (@ar _ _ _ _ _ _ _ _ (@ap _ _ _ 6 _ nd rfl (Or.inl rfl) (by trivial)) (@bC _ _) (by rfl)) (by rfl)) (by rfl)) (by rfl)) (aB (aB (aB (aB cw)))) (by rfl) (by rfl)) (by rfl) (by rfl) (by rfl))
      (@ag _ _ _ _ _ _ _ _ (@aK _ _ _ _ _ 7 _ _ nd rfl (Or.inl rfl) (@a' _ _ _ _ _ _ _ _ _ _ _ _ _ _ _ hLmost_asked GLmost_asked (hr.mono (by decide)) ((¬1)∘((¬2)∘((@kJ _ _ _ _ _ ae)∘ac))) (by rfl) (by decide) (by rfl) (by rfl)) (by rfl) (by trivial))
      (@ag _ _ _ _ _ _ _ _ (@aK _ _ _ _ _ 8 _ _ nd rfl (Or.inl rfl) (@bP _ _ _ _ _ ((¬7)∘((@aP _ _ _ _ _ _ _ _ _ (@b_max _ _ rfl) (by rfl) T.b_max (ae∘((@oz _ _ _ _ _ _ _ (¬7) ae)∘ac)) (by decide) (by decide) (by rfl) (by rfl))∘((@aP _ _ _ _ _ _ _ _ _ (@b_min _ _ rfl) (by rfl) T.b_min (ae∘((@bB _ _ _ _ _ _ _ rfl (¬6) ae)∘ac)) (by decide) (by decide) (by rfl) (by rfl))∘((@aP _ _ _ _ _ _ _ _ _ (@b_max _ _ rfl) (by rfl) T.b_max (ae∘((@oz _ _ _ _ _ _ _ (¬6) ae)∘ac)) (by decide) (by decide) (by rfl) (by rfl))∘ac))))) (by rfl) (by trivial))
      (@ag _ _ _ _ _ _ _ _ (@q_ _ _ _ (9) _ _ _ _ _ _ _ _ _ _ _ _ _ (am dH) ["_law_drawn","_law_web_here","_law_tree","_law_things","_law_ties_here","_law_patience","_law_asks","_law_need","_law_numbers","_law_found","_law_thing","_law_due","_law_number","_law_at","_law_one","_law_other","_law_changed"] [(3,"_law_things"),(4,"_law_ties_here"),(5,"_law_patience")] ["_law_number"] rfl rfl rfl (@dM _ _ _ _ _ rfl (¬8))
        (fun C s0 H0 fp=>(@ap _ _ _ 3 _ (show List.Nodup (["_law_things","_law_ties_here","_law_patience","_law_number"]:List Str) by decide+kernel) rfl (Or.inl rfl) (by trivial))) (fun C s0 H0 fp=>(@iN _ _))
        (fun C s0 H0 fp=>(@aT _ _ _ _ _ _ ((¬0)∘((¬1)∘((¬2)∘((¬3)∘ac)))))) rfl (by decide+kernel) (by decide+kernel) (by decide+kernel) (by decide+kernel) (by decide+kernel) (by decide+kernel) (by decide+kernel) nd rfl rfl (by rfl) (by intro _;rfl))
      (@ag _ _ _ _ _ _ _ _ (@cH _ _ _ _ _ _ _ _ _ _ _ PassesOwn.never rfl (@fj _ _ _ _ _ _ _ rfl T.b_range ((¬3)∘ac) (by rfl)) (@ap _ _ _ 10 _ nd rfl (Or.inl rfl) (by trivial))
      (@ag _ _ _ _ _ _ _ _ (@aK _ _ _ _ _ 11 _ _ nd rfl (Or.inl rfl) (@a' _ _ _ _ _ _ _ _ _ _ _ _ _ _ _ hLmost_asked GLmost_asked (hr.mono (by decide)) ((¬1)∘((¬2)∘((¬10)∘ac))) (by rfl) (by decide) (by rfl) (by rfl)) (by rfl) (by trivial))
      (@aj _ _ _ _ _ (@cH _ _ _ _ _ _ _ _ _ _ _ PassesOwn.never rfl (@dM _ _ _ _ _ rfl (@bP _ _ _ _ _ ((¬11)∘((@aP _ _ _ _ _ _ _ _ _ (@b_max _ _ rfl) (by rfl) T.b_max (ae∘((@oz _ _ _ _ _ _ _ (¬11) ae)∘ac)) (by decide) (by decide) (by rfl) (by rfl))∘ac)))) (@ap _ _ _ 12 _ nd rfl (Or.inl rfl) (by trivial))
      (@aj _ _ _ _ _ (@dF _ _ _ _ _ (@dk _ _ _ _ _ _ _ _ _ rfl (¬9) ((@aT _ _ _ _ _ _ ((¬3)∘((¬4)∘((@bB _ _ _ _ _ _ _ rfl (@bB _ _ _ _ _ _ _ rfl (@bR _ _ _ _ _ _ _ _ _ _ rfl (¬5) (@bS _ _) (@bT _ _ _ _ (¬10))) (@aT _ _ _ _ _ _ ((¬12)∘ac))) (@bR _ _ _ _ _ _ _ _ _ _ rfl (¬5) (@bT _ _ _ _ (@bB _ _ _ _ _ _ _ rfl (¬10) ae)) (@bS _ _)))∘((¬6)∘ac)))))∘ac) (by rfl) (by rfl) (by rfl) (by rfl) (by rfl)) (by rfl))) (by intro _;rfl)))) (by intro _;rfl))
      (@ag _ _ _ _ _ _ _ _ (@bD _ _ _ _ _ _ _ _ _ _ _ (@aV _ _ _ _ _ _ _ _ _ (@l6 _ _ _ rfl hr) (¬4) (@aT _ _ _ _ _ _ ac) (aO _))
      (@ag _ _ _ _ _ _ _ _ (@aK _ _ _ _ _ 13 _ _ nd rfl (Or.inl rfl) (@bf _ _ _ _ _ _ _ (@a' _ _ _ _ _ _ _ _ _ _ _ _ _ _ _ hLnext GLnext (hr.mono (by decide)) ((¬0)∘ac) (by rfl) (by decide) (by rfl) (by rfl)) (@aP _ _ _ _ _ _ _ _ _ (@b_len _ _ rfl) (by rfl) T.b_len ((¬4)∘ac) (by decide) (by decide) (by rfl) (by rfl))) (by rfl) (by trivial))
      (@ag _ _ _ _ _ _ _ _ (@aK _ _ _ _ _ 14 _ _ nd rfl (Or.inl rfl) (@bf _ _ _ _ _ _ _ (@a' _ _ _ _ _ _ _ _ _ _ _ _ _ _ _ hLnext GLnext (hr.mono (by decide)) ((¬0)∘ac) (by rfl) (by decide) (by rfl) (by rfl)) (¬3)) (by rfl) (by trivial))
      (@ag _ _ _ _ _ _ _ _ (@aK _ _ _ _ _ 15 _ _ nd rfl (Or.inl rfl) (@bf _ _ _ _ _ _ _ (@bB _ _ _ _ _ _ _ rfl (@bB _ _ _ _ _ _ _ rfl (¬14) ae) (@bf _ _ _ _ _ _ _ (@a' _ _ _ _ _ _ _ _ _ _ _ _ _ _ _ hLnext GLnext (hr.mono (by decide)) ((¬0)∘ac) (by rfl) (by decide) (by rfl) (by rfl)) (@oz _ _ _ _ _ _ _ (¬3) ae))) (¬3)) (by rfl) (by trivial))
      (@ag _ _ _ _ _ _ _ _ (@aK _ _ _ _ _ 16 _ _ nd rfl (Or.inl rfl) (@bB _ _ _ _ _ _ _ rfl (@aT _ _ _ _ _ _ ((@aP _ _ _ _ _ _ _ _ _ (@b_min _ _ rfl) (by rfl) T.b_min ((¬14)∘((¬15)∘ac)) (by decide) (by decide) (by rfl) (by rfl))∘((@aP _ _ _ _ _ _ _ _ _ (@b_max _ _ rfl) (by rfl) T.b_max ((¬14)∘((¬15)∘ac)) (by decide) (by decide) (by rfl) (by rfl))∘ac))) (@bR _ _ _ _ _ _ _ _ _ _ rfl (@bV _ _ _ _ _ _ _ rfl (¬4) (¬13) (fun _ _=>rfl)) (@bT _ _ _ _ ae) (@bS _ _))) (by rfl) (by trivial))
      (@ag _ _ _ _ _ _ _ _ (@dF _ _ _ _ _ (@dk _ _ _ _ _ _ _ _ _ rfl (¬9) ((@aT _ _ _ _ _ _ ((¬3)∘((@bB _ _ _ _ _ _ _ rfl (@bB _ _ _ _ _ _ _ rfl (@bR _ _ _ _ _ _ _ _ _ _ rfl (¬4) (@bS _ _) (@bT _ _ _ _ (¬13))) (@aT _ _ _ _ _ _ ((¬16)∘ac))) (@bR _ _ _ _ _ _ _ _ _ _ rfl (¬4) (@bT _ _ _ _ (@bB _ _ _ _ _ _ _ rfl (¬13) ae)) (@bS _ _)))∘((¬5)∘((¬6)∘ac)))))∘ac) (by rfl) (by rfl) (by rfl) (by rfl) (by rfl)) (by rfl))
      (@aj _ _ _ _ _ (@dF _ _ _ _ _ (@dk _ _ _ _ _ _ _ _ _ rfl (¬9) ((@aT _ _ _ _ _ _ ((¬3)∘((@bR _ _ _ _ _ _ _ _ _ _ rfl (¬4) (@bS _ _) (@bT _ _ _ _ (@kJ _ _ _ _ _ ae)))∘((¬5)∘((¬6)∘ac)))))∘ac) (by rfl) (by rfl) (by rfl) (by rfl) (by rfl)) (by rfl))))))))
      (@aR _ _))
      (@aj _ _ _ _ _ (@aA _ _ _ _ _ (¬9))))))))))
noncomputable def G3:FI:=(iC (bW 3 dC (aa (ab 1) (aa (ab 3) (aa (ab 4) ah)))))
noncomputable def Fu:FS:=(fF (gG (ax (bW 2 pI (aa (bW 2 er (aa (ab 5) (aa (ab 4) ah))) (aa (bW 2 dA (aa (ab 5) (aa (ab 4) ah))) ah)))))
    (ba (vC (.bool false)))
    bI)
noncomputable def HR:FI:=(eM (aa (vC (.int 3)) ah))
noncomputable def Fg:FS:=(au (a8 3 (bW 3 tQ (aa (ab 1) (aa (vC (.int 12)) (aa (vC (.int 16)) ah)))))
    (au (fF (jK (ax (av (bw true) (av dX (ab 3) (vC (.int 1))) (br ah))) (ax (av (bw false) (av a9 (bW 1 a_ (aa (ab 1) ah)) (vC (.int 2))) (vC (.int 0)))))
    (a8 3 (bW 1 iq (aa (ab 3) ah)))
    bI)
    (au (a8 4 (bW 2 dD (aa (ab 1) (aa (bW 3 k_ (aa (ab 1) (aa (ab 3) (aa (av bv (vC (.int 1)) (av a9 (bW 1 a_ (aa (ab 1) ah)) (vC (.int 24)))) ah)))) ah))))
    (au (fF (oX (ax (av pd (bW 2 er (aa (ab 3) (aa (ab 4) ah))) (vC (.bool true)))) (gG (ax (bW 2 dA (aa (ab 3) (aa (ab 4) ah))))))
    (ba (vC (.bool false)))
    bI)
    (dm ([5]++([]++[])) G3 (af 5) Fu)))))
noncomputable def CH:FS:=(au (a8 1 (bW 1 ms (aa (ab 0) ah)))
    (au (dm ([2]++([3]++(([3]++[])++([4]++(([]++[])++([5]++([]++[]))))))) HR (af 2) Fg)
    (ba (vC (.bool true)))))
noncomputable def pK:FM:=gS 1 5 ([1]++(([2]++([3]++(([3]++[])++([4]++(([]++[])++([5]++([]++[])))))))++[])) CH
theorem zW:aH ["_law_script","_law_drawn","_law_k","_law_web_here","_law_tree","_law_other"] ["_law_script"] (am pW):=⟨rfl,rfl,rfl,by decide+kernel,rfl,by decide+kernel,by decide+kernel⟩
theorem D4(h:be K mg "law" pW f fd ["_law_script"])(T:jm mg){fLdraws:Addr}{eLdraws:FuncData}(hLdraws:be K mg "_law_draws" mH fLdraws eLdraws ["_law_script"])(GLdraws:aL P w K mg base bH 2 fLdraws eLdraws ["_law_script"] (bM K 1 ms)){fLweb:Addr}{eLweb:FuncData}(hLweb:be K mg "_law_web" t_ fLweb eLweb ["_law_drawn","_law_most","_law_ties_here"])(GLweb:aL P w K mg base bH 5 fLweb eLweb ["_law_drawn","_law_most","_law_ties_here"] (bM K 3 tQ)){fLrenumbered:Addr}{eLrenumbered:FuncData}(hLrenumbered:be K mg "_law_renumbered" cJ fLrenumbered eLrenumbered ["_law_drawn","_law_tree"])(GLrenumbered:aL P w K mg base bH 2 fLrenumbered eLrenumbered ["_law_drawn","_law_tree"] (bM K 2 dD)){fLother_webs:Addr}{eLother_webs:FuncData}(hLother_webs:be K mg "_law_other_webs" dH fLother_webs eLother_webs ["_law_drawn","_law_web_here","_law_tree"])(GLother_webs:aL P w K mg base bH 4 fLother_webs eLother_webs ["_law_drawn","_law_web_here","_law_tree"] (bM K 3 dC)){fLenough:Addr}{eLenough:FuncData}(hLenough:be K mg "_law_enough" kO fLenough eLenough ["_law_web_here"])(GLenough:aL P w K mg base bH 1 fLenough eLenough ["_law_web_here"] (bM K 1 iq)){fLgrown:Addr}{eLgrown:FuncData}(hLgrown:be K mg "_law_grown" lc fLgrown eLgrown ["_law_drawn","_law_web_here","_law_most"])(GLgrown:aL P w K mg base bH 4 fLgrown eLgrown ["_law_drawn","_law_web_here","_law_most"] (bM K 3 k_)){f_is_tree:Addr}{e_is_tree:FuncData}(h_is_tree:be K mg "is_tree" h8 f_is_tree e_is_tree ["web","thing"])(G_is_tree:aL P w K mg base bH 5 f_is_tree e_is_tree ["web","thing"] (bM K 2 er)){fLis_tree:Addr}{eLis_tree:FuncData}(hLis_tree:be K mg "_law_is_tree" jf fLis_tree eLis_tree ["_law_web_here","_law_thing"])(GLis_tree:aL P w K mg base bH 3 fLis_tree eLis_tree ["_law_web_here","_law_thing"] (bM K 2 dA)){fLsays:Addr}{eLsays:FuncData}(hLsays:be K mg "_law_says" pT fLsays eLsays ["_law_found","_law_due"])(GLsays:aL P w K mg base bH 1 fLsays eLsays ["_law_found","_law_due"] (bM K 2 pI)){fLnext:Addr}{eLnext:FuncData}(hLnext:be K mg "_law_next" iU fLnext eLnext ["_law_drawn"])(GLnext:aL P w K mg base bH 1 fLnext eLnext ["_law_drawn"] (bM K 1 a_)):aL P w K mg base bH 6 f fd ["_law_script"] (bM K 1 pK):=by
  have nd:=zW.nd
  exact h.fn zW rfl rfl (fun cdv A outer s H E hr=>(@ag _ _ _ _ _ _ _ _ (@aK _ _ _ _ _ 1 _ _ nd rfl (Or.inl rfl) (@a' _ _ _ _ _ _ _ _ _ _ _ _ _ _ _ hLdraws GLdraws (hr.mono (by decide)) ((¬0)∘ac) (by rfl) (by decide) (by rfl) (by rfl)) (by rfl) (by trivial))
      (@ag _ _ _ _ _ _ _ _ (@cH _ _ _ _ _ _ _ _ _ _ _ PassesOwn.never rfl (@fj _ _ _ _ _ _ _ rfl T.b_range (ae∘ac) (by rfl)) (@ap _ _ _ 2 _ nd rfl (Or.inl rfl) (by trivial))
      (@ag _ _ _ _ _ _ _ _ (@aK _ _ _ _ _ 3 _ _ nd rfl (Or.inl rfl) (@a' _ _ _ _ _ _ _ _ _ _ _ _ _ _ _ hLweb GLweb (hr.mono (by decide)) ((¬1)∘(ae∘(ae∘ac))) (by rfl) (by decide) (by rfl) (by rfl)) (by rfl) (by trivial))
      (@ag _ _ _ _ _ _ _ _ (@bD _ _ _ _ _ _ _ _ _ _ _ (@nv _ _ _ _ (@pS _ _ _ _ _ _ _ _ (@aV _ _ _ _ _ _ _ _ _ (@l6 _ _ _ rfl hr) (@bV _ _ _ _ _ _ _ rfl (¬3) ae (fun _ _=>rfl)) (@aT _ _ _ _ _ _ ac) (aO _)) (@oT _ _ _ _ _ (@aV _ _ _ _ _ _ _ _ _ (@qg _ _ _ rfl hr) (@bf _ _ _ _ _ _ _ (@a' _ _ _ _ _ _ _ _ _ _ _ _ _ _ _ hLnext GLnext (hr.mono (by decide)) ((¬1)∘ac) (by rfl) (by decide) (by rfl) (by rfl)) ae) ae (aO _)))))
      (@aj _ _ _ _ _ (@aK _ _ _ _ _ 3 _ _ nd rfl (Or.inl rfl) (@a' _ _ _ _ _ _ _ _ _ _ _ _ _ _ _ hLenough GLenough (hr.mono (by decide)) ((¬3)∘ac) (by rfl) (by decide) (by rfl) (by rfl)) (by rfl) (by trivial)))
      (@aR _ _))
      (@ag _ _ _ _ _ _ _ _ (@aK _ _ _ _ _ 4 _ _ nd rfl (Or.inl rfl) (@a' _ _ _ _ _ _ _ _ _ _ _ _ _ _ _ hLrenumbered GLrenumbered (hr.mono (by decide)) ((¬1)∘((@a' _ _ _ _ _ _ _ _ _ _ _ _ _ _ _ hLgrown GLgrown (hr.mono (by decide)) ((¬1)∘((¬3)∘((@bB _ _ _ _ _ _ _ rfl ae (@bf _ _ _ _ _ _ _ (@a' _ _ _ _ _ _ _ _ _ _ _ _ _ _ _ hLnext GLnext (hr.mono (by decide)) ((¬1)∘ac) (by rfl) (by decide) (by rfl) (by rfl)) ae))∘ac))) (by rfl) (by decide) (by rfl) (by rfl))∘ac)) (by rfl) (by decide) (by rfl) (by rfl)) (by rfl) (by trivial))
      (@ag _ _ _ _ _ _ _ _ (@bD _ _ _ _ _ _ _ _ _ _ _ (@nv _ _ _ _ (@kM _ _ _ _ _ _ _ _ (@aV _ _ _ _ _ _ _ _ _ (@AK _ _) (@a' _ _ _ _ _ _ _ _ _ _ _ _ _ _ _ h_is_tree G_is_tree (hr.mono (by decide)) ((¬3)∘((¬4)∘ac)) (by rfl) (by decide) (by rfl) (by rfl)) (@ce _ _ _ _ _) (aO _)) (@jG _ _ _ _ _ (@fm _ _ _ _ _ (@cQ _ _ _ _ (@a' _ _ _ _ _ _ _ _ _ _ _ _ _ _ _ hLis_tree GLis_tree (hr.mono (by decide)) ((¬3)∘((¬4)∘ac)) (by rfl) (by decide) (by rfl) (by rfl)) (by intro _;rfl))))))
      (@aj _ _ _ _ _ (@aA _ _ _ _ _ (@ce _ _ _ _ _)))
      (@aR _ _))
      (@aj _ _ _ _ _ (@cH _ _ _ _ _ _ _ _ _ _ _ PassesOwn.never rfl (@dM _ _ _ _ _ rfl (@a' _ _ _ _ _ _ _ _ _ _ _ _ _ _ _ hLother_webs GLother_webs (hr.mono (by decide)) ((¬1)∘((¬3)∘((¬4)∘ac))) (by rfl) (by decide) (by rfl) (by rfl))) (@ap _ _ _ 5 _ nd rfl (Or.inl rfl) (by trivial))
      (@aj _ _ _ _ _ (@bD _ _ _ _ _ _ _ _ _ _ _ (@fm _ _ _ _ _ (@cQ _ _ _ _ (@a' _ _ _ _ _ _ _ _ _ _ _ _ _ _ _ hLsays GLsays (hr.mono (by decide)) ((@a' _ _ _ _ _ _ _ _ _ _ _ _ _ _ _ h_is_tree G_is_tree (hr.mono (by decide)) ((¬5)∘((¬4)∘ac)) (by rfl) (by decide) (by rfl) (by rfl))∘((@a' _ _ _ _ _ _ _ _ _ _ _ _ _ _ _ hLis_tree GLis_tree (hr.mono (by decide)) ((¬5)∘((¬4)∘ac)) (by rfl) (by decide) (by rfl) (by rfl))∘ac)) (by rfl) (by decide) (by rfl) (by rfl)) (by intro _;rfl)))
      (@aj _ _ _ _ _ (@aA _ _ _ _ _ (@ce _ _ _ _ _)))
      (@aR _ _))) (by intro _;rfl))))))) (by intro _;rfl))
      (@aj _ _ _ _ _ (@aA _ _ _ _ _ (@ce _ _ _ _ _))))))
local macro_rules | `(tactic| simp? [$ts,*]) => `(tactic| simp [$ts,*, gS, ky, au, fF, ba, bI, a8, cE, jH, pV, qs, ax, av, jW, ab, vC, dr, ah, aa, br, aC, bW, jK, oX, gG, De, eS, qc, jV, lu, bO, bJ, bX, bg, tR, eN, ii, ma, c9, bA, qj, sP, aZ, ao, af, aX, ci, aN, bj, si, ee, bF, de, cS, iL, iJ, iH, iG, fU, fR, fV, ej, fQ, oj, kg, kf, om, kj, iK, kh, ki, fX, fW, ek, fY, oo, jZ, jp, jq, jr, nV, eg, ef, eJ, iI, List.replicate, -List.map_nil, -List.map_cons, -List.nil_append, -List.cons_append, -Option.bind_some, -Option.map_some, -getElem?_pos, -List.append_nil, og, oa, nX, nW, nZ, n_, nY, oh])
theorem vV{n k:Int}(h:0 < k):0≤n % k:=Int.emod_nonneg _ (Int.ne_of_gt h)
theorem vX{n k:Int}(h:0 < k):n % k < k:=Int.emod_lt_of_pos _ h
def nx:List Int→Int
  | []=>0
  | d::_=>d
def iX(ds:List Int):Prop:=∀d∈ds,0≤d∧d < 2147483648
theorem C2{ds:List Int}(h:iX ds):0≤nx ds∧nx ds < 2147483648:=by
  cases ds with
  | nil=>exact⟨Int.le_refl 0,by show(0:Int) < 2147483648;decide⟩
  | cons d r=>exact h d (by simp)
theorem GV{ds:List Int}(h:iX ds):iX ds.tail:=fun d hd=>h d (List.mem_of_mem_tail hd)
theorem EU(ds:List Int):a_ [.l (ds.map .int)]=some (.d (.int (nx ds)),[.l (ds.tail.map .int)]):=by
  have hq:∀e:En,e[0]?=some (some (.l (ds.map .int)))→bw false e (.s 0) (.l [])=some (.d (.bool (ds.map PyData.int).isEmpty)):=fun e he=>me he (iP ds).1
  cases ds with
  | nil=>simp? [a_,uI,hq,nx]
  | cons d r=>simp? [a_,uI,hq,nx]
theorem jl{ds:List Int}(hd:iX ds):∃(n:Int) (ds':List Int),a_ [.l (ds.map .int)]=some (.d (.int n),[.l (ds'.map .int)])∧0≤n∧n < 2147483648∧iX ds':=⟨nx ds,ds.tail,EU ds,(C2 hd).1,(C2 hd).2,GV hd⟩
theorem wG(cell k:Int)(h0:0≤k)(h1:k≤1000):∃r,lb [.d (.int cell),.d (.int k)]=some (.d (.int r),[.d (.int cell),.d (.int k)])∧0≤r∧r < 2147483648:=by
  have a1:ng (cell % 2147483647) 48271=true:=se (by decide) (by decide)
  have a2:ng 7919 k=true:=yW (by decide) (by decide)
  have a3:ng (7919*k) k=true:=se (by lia) (by lia)
  have a4:ng ((cell % 2147483647*48271+7919*k*k+104729) % 2147483647) ((cell % 2147483647*48271+7919*k*k+104729) % 2147483647)=true:=se (by lia) (by lia)
  refine⟨_,by simp? [lb,vQ,aS,ph,a1,a2,a3,a4];rfl,?_,?_⟩
  · lia
  · lia
theorem rX{ds:List Int}(h:iX ds){r:Int}(h0:0≤r)(h1:r < 2147483648):iX (ds++[r]):=fun d hd=>by
  rcases List.mem_append.mp hd with hd | hd
  · exact h d hd
  · simp at hd;subst hd;exact⟨h0,h1⟩
abbrev dE(ns ds:List Int)(v2 v3 v4:Option Sv):En:=[some (.d (.list (ns.map .int))),some (.l (ds.map .int)),v2,v3,v4]
inductive DI (ns:List Int) (i:Nat):En→Prop
  | mk {ds v2 v3 v4} (hd:iX ds) (hl:ds.length≤1000*i):DI ns i (dE ns ds v2 v3 v4)
inductive DJ (ns:List Int) (k cell:Int) (n i:Nat):En→Prop
  | mk {ds v4} (hd:iX ds) (hl:ds.length=n+i):DJ ns k cell n i (dE ns ds (some (.d (.int k))) (some (.d (.int cell))) v4)
inductive DW (ns:List Int) (k:Int) (v4:Option Sv) (n:Nat):En→Prop
  | mk {cell ds} (hc:0≤cell) (hd:iX ds) (hl:ds.length≤max n 900):DW ns k v4 n (dE ns ds (some (.d (.int k))) (some (.d (.int cell))) v4)
theorem Cc(ns:List Int)(hn:ns.length≤63):∃ds,ms [.d (.list (ns.map .int))]=some (.l (ds.map .int),[.d (.list (ns.map .int))])∧iX ds:=by
  have inner:∀(cell k:Int) (ds:List Int) (v4:Option Sv),0≤k→k≤63→iX ds→ds.length≤63000→∃ds' v4',(∀W,dm W k9 (af 4) i4 (dE ns ds (some (.d (.int k))) (some (.d (.int cell))) v4)=some (.nx (dE ns ds' (some (.d (.int k))) (some (.d (.int cell))) v4')))∧iX ds'∧ds'.length=ds.length+12:=by
    intro cell k ds v4 k0 k1 hd hl
    obtain⟨e',h1,h2⟩:=cv (own:=[]) (g:=af 4) (f:=i4) (DJ ns k cell ds.length) (bz 0 12) 0 (dE ns ds (some (.d (.int k))) (some (.d (.int cell))) v4) (fun i x e hx hI=>by
      obtain⟨rfl,hi⟩:=fw hx
      obtain⟨hd',hl'⟩:=hI
      rename_i ds' v4'
      obtain⟨r1,c1,_,_⟩:=wG cell (3*(0+(i:Int))+1) (by lia) (by lia)
      obtain⟨r2,c2,c3,c4⟩:=wG r1 (0+(i:Int)+k+2) (by lia) (by lia)
      have a1:ng 3 (0+(i:Int))=true:=yW (by decide) (by decide)
      refine⟨_,dE ns (ds'++[r2]) (some (.d (.int k))) (some (.d (.int cell))) (some (.d (.int (0+(i:Int))))),rfl,?_,aY,.mk (rX hd' c3 c4) (by simp;lia)⟩
      have hlen:ds'.length < 1000000:=by lia
      simp only [Int.zero_add] at a1 c1 c2
      simp? [dE,i4,c1,c2,ph,a1,hlen]) (.mk hd rfl)
    obtain⟨hd',hl'⟩:=h2
    rename_i ds' v4'
    rw [iu] at hl'
    refine⟨ds',v4',fun W=>?_,hd',by lia⟩
    rw [bU (show k9 _=some (bz 0 12,[],_) from e_ (n:=12) rfl (by decide) (by decide))]
    exact h1
  have wh:∀(cell k:Int) (ds:List Int) (v4:Option Sv),0≤cell→iX ds→ds.length≤63100→∃cell' ds',jI (2 ^ 4200) gX kU (dE ns ds (some (.d (.int k))) (some (.d (.int cell))) v4)=some (.nx (dE ns ds' (some (.d (.int k))) (some (.d (.int cell'))) v4))∧0≤cell'∧iX ds'∧ds'.length≤max ds.length 900:=by
    intro cell k ds v4 hc hd hl
    have tst:∀(cell:Int) (ds:List Int),gX (dE ns ds (some (.d (.int k))) (some (.d (.int cell))) v4)=some (decide (1000000000000000000≤cell)&&decide ((ds.length:Int) < 900),dE ns ds (some (.d (.int k))) (some (.d (.int cell))) v4):=by
      intro cell ds
      by_cases h:(1000000000000000000:Int)≤cell
      · simp? [dE,gX,mf,mz,h]
      · simp? [dE,gX,mf,mz,h]
    obtain⟨e0,e',h1,hI,h3⟩:=jM (ft:=gX) (f:=kU) (DW ns k v4 ds.length)
      (fun e=>1000000 - lG 1 e) (fun e hI=>by
        obtain⟨hc',hd',hl'⟩:=hI
        rename_i cell' ds'
        rw [tst]
        by_cases c1:(1000000000000000000:Int)≤cell'
        · by_cases c2:(ds'.length:Int) < 900
          · refine .inr ⟨_,dE ns (ds'++[cell' % 2147483629]) (some (.d (.int k))) (some (.d (.int (cell' / 2147483629)))) v4,by rw [decide_eq_true c1,decide_eq_true c2];rfl,?_,.mk (by lia) (rX hd' (by lia) (by lia)) (by simp;lia),?_⟩
            · have hlen:ds'.length < 1000000:=by lia
              have b8:Bt 8000 2147483629:=m5 (by decide) (by decide)
              simp? [dE,kU,aS,gY,b8,hlen]
            · simp [lG,dE];lia
          · exact .inl ⟨_,by rw [decide_eq_true c1,decide_eq_false c2];rfl,trivial⟩
        · exact .inl ⟨_,by rw [decide_eq_false c1];rfl,trivial⟩) (2 ^ 4200) _ (.mk hc hd (by lia)) (oS (m:=20) (Nat.lt_of_le_of_lt (Nat.sub_le _ _) (by decide)) (by decide))
    obtain⟨hc',hd',hl'⟩:=hI
    rename_i cell' ds'
    rw [tst] at h3
    have h4:=(Prod.mk.inj (Option.some.inj h3)).2
    subst h4
    exact⟨cell',ds',h1,hc',hd',hl'⟩
  have turn:∀(i:Nat) (ds:List Int) (v3 v4:Option Sv) (hi:i < ns.length),iX ds→ds.length≤1000*i→∃ds2 v3' v4',gW (dE ns ds (some (.d (.int (i:Int)))) v3 v4)=some (.nx (dE ns ds2 (some (.d (.int (i:Int)))) v3' v4'))∧iX ds2∧ds2.length≤1000*(i+1):=by
    intro i ds v3 v4 hi hd hl
    have hcell:atI (ns.map PyData.int) (i:Int)=some (.int ns[i]):=by
      rw [ic (by lia) (by rw [List.length_map];lia)]
      simp [hi]
    have c0:(0:Int)≤(ns[i].natAbs:Int):=by lia
    have st:a8 3 (aC (g1 wZ) (aa (av dX (ab 0) (ab 2)) ah)) (dE ns ds (some (.d (.int (i:Int)))) v3 v4)=some (.nx (dE ns ds (some (.d (.int (i:Int)))) (some (.d (.int (ns[i].natAbs:Int)))) v4)):=by
      simp? [dE,hcell]
    generalize (ns[i].natAbs:Int)=cell at c0 st
    have mid:∃ds1 v4',fF (ax (av tL (ab 3) (av uP (vC (.int 10)) (vC (.int 18))))) (dm ([4]++[]) k9 (af 4) i4) bI (dE ns ds (some (.d (.int (i:Int)))) (some (.d (.int cell))) v4)=some (.nx (dE ns ds1 (some (.d (.int (i:Int)))) (some (.d (.int cell))) v4'))∧iX ds1∧ds1.length≤ds.length+12:=by
      by_cases cb:cell < 1000000000000000000
      · obtain⟨ds1,v4',f1,f2,f3⟩:=inner cell (i:Int) ds v4 (by lia) (by lia) hd (by lia)
        refine⟨ds1,v4',?_,f2,by lia⟩
        rw [C_ (e1:=dE ns ds (some (.d (.int (i:Int)))) (some (.d (.int cell))) v4) (by simp? [dE,mf,mz,cb])]
        exact f1 _
      · refine⟨ds,v4,?_,hd,by lia⟩
        rw [C9 (e1:=dE ns ds (some (.d (.int (i:Int)))) (some (.d (.int cell))) v4) (by simp? [dE,mf,mz,cb])]
        rfl
    obtain⟨ds1,v4',m1,m2,m3⟩:=mid
    obtain⟨cell2,ds2,w1,w2,w3,w4⟩:=wh cell (i:Int) ds1 v4' c0 m2 (by lia)
    by_cases c2:(2147483629:Int)≤cell2
    · refine⟨ds2++[cell2 % 2147483629],some (.d (.int cell2)),v4',?_,rX w3 (by lia) (by lia),by simp;lia⟩
      have hlen:ds2.length < 1000000:=by lia
      unfold gW
      rw [bo st,bo m1,bo w1]
      simp? [dE,c2,aS,hlen]
    · refine⟨ds2,some (.d (.int cell2)),v4',?_,w3,by lia⟩
      unfold gW
      rw [bo st,bo m1,bo w1]
      simp? [dE,c2]
  obtain⟨e',h1,hI⟩:=cv (own:=[]) (g:=af 2) (f:=gW) (DI ns) (bz 0 (min (ns.length:Int) 63).toNat) 0 (dE ns [] none none none) (fun i x e hx hI=>by
    obtain⟨rfl,hi⟩:=fw hx
    obtain⟨hd,hl⟩:=hI
    rename_i ds v2 v3 v4
    rw [Nat.zero_add] at hl ⊢
    obtain⟨ds2,v3',v4',t1,t2,t3⟩:=turn i ds v3 v4 (by lia) hd hl
    exact⟨dE ns ds (some (.d (.int (i:Int)))) v3 v4,_,by simp [af,dE],t1,aY,.mk t2 t3⟩) (.mk (fun d hd=>by cases hd) (by simp))
  obtain⟨hd,hl⟩:=hI
  rename_i ds v2 v3 v4
  refine⟨ds,?_,hd⟩
  have hf:∀W,dm W m_ (af 2) gW (dE ns [] none none none)=some (.nx (dE ns ds v2 v3 v4)):=fun W=>by
    rw [bU (show m_ _=some (bz 0 (min (ns.length:Int) 63).toNat,[],dE ns [] none none none) from e_ (n:=min (ns.length:Int) 63) (by simp? [dE]) (by lia) (by lia))]
    exact h1
  unfold dE at hf
  simp only [List.map_nil] at hf
  simp? [ms,vO,hf]
theorem GR(a b:Int)(hb:Bt 4000 b):tP [.d (.int a),.d (.int b)]=some (.d (.int (Int.gcd a b)),[.d (.int a),.d (.int b)]):=by
  have tst:∀x y:Int,l5 [some (.d (.int x)),some (.d (.int y))]=some (!(y==0),[some (.d (.int x)),some (.d (.int y))]):=fun x y=>by simp? [l5]
  obtain⟨e0,e',h1,⟨x,y,he,hg,hy⟩,h3⟩:=jM (ft:=l5) (f:=oM) (fun e=>∃x y,e=[some (.d (.int x)),some (.d (.int y))]∧Int.gcd x y=Int.gcd a b∧Bt 4000 y) (yX 1) (fun e ⟨x,y,he,hg,hy⟩=>by
    subst he
    rw [tst]
    by_cases c:y=0
    · subst c;exact .inl ⟨_,rfl,trivial⟩
    · refine .inr ⟨_,[some (.d (.int y)),some (.d (.int (x.fmod y)))],by rw [beq_false_of_ne c];rfl,by simp? [oM,Dv c],⟨y,x.fmod y,rfl,by rw [yC,hg],?_⟩,?_⟩
      · have:=oi x c
        exact Bt.of_le hy (by lia)
      · have:=oi x c
        simpa [yX] using this) (2 ^ 4200) _ ⟨a,b,rfl,rfl,hb⟩ (oS (m:=4000) (by simpa [yX,Bt] using hb) (by decide))
  subst he
  rw [tst] at h3
  have h4:=Prod.mk.inj (Option.some.inj h3)
  have hy0:y=0:=by simpa using h4.1
  subst hy0
  have h5:=h4.2
  subst h5
  have hs:jI (2 ^ 4200) l5 oM [some (.d (.int a)),some (.d (.int b))]=some (.nx [some (.d (.int x)),some (.d (.int 0))]):=h1
  have hg':(x.natAbs:Int)=(Int.gcd a b:Int):=by rw [←hg];simp
  simp only [tP,CD,gS,ky,au,fF,ba,bI,a8,cE,jH,pV,qs,ax,av,jW,ab,vC,dr,ah,aa,br,aC,bW,jK,oX,gG,De,eS,qc,jV,lu,bO,bJ,bX,bg,tR,eN,ii,ma,c9,bA,qj,sP,aZ,ao,af,aX,ci,aN,bj,si,ee,bF,de,cS,iL,iJ,iH,iG,fU,fR,fV,ej,fQ,oj,kg,kf,om,kj,iK,kh,ki,fX,fW,ek,fY,oo,jZ,jp,jq,jr,nV,eg,ef,eJ,iI,List.replicate, -List.map_nil, -List.map_cons, -List.nil_append, -List.cons_append, -Option.bind_some, -Option.map_some, -getElem?_pos, -List.append_nil,og,oa,nX,nW,nZ,n_,nY,oh]
  simp? [hs,hg']
theorem C'(t b:Int)(hb:0 < b)(h:Bt 4000 b):qX [.d (.int t),.d (.int b)]=some (.d (.tuple [.int (gF t b).1,.int (gF t b).2]),[.d (.int t),.d (.int b)]):=by
  have g0:=wc (t:=t) (b:=b) (by lia)
  have g1:(Int.gcd t b:Int)≠0:=by lia
  have g8:Bt 8000 (Int.gcd t b:Int):=(Dx (t:=t) (by lia) h).mono (by decide)
  have e:gF t b=(t.fdiv (Int.gcd t b:Int),b.fdiv (Int.gcd t b:Int)):=by unfold gF;rw [if_neg (by lia)]
  rw [e]
  simp? [qX,CF,GR t b h,A6 g1 g8]
theorem CJ{i:Int}{n:Nat}(h1: -2147483648 < i)(h2:i < 2147483648)(hn:31≤n):Bt n i:=Bt.mono (m:=31) (by unfold Bt;lia) hn
def yr(t b:Int):Prop:=0≤t∧t≤b∧1≤b∧b≤100∧Int.gcd t b=1
theorem Ae(n k:Int)(hn:0≤n):∃t b,f_ [.d (.int n),.d (.int k)]=some (.d (.tuple [.int t,.int b]),[.d (.int n),.d (.int k)])∧yr t b:=by
  have b9:Bt 8000 9:=m5 (by decide) (by decide)
  have b100:Bt 8000 100:=m5 (by decide) (by decide)
  have low:∀t b:Int,0 < b→0≤t→t≤b→b≤100→yr (gF t b).1 (gF t b).2:=fun t b hb h0 h1 h2=>by
    obtain⟨r1,r2,r3,r4⟩:=uV hb h0 h1 h2
    exact⟨r1,r2,r3,r4,yT (by lia)⟩
  by_cases c0:k=0
  · subst c0
    obtain⟨x,hx,ha⟩:=mY (xs:=[PyData.tuple [.int 1,.int 2],.tuple [.int 1,.int 3],.tuple [.int 2,.int 3],.tuple [.int 1,.int 1],.tuple [.int 0,.int 1],.tuple [.int 3,.int 4]]) (i:=n % 6) (by lia) (by simp;lia)
    obtain⟨t,b,rfl,hc⟩:∃t b,x=.tuple [.int t,.int b]∧yr t b:=by
      simp only [List.mem_cons,List.not_mem_nil,or_false] at hx
      rcases hx with rfl | rfl | rfl | rfl | rfl | rfl<;>exact⟨_,_,rfl,by unfold yr;decide⟩
    exact⟨t,b,by simp? [f_,j7,aS,ha],hc⟩
  · by_cases c1:k=1
    · subst c1
      have hm:(n / 9) % (2+n % 9 - 1) < 2+n % 9 - 1:=Int.emod_lt_of_pos _ (by lia)
      have hm0:0≤(n / 9) % (2+n % 9 - 1):=Int.emod_nonneg _ (by lia)
      refine⟨_,_,?_,low (1+(n / 9) % (2+n % 9 - 1)) (2+n % 9) (by lia) (by lia) (by lia) (by lia)⟩
      have hpos:∀e:En,a9 e (.d (.int (n / 9))) (.d (.int (2+n % 9 - 1)))=_:=fun e=>aS (by lia)
      have hl:=C' (1+(n / 9) % (2+n % 9 - 1)) (2+n % 9) (by lia) (CJ (by lia) (by lia) (by decide))
      simp? [f_,j7,aS,gY,b9,hpos,hl]
    · by_cases c2:k=2
      · subst c2
        have hm:(n / 100) % (1+n % 100+1) < 1+n % 100+1:=Int.emod_lt_of_pos _ (by lia)
        have hm0:0≤(n / 100) % (1+n % 100+1):=Int.emod_nonneg _ (by lia)
        refine⟨_,_,?_,low ((n / 100) % (1+n % 100+1)) (1+n % 100) (by lia) (by lia) (by lia) (by lia)⟩
        have hpos:∀e:En,a9 e (.d (.int (n / 100))) (.d (.int (1+n % 100+1)))=_:=fun e=>aS (by lia)
        have hl:=C' ((n / 100) % (1+n % 100+1)) (1+n % 100) (by lia) (CJ (by lia) (by lia) (by decide))
        simp? [f_,j7,aS,gY,b100,hpos,hl]
      · refine⟨1,1,?_,by unfold yr;decide⟩
        simp? [f_,j7,c0,c1,c2]
theorem Cg(n k:Int):∃r,mv [.d (.int n),.d (.int k)]=some (.d (.int r),[.d (.int n),.d (.int k)])∧0≤r∧r≤1000:=by
  obtain⟨x,hx,ha⟩:=mY (xs:=[PyData.int (n % 7),.int (5+n % 2),.int (n % 1001),.int (1000 - n % 3)]) (i:=k % 4) (by lia) (by simp;lia)
  obtain⟨r,rfl,hr⟩:∃r,x=.int r∧0≤r∧r≤1000:=by
    simp only [List.mem_cons,List.not_mem_nil,or_false] at hx
    rcases hx with rfl | rfl | rfl | rfl<;>exact⟨_,rfl,by lia,by lia⟩
  exact⟨r,by simp? [mv,vS,aS,ha],hr⟩
abbrev tE(ds:List Int)(things many shape odds ws:Int)(ts:List oC)(v7 v8 v9 v10 v11 v12:Option Sv):En:=[some (.l (ds.map .int)),some (.d (.int things)),some (.d (.int many)),some (.d (.int shape)),some (.d (.int odds)),some (.d (.int ws)),some (.l (ts.map aQ)),v7,v8,v9,v10,v11,v12]
inductive TR (things many shape odds ws:Int) (ts:List oC) (k:Option Sv):En→Prop
  | mk {t ds w8 w9 w10 w11 w12} (hd:iX ds) (ht:t.Ok things):TR things many shape odds ws ts k (tE ds things many shape odds ws (ts++[t]) k w8 w9 w10 w11 w12)
inductive TI (things many a b c:Int) (i:Nat):En→Prop
  | mk {ts ds w7 w8 w9 w10 w11 w12} (hd:iX ds) (hl:ts.length=i) (ht:∀t∈ts,t.Ok things):TI things many a b c i (tE ds things many a b c ts w7 w8 w9 w10 w11 w12)
theorem GS(ds:List Int)(things many shape odds ws:Int)(ts:List oC)(k:Int)(v8 v9 v10 v11 v12:Option Sv)(hd:iX ds)(h2:2≤things)(h12:things≤100)(s0:0≤shape)(s1:shape < 6)(k0:0≤k)(hl:ts.length≤1000):
    ∃e',i6 (tE ds things many shape odds ws ts (some (.d (.int k))) v8 v9 v10 v11 v12)=some (.nx e')∧TR things many shape odds ws ts (some (.d (.int k))) e':=by
  obtain⟨n,d1,tn, -, -,hd1⟩:=jl hd
  obtain⟨m,d2,tm,m0, -,hd2⟩:=jl hd1
  obtain⟨x,hx,ha⟩:=mY (xs:=[PyData.int (n % things),.int 0,.int (k % things),.int (n % things),.int (n % 2),.int (n % things)]) (i:=shape) s0 (by simp;lia)
  have tp:0 < things:=Int.lt_of_lt_of_le (by decide) h2
  have tq:0 < things - 1:=Int.sub_pos_of_lt (Int.lt_of_lt_of_le (by decide) h2)
  have nt:0≤n % things∧n % things < things:=⟨vV tp,vX tp⟩
  have kt:0≤k % things∧k % things < things:=⟨vV tp,vX tp⟩
  obtain⟨one,rfl,o0,o1⟩:∃r,x=.int r∧0≤r∧r < things:=by
    simp only [List.mem_cons,List.not_mem_nil,or_false] at hx
    rcases hx with rfl | rfl | rfl | rfl | rfl | rfl<;>exact⟨_,rfl,by lia,by lia⟩
  have r0:0≤(n / 12) % (things - 1):=vV tq
  have r1:(n / 12) % (things - 1) < things - 1:=vX tq
  have q0:0≤(one+1+(n / 12) % (things - 1)) % things:=vV tp
  have q1:(one+1+(n / 12) % (things - 1)) % things < things:=vX tp
  have qn:(one+1+(n / 12) % (things - 1)) % things≠one:=fun z=>by
    by_cases c:one+1+(n / 12) % (things - 1) < things
    · rw [Int.emod_eq_of_lt (by lia) c] at z;lia
    · have e:(one+1+(n / 12) % (things - 1)) % things=(one+1+(n / 12) % (things - 1) - things) % things:=by rw [Int.sub_emod_right]
      rw [e,Int.emod_eq_of_lt (by lia) (by lia)] at z;lia
  obtain⟨t,b,c1,c2,c3,c4,c5,c6⟩:=Ae m odds m0
  obtain⟨w,w1,w2,w3⟩:=Cg (m / 10007) ws
  have b12:Bt 8000 12:=m5 (by decide) (by decide)
  have b107:Bt 8000 10007:=m5 (by decide) (by decide)
  have g1:∀(e:En) (i:Int),a9 e (.d (.int i)) (.d (.int things))=some (.d (.int (i % things))):=fun e i=>aS tp
  have g2:∀(e:En) (i:Int),a9 e (.d (.int i)) (.d (.int (things - 1)))=some (.d (.int (i % (things - 1)))):=fun e i=>aS tq
  have hlen:ts.length < 1000000:=by lia
  by_cases c:shape=4
  · subst c
    refine⟨tE d2 things many 4 odds ws (ts++[⟨0,1,t,b,w⟩]) (some (.d (.int k))) (some (.d (.int n))) (some (.d (.int 0))) (some (.d (.int 1))) (some (.d (.int m))) (some (.d (.tuple [.int 0,.int 1]))),?_,.mk hd2 ⟨by show(0:Int)≤0;decide,by show(0:Int) < 1;decide,by show(1:Int) < things;lia,c2,c3,c4,c5,w2,w3,c6⟩⟩
    simp? [tE,i6,tn,tm,aS,g1,g2,gY,b12,b107,ha,c1,w1,jz,aQ,hlen]
    decide
  · refine⟨tE d2 things many shape odds ws (ts++[⟨min one ((one+1+(n / 12) % (things - 1)) % things),max one ((one+1+(n / 12) % (things - 1)) % things),t,b,w⟩]) (some (.d (.int k))) (some (.d (.int n))) (some (.d (.int one))) (some (.d (.int ((one+1+(n / 12) % (things - 1)) % things)))) (some (.d (.int m))) (some (.d (.tuple [.int (min one ((one+1+(n / 12) % (things - 1)) % things)),.int (max one ((one+1+(n / 12) % (things - 1)) % things))]))),?_,.mk hd2 ⟨by show 0≤min _ _;lia,by show min _ _ < max _ _;lia,by show max _ _ < _;lia,c2,c3,c4,c5,w2,w3,c6⟩⟩
    simp? [tE,i6,tn,tm,aS,g1,g2,gY,b12,b107,ha,c1,w1,jz,aQ,hlen,c]
theorem EW(ds:List Int)(things many:Int)(hd:iX ds)(h2:2≤things)(h12:things≤100)(m0:0≤many)(m1:many≤1000):∃(ts:List oC) (ds':List Int),pJ [.l (ds.map .int),.d (.int things),.d (.int many)]=some (.d (.tuple (ts.map aQ)),[.l (ds'.map .int),.d (.int things),.d (.int many)])∧iX ds'∧(ts.length:Int)=many∧∀t∈ts,t.Ok things:=by
  obtain⟨n0,d1,t0, -, -,hd1⟩:=jl hd
  obtain⟨n1,d2,t1, -, -,hd2⟩:=jl hd1
  obtain⟨n2,d3,t2, -, -,hd3⟩:=jl hd2
  obtain⟨e',h1,hI⟩:=cv (own:=[]) (g:=af 7) (f:=i6) (TI things many (n0 % 6) (n1 % 4) (n2 % 4)) (bz 0 many.toNat) 0 (tE d3 things many (n0 % 6) (n1 % 4) (n2 % 4) [] none none none none none none) (fun i x e hx hI=>by
    obtain⟨rfl,hi⟩:=fw hx
    obtain⟨hd',hl,ht⟩:=hI
    rename_i ts ds' w7 w8 w9 w10 w11 w12
    obtain⟨e9,s1,⟨s2,s3⟩⟩:=GS ds' things many (n0 % 6) (n1 % 4) (n2 % 4) ts (0+(i:Int)) w8 w9 w10 w11 w12 hd' h2 h12 (vV (by decide)) (vX (by decide)) (by lia) (by lia)
    exact⟨_,_,rfl,s1,aY,.mk s2 (by simp;lia) fun z hz=>by
      rcases List.mem_append.mp hz with hz | hz
      · exact ht z hz
      · simp at hz;subst hz;exact s3⟩) (.mk hd3 rfl fun t ht=>by cases ht)
  obtain⟨hd',hl,ht⟩:=hI
  rename_i ts ds' w7 w8 w9 w10 w11 w12
  refine⟨ts,ds',?_,hd',by rw [hl,iu];lia,ht⟩
  have hf:∀W,dm W pB (af 7) i6 (tE d3 things many (n0 % 6) (n1 % 4) (n2 % 4) [] none none none none none none)=some (.nx (tE ds' things many (n0 % 6) (n1 % 4) (n2 % 4) ts w7 w8 w9 w10 w11 w12)):=fun W=>by
    rw [bU (show pB _=some (bz 0 many.toNat,[],tE d3 things many (n0 % 6) (n1 % 4) (n2 % 4) [] none none none none none none) from e_ (n:=many) (by simp? [tE]) (by lia) (by lia))]
    exact h1
  unfold tE at hf
  simp only [List.map_nil] at hf
  simp? [pJ,yk,t0,t1,t2,aS,hf]
abbrev wE(ds:List Int)(most tn things many:Int)(ts:List oC)(way:Int)(ps:List Int)(v8 v9:Option Sv):En:=[some (.l (ds.map .int)),some (.d (.int most)),some (.d (.int tn)),some (.d (.int things)),some (.d (.int many)),some (.d (.tuple (ts.map aQ))),some (.d (.int way)),some (.l (ps.map .int)),v8,v9]
inductive WI (most tn things many:Int) (ts:List oC) (way:Int) (i:Nat):En→Prop
  | mk {ps ds w8} (hd:iX ds) (hpl:ps.length=i) (hps:∀p∈ps,0≤p∧p≤20):WI most tn things many ts way i (wE ds most tn things many ts way ps w8 none)
theorem GU(ds:List Int)(most tn:Int)(hd:iX ds)(m0:0≤most)(m1:most≤12)(k0:0≤tn)(k1:tn≤16):∃(W:aM) (ds':List Int),tQ [.l (ds.map .int),.d (.int most),.d (.int tn)]=some (.d (aq W),[.l (ds'.map .int),.d (.int most),.d (.int tn)])∧iX ds'∧W.Ok∧W.things≤most∧(W.ties.length:Int)≤tn:=by
  obtain⟨n0,d1,t0, -, -,hd1⟩:=jl hd
  obtain⟨n1,d2,t1, -, -,hd2⟩:=jl hd1
  have mp:0 < most+1:=Int.lt_add_one_of_le m0
  have kp:0 < tn+1:=Int.lt_add_one_of_le k0
  have g0:∀(e:En),a9 e (.d (.int n0)) (.d (.int (most+1)))=some (.d (.int (n0 % (most+1)))):=fun e=>aS mp
  have g1':∀(e:En),a9 e (.d (.int n1)) (.d (.int (tn+1)))=some (.d (.int (n1 % (tn+1)))):=fun e=>aS kp
  have th0:0≤n0 % (most+1):=vV mp
  have th1:n0 % (most+1) < most+1:=vX mp
  have ti0:0≤n1 % (tn+1):=vV kp
  have ti1:n1 % (tn+1) < tn+1:=vX kp
  clear mp kp
  generalize n0 % (most+1)=things at th0 th1 g0
  generalize n1 % (tn+1)=tm at ti0 ti1 g1'
  obtain⟨many,hmany,mm,m00,m01⟩:∃many:Int,many=tm*(if decide (1 < things)=true then 1 else 0)∧(1 < things∨many=0)∧0≤many∧many≤tn:=by
    by_cases c:1 < things
    · exact⟨tm,by simp [c],.inl c,ti0,by lia⟩
    · exact⟨0,by simp [c],.inr rfl,by lia,by lia⟩
  have gm:∀e:En,gy e (.d (.int tm)) (.d (.int (if decide (1 < things)=true then 1 else 0)))=some (.d (.int many)):=fun e=>by
    rw [ph (se (by split<;>decide) (by split<;>decide)),hmany]
  have gi:∀e:En,g1 w_ e [.d (.bool (decide (1 < things)))]=some (.d (.int (if decide (1 < things)=true then 1 else 0))):=fun e=>rfl
  generalize (if decide (1 < things)=true then 1 else 0:Int)=one at gm gi
  obtain⟨ts,d3,t3,hd3,hlen,hts⟩:=EW d2 (max 2 things) many hd2 (by lia) (by lia) m00 (by lia)
  obtain⟨n4,d4,t4, -, -,hd4⟩:=jl hd3
  obtain⟨e',h1,hI⟩:=cv (own:=[]) (g:=af 8) (f:=oO) (WI most tn things many ts (n4 % 3)) (bz 0 things.toNat) 0 (wE d4 most tn things many ts (n4 % 3) [] none none) (fun i x e hx hI=>by
    obtain⟨rfl,hi⟩:=fw hx
    obtain⟨hd5,hpl,hps⟩:=hI
    rename_i ps d5 w8
    obtain⟨p1,d6,t6, -, -,hd6⟩:=jl hd5
    obtain⟨p2,d7,t7, -, -,hd7⟩:=jl hd6
    obtain⟨z,hz,ha⟩:=mY (xs:=[PyData.int 20,.int (1+p1 % 3),.int (p2 % 21)]) (i:=n4 % 3) (vV (by decide)) (vX (k:=3) (by decide))
    obtain⟨p,rfl,hp⟩:∃r,z=.int r∧0≤r∧r≤20:=by
      simp only [List.mem_cons,List.not_mem_nil,or_false] at hz
      rcases hz with rfl | rfl | rfl<;>exact⟨_,rfl,by lia,by lia⟩
    refine⟨wE d5 most tn things many ts (n4 % 3) ps (some (.d (.int (0+(i:Int))))) none,wE d7 most tn things many ts (n4 % 3) (ps++[p]) (some (.d (.int (0+(i:Int))))) none,rfl,?_,aY,.mk hd7 (by simp;lia) fun q hq=>by
      rcases List.mem_append.mp hq with hq | hq
      · exact hps q hq
      · simp at hq;subst hq;exact hp⟩
    have hlen:ps.length < 1000000:=by lia
    simp? [wE,oO,t6,t7,aS,ha,hlen]) (.mk hd4 rfl fun p hp=>by cases hp)
  obtain⟨hd5,hpl,hps⟩:=hI
  rename_i ps d5 w8
  have hf:∀W,dm W r6 (af 8) oO (wE d4 most tn things many ts (n4 % 3) [] none none)=some (.nx (wE d5 most tn things many ts (n4 % 3) ps w8 none)):=fun W=>by
    rw [bU (show r6 _=some (bz 0 things.toNat,[],wE d4 most tn things many ts (n4 % 3) [] none none) from e_ (n:=things) (by simp? [wE]) (by lia) (by lia))]
    exact h1
  obtain⟨p1,d6,t6, -, -,hd6⟩:=jl hd5
  obtain⟨p2,d7,t7, -, -,hd7⟩:=jl hd6
  obtain⟨p3,d8,t8, -, -,hd8⟩:=jl hd7
  have xp:0 < max 1 many:=Int.lt_of_lt_of_le Int.zero_lt_one (Int.le_max_left _ _)
  have gx:∀(e:En),a9 e (.d (.int p1)) (.d (.int (max 1 many)))=some (.d (.int (p1 % max 1 many))):=fun e=>aS xp
  have x0:0≤p1 % max 1 many:=vV xp
  have x1:p1 % max 1 many < max 1 many:=vX xp
  obtain⟨z,hz,ha⟩:=mY (xs:=[PyData.int 40,.int (1+p1 % max 1 many),.int (p2 % 41)]) (i:=p3 % 3) (vV (by decide)) (vX (k:=3) (by decide))
  obtain⟨asks,rfl,hasks⟩:∃r,z=.int r∧0≤r∧r≤40:=by
    simp only [List.mem_cons,List.not_mem_nil,or_false] at hz
    rcases hz with rfl | rfl | rfl<;>exact⟨_,rfl,by lia,by lia⟩
  rw [iu] at hpl
  refine⟨⟨things,ts,ps,asks⟩,d8,?_,hd8,⟨th0,by show things≤12;lia,fun t ht=>?_,by show ts.length≤16;lia,by show(ps.length:Int)=things;lia,hps,hasks.1,hasks.2⟩,by show things≤most;lia,by show(ts.length:Int)≤tn;lia⟩
  · unfold wE at hf
    simp only [List.map_nil] at hf
    simp? [tQ,CG,t0,t1,g0,g1',gm,gi,t3,t4,aS,hf,t6,t7,t8,gx,ha,aq]
  · rcases mm with c | c
    · have:=hts t ht
      rw [show max 2 things=things by lia] at this
      exact this
    · have:ts=[]:=List.length_eq_zero_iff.mp (by lia)
      subst this;cases ht
theorem nF{W:aM}{asked:List Int}{thing:Int}(h:∀k∈asked,jO W k)(hl:asked.length≤1000):en [.d (aq W),.d (.tuple (asked.map .int)),.d (.int thing)]=some (.d (.int (W.many asked thing)),[.d (aq W),.d (.tuple (asked.map .int)),.d (.int thing)]):=by
  let cs:En:=[some (.d (.int thing)),some (.d (aq W))]
  have hc:∀x∈asked.map PyData.int,fL (cs++[some (.d x)])=some (qZ (fun k=>W.has k thing) x,cs++[some (.d x)]):=fun x hx=>by
    obtain⟨k,hk,rfl⟩:=List.mem_map.mp hx
    simp? [qZ,cs,fL,aq,j5 (h k hk),aQ,aM.has]
  have he:∀x∈asked.map PyData.int,qZ (fun k=>W.has k thing) x=true→fN (cs++[some (.d x)])=some (.d (id x),cs++[some (.d x)]):=fun x hx _=>by
    simp? [cs,fN]
  obtain⟨t',hf⟩:=cO (cs:=cs) (ft:=fL) (fe:=fN) (b:=qZ (fun k=>W.has k thing)) (y:=id) (asked.map PyData.int) none [] hc he (by simp;lia)
  have hv:=dU (cp:=[(2,"_law_thing"),(0,"_law_web_here")]) (nT:=1) (fi:=oq) (g:=af 2) (ft:=fL) (fe:=fN) (e:=[some (.d (aq W)),some (.d (.tuple (asked.map PyData.int))),some (.d (.int thing))]) (cs:=cs) (t:=[none]) (t':=[t']) (iT (fa:=ab 1) rfl) rfl rfl hf
  have hlen:(([]++List.map id (List.filter (qZ (fun k=>W.has k thing)) (asked.map PyData.int))).length:Int)=W.many asked thing:=by
    unfold aM.many
    simp [List.filter_map]
    rfl
  simp only [en,qA,gS,ky,au,fF,ba,bI,a8,cE,jH,pV,qs,ax,av,jW,ab,vC,dr,ah,aa,br,aC,bW,jK,oX,gG,De,eS,qc,jV,lu,bO,bJ,bX,bg,tR,eN,ii,ma,c9,bA,qj,sP,aZ,ao,af,aX,ci,aN,bj,si,ee,bF,de,cS,iL,iJ,iH,iG,fU,fR,fV,ej,fQ,oj,kg,kf,om,kj,iK,kh,ki,fX,fW,ek,fY,oo,jZ,jp,jq,jr,nV,eg,ef,eJ,iI,List.replicate, -List.map_nil, -List.map_cons, -List.nil_append, -List.cons_append, -Option.bind_some, -Option.map_some, -getElem?_pos, -List.append_nil,og,oa,nX,nW,nZ,n_,nY,oh]
  simp? [hv]
  simpa using hlen
theorem za{W:aM}(ok:W.Ok){thing:Int}(h0:0≤thing)(h1:thing < W.things):atI (W.pat.map PyData.int) thing=some (.int (W.pat.getD thing.toNat 0)):=sU h0 (by have:=ok.pl;lia)
theorem Da{W:aM}(ok:W.Ok){asked taken:List Int}{k:Int}(h:∀k∈asked,jO W k)(hl:asked.length≤1000)(hk:jO W k):jR [.d (aq W),.d (gv asked taken),.d (.int k)]=some (.d (.bool (W.may asked taken k)),[.d (aq W),.d (gv asked taken),.d (.int k)]):=by
  have tk:=hk.ok ok
  have t0:=tk.o0
  have t1:=tk.o1
  have t2:=tk.o2
  have p1:=za ok (thing:=(W.tie k).one) (by lia) (by lia)
  have p2:=za ok (thing:=(W.tie k).other) (by lia) (by lia)
  have a1:=nF (W:=W) (asked:=asked) (thing:=(W.tie k).one) h hl
  have a2:=nF (W:=W) (asked:=asked) (thing:=(W.tie k).other) h hl
  rw [dP] at a1 a2 ⊢
  unfold aM.may aM.bears
  by_cases c1:asked.contains k=true
  · simp? [jR,qB,gv,c1]
    simp at c1
    simp [c1]
  · by_cases c2:W.asks≤(asked.length:Int)
    · have c1':k∉asked:=by simpa using c1
      simp? [jR,qB,gv,c1',c2]
    · have c1':k∉asked:=by simpa using c1
      have turn:∀(thing:Int) (v5:Option Sv),en [.d (.tuple [.int W.things,.tuple (W.ties.map aQ),.tuple (W.pat.map .int),.int W.asks]),.d (.tuple (asked.map .int)),.d (.int thing)]=some (.d (.int (W.many asked thing)),[.d (.tuple [.int W.things,.tuple (W.ties.map aQ),.tuple (W.pat.map .int),.int W.asks]),.d (.tuple (asked.map .int)),.d (.int thing)])→atI (W.pat.map PyData.int) thing=some (.int (W.pat.getD thing.toNat 0))→
          js [some (.d (.tuple [.int W.things,.tuple (W.ties.map aQ),.tuple (W.pat.map .int),.int W.asks])),some (.d (gv asked taken)),some (.d (.int k)),some (.d (.tuple (asked.map .int))),some (.d (.tuple (taken.map .int))),some (.d (.int thing))]=(if (!taken.contains thing&&decide (W.many asked thing < W.pat.getD thing.toNat 0))=true then some (.nx [some (.d (.tuple [.int W.things,.tuple (W.ties.map aQ),.tuple (W.pat.map .int),.int W.asks])),some (.d (gv asked taken)),some (.d (.int k)),some (.d (.tuple (asked.map .int))),some (.d (.tuple (taken.map .int))),some (.d (.int thing))]) else some (.rt (.d (.bool false)) [some (.d (.tuple [.int W.things,.tuple (W.ties.map aQ),.tuple (W.pat.map .int),.int W.asks])),some (.d (gv asked taken)),some (.d (.int k)),some (.d (.tuple (asked.map .int))),some (.d (.tuple (taken.map .int))),some (.d (.int thing))])):=by
        intro thing v5 ha hp
        by_cases d1:taken.contains thing=true
        · have d1':thing∈taken:=by simpa using d1
          simp? [js,d1']
        · have d1':thing∉taken:=by simpa using d1
          by_cases d2:W.many asked thing < W.pat.getD thing.toNat 0
          · have d2':¬W.pat.getD thing.toNat 0≤W.many asked thing:=by lia
            simp only [List.getD_eq_getElem?_getD] at d2 d2' hp
            simp? [js,d1',ha,hp,d2,d2']
          · have d2':W.pat.getD thing.toNat 0≤W.many asked thing:=by lia
            simp only [List.getD_eq_getElem?_getD] at d2 d2' hp
            simp? [js,d1',ha,hp,d2,d2']
      have u1:=turn (W.tie k).one none a1 p1
      have u2:=turn (W.tie k).other none a2 p2
      have hf:∀Wl,dm Wl wd (af 5) js [some (.d (.tuple [.int W.things,.tuple (W.ties.map aQ),.tuple (W.pat.map .int),.int W.asks])),some (.d (gv asked taken)),some (.d (.int k)),some (.d (.tuple (asked.map .int))),some (.d (.tuple (taken.map .int))),none]=eZ [] (af 5) js [.int (W.tie k).one,.int (W.tie k).other] [some (.d (.tuple [.int W.things,.tuple (W.ties.map aQ),.tuple (W.pat.map .int),.int W.asks])),some (.d (gv asked taken)),some (.d (.int k)),some (.d (.tuple (asked.map .int))),some (.d (.tuple (taken.map .int))),none]:=fun Wl=>by
        rw [bU]
        exact iT (by simp? [j5 hk,aQ])
      unfold gv at u1 u2 hf ⊢
      by_cases e1:(!taken.contains (W.tie k).one&&decide (W.many asked (W.tie k).one < W.pat.getD (W.tie k).one.toNat 0))=true
      · by_cases e2:(!taken.contains (W.tie k).other&&decide (W.many asked (W.tie k).other < W.pat.getD (W.tie k).other.toNat 0))=true
        · rw [if_pos e1] at u1
          rw [if_pos e2] at u2
          rw [e1,e2]
          simp only [jR,qB,gS,ky,au,fF,ba,bI,a8,cE,jH,pV,qs,ax,av,jW,ab,vC,dr,ah,aa,br,aC,bW,jK,oX,gG,De,eS,qc,jV,lu,bO,bJ,bX,bg,tR,eN,ii,ma,c9,bA,qj,sP,aZ,ao,af,aX,ci,aN,bj,si,ee,bF,de,cS,iL,iJ,iH,iG,fU,fR,fV,ej,fQ,oj,kg,kf,om,kj,iK,kh,ki,fX,fW,ek,fY,oo,jZ,jp,jq,jr,nV,eg,ef,eJ,iI,List.replicate, -List.map_nil, -List.map_cons, -List.nil_append, -List.cons_append, -Option.bind_some, -Option.map_some, -getElem?_pos, -List.append_nil,og,oa,nX,nW,nZ,n_,nY,oh]
          simp? [c1',c2,hf,eZ,u1,u2,aY]
        · rw [if_pos e1] at u1
          rw [if_neg e2] at u2
          rw [e1,Bool.not_eq_true _ |>.mp e2]
          simp only [jR,qB,gS,ky,au,fF,ba,bI,a8,cE,jH,pV,qs,ax,av,jW,ab,vC,dr,ah,aa,br,aC,bW,jK,oX,gG,De,eS,qc,jV,lu,bO,bJ,bX,bg,tR,eN,ii,ma,c9,bA,qj,sP,aZ,ao,af,aX,ci,aN,bj,si,ee,bF,de,cS,iL,iJ,iH,iG,fU,fR,fV,ej,fQ,oj,kg,kf,om,kj,iK,kh,ki,fX,fW,ek,fY,oo,jZ,jp,jq,jr,nV,eg,ef,eJ,iI,List.replicate, -List.map_nil, -List.map_cons, -List.nil_append, -List.cons_append, -Option.bind_some, -Option.map_some, -getElem?_pos, -List.append_nil,og,oa,nX,nW,nZ,n_,nY,oh]
          simp? [c1',c2,hf,eZ,u1,u2,aY]
      · rw [if_neg e1] at u1
        rw [Bool.not_eq_true _ |>.mp e1]
        simp only [jR,qB,gS,ky,au,fF,ba,bI,a8,cE,jH,pV,qs,ax,av,jW,ab,vC,dr,ah,aa,br,aC,bW,jK,oX,gG,De,eS,qc,jV,lu,bO,bJ,bX,bg,tR,eN,ii,ma,c9,bA,qj,sP,aZ,ao,af,aX,ci,aN,bj,si,ee,bF,de,cS,iL,iJ,iH,iG,fU,fR,fV,ej,fQ,oj,kg,kf,om,kj,iK,kh,ki,fX,fW,ek,fY,oo,jZ,jp,jq,jr,nV,eg,ef,eJ,iI,List.replicate, -List.map_nil, -List.map_cons, -List.nil_append, -List.cons_append, -Option.bind_some, -Option.map_some, -getElem?_pos, -List.append_nil,og,oa,nX,nW,nZ,n_,nY,oh]
        simp? [c1',c2,hf,eZ,u1,aY]
theorem qa{W:aM}{asked taken:List Int}{k:Int}(truth:Bool)(hk:jO W k)(h1:asked.length < 60)(h2:taken.length < 60):dR [.d (aq W),.d (gv asked taken),.d (.int k),.d (.bool truth)]=some (.d (gv (aM.askd asked k) (W.took taken k truth)),[.d (aq W),.d (gv asked taken),.d (.int k),.d (.bool truth)]):=by
  have s1:∀e,g1 df e [.d (.tuple (asked.map PyData.int++[.int k]))]=some (.l ((eX (asked++[k])).map .int)):=fun e=>by
    have:=mh (e:=e) (ns:=asked++[k]) (by simp;lia)
    simpa using this
  have s2:∀e,g1 df e [.d (.tuple (taken.map PyData.int++[.int (W.tie k).one,.int (W.tie k).other]))]=some (.l ((eX (taken++[(W.tie k).one,(W.tie k).other])).map .int)):=fun e=>by
    have:=mh (e:=e) (ns:=taken++[(W.tie k).one,(W.tie k).other]) (by simp;lia)
    simpa using this
  have g1':∀e,bv e (.d (.tuple (asked.map .int))) (.d (.tuple [.int k]))=some (.d (.tuple (asked.map .int++[.int k]))):=fun e=>jz (by simp;lia)
  have g2':∀e,bv e (.d (.tuple (taken.map .int))) (.d (.tuple [.int (W.tie k).one,.int (W.tie k).other]))=some (.d (.tuple (taken.map .int++[.int (W.tie k).one,.int (W.tie k).other]))):=fun e=>jz (by simp;lia)
  rw [dP]
  cases truth with
  | true=>simp? [dR,o8,gv,j5 hk,aQ,g1',g2',s1,s2,aM.askd,aM.took]
  | false=>simp? [dR,o8,gv,g1',s1,aM.askd,aM.took]
theorem xS{W:aM}(ok:W.Ok){asked taken:List Int}(h:∀k∈asked,jO W k)(hl:asked.length≤1000):ja [.d (aq W),.d (gv asked taken)]=some (.l ((W.can asked taken).map .int),[.d (aq W),.d (gv asked taken)]):=by
  let cs:En:=[some (.d (aq W)),some (.d (gv asked taken))]
  have wl:=ok.len
  have hc:∀x∈bz 0 W.ties.length,fK (cs++[some (.d x)])=some (qZ (fun k=>W.may asked taken k) x,cs++[some (.d x)]):=fun x hx=>by
    obtain⟨i,hi⟩:=List.getElem?_of_mem hx
    obtain⟨rfl,hi⟩:=fw hi
    have:=Da ok (taken:=taken) h hl (k:=0+(i:Int)) ⟨by lia,by lia⟩
    simp only [Int.zero_add] at this
    simp? [qZ,cs,fK,this]
  have he:∀x∈bz 0 W.ties.length,qZ (fun k=>W.may asked taken k) x=true→fM (cs++[some (.d x)])=some (.d (id x),cs++[some (.d x)]):=fun x hx _=>by
    simp? [cs,fM]
  obtain⟨t',hf⟩:=cO (cs:=cs) (ft:=fK) (fe:=fM) (b:=qZ (fun k=>W.may asked taken k)) (y:=id) (bz 0 W.ties.length) none [] hc he (by rw [iu];simp;lia)
  have hv:=dU (cp:=[(0,"_law_web_here"),(1,"_law_stand")]) (nT:=1) (fi:=km) (g:=af 2) (ft:=fK) (fe:=fM) (e:=[some (.d (aq W)),some (.d (gv asked taken))]) (cs:=cs) (t:=[none]) (t':=[t']) (show km [some (.d (aq W)),some (.d (gv asked taken))]=some (bz 0 W.ties.length,[],[some (.d (aq W)),some (.d (gv asked taken))]) from e_ (n:=(W.ties.length:Int)) (by rw [dP];simp? [List.replicate]) (by lia) (by lia)) rfl rfl hf
  rw [List.nil_append,List.map_id,xN] at hv
  simp only [ja,qz,gS,ky,au,fF,ba,bI,a8,cE,jH,pV,qs,ax,av,jW,ab,vC,dr,ah,aa,br,aC,bW,jK,oX,gG,De,eS,qc,jV,lu,bO,bJ,bX,bg,tR,eN,ii,ma,c9,bA,qj,sP,aZ,ao,af,aX,ci,aN,bj,si,ee,bF,de,cS,iL,iJ,iH,iG,fU,fR,fV,ej,fQ,oj,kg,kf,om,kj,iK,kh,ki,fX,fW,ek,fY,oo,jZ,jp,jq,jr,nV,eg,ef,eJ,iI,List.replicate, -List.map_nil, -List.map_cons, -List.nil_append, -List.cons_append, -Option.bind_some, -Option.map_some, -getElem?_pos, -List.append_nil,og,oa,nX,nW,nZ,n_,nY,oh]
  simp? [hv]
def AG(T:List Nd)(S:Nat→Std)(ws:List Wt):Prop:=(T=[]→∀w∈ws,w.st=([],[]))∧(0 < T.length→S 0=([],[]))
theorem AG.less{T:List Nd}{S:Nat→Std}{w:Wt}{ws:List Wt}(h:AG T S (w::ws)):AG T S ws:=⟨fun e v hv=>h.1 e v (by simp [hv]),h.2⟩
theorem AG.more{T T':List Nd}{S:Nat→Std}{w:Wt}{ws ws':List Wt}(h:AG T S (w::ws))(hT:0 < T'.length):AG T' (L2.upS S T.length w.st) ws':=by
  refine⟨fun e=>by rw [e] at hT;simp at hT,fun _=>?_⟩
  unfold L2.upS
  by_cases c:T.length=0
  · rw [if_pos (by lia)]
    exact h.1 (List.length_eq_zero_iff.mp c) w (by simp)
  · rw [if_neg (by lia)]
    exact h.2 (by lia)
def gE(ds:List Int)(W:aM)(most:Int)(T:List Nd)(ws:List Wt)(v5 v6 v7 v8 v9 v10:Option Sv):En:=[some (.l (ds.map .int)),some (.d (aq W)),some (.d (.int most)),some (.n (T.map xj)),some (.l (ws.map AV)),v5,v6,v7,v8,v9,v10]
inductive GT (W:aM) (most:Int) (T:List Nd) (ws:List Wt):En→Prop
  | mk {ds T' S' ws' u5 u6 u7 u8 u9 u10} (hd:iX ds) (hG:rJ W T' S' ws') (hU:vL T' ws') (hZ:AG T' S' ws') (hc:(T'.length=T.length∧ws'.length=ws.length)∨((T.length:Int) < most∧T'.length=T.length+1∧ws'.length=ws.length+2)):GT W most T ws (gE ds W most T' ws' u5 u6 u7 u8 u9 u10)
noncomputable abbrev gC:FT:=jK (ax (av (bw true) (ab 8) (dr ah))) (jK (ax (av tL (gL 3) (ab 2))) (oX (ax (av (bw true) (av a9 (ab 9) (vC (.int 7))) (vC (.int 6)))) (ax (av tL (ab 6) (vC (.int 0))))))
noncomputable abbrev gP:FS:=fF (ax (av uO (ab 6) (vC (.int 0)))) (rf 3 (gL 3) (ab 6) (xr (nC 1) (xt 7))) bI
noncomputable abbrev gA(b:Bool)(i:Int):FS:=cE (bX bg (ab 4) (aa (br (aa (bW 4 dR (aa (ab 1) (aa (ab 5) (aa (ab 10) (aa (vC (.bool b)) ah))))) (aa (gL 3) (aa (vC (.int i)) ah)))) ah))
theorem EY{W:aM}(ok:W.Ok){ds:List Int}{most:Int}{T:List Nd}{S:Nat→Std}{w:Wt}{ws:List Wt}{v5 v6 v7 v8 v9 v10:Option Sv}(hd:iX ds)(h:rJ W T S (w::ws))(hu:vL T (w::ws))(hzz:AG T S (w::ws))(hT:T.length≤1000)(hw:ws.length≤5000):
    ∃e',i5 (gE ds W most T (w::ws) v5 v6 v7 v8 v9 v10)=some (.nx e')∧GT W most T ws e':=by
  obtain⟨n,d1,t1, -, -,hd1⟩:=jl hd
  obtain⟨hs,hp⟩:=h.wt w (by simp)
  have hl:=hs.len
  have hl2:=hs.tk
  have wl:=ok.len
  have ta:=xS ok (asked:=w.st.1) (taken:=w.st.2) hs.inw (by lia)
  let E:List Nd→List Wt→Option Sv→En:=fun T ws v10=>gE d1 W most T ws (some (.d (gv w.st.1 w.st.2))) (some (.d (.int w.par))) (some (.d (.int w.side))) (some (.l ((W.can w.st.1 w.st.2).map .int))) (some (.d (.int n))) v10
  have pre:∀R,(fF gC (au (a8 10 (av dX (ab 8) (av a9 (av gH (ab 9) (vC (.int 7))) (aC (g1 cV) (aa (ab 8) ah))))) (au gP (au (gA true 0) (au (gA false 1) (cE (uu 3 (dr (aa (ab 10) (aa (jW kl (vC (.int 1))) (aa (jW kl (vC (.int 1))) ah)))))))))) bI (E T ws v10)=R)→i5 (gE ds W most T (w::ws) v5 v6 v7 v8 v9 v10)=R:=fun R hR=>by
    refine(bo (e1:=gE ds W most T ws (some (.d (gv w.st.1 w.st.2))) (some (.d (.int w.par))) (some (.d (.int w.side))) v8 v9 v10) ?_).trans ((bo (e1:=gE ds W most T ws (some (.d (gv w.st.1 w.st.2))) (some (.d (.int w.par))) (some (.d (.int w.side))) (some (.l ((W.can w.st.1 w.st.2).map .int))) v9 v10) ?_).trans ((bo (e1:=E T ws v10) ?_).trans hR))
    · simp? [gE,AV]
    · simp? [gE,ta]
    · simp? [gE,E,t1]
  have q8:∀e:En,e[8]?=some (some (.l ((W.can w.st.1 w.st.2).map .int)))→bw true e (.s 8) (.l [])=some (.d (.bool (!((W.can w.st.1 w.st.2).map PyData.int).isEmpty))):=fun e he=>by
    have:=me (neg:=true) he (iP _).1
    simpa using this
  have gm:∀e:En,a9 e (.d (.int n)) (.d (.int 7))=some (.d (.int (n % 7))):=fun e=>aS (by decide)
  have tst:gC (E T ws v10)=some (!(W.can w.st.1 w.st.2).isEmpty&&(decide ((T.length:Int) < most)&&(!(n % 7==6) || decide (w.par < 0))),E T ws v10):=by
    by_cases c1:W.can w.st.1 w.st.2=[]
    · rw [c1] at q8
      simp? [E,gC,gE,q8,c1]
    · by_cases c2:(T.length:Int) < most
      · by_cases c3:n % 7=6
        · simp? [E,gC,gE,q8,gm,c1,c2,c3,gL,cG]
        · simp? [E,gC,gE,q8,gm,c1,c2,c3,gL,cG]
      · simp? [E,gC,gE,q8,c1,c2,gL,cG]
  cases hb:(!(W.can w.st.1 w.st.2).isEmpty&&(decide ((T.length:Int) < most)&&(!(n % 7==6) || decide (w.par < 0)))) with
  | false=>
    rw [hb] at tst
    exact⟨E T ws v10,pre _ (C9 tst),.mk hd1 h.less hu.less hzz.less (.inl ⟨rfl,rfl⟩)⟩
  | true=>
    rw [hb] at tst
    simp only [Bool.and_eq_true,Bool.or_eq_true,Bool.not_eq_true',decide_eq_true_eq] at hb
    obtain⟨c1,c2,c3⟩:=hb
    have cl:0 < (W.can w.st.1 w.st.2).length:=by
      cases z:W.can w.st.1 w.st.2 with
      | nil=>rw [z] at c1;cases c1
      | cons a r=>simp
    have gd:∀e:En,gH e (.d (.int n)) (.d (.int 7))=some (.d (.int (n / 7))):=fun e=>gY (by decide) (m5 (by decide) (by decide))
    have gx:∀e:En,a9 e (.d (.int (n / 7))) (.d (.int (W.can w.st.1 w.st.2).length))=some (.d (.int (n / 7 % (W.can w.st.1 w.st.2).length))):=fun e=>aS (by lia)
    have x0:0≤n / 7 % ((W.can w.st.1 w.st.2).length:Int):=Int.emod_nonneg _ (by lia)
    have x1:n / 7 % ((W.can w.st.1 w.st.2).length:Int) < (W.can w.st.1 w.st.2).length:=Int.emod_lt_of_pos _ (by lia)
    obtain⟨z,hz,hat⟩:=mY (xs:=(W.can w.st.1 w.st.2).map PyData.int) x0 (by rw [List.length_map];exact x1)
    obtain⟨k,hk,rfl⟩:=List.mem_map.mp hz
    obtain⟨k1,k2⟩:=AN hk
    have b1:=qa (W:=W) (asked:=w.st.1) (taken:=w.st.2) true k1 (by lia) (by lia)
    have b2:=qa (W:=W) (asked:=w.st.1) (taken:=w.st.2) false k1 (by lia) (by lia)
    have more:=h.more ok k1 k2
    refine⟨E ((if 0≤w.par then T.modify w.par.toNat (fun x=>iD x w.side T.length) else T)++[⟨k, -1, -1⟩]) (ws++[⟨L2.nxt W w.st k true,T.length,0⟩,⟨L2.nxt W w.st k false,T.length,1⟩]) (some (.d (.int k))),pre _ ((C_ tst).trans ?_),.mk hd1 more hu.more (hzz.more (by simp)) (.inr ⟨c2,by simp;split<;>simp,by simp⟩)⟩
    refine(bo (e1:=E T ws (some (.d (.int k)))) ?_).trans ?_
    · simp? [E,gE,gd,gx,hat]
    generalize hT':(if 0≤w.par then T.modify w.par.toNat (fun x=>iD x w.side T.length) else T)=T'
    have lT':T'.length=T.length:=by rw [←hT'];split<;>simp
    have hP:gP (E T ws (some (.d (.int k))))=some (.nx (E T' ws (some (.d (.int k))))):=by
      rcases hp with z | ⟨p,x,z1,z2,z3⟩
      · have g0:¬0≤w.par:=by lia
        rw [if_neg g0] at hT'
        subst hT'
        simp? [E,gP,gE,g0]
      · have g0:0≤w.par:=by lia
        have pt:w.par.toNat=p:=by lia
        have pl:p < T.length:=(List.getElem?_eq_some_iff.mp z2).1
        rw [if_pos g0,pt] at hT'
        have hix:mq T.length w.par=some p:=by unfold mq;rw [if_pos g0,if_pos (by lia),pt]
        have i1:mq 3 1=some 1:=rfl
        have i2:mq 3 2=some 2:=rfl
        rcases z3 with ⟨s0,s1⟩ | ⟨s0,s1⟩
        · have sl:=xP (n:=T.length) z2
          rw [s0] at hT'
          rw [hT'] at sl
          simp? [E,gP,gE,g0,gL,cG,rf,xr,nC,xt,hix,i1,i2,z2,s0,xj,←sl]
        · have sl:=xQ (n:=T.length) z2
          rw [s0] at hT'
          rw [hT'] at sl
          simp? [E,gP,gE,g0,gL,cG,rf,xr,nC,xt,hix,i1,i2,z2,s0,xj,←sl]
    have wl1:ws.length < 1000000:=by lia
    have wl2:ws.length+1 < 1000000:=by lia
    have tl:T.length < 1000000:=by lia
    refine(bo hP).trans ((bo (e1:=E T' (ws++[⟨L2.nxt W w.st k true,T.length,0⟩]) (some (.d (.int k)))) ?_).trans ((bo (e1:=E T' (ws++[⟨L2.nxt W w.st k true,T.length,0⟩,⟨L2.nxt W w.st k false,T.length,1⟩]) (some (.d (.int k)))) ?_).trans ?_))
    · simp? [E,gA,gE,b1,wl1,lT',gL,cG,nxt,AV]
    · simp? [E,gA,gE,b2,wl2,lT',gL,cG,nxt,AV]
    · simp? [E,gE,lT',tl,uu,cG,xj]
def Bk(i:Nat)(e:En):Nat:=match cG e i with
  | some x=>x.length
  | none=>0
def EZ:PyData→PyData
  | .list xs=>.tuple xs
  | d=>d
inductive GI (W:aM) (most:Int):En→Prop
  | mk {ds T S ws v5 v6 v7 v8 v9 v10} (hd:iX ds) (hG:rJ W T S ws) (hT:(T.length:Int)≤most) (hws:ws.length≤T.length+1) (hU:vL T ws) (hZ:AG T S ws):GI W most (gE ds W most T ws v5 v6 v7 v8 v9 v10)
theorem Cd{W:aM}(ok:W.Ok){ds:List Int}{most:Int}(hd:iX ds)(m0:0≤most)(m1:most≤400):∃ds' T S,k_ [.l (ds.map .int),.d (aq W),.d (.int most)]=some (.d (.tuple (T.map aG)),[.l (ds'.map .int),.d (aq W),.d (.int most)])∧iX ds'∧dN W T S∧(T.length:Int)≤most∧vL T []∧(0 < T.length→S 0=([],[])):=by
  have q4:∀(ws:List Wt) (e:En),e[4]?=some (some (.l (ws.map AV)))→bw true e (.s 4) (.l [])=some (.d (.bool (!(ws.map AV).isEmpty))):=fun ws e he=>by
    have:=me (neg:=true) he ((Sh.list (n:=8) fun d hd=>by
      obtain⟨k,_,rfl⟩:=List.mem_map.mp hd
      exact Sh.wt).ok (by decide))
    simpa using this
  have tst:∀ds T ws v5 v6 v7 v8 v9 v10,i7 (gE ds W most T ws v5 v6 v7 v8 v9 v10)=some (!(ws.map AV).isEmpty,gE ds W most T ws v5 v6 v7 v8 v9 v10):=fun ds T ws v5 v6 v7 v8 v9 v10=>by
    have:=q4 ws (gE ds W most T ws v5 v6 v7 v8 v9 v10) rfl
    unfold gE at this ⊢
    simp? [i7,this]
  obtain⟨e0,e',hw,hI,hf⟩:=jM (ft:=i7) (f:=i5)
    (GI W most)
    (fun e=>lG 4 e+2*(most.toNat - Bk 3 e)) (fun e hI=>by
      obtain⟨hd1,hG,hT,hws,hU,hZ⟩:=hI
      rename_i d1 T S ws v5 v6 v7 v8 v9 v10
      cases ws with
      | nil=>exact .inl ⟨_,tst _ _ _ _ _ _ _ _ _,trivial⟩
      | cons w ws=>
        obtain⟨e9,hb,⟨hd2,hG2,hU2,hZ2,hc⟩⟩:=EY ok (most:=most) (v5:=v5) (v6:=v6) (v7:=v7) (v8:=v8) (v9:=v9) (v10:=v10) hd1 hG hU hZ (by lia) (by simp at hws;lia)
        simp only [List.length_cons] at hws
        refine .inr ⟨_,_,tst _ _ _ _ _ _ _ _ _,hb,⟨hd2,hG2,?_,?_,hU2,hZ2⟩,?_⟩
        · rcases hc with hc | hc<;>lia
        · rcases hc with hc | hc<;>lia
        · have l1:∀ds T ws v5 v6 v7 v8 v9 v10,lG 4 (gE ds W most T ws v5 v6 v7 v8 v9 v10)=ws.length:=fun ds T ws v5 v6 v7 v8 v9 v10=>by simp [gE,lG]
          have l2:∀ds T ws v5 v6 v7 v8 v9 v10,Bk 3 (gE ds W most T ws v5 v6 v7 v8 v9 v10)=T.length:=fun ds T ws v5 v6 v7 v8 v9 v10=>by simp [gE,Bk,cG]
          simp only [l1,l2,List.length_cons]
          rcases hc with hc | hc<;>lia) (2 ^ 4200) (gE ds W most [] [⟨([],[]), -1,0⟩] none none none none none none)
    (.mk (S:=fun _=>([],[])) hd ⟨fun i x h=>(by simp at h),fun w hw=>(by simp at hw;subst hw;exact⟨o5.first W,.inl rfl⟩),fun w hw=>(by simp at hw;subst hw;exact .inl rfl)⟩ m0 (by simp) vL.first ⟨fun _ w hw=>by simp at hw;subst hw;rfl,fun h=>by simp at h⟩)
    (oS (m:=20) (by simp [gE,lG,Bk,cG];lia) (by decide))
  obtain⟨hd1,hG,hT,hws,hU,hZ⟩:=hI
  rename_i d1 T S ws v5 v6 v7 v8 v9 v10
  rw [tst] at hf
  have hw0:ws=[]:=by
    cases ws with
    | nil=>rfl
    | cons a r=>simp at hf
  subst hw0
  simp at hf
  subst hf
  refine⟨d1,T,S,?_,hd1,hG.tr,hT,hU,hZ.2⟩
  obtain⟨t',hc⟩:=cO (cs:=[]) (ft:=cF) (fe:=k7) (b:=fun _=>true) (y:=EZ) ((T.map xj).map PyData.list) none [] (fun x hx=>rfl) (fun x hx _=>by
    obtain⟨xs,_,rfl⟩:=List.mem_map.mp hx
    simp? [k7,EZ]) (by simp;lia)
  have hv:=dU (cp:=[]) (nT:=1) (fi:=qS) (g:=af 0) (ft:=cF) (fe:=k7) (e:=gE d1 W most T [] v5 v6 v7 v8 v9 v10) (e1:=(gE d1 W most T [] v5 v6 v7 v8 v9 v10).set 3 (some (.d (.list ((T.map xj).map .list))))) (cs:=[]) (t:=[none]) (t':=[t']) rfl rfl rfl hc
  have hl:([]++(((T.map xj).map PyData.list).filter fun _=>true).map EZ)=T.map aG:=by
    rw [List.nil_append,List.filter_eq_self.mpr (fun _ _=>rfl),List.map_map,List.map_map]
    exact List.map_congr_left fun x _=>rfl
  rw [hl] at hv
  have hw':jI (2 ^ 4200) i7 i5 (gE ds W most [] [⟨([],[]), -1,0⟩] none none none none none none)=some (.nx (gE d1 W most T [] v5 v6 v7 v8 v9 v10)):=hw
  unfold gE at hv hw'
  simp only [List.map_cons,List.map_nil,AV,gv] at hw' hv
  simp only [List.set_cons_succ,List.set_cons_zero] at hv
  simp? [k_,vP,zR,hw',hv]
def rE(ds:List Int)(T:List Nd)(ws order:List Int)(v4 v5 v6:Option Sv):En:=[some (.l (ds.map .int)),some (.d (.tuple (T.map aG))),some (.l (ws.map .int)),some (.l (order.map .int)),v4,v5,v6]
theorem Cf{W:aM}(ok:W.Ok){ds:List Int}{T:List Nd}{S:Nat→Std}{ws order:List Int}(hd:iX ds)(h:dN W T S)(hw:∀w∈ws,0≤w∧w < (T.length:Int))(ho:∀w∈order,0≤w∧w < (T.length:Int))(h0:ws≠[])(hb:order.length+eK S ws≤65535):
    ∃ds' ws' w,cZ (rE ds T ws order none none none)=some (.nx (rE ds' T ws' (order++[w]) none none none))∧iX ds'∧(∀w∈ws',0≤w∧w < (T.length:Int))∧(0≤w∧w < (T.length:Int))∧eK S ws'+1≤eK S ws∧∃k,ws[k]?=some w∧ws'=ws.eraseIdx k++r9 (bG T w):=by
  obtain⟨n,d1,t1, -, -,hd1⟩:=jl hd
  have hlen:0 < ws.length:=List.length_pos_iff.mpr h0
  have hl2:=qQ ok h hw
  have gx:∀e:En,a9 e (.d (.int n)) (.d (.int ws.length))=some (.d (.int (n % ws.length))):=fun e=>aS (by lia)
  have x0:0≤n % (ws.length:Int):=Int.emod_nonneg _ (by lia)
  have x1:n % (ws.length:Int) < ws.length:=Int.emod_lt_of_pos _ (by lia)
  generalize n % (ws.length:Int)=j at gx x0 x1
  have hj:j.toNat < ws.length:=by lia
  have hw0:ws[j.toNat]?=some ws[j.toNat]:=List.getElem?_eq_getElem hj
  have hwm:ws[j.toNat]∈ws:=List.getElem_mem _
  have hpop:=qR (S:=S) hj
  generalize ws[j.toNat]=w at hw0 hwm hpop
  obtain⟨w0,w1⟩:=hw w hwm
  have o:=h _ _ (eO w0 w1)
  have hh:=o.hang ok
  have j9:j < 1000000000:=by lia
  have ol:order.length < 1000000:=by lia
  let E:En:=rE d1 T (ws.eraseIdx j.toNat) (order++[w]) none none none
  obtain⟨t',hf⟩:=cO (cs:=[]) (ft:=eE) (fe:=eI) (b:=qZ fun l=>l != -1) (y:=id) [PyData.int (bG T w).yes,.int (bG T w).no] none [] (fun x hx=>by
    simp only [List.mem_cons,List.not_mem_nil,or_false] at hx
    rcases hx with rfl | rfl<;>simp? [eE,qZ,bne]) (fun x hx _=>by
    simp? [eI]) (by simp)
  have hl:([]++([PyData.int (bG T w).yes,.int (bG T w).no].filter (qZ fun l=>l != -1)).map id)=(r9 (bG T w)).map .int:=by
    rw [List.nil_append,List.map_id,show [PyData.int (bG T w).yes,.int (bG T w).no]=[(bG T w).yes,(bG T w).no].map PyData.int from rfl,List.filter_map]
    rfl
  rw [hl] at hf
  have hi:ip E=some ([PyData.int (bG T w).yes,.int (bG T w).no],[],E):=by
    refine iT ?_
    have a1:atI (order.map PyData.int++[PyData.int w]) (-1)=some (.int w):=wQ
    simp? [E,rE,a1,yg w0 w1,aG]
  have hv:=dU (cp:=[]) (nT:=1) (fi:=ip) (g:=af 0) (ft:=eE) (fe:=eI) (e:=E) (cs:=[]) (t:=[none]) (t':=[t']) hi rfl rfl hf
  have ln:(ws.eraseIdx j.toNat).length+(r9 (bG T w)).length≤1000000:=by
    have:(r9 (bG T w)).length≤2:=List.length_filter_le _ _
    rw [List.length_eraseIdx_of_lt hj]
    lia
  refine⟨d1,ws.eraseIdx j.toNat++r9 (bG T w),w,?_,hd1,fun v hv=>?_,⟨w0,w1⟩,?_,j.toNat,hw0,rfl⟩
  · simp only [E,rE,List.map_append,List.map_cons,List.map_nil] at hv
    simp only [rE,cZ,List.map_append,List.map_cons,List.map_nil]
    simp? [t1,gx,x0,j9,hw0,qN,ol,hv,Cn,iW,ln]
  · rcases List.mem_append.mp hv with hv | hv
    · exact hw v (List.mem_of_mem_eraseIdx hv)
    · exact DQ o v hv
  · rw [xf];lia
inductive RI (T:List Nd) (S:Nat→Std) (w0:List Int):En→Prop
  | mk {ds ws order} (hd:iX ds) (hws:∀w∈ws,0≤w∧w < (T.length:Int)) (ho:∀w∈order,0≤w∧w < (T.length:Int)) (hb:order.length+eK S ws≤65535) (how:rL T ws order) (hru:AF T w0 ws order):RI T S w0 (rE ds T ws order none none none)
inductive RJ (ds:List Int) (T:List Nd) (order:List Int) (i:Nat):En→Prop
  | mk {nums v5 v6} (hn:jY order T.length nums) (hg:lw order nums i):RJ ds T order i (rE ds T [] order (some (.l (nums.map .int))) v5 v6)
theorem sO{W:aM}(ok:W.Ok){ds:List Int}{T:List Nd}{S:Nat→Std}(hd:iX ds)(h:dN W T S)(hT:T.length≤400)(hU:vL T [])(hz:0 < T.length→S 0=([],[])):∃ds' T' S',dD [.l (ds.map .int),.d (.tuple (T.map aG))]=some (.d (.tuple (T'.map aG)),[.l (ds'.map .int),.d (.tuple (T.map aG))])∧iX ds'∧dN W T' S'∧T'.length≤65535∧iY T'∧iZ T'∧T'.length≤T.length∧(0 < T'.length→S' 0=([],[])):=by
  have q2:∀(ws:List Int) (e:En),e[2]?=some (some (.l (ws.map .int)))→bw true e (.s 2) (.l [])=some (.d (.bool (!(ws.map PyData.int).isEmpty))):=fun ws e he=>by
    have:=me (neg:=true) he (iP _).1
    simpa using this
  have tst:∀ds ws order,c_ (rE ds T ws order none none none)=some (!(ws.map PyData.int).isEmpty,rE ds T ws order none none none):=fun ds ws order=>by
    have:=q2 ws (rE ds T ws order none none none) rfl
    unfold rE at this ⊢
    simp? [c_,this]
  let w0:List Int:=if T.length=0 then [] else [0]
  have hw00:w0=[]∨w0=[0]:=by
    simp only [w0]
    split
    · exact .inl rfl
    · exact .inr rfl
  have hw0:∀w∈w0,0≤w∧w < (T.length:Int):=fun w hw=>by
    simp only [w0] at hw
    split at hw
    · cases hw
    · simp at hw;lia
  have hb0:eK S w0≤65535:=by
    simp only [w0]
    split
    · simp [eK]
    · have:2 ^ (16 - (S (0:Int).toNat).1.length)≤2 ^ 16:=Nat.pow_le_pow_right (by decide) (by lia)
      simp [eK,hang] at this ⊢
      lia
  obtain⟨e0,e',hw,hI,hf⟩:=jM (ft:=c_) (f:=cZ)
    (RI T S w0)
    (fun e=>65535 - lG 3 e) (fun e hI=>by
      obtain⟨hd1,hws,ho,hbd,how,hru⟩:=hI
      rename_i d1 ws order
      by_cases c:ws=[]
      · subst c
        exact .inl ⟨_,tst _ _ _,trivial⟩
      · obtain⟨d2,ws',w,hb,hd2,hws',hw',hh,kk,hk1,hk2⟩:=Cf ok hd1 h hws ho c hbd
        have hx1:∀v∈ws,v=w∨v∈ws':=fun v hv=>(xo hk1 hv).imp id fun q=>by rw [hk2];exact List.mem_append_left _ q
        have hx2:∀l∈r9 (bG T w),l∈ws':=fun l hl=>by rw [hk2];exact List.mem_append_right _ hl
        have hru2:AF T w0 ws' (order++[w]):=by
          rw [hk2]
          exact hru.turn hw00 hU.unq hU.rng (fun v hv=>(List.mem_append.mp hv).elim (ho v) (hws v)) hk1
        have hl2:=qQ ok h hws
        refine .inr ⟨_,_,(by rw [tst];simp [c]),hb,.mk hd2 hws' (fun v hv=>?_) (by simp;lia) (how.turn hx1 hx2) hru2,?_⟩
        · rcases List.mem_append.mp hv with hv | hv
          · exact ho v hv
          · simp at hv;rw [hv];exact hw'
        · have l1:∀ds ws order,lG 3 (rE ds T ws order none none none)=order.length:=fun ds ws order=>by simp [rE,lG]
          simp only [l1,List.length_append,List.length_cons,List.length_nil]
          lia) (2 ^ 4200) (rE ds T w0 [] none none none)
    (.mk hd hw0 (fun w hw=>(by cases hw)) (by simpa using hb0) rL.first (AF.first hw00))
    (oS (m:=20) (by simp [rE,lG]) (by decide))
  obtain⟨hd1,hws,ho,hbd,how,hru⟩:=hI
  rename_i d1 ws order
  rw [tst] at hf
  have hw1:ws=[]:=by
    cases ws with
    | nil=>rfl
    | cons a r=>simp at hf
  subst hw1
  simp at hf
  subst hf
  obtain⟨e2,h1,hJ⟩:=cv (own:=[(3,order.map PyData.int)]) (g:=aZ (ao (af 5) (ao (af 6) aX))) (f:=eD) (RJ d1 T order) (cq 0 (order.map .int)) 0 (rE d1 T [] order (some (.l ((List.replicate (T.length+1) (-1:Int)).map .int))) none none) (fun i x e hx hJ=>by
    obtain⟨hn,hng⟩:=hJ
    rename_i nums v5 v6
    rw [i8,List.getElem?_map,Option.map_map] at hx
    obtain⟨w,hw2,rfl⟩:=Option.map_eq_some_iff.mp hx
    obtain⟨a0,a1⟩:=ho w (List.mem_of_getElem? hw2)
    have hix:mq nums.length w=some w.toNat:=by unfold mq;rw [if_pos a0,if_pos (by rw [hn.len];lia)]
    refine⟨rE d1 T [] order (some (.l (nums.map .int))) (some (.d (.int (i:Int)))) (some (.d (.int w))),rE d1 T [] order (some (.l ((nums.set w.toNat (i:Int)).map .int))) (some (.d (.int (i:Int)))) (some (.d (.int w))),?_,?_,?_,.mk (hn.set hw2 a0 a1) (by
      rw [Nat.zero_add] at hng ⊢
      exact hng.set hw2 (by rw [hn.len];lia))⟩
    · simp? [rE]
    · simp? [rE,eD,ua,iW,hix,List.map_set]
    · intro p hp
      simp at hp
      subst hp
      rfl) (.mk jY.first lw.first)
  obtain⟨hn,hng⟩:=hJ
  rename_i nums v5 v6
  obtain⟨t',hc⟩:=cO (cs:=[some (.l (nums.map PyData.int)),some (.d (.tuple (T.map aG)))]) (ft:=cF) (fe:=eH) (b:=fun _=>true) (y:=Ht fun w=>aG (renum T nums w)) (order.map PyData.int) none [] (fun x hx=>rfl) (fun x hx _=>by
    obtain⟨w,hw2,rfl⟩:=List.mem_map.mp hx
    obtain⟨a0,a1⟩:=ho w hw2
    have o:=h _ _ (eO a0 a1)
    have y:=o.yes.rng
    have n:=o.no.rng
    have ny:atI (nums.map PyData.int) (bG T w).yes=some (.int (nm nums (bG T w).yes)):=C1 (by rw [hn.len];lia) (by rw [hn.len];lia)
    have nn:atI (nums.map PyData.int) (bG T w).no=some (.int (nm nums (bG T w).no)):=C1 (by rw [hn.len];lia) (by rw [hn.len];lia)
    have nd:=yg a0 a1
    simp? [eH,nd,ny,nn,Ht,aG,renum]) (by simp;lia)
  have hv:=rG (cp:=[(4,"_law_numbers"),(1,"_law_tree")]) (nT:=1) (fi:=ku) (g:=af 2) (ft:=cF) (fe:=eH) (e:=rE d1 T [] order (some (.l (nums.map .int))) v5 v6) (cs:=[some (.l (nums.map PyData.int)),some (.d (.tuple (T.map aG)))]) (t:=[none]) (t':=[t']) (own:=[(3,order.map PyData.int)]) rfl rfl rfl rfl hc
  have hl:([]++((order.map PyData.int).filter fun _=>true).map (Ht fun w=>aG (renum T nums w)))=(order.map (renum T nums)).map aG:=by
    rw [List.nil_append,List.filter_eq_self.mpr (fun _ _=>rfl),List.map_map,List.map_map]
    exact List.map_congr_left fun x _=>rfl
  rw [hl] at hv
  have hng':lw order nums order.length:=by rw [Nat.zero_add,eh,List.length_map] at hng;exact hng
  refine⟨d1,order.map (renum T nums),_,?_,hd1,h.renum ho hn,by rw [List.length_map];lia,xH h ho hn hng' how,vw h hU.unq ho hn hng' how hru,by rw [List.length_map];exact pO T.length order (by have:=hru.nd;rwa [List.append_nil] at this) ho,fun hp=>?_⟩
  rotate_left
  · rw [List.length_map] at hp
    rcases hru.fst with ⟨z,_⟩ | z
    · rw [z] at hp;simp at hp
    · have o0:=ho 0 (List.mem_of_getElem? z)
      show S (order.getD 0 0).toNat=([],[])
      rw [List.getD_eq_getElem?_getD,z]
      exact hz (by lia)
  have hw':jI (2 ^ 4200) c_ cZ (rE ds T w0 [] none none none)=some (.nx (rE d1 T [] order none none none)):=hw
  have hfor:∀Wl:List Nat,3∉Wl→dm Wl kv (aZ (ao (af 5) (ao (af 6) aX))) eD (rE d1 T [] order (some (.l ((List.replicate (T.length+1) (-1:Int)).map .int))) none none)=some (.nx (rE d1 T [] order (some (.l (nums.map .int))) v5 v6)):=fun Wl hWl=>by
    rw [zQ (own:=[(3,order.map PyData.int)]) (items:=cq 0 (order.map .int)) (e1:=rE d1 T [] order (some (.l ((List.replicate (T.length+1) (-1:Int)).map .int))) none none) rfl (by simp [hWl])]
    exact h1
  have hw0':cutD [.int 0] none (some (T.length:Int))=w0.map .int:=by
    rw [Fy]
    simp only [w0]
    split<;>rfl
  have gr:∀e:En,gy e (.l [.int (-1)]) (.d (.int ((T.length:Int)+1)))=some (.l (List.replicate (T.length+1) (.int (-1)))):=fun e=>by
    rw [wb (by lia) (by lia)]
    congr 3
  have hfor':=hfor [5,6] (by decide)
  unfold rE at hv hw' hfor'
  simp only [List.map_replicate,List.map_nil,List.map_cons,List.replicate_succ] at hfor' hw' hv
  simp? [dD,lX,FD,hw0',hw',gr,hfor',hv]
theorem EV(a b:Bool):pI [.d (.bool a),.d (.bool b)]=some (.d (.bool (a==b)),[.d (.bool a),.d (.bool b)]):=by
  have gi:∀(e:En) (x y:Bool),FC e (.d (.bool x)) (.d (.bool y))=some (.d (.bool (x==y))):=fun e x y=>rfl
  cases a<;>cases b<;>simp? [pI,yj,gi]
theorem Ai(i:Int):dh [.d (.int i)]=some (.d (.bool true),[.d (.int i)]):=by
  simp? [dh,nL,iB,Bb,zZ,E5]
theorem Aj(i lo hi:Int):bu [.d (.int i),.d (.int lo),.d (.int hi)]=some (.d (.bool (decide (lo≤i)&&decide (i≤hi))),[.d (.int i),.d (.int lo),.d (.int hi)]):=by
  by_cases c:lo≤i
  · simp? [bu,d_,Ai,iz,c]
  · simp? [bu,d_,Ai,iz,c]
theorem Al(ds:List PyData)(n:Int):gf [.d (.tuple ds),.d (.int n)]=some (.d (.bool ((ds.length:Int)==n)),[.d (.tuple ds),.d (.int n)]):=by
  simp? [gf,nM,iB,Bb,zZ,E5]
theorem kR{W:aM}{k:Int}(hk:jO W k):cc [.d (aq W),.d (.int k)]=some (.d (.tuple [.int (W.tie k).one,.int (W.tie k).other]),[.d (aq W),.d (.int k)]):=by
  rw [dP]
  simp? [cc,nQ,j5 hk,aQ]
theorem um{W:aM}{asked:List Int}{thing:Int}(h:∀k∈asked,jO W k)(hl:asked.length≤1000):gh [.d (aq W),.d (.tuple (asked.map .int)),.d (.int thing)]=some (.d (.int (W.many asked thing)),[.d (aq W),.d (.tuple (asked.map .int)),.d (.int thing)]):=by
  let cs:En:=[some (.d (.int thing)),some (.d (aq W))]
  have hc:∀x∈asked.map PyData.int,dO (cs++[some (.d x)])=some (qZ (fun k=>W.has k thing) x,cs++[some (.d x)]):=fun x hx=>by
    obtain⟨k,hk,rfl⟩:=List.mem_map.mp hx
    have t:=kR (h k hk)
    simp? [qZ,cs,dO,t,aM.has]
  have he:∀x∈asked.map PyData.int,qZ (fun k=>W.has k thing) x=true→dQ (cs++[some (.d x)])=some (.d (id x),cs++[some (.d x)]):=fun x hx _=>by
    simp? [cs,dQ]
  obtain⟨t',hf⟩:=cO (cs:=cs) (ft:=dO) (fe:=dQ) (b:=qZ (fun k=>W.has k thing)) (y:=id) (asked.map PyData.int) none [] hc he (by simp;lia)
  have hv:=dU (cp:=[(2,"thing"),(0,"web")]) (nT:=1) (fi:=lB) (g:=af 2) (ft:=dO) (fe:=dQ) (e:=[some (.d (aq W)),some (.d (.tuple (asked.map PyData.int))),some (.d (.int thing))]) (cs:=cs) (t:=[none]) (t':=[t']) (iT (fa:=ab 1) rfl) rfl rfl hf
  have hlen:(([]++List.map id (List.filter (qZ (fun k=>W.has k thing)) (asked.map PyData.int))).length:Int)=W.many asked thing:=by
    unfold aM.many
    simp [List.filter_map]
    rfl
  simp only [gh,nO,gS,ky,au,fF,ba,bI,a8,cE,jH,pV,qs,ax,av,jW,ab,vC,dr,ah,aa,br,aC,bW,jK,oX,gG,De,eS,qc,jV,lu,bO,bJ,bX,bg,tR,eN,ii,ma,c9,bA,qj,sP,aZ,ao,af,aX,ci,aN,bj,si,ee,bF,de,cS,iL,iJ,iH,iG,fU,fR,fV,ej,fQ,oj,kg,kf,om,kj,iK,kh,ki,fX,fW,ek,fY,oo,jZ,jp,jq,jr,nV,eg,ef,eJ,iI,List.replicate, -List.map_nil, -List.map_cons, -List.nil_append, -List.cons_append, -Option.bind_some, -Option.map_some, -getElem?_pos, -List.append_nil,og,oa,nX,nW,nZ,n_,nY,oh]
  simp? [hv]
  simpa using hlen
theorem BD{W:aM}(ok:W.Ok){thing:Int}(h0:0≤thing)(h1:thing < W.things):atI (W.pat.map PyData.int) thing=some (.int (W.pat.getD thing.toNat 0)):=sU h0 (by have:=ok.pl;lia)
theorem wF{W:aM}(ok:W.Ok){asked taken:List Int}{thing:Int}(h:∀k∈asked,jO W k)(hl:asked.length≤1000)(h0:0≤thing)(h1:thing < W.things):bL [.d (aq W),.d (gv asked taken),.d (.int thing)]=some (.d (.bool (W.bears asked taken thing)),[.d (aq W),.d (gv asked taken),.d (.int thing)]):=by
  have a:=um (thing:=thing) h hl
  have p:=BD ok h0 h1
  have g2:∀e,dX e (.d (aq W)) (.d (.int 2))=some (.d (.tuple (W.pat.map .int))):=fun e=>by rw [dP,kg,jq];rfl
  unfold aM.bears
  generalize W.pat.getD thing.toNat 0=q at p ⊢
  by_cases c:taken.contains thing=true
  · simp only [c]
    simp at c
    simp? [bL,eY,gv,c]
  · have c':taken.contains thing=false:=by simpa using c
    simp only [c']
    simp at c
    unfold gv at a ⊢
    simp? [bL,eY,c,a,g2,p]
theorem xU{W:aM}(ok:W.Ok){asked taken:List Int}{k:Int}(h:∀k∈asked,jO W k)(hl:asked.length≤1000)(hk:jO W k):ff [.d (aq W),.d (gv asked taken),.d (.int k)]=some (.d (.bool (W.may asked taken k)),[.d (aq W),.d (gv asked taken),.d (.int k)]):=by
  have o:=hk.ok ok
  have o0:=o.o0;have o1:=o.o1;have o2:=o.o2
  have b1:=wF ok (taken:=taken) (thing:=(W.tie k).one) h hl (by lia) (by lia)
  have b2:=wF ok (taken:=taken) (thing:=(W.tie k).other) h hl (by lia) (by lia)
  have th:=kR hk
  have g3:∀e,dX e (.d (aq W)) (.d (.int 3))=some (.d (.int W.asks)):=fun e=>by rw [dP,kg,jr];rfl
  unfold aM.may
  by_cases c1:asked.contains k=true
  · simp only [c1]
    simp at c1
    simp? [ff,kX,gv,c1]
  · have c1':asked.contains k=false:=by simpa using c1
    simp at c1
    by_cases c2:W.asks≤(asked.length:Int)
    · simp only [c1',c2]
      simp? [ff,kX,gv,c1,c2,g3]
    · simp only [c1',c2]
      have hc:cT [(0,"web"),(1,"stand")] 1 ox (af 2) cF ke [some (.d (aq W)),some (.d (gv asked taken)),some (.d (.int k)),some (.d (.tuple (asked.map .int)))]=some (.l [.bool (W.bears asked taken (W.tie k).one),.bool (W.bears asked taken (W.tie k).other)],[some (.d (aq W)),some (.d (gv asked taken)),some (.d (.int k)),some (.d (.tuple (asked.map .int)))]):=by
        refine vF (items:=[.int (W.tie k).one,.int (W.tie k).other]) (eo:=[some (.d (aq W)),some (.d (gv asked taken)),some (.d (.int (W.tie k).other))]) (iT (by simp? [th])) ?_ rfl
        have hi:mX [(0,"web"),(1,"stand")] 1 [some (.d (aq W)),some (.d (gv asked taken)),some (.d (.int k)),some (.d (.tuple (asked.map .int)))]=[some (.d (aq W)),some (.d (gv asked taken)),none]:=rfl
        rw [hi]
        simp? [cK,cF,ke,b1,b2]
      have ga:∀e,g1 (jP lx) e [.l [.bool (W.bears asked taken (W.tie k).one),.bool (W.bears asked taken (W.tie k).other)]]=some (.d (.bool (W.bears asked taken (W.tie k).one&&W.bears asked taken (W.tie k).other))):=fun e=>by
        simp [g1,jP,eQ,lx,m4]
      unfold gv at hc ⊢
      simp? [ff,kX,c1,c2,g3,hc,ga]
theorem qb{W:aM}{asked taken:List Int}{k:Int}(truth:Bool)(hk:jO W k)(h1:asked.length < 60)(h2:taken.length < 60):cx [.d (aq W),.d (gv asked taken),.d (.int k),.d (.bool truth)]=some (.d (gv (aM.askd asked k) (W.took taken k truth)),[.d (aq W),.d (gv asked taken),.d (.int k),.d (.bool truth)]):=by
  have s1:∀e,g1 df e [.d (.tuple (asked.map PyData.int++[.int k]))]=some (.l ((eX (asked++[k])).map .int)):=fun e=>by
    have:=mh (e:=e) (ns:=asked++[k]) (by simp;lia)
    simpa using this
  have s2:∀e,g1 df e [.d (.tuple (taken.map PyData.int++[.int (W.tie k).one,.int (W.tie k).other]))]=some (.l ((eX (taken++[(W.tie k).one,(W.tie k).other])).map .int)):=fun e=>by
    have:=mh (e:=e) (ns:=taken++[(W.tie k).one,(W.tie k).other]) (by simp;lia)
    simpa using this
  have g1':∀e,bv e (.d (.tuple (asked.map .int))) (.d (.tuple [.int k]))=some (.d (.tuple (asked.map .int++[.int k]))):=fun e=>jz (by simp;lia)
  have g2':∀e,bv e (.d (.tuple (taken.map .int))) (.d (.tuple [.int (W.tie k).one,.int (W.tie k).other]))=some (.d (.tuple (taken.map .int++[.int (W.tie k).one,.int (W.tie k).other]))):=fun e=>jz (by simp;lia)
  have th:=kR hk
  cases truth with
  | true=>simp? [cx,ie,gv,th,g1',g2',s1,s2,aM.askd,aM.took]
  | false=>simp? [cx,ie,gv,g1',s1,aM.askd,aM.took]
abbrev Ff(s:Std):Prop:=s.1.length≤15∧s.2.length≤30
def lE(W:aM)(T:List Nd)(ss:List Std)(v3 v4 v5 v6:Option Sv):En:=[some (.d (aq W)),some (.d (.tuple (T.map aG))),some (.l (ss.map dS)),v3,v4,v5,v6]
theorem Ag{W:aM}{T:List Nd}{ss:List Std}{i:Nat}{x:Nd}{b:Bool}{l:Int}(hi:i < ss.length)(hk:jO W x.tie)(h1:(ss.getD i ([],[])).1.length≤15∧(ss.getD i ([],[])).2.length≤30)(hl: -1≤l∧l < (ss.length:Int)):
    jt (lE W T ss (some (.d (.int i))) (some (.d (aG x))) (some (.d (.bool b))) (some (.d (.int l))))=some (.nx (lE W T (stp W ss i x.tie b l) (some (.d (.int i))) (some (.d (aG x))) (some (.d (.bool b))) (some (.d (.int l))))):=by
  have tb:=qa (W:=W) (asked:=(ss.getD i ([],[])).1) (taken:=(ss.getD i ([],[])).2) b hk (by lia) (by lia)
  have ha:=yi hi
  by_cases c:l= -1
  · subst c
    simp? [lE,jt,stp]
  · have hix:mq ss.length l=some l.toNat:=by unfold mq;rw [if_pos (by lia),if_pos hl.2]
    generalize hg:ss.getD i ([],[])=s at tb ha
    simp only [stp,if_neg c,hg]
    simp? [lE,jt,aG,c,ha,tb,ua,iW,hix,nxt,dS,List.map_set]
theorem uk{W:aM}{T:List Nd}(hi':∀(i:Nat) (x:Nd),T[i]?=some x→jO W x.tie∧(-1≤x.yes∧x.yes < (T.length:Int))∧(-1≤x.no∧x.no < (T.length:Int)))(hb:∀(i:Nat) (x:Nd),T[i]?=some x→(aE W T i).length=T.length∧Ff ((aE W T i).getD i ([],[]))∧Ff ((stp W (aE W T i) i x.tie true x.yes).getD i ([],[])))(hT:T.length≤65535):ir [.d (aq W),.d (.tuple (T.map aG))]=some (.d (.tuple ((aE W T T.length).map dS)),[.d (aq W),.d (.tuple (T.map aG))]):=by
  obtain⟨e2,h1,⟨v3,v4,v5,v6,he⟩⟩:=cv (own:=[]) (g:=aZ (ao (af 3) (ao (af 4) aX))) (f:=jv) (fun i e=>∃v3 v4 v5 v6,e=lE W T (aE W T i) v3 v4 v5 v6) (cq 0 (T.map aG)) 0 (lE W T (aE W T 0) none none none none) (fun i x e hx ⟨v3,v4,v5,v6,he⟩=>by
    subst he
    obtain⟨y,hy,rfl⟩:=ij hx
    have hi:i < T.length:=(List.getElem?_eq_some_iff.mp hy).1
    obtain⟨o,oy,on⟩:=hi' i y hy
    obtain⟨sl,s0,s1⟩:=hb i y hy
    have sl1:(stp W (aE W T i) i y.tie true y.yes).length=T.length:=by rw [li,sl]
    rw [Nat.zero_add,kQ hy]
    generalize aE W T i=ss at sl sl1 s0 s1
    have u1:=Ag (W:=W) (T:=T) (x:=y) (b:=true) (l:=y.yes) (by rw [sl];exact hi) o s0 (by rw [sl];exact oy)
    have u2:=Ag (W:=W) (T:=T) (x:=y) (b:=false) (l:=y.no) (by rw [sl1];exact hi) o s1 (by rw [sl1];exact on)
    refine⟨lE W T ss (some (.d (.int i))) (some (.d (aG y))) v5 v6,lE W T (std1 W ss i y) (some (.d (.int i))) (some (.d (aG y))) (some (.d (.bool false))) (some (.d (.int y.no))),?_,?_,aY,_,_,_,_,rfl⟩
    · simp? [lE]
    · unfold jv
      rw [bU (items:=[.tuple [.bool true,.int y.yes],.tuple [.bool false,.int y.no]]) (e1:=lE W T ss (some (.d (.int i))) (some (.d (aG y))) v5 v6) (show pz (lE W T ss (some (.d (.int i))) (some (.d (aG y))) v5 v6)=_ from uR (by simp? [lE,aG]))]
      unfold std1
      unfold lE at u1 u2 ⊢
      simp? [eZ,u1,u2,aY]) ⟨none,none,none,none,rfl⟩
  subst he
  rw [Nat.zero_add,eh,List.length_map] at h1
  have hfor:∀Wl,dm Wl pA (aZ (ao (af 3) (ao (af 4) aX))) jv (lE W T (aE W T 0) none none none none)=some (.nx (lE W T (aE W T T.length) v3 v4 v5 v6)):=fun Wl=>by
    rw [bU (items:=cq 0 (T.map aG)) (e1:=lE W T (aE W T 0) none none none none) rfl]
    exact h1
  have gr:∀e:En,gy e (.l [.tuple [.tuple [],.tuple []]]) (.d (.int (T.length:Int)))=some (.l ((aE W T 0).map dS)):=fun e=>by
    rw [wb (by lia) (by lia)]
    simp [aE,dS,gv]
  unfold lE at hfor
  simp? [ir,sX,gr,hfor]
def oE(W:aM)(T:List Nd)(ss:List Std)(v3 v4 v5 v6 v7 v8:Option Sv):En:=[some (.d (aq W)),some (.d (.tuple (T.map aG))),some (.l (ss.map dS)),v3,v4,v5,v6,v7,v8]
theorem Ak{W:aM}{T:List Nd}{ss:List Std}{i:Nat}{k:Int}{b:Bool}{l:Int}{v5 v6:Option Sv}(hi:i < ss.length)(hk:jO W k)(h1:(ss.getD i ([],[])).1.length≤15∧(ss.getD i ([],[])).2.length≤30)(hl: -1≤l∧l < (ss.length:Int)):
    fy (oE W T ss (some (.d (.int i))) (some (.d (.int k))) v5 v6 (some (.d (.int l))) (some (.d (.bool b))))=some (.nx (oE W T (stp W ss i k b l) (some (.d (.int i))) (some (.d (.int k))) v5 v6 (some (.d (.int l))) (some (.d (.bool b))))):=by
  have tb:=qb (W:=W) (asked:=(ss.getD i ([],[])).1) (taken:=(ss.getD i ([],[])).2) b hk (by lia) (by lia)
  have ha:=yi hi
  by_cases c:l= -1
  · subst c
    simp? [oE,fy,stp]
  · have hix:mq ss.length l=some l.toNat:=by unfold mq;rw [if_pos (by lia),if_pos hl.2]
    generalize hg:ss.getD i ([],[])=s at tb ha
    simp only [stp,if_neg c,hg]
    simp? [oE,fy,c,ha,tb,ua,iW,hix,nxt,dS,List.map_set]
theorem uo{W:aM}{T:List Nd}(hi':∀(i:Nat) (x:Nd),T[i]?=some x→jO W x.tie∧(-1≤x.yes∧x.yes < (T.length:Int))∧(-1≤x.no∧x.no < (T.length:Int)))(hb:∀(i:Nat) (x:Nd),T[i]?=some x→(aE W T i).length=T.length∧Ff ((aE W T i).getD i ([],[]))∧Ff ((stp W (aE W T i) i x.tie true x.yes).getD i ([],[])))(hT:T.length≤65535):gj [.d (aq W),.d (.tuple (T.map aG))]=some (.d (.tuple ((aE W T T.length).map dS)),[.d (aq W),.d (.tuple (T.map aG))]):=by
  obtain⟨e2,h1,⟨v3,v4,v5,v6,v7,v8,he⟩⟩:=cv (own:=[]) (g:=aZ (ao (af 3) (ao (aZ (ao (af 4) (ao (af 5) (ao (af 6) aX)))) aX))) (f:=fB) (fun i e=>∃v3 v4 v5 v6 v7 v8,e=oE W T (aE W T i) v3 v4 v5 v6 v7 v8) (cq 0 (T.map aG)) 0 (oE W T (aE W T 0) none none none none none none) (fun i x e hx ⟨v3,v4,v5,v6,v7,v8,he⟩=>by
    subst he
    obtain⟨y,hy,rfl⟩:=ij hx
    have hi:i < T.length:=(List.getElem?_eq_some_iff.mp hy).1
    obtain⟨o,oy,on⟩:=hi' i y hy
    obtain⟨sl,s0,s1⟩:=hb i y hy
    have sl1:(stp W (aE W T i) i y.tie true y.yes).length=T.length:=by rw [li,sl]
    rw [Nat.zero_add,kQ hy]
    generalize aE W T i=ss at sl sl1 s0 s1
    have u1:=Ak (W:=W) (T:=T) (k:=y.tie) (b:=true) (l:=y.yes) (v5:=some (.d (.int y.yes))) (v6:=some (.d (.int y.no))) (by rw [sl];exact hi) o s0 (by rw [sl];exact oy)
    have u2:=Ak (W:=W) (T:=T) (k:=y.tie) (b:=false) (l:=y.no) (v5:=some (.d (.int y.yes))) (v6:=some (.d (.int y.no))) (by rw [sl1];exact hi) o s1 (by rw [sl1];exact on)
    refine⟨oE W T ss (some (.d (.int i))) (some (.d (.int y.tie))) (some (.d (.int y.yes))) (some (.d (.int y.no))) v7 v8,oE W T (std1 W ss i y) (some (.d (.int i))) (some (.d (.int y.tie))) (some (.d (.int y.yes))) (some (.d (.int y.no))) (some (.d (.int y.no))) (some (.d (.bool false))),?_,?_,aY,_,_,_,_,_,_,rfl⟩
    · simp? [oE,aG]
    · unfold fB
      rw [bU (items:=[.tuple [.int y.yes,.bool true],.tuple [.int y.no,.bool false]]) (e1:=oE W T ss (some (.d (.int i))) (some (.d (.int y.tie))) (some (.d (.int y.yes))) (some (.d (.int y.no))) v7 v8) (show lC (oE W T ss (some (.d (.int i))) (some (.d (.int y.tie))) (some (.d (.int y.yes))) (some (.d (.int y.no))) v7 v8)=_ from iT (by simp? [oE]))]
      unfold std1
      unfold oE at u1 u2 ⊢
      simp? [eZ,u1,u2,aY]) ⟨none,none,none,none,none,none,rfl⟩
  subst he
  rw [Nat.zero_add,eh,List.length_map] at h1
  have hfor:∀Wl,dm Wl lD (aZ (ao (af 3) (ao (aZ (ao (af 4) (ao (af 5) (ao (af 6) aX)))) aX))) fB (oE W T (aE W T 0) none none none none none none)=some (.nx (oE W T (aE W T T.length) v3 v4 v5 v6 v7 v8)):=fun Wl=>by
    rw [bU (items:=cq 0 (T.map aG)) (e1:=oE W T (aE W T 0) none none none none none none) rfl]
    exact h1
  obtain⟨t',hc⟩:=cO (cs:=[]) (ft:=cF) (fe:=iQ) (b:=fun _=>true) (y:=fun _=>.tuple [.tuple [],.tuple []]) (T.map aG) none [] (fun x hx=>rfl) (fun x hx _=>rfl) (by simp;lia)
  have hv:=dU (cp:=[]) (nT:=1) (fi:=lF) (g:=af 0) (ft:=cF) (fe:=iQ) (e:=[some (.d (aq W)),some (.d (.tuple (T.map aG))),none,none,none,none,none,none,none]) (cs:=[]) (t:=[none]) (t':=[t']) rfl rfl rfl hc
  have hl:([]++((T.map aG).filter fun _=>true).map fun _=>PyData.tuple [.tuple [],.tuple []])=(aE W T 0).map dS:=by
    rw [List.nil_append,List.filter_eq_self.mpr (fun _ _=>rfl),List.map_map]
    simp [aE,dS,gv,List.map_const']
    exact List.eq_replicate_iff.mpr ⟨by simp,fun b hb=>by
      obtain⟨_,_,rfl⟩:=List.mem_map.mp hb;rfl⟩
  rw [hl] at hv
  unfold oE at hfor
  simp? [gj,nP,hv,hfor]
theorem Hh{W:aM}(e:En):dX e (.d (aq W)) (.d (.int 1))=some (.d (.tuple (W.ties.map aQ))):=by rw [dP,kg,jp];rfl
theorem m6{α:Type}(l:List α):l.filter (fun _=>true)=l:=List.filter_eq_self.mpr fun _ _=>rfl
theorem tI:∀(ns:List Int),PyData.eqvAll (ns.map .int) (ns.map .int)=true
  | []=>by simp [PyData.eqvAll]
  | x::r=>by simp [PyData.eqvAll,PyData.eqv,tI r]
theorem yA{e:En}{ns:List Int}:bw false e (.l (ns.map .int)) (.l (ns.map .int))=some (.d (.bool true)):=by
  unfold bw
  simp only [kc,Option.bind_some,(iP ns).1,Bool.and_self,if_true,Bool.false_eq_true,if_false,PyData.eqv,tI]
theorem rC(l at_ n:Int):gZ [.d (.int l),.d (.int at_),.d (.int n)]=some (.d (.bool (l== -1 || (decide (at_ < l)&&decide (l < n)))),[.d (.int l),.d (.int at_),.d (.int n)]):=by
  have tn:=Ai l
  have ge:∀e:En,bw false e (.d (.int l)) (.d (.int (-1)))=some (.d (.bool (l== -1))):=fun e=>by rw [cS];rfl
  have g1:∀e:En,tL e (.d (.int at_)) (.d (.int l))=some (.d (.bool (decide (at_ < l)))):=fun e=>rfl
  have g2:∀e:En,tL e (.d (.int l)) (.d (.int n))=some (.d (.bool (decide (l < n)))):=fun e=>rfl
  generalize (l== -1)=b1 at*
  generalize decide (at_ < l)=b2 at*
  generalize decide (l < n)=b3 at*
  cases b1<;>cases b2<;>simp? [gZ,qC,tn,ge,g1,g2,iz]
theorem xT{O:aM}{x:Nd}{i n:Nat}(hy:wO i x.yes)(hn:wO i x.no)(ry:x.yes < (n:Int))(rn:x.no < (n:Int)):jb [.d (aq O),.d (aG x),.d (.int (i:Int)),.d (.int (n:Int))]=some (.d (.bool (decide (0≤x.tie)&&decide (x.tie < (O.ties.length:Int)))),[.d (aq O),.d (aG x),.d (.int (i:Int)),.d (.int (n:Int))]):=by
  have g1':=Hh (W:=O)
  have tr:=Al [.int x.tie,.int x.yes,.int x.no] 3
  rw [show(([PyData.int x.tie,.int x.yes,.int x.no].length:Int)==3)=true from rfl] at tr
  have tn:=Aj x.tie 0 ((O.ties.length:Int) - 1)
  have e1:decide (x.tie≤(O.ties.length:Int) - 1)=decide (x.tie < (O.ties.length:Int)):=by rw [Bool.eq_iff_iff,decide_eq_true_eq,decide_eq_true_eq];lia
  rw [e1] at tn
  have ly:=rC x.yes (i:Int) (n:Int)
  have ln:=rC x.no (i:Int) (n:Int)
  have by':(x.yes== -1 || (decide ((i:Int) < x.yes)&&decide (x.yes < (n:Int))))=true:=by
    rcases hy with z | z
    · simp [z]
    · rw [decide_eq_true z,decide_eq_true ry];simp
  have bn':(x.no== -1 || (decide ((i:Int) < x.no)&&decide (x.no < (n:Int))))=true:=by
    rcases hn with z | z
    · simp [z]
    · rw [decide_eq_true z,decide_eq_true rn];simp
  rw [by'] at ly
  rw [bn'] at ln
  have ql:((O.ties.map aQ).length:Int)=(O.ties.length:Int):=by simp
  generalize (decide (0≤x.tie)&&decide (x.tie < (O.ties.length:Int)))=bb at*
  generalize O.ties.map aQ=TT at*
  generalize aq O=WW at*
  unfold aG at*
  cases bb<;>simp? [jb,qE,tr,g1',ql,tn,ly,ln]
def Dc:PyData→List PyData
  | .tuple [_,.int y,.int n]=>(if y= -1 then [] else [.int y])++(if n= -1 then [] else [.int n])
  | _=>[]
theorem rF(T:List Nd):∀m,m≤T.length→((T.take m).map aG).flatMap Dc=(pH T m).map .int
  | 0,_=>rfl
  | m+1,hm=>by
    have hx:=List.getElem?_eq_getElem (show m < T.length by lia)
    rw [List.take_succ,hx,List.map_append,List.flatMap_append,rF T m (by lia),pH,List.map_append]
    congr 1
    unfold yR
    rw [bZ hx,bZ hx]
    show(if (T[m]).yes= -1 then [] else [PyData.int (T[m]).yes])++(if (T[m]).no= -1 then [] else [PyData.int (T[m]).no])++[]=_
    rw [List.append_nil,List.map_append]
    congr 1
    · show _=(if (T[m]).yes= -1 then [] else [(T[m]).yes]).map PyData.int
      split<;>rfl
    · show _=(if (T[m]).no= -1 then [] else [(T[m]).no]).map PyData.int
      split<;>rfl
theorem wm(T:List Nd):∀m,(pH T m).length≤2*m
  | 0=>Nat.le_refl _
  | m+1=>by
    rw [pH,List.length_append]
    have:=wm T m
    have:(yR T m).length≤2:=by unfold yR;split<;>split<;>simp
    lia
theorem EX{T:List Nd}{W:aM}{S:Nat→Std}(h:dN W T S)(o:iY T)(t:iZ T)(hn:T.length≤24):di [.d (.tuple (T.map aG))]=some (.d (.bool true),[.d (.tuple (T.map aG))]):=by
  obtain⟨t',ht,hf⟩:=nS (cs:=[]) (g:=af 0) (ft:=cF) (fi2:=dy) (g2:=af 1) (ft2:=bK) (fe:=bi) (f:=Dc) 2 (T.map aG) [none,none] [] rfl (fun x hx=>by
    obtain⟨y,_,rfl⟩:=List.mem_map.mp hx
    show((if y.yes= -1 then [] else [PyData.int y.yes])++(if y.no= -1 then [] else [PyData.int y.no])).length≤2
    split<;>split<;>simp) (fun x hx tt acc htt hacc=>by
    obtain⟨y,_,rfl⟩:=List.mem_map.mp hx
    rcases tt with _ | ⟨a1,_ | ⟨a2,_ | ⟨a3,r⟩⟩⟩
    · simp at htt
    · simp at htt
    · have nb:∀(e:En) (l:Int),bw true e (.d (.int l)) (.d (.int (-1)))=some (.d (.bool (!(l== -1)))):=fun e l=>by rw [cS];rfl
      have tst:∀(l:Int),bK [some (.d (aG y)),some (.d (.int l))]=some (!(l== -1),[some (.d (aG y)),some (.d (.int l))]):=fun l=>by
        have:=fun e=>nb e l
        generalize (l== -1)=bb at*
        generalize aG y=Y at*
        simp? [bK,this]
      have cu:L2.cutD [PyData.int y.tie,.int y.yes,.int y.no] (some 1) none=[.int y.yes,.int y.no]:=rfl
      refine⟨[some (.d (aG y)),a2],[some (.d (aG y)),a2],[.int y.yes,.int y.no],[some (.d (aG y)),a2],[some (.d (aG y)),some (.d (.int y.no))],rfl,rfl,?_,?_,rfl⟩
      · unfold dy
        refine iT ?_
        unfold aG
        simp? [cu]
      · have l1:acc.length < 1000000:=by lia
        have l2:acc.length+1 < 1000000:=by lia
        show cK (af 1) bK bi [.int y.yes,.int y.no] [some (.d (aG y)),a2] acc=some (acc++((if y.yes= -1 then [] else [PyData.int y.yes])++(if y.no= -1 then [] else [PyData.int y.no])),[]++[some (.d (aG y)),some (.d (.int y.no))])
        by_cases c1:y.yes= -1
        · by_cases c2:y.no= -1
          · simp? [cK,af,tst,bi,c1,c2,l1,l2]
          · simp? [cK,af,tst,bi,c1,c2,l1,l2]
        · by_cases c2:y.no= -1
          · simp? [cK,af,tst,bi,c1,c2,l1,l2]
          · simp? [cK,af,tst,bi,c1,c2,l1,l2]
    · simp at htt) (by simp;lia)
  have hv:=xY (cp:=[]) (nT:=2) (fi:=i9) (g:=af 0) (ft:=cF) (fi2:=dy) (g2:=af 1) (ft2:=bK) (fe:=bi) (e:=[some (.d (.tuple (T.map aG))),none]) (e1:=[some (.d (.tuple (T.map aG))),none]) (items:=T.map aG) (cs:=[]) (t:=[none,none]) (t':=t') (iT rfl) rfl rfl hf
  have fl:=rF T T.length (Nat.le_refl _)
  rw [List.take_length] at fl
  rw [List.nil_append,fl] at hv
  have ll:=wm T T.length
  have gs:∀e:En,e[1]?=some (some (.l ((pH T T.length).map .int)))→g1 df e [.s 1]=some (.l ((eX (pH T T.length)).map .int)):=fun e he=>yB he (by
    have:=(nG h o t).length_eq
    simp at this
    lia)
  rw [zX (nG h o t)] at gs
  have lr:∀e:En,kS (aa (vC (.int 1)) (aa (aC (g1 cV) (aa (ab 0) ah)) ah)) (some (.d (.tuple (T.map aG)))::e)=some (.l (((List.range (T.length - 1)).map fun(i:Nat)=>(1:Int)+(i:Int)).map .int),some (.d (.tuple (T.map aG)))::e):=fun e=>by
    have ql:((T.map aG).length:Int)=(T.length:Int):=by simp
    have tn:((T.length:Int) - 1).toNat=T.length - 1:=by lia
    have b1:(T.length:Int)≤100000:=by lia
    generalize T.map aG=TT at*
    simp? [kS,ql,tn,sJ,b1]
  have ge:=fun e=>yA (e:=e) (ns:=(List.range (T.length - 1)).map fun(i:Nat)=>(1:Int)+(i:Int))
  generalize ((List.range (T.length - 1)).map fun(i:Nat)=>(1:Int)+(i:Int)).map PyData.int=RR at*
  generalize (pH T T.length).map PyData.int=LL at*
  generalize T.map aG=TT at*
  simp? [di,j8,hv,gs,lr,ge]
def Cj:PyData→En
  | .tuple [a,b]=>[some (.d a),some (.d b)]
  | _=>[]
theorem Dd{cs:En}{i j:Nat}(hi:i=cs.length)(hj:j=cs.length+1){x a b:PyData}(hx:x=.tuple [a,b])(t:En)(ht:t.length=2):aZ (ao (af i) (ao (af j) aX)) x (cs++t)=some (cs++Cj x):=by
  subst hx hi hj
  rcases t with _ | ⟨a1,_ | ⟨a2,_ | ⟨a3,r⟩⟩⟩
  · simp at ht
  · simp at ht
  · simp [aZ,ao,af,aX,Cj]
  · simp at ht
def uq(n:Int):PyData→Bool
  | .tuple [_,.tuple [.int k,_,_]]=>decide (0≤k)&&decide (k < n)
  | _=>false
theorem tH{T:List Nd}{n:Int}:∀(m:Nat),(cq m (T.map aG)).all (uq n)=T.all fun x=>decide (0≤x.tie)&&decide (x.tie < n):=by
  induction T with
  | nil=>intro m;rfl
  | cons x r ih=>
    intro m
    show((decide (0≤x.tie)&&decide (x.tie < n))&&(cq (m+1) (r.map aG)).all (uq n))=_
    rw [ih]
    rfl
theorem ET{O W:aM}(okO:O.Ok){T:List Nd}{S:Nat→Std}(h:dN W T S)(o:iY T)(t:iZ T)(hn:T.length≤24):dj [.d (aq O),.d (.tuple (T.map aG))]=some (.d (.bool (md O T)),[.d (aq O),.d (.tuple (T.map aG))]):=by
  have tt:=EX h o t hn
  have g300:∀e:En,CT e (.d (.int (T.length:Int))) (.d (.int 300))=some (.d (.bool false)):=fun e=>by
    have:decide ((300:Int) < (T.length:Int))=false:=decide_eq_false (by lia)
    rw [←this];rfl
  have ql:((T.map aG).length:Int)=(T.length:Int):=by simp
  obtain⟨t2,ht2,hf2⟩:=jy (cs:=[some (.d (aq O)),some (.d (.tuple (T.map aG)))]) (g:=aZ (ao (af 2) (ao (af 3) aX))) (ft:=cF) (fe:=cm) (b:=fun _=>true) (y:=fun x=>.bool (uq (O.ties.length:Int) x)) (u:=Cj) 2 (cq 0 (T.map aG)) [none,none] [] rfl (fun x hx t ht=>by
    obtain⟨i,hi⟩:=List.getElem?_of_mem hx
    obtain⟨y,hy,rfl⟩:=ij hi
    exact Dd rfl rfl rfl t ht) (fun x hx=>by
    obtain⟨i,hi⟩:=List.getElem?_of_mem hx
    obtain⟨y,hy,rfl⟩:=ij hi
    rfl) (fun x hx=>rfl) (fun x hx _=>by
    obtain⟨i,hi⟩:=List.getElem?_of_mem hx
    obtain⟨y,hy,rfl⟩:=ij hi
    have nd:=h i y hy
    have tn:=xT (O:=O) (x:=y) (i:=i) (n:=T.length) (pQ o hy true) (pQ o hy false) nd.yes.rng.2 nd.no.rng.2
    show cm [some (.d (aq O)),some (.d (.tuple (T.map aG))),some (.d (.int (i:Int))),some (.d (aG y))]=some (.d (.bool (decide (0≤y.tie)&&decide (y.tie < (O.ties.length:Int)))),[some (.d (aq O)),some (.d (.tuple (T.map aG))),some (.d (.int (i:Int))),some (.d (aG y))])
    generalize (decide (0≤y.tie)&&decide (y.tie < (O.ties.length:Int)))=bb at*
    generalize aG y=Y at*
    clear tt
    generalize T.map aG=TT at*
    generalize aq O=WW at*
    simp? [cm,ql,tn]) (by rw [eh];simp;lia)
  have hv:=dU (cp:=[(0,"web"),(1,"thing")]) (nT:=2) (fi:=i_) (g:=aZ (ao (af 2) (ao (af 3) aX))) (ft:=cF) (fe:=cm) (e:=[some (.d (aq O)),some (.d (.tuple (T.map aG)))]) (e1:=[some (.d (aq O)),some (.d (.tuple (T.map aG)))]) (items:=cq 0 (T.map aG)) (cs:=[some (.d (aq O)),some (.d (.tuple (T.map aG)))]) (t:=[none,none]) (t':=t2) rfl rfl rfl hf2
  rw [List.nil_append,m6] at hv
  have ga:=fun e=>tJ (e:=e) (uq (O.ties.length:Int)) (cq 0 (T.map aG))
  rw [tH] at ga
  change ∀e:En,g1 (jP lx) e [.l ((cq 0 (T.map aG)).map fun d=>.bool (uq (O.ties.length:Int) d))]=some (.d (.bool (md O T))) at ga
  have gt:∀e:En,iB "tuple" e (.d (.tuple (T.map aG)))=some (.d (.bool true)):=fun e=>rfl
  generalize md O T=bb at*
  generalize ((cq 0 (T.map aG)).map fun d=>PyData.bool (uq (O.ties.length:Int) d))=MM at*
  clear hf2
  generalize T.map aG=TT at*
  generalize aq O=WW at*
  cases bb<;>simp? [dj,j_,gt,ql,g300,hv,ga,tt]
def pD(p:Nd × Std):PyData:=.tuple [aG p.1,dS p.2]
theorem vJ:∀(T:List Nd) (ss:List Std),jX (T.map aG) (ss.map dS)=(T.zip ss).map pD
  | [],_=>by cases ‹List Std›<;>rfl
  | _::_,[]=>rfl
  | x::T,s::ss=>by
    show PyData.tuple [aG x,dS s]::jX (T.map aG) (ss.map dS)=_
    rw [vJ T ss]
    rfl
theorem vq{O W:aM}(ok:W.Ok){T:List Nd}{S:Nat→Std}(h:dN W T S)(o:iY T)(hO:Cy O T):
    (∀(i:Nat) (x:Nd),T[i]?=some x→jO O x.tie∧(-1≤x.yes∧x.yes < (T.length:Int))∧(-1≤x.no∧x.no < (T.length:Int)))∧(∀(i:Nat) (x:Nd),T[i]?=some x→(aE O T i).length=T.length∧Ff ((aE O T i).getD i ([],[]))∧Ff ((stp O (aE O T i) i x.tie true x.yes).getD i ([],[]))):=by
  refine⟨fun i x hx=>⟨hO.tie i x hx,hO.lk i x hx⟩,fun i x hx=>?_⟩
  have il:=(List.getElem?_eq_some_iff.mp hx).1
  have l:=yN ok h o hO i i il
  refine⟨jk i,l,?_⟩
  rw [lj (by rcases pQ o hx true with z | z;exact .inl z;exact .inr (by have:x.yes=CZ x true:=rfl;lia))]
  exact l
theorem uH{O W:aM}(ok:W.Ok){T:List Nd}{S:Nat→Std}(h:dN W T S)(o:iY T)(hO:Cy O T){p:Nd × Std}(hp:p∈T.zip (aE O T T.length)):jO O p.1.tie∧(∀k∈p.2.1,jO O k)∧p.2.1.length≤15∧p.2.2.length≤30:=by
  obtain⟨i,hi⟩:=List.getElem?_of_mem hp
  rw [List.getElem?_zip_eq_some] at hi
  have il:=(List.getElem?_eq_some_iff.mp hi.1).1
  have l:=yN ok h o hO T.length i il
  obtain⟨_,_,a3⟩:=(CC.all (W:=W) hO T.length).at' i
  rw [List.getD_eq_getElem?_getD,hi.2] at l a3
  exact⟨hO.tie i _ hi.1,a3,l⟩
theorem rD{O W:aM}(ok:W.Ok)(okO:O.Ok){T:List Nd}{S:Nat→Std}(h:dN W T S)(o:iY T)(t:iZ T)(hn:T.length≤24):er [.d (aq O),.d (.tuple (T.map aG))]=some (.d (.bool (A_ O T)),[.d (aq O),.d (.tuple (T.map aG))]):=by
  have tf:=ET okO h o t hn
  unfold A_
  cases c:md O T with
  | false=>
    rw [c] at tf
    generalize T.map aG=TT at*
    generalize aq O=WW at*
    simp? [er,mZ,tf]
  | true=>
    rw [c] at tf
    have hO:=pb h c
    obtain⟨s1,s2⟩:=vq ok h o hO
    have ts:=uo s1 s2 (by lia)
    have hz:=vJ T (aE O T T.length)
    obtain⟨t2,ht2,hf2⟩:=jy (cs:=[some (.d (aq O))]) (g:=aZ (ao (af 1) (ao (af 2) aX))) (ft:=cF) (fe:=fP) (b:=fun _=>true) (y:=fun x=>.bool (match x with | .tuple [.tuple [.int k,_,_],.tuple [.tuple a,.tuple tk]]=>(match eW a,eW tk with | some a,some tk=>O.may a tk k | _,_=>false) | _=>false)) (u:=Cj) 2 (jX (T.map aG) ((aE O T T.length).map dS)) [none,none] [] rfl (fun x hx t ht=>by
      rw [hz] at hx
      obtain⟨p,hp,rfl⟩:=List.mem_map.mp hx
      exact Dd rfl rfl rfl t ht) (fun x hx=>by
      rw [hz] at hx
      obtain⟨p,hp,rfl⟩:=List.mem_map.mp hx
      rfl) (fun x hx=>rfl) (fun x hx _=>by
      rw [hz] at hx
      obtain⟨p,hp,rfl⟩:=List.mem_map.mp hx
      obtain⟨z1,z2,z3,z4⟩:=uH ok h o hO hp
      have tm:=xU okO (asked:=p.2.1) (taken:=p.2.2) (k:=p.1.tie) z2 (by lia) z1
      show fP [some (.d (aq O)),some (.d (aG p.1)),some (.d (dS p.2))]=some (.d (.bool (match eW (p.2.1.map .int),eW (p.2.2.map .int) with | some a,some tk=>O.may a tk p.1.tie | _,_=>false)),[some (.d (aq O)),some (.d (aG p.1)),some (.d (dS p.2))])
      rw [dz,dz]
      simp only
      unfold dS
      generalize O.may p.2.1 p.2.2 p.1.tie=bb at*
      generalize gv p.2.1 p.2.2=SS at*
      clear ts tf
      generalize aq O=WW at*
      unfold aG
      simp? [fP,tm]) (by rw [hz];simp;lia)
    have hi:iM [some (.d (aq O)),some (.d (.tuple (T.map aG)))]=some (jX (T.map aG) ((aE O T T.length).map dS),[],[some (.d (aq O)),some (.d (.tuple (T.map aG)))]):=by
      generalize (aE O T T.length).map dS=SS at*
      clear hz hf2 tf
      generalize T.map aG=TT at*
      generalize aq O=WW at*
      simp? [iM,ou,sM,ts]
    have hv:=dU (cp:=[(0,"web")]) (nT:=2) (fi:=iM) (g:=aZ (ao (af 1) (ao (af 2) aX))) (ft:=cF) (fe:=fP) (cs:=[some (.d (aq O))]) (t:=[none,none]) (t':=t2) hi rfl rfl hf2
    rw [List.nil_append,m6,hz,List.map_map] at hv
    have ga:=fun e=>tJ (e:=e) (qm O) (T.zip (aE O T T.length))
    have em:(T.zip (aE O T T.length)).map (Function.comp (fun x=>PyData.bool (match x with | .tuple [.tuple [.int k,_,_],.tuple [.tuple a,.tuple tk]]=>(match eW a,eW tk with | some a,some tk=>O.may a tk k | _,_=>false) | _=>false)) pD)=(T.zip (aE O T T.length)).map fun p=>PyData.bool (qm O p):=List.map_congr_left fun p _=>by
      show PyData.bool (match eW (p.2.1.map .int),eW (p.2.2.map .int) with | some a,some tk=>O.may a tk p.1.tie | _,_=>false)=_
      rw [dz,dz]
      rfl
    rw [em] at hv
    rw [Bool.true_and]
    generalize (T.zip (aE O T T.length)).all (qm O)=bb at*
    generalize ((T.zip (aE O T T.length)).map fun p=>PyData.bool (qm O p))=MM at*
    clear hf2 hi hz em
    generalize T.map aG=TT at*
    generalize aq O=WW at*
    simp? [er,mZ,tf,hv,ga]
theorem Dt{xs:List PyData}:L2.cutD xs (some 1) none=xs.drop 1:=by
  unfold L2.cutD
  rw [HT.sIx_none,show(some (1:Int))=some ((1:Nat):Int) from rfl,HT.sIx_nat]
  by_cases h:1≤xs.length
  · rw [Nat.min_eq_left h]
    exact List.take_of_length_le (by rw [List.length_drop];exact Nat.le_refl _)
  · have:xs=[]:=List.length_eq_zero_iff.mp (by lia)
    subst this
    rfl
theorem Ac{O:aM}(k:Int):kx [.d (aq O),.d (.int k)]=some (.d (.bool (decide (0≤k)&&decide (k < (O.ties.length:Int)))),[.d (aq O),.d (.int k)]):=by
  have g1':=Hh (W:=O)
  have ql:((O.ties.map aQ).length:Int)=(O.ties.length:Int):=by simp
  have i1:∀e:En,iB "int" e (.d (.int k))=some (.d (.bool true)):=fun e=>rfl
  have i2:∀e:En,iB "bool" e (.d (.int k))=some (.d (.bool false)):=fun e=>rfl
  have l1:∀e:En,A7 e (.d (.int 0)) (.d (.int k))=some (.d (.bool (decide (0≤k)))):=fun e=>rfl
  have l2:∀e:En,tL e (.d (.int k)) (.d (.int (O.ties.length:Int)))=some (.d (.bool (decide (k < (O.ties.length:Int))))):=fun e=>rfl
  generalize decide (0≤k)=b1 at*
  generalize decide (k < (O.ties.length:Int))=b2 at*
  generalize O.ties.map aQ=TT at*
  generalize aq O=WW at*
  cases b1<;>simp? [kx,sW,i1,i2,g1',ql,l1,l2,iz]
theorem Ce{x:Nd}{i n:Nat}(hy:wO i x.yes)(hn:wO i x.no)(ry:x.yes < (n:Int))(rn:x.no < (n:Int)):f9 [.d (aG x),.d (.int (i:Int)),.d (.int (n:Int))]=some (.d (.bool true),[.d (aG x),.d (.int (i:Int)),.d (.int (n:Int))]):=by
  have step:∀(l:Int) (v:Option Sv),wO i l→l < (n:Int)→cL [some (.d (aG x)),some (.d (.int (i:Int))),some (.d (.int (n:Int))),some (.d (.int l))]=some (.nx [some (.d (aG x)),some (.d (.int (i:Int))),some (.d (.int (n:Int))),some (.d (.int l))]):=fun l v hl hr=>by
    have i1:∀e:En,iB "int" e (.d (.int l))=some (.d (.bool true)):=fun e=>rfl
    have i2:∀e:En,iB "bool" e (.d (.int l))=some (.d (.bool false)):=fun e=>rfl
    have l1:∀e:En,uO e (.d (.int l)) (.d (.int (n:Int)))=some (.d (.bool false)):=fun e=>by
      have:decide ((n:Int)≤l)=false:=decide_eq_false (by lia)
      rw [←this];rfl
    generalize aG x=X at*
    rcases hl with z | z
    · subst z
      have ge:∀e:En,bw true e (.d (.int (-1))) (.d (.int (-1)))=some (.d (.bool false)):=fun e=>rfl
      simp? [cL,i1,i2,l1,ge]
    · have ge:∀e:En,bw true e (.d (.int l)) (.d (.int (-1)))=some (.d (.bool (!(l== -1)))):=fun e=>by rw [cS];rfl
      have l2:∀e:En,A7 e (.d (.int l)) (.d (.int (i:Int)))=some (.d (.bool false)):=fun e=>by
        have:decide (l≤(i:Int))=false:=decide_eq_false (by lia)
        rw [←this];rfl
      generalize (l== -1)=bb at*
      cases bb<;>simp? [cL,i1,i2,l1,l2,ge]
  have s1:=step x.yes none hy ry
  have s2:=step x.no none hn rn
  have cu:L2.cutD [PyData.int x.tie,.int x.yes,.int x.no] (some 1) none=[.int x.yes,.int x.no]:=rfl
  have hi:iR [some (.d (aG x)),some (.d (.int (i:Int))),some (.d (.int (n:Int))),none]=some ([.int x.yes,.int x.no],[],[some (.d (aG x)),some (.d (.int (i:Int))),some (.d (.int (n:Int))),none]):=by
    unfold iR
    refine iT ?_
    unfold aG
    simp? [cu]
  have hg:=fun Wl=>bU (W:=Wl) (g:=af 3) (f:=cL) hi
  have hf:eZ [] (af 3) cL [.int x.yes,.int x.no] [some (.d (aG x)),some (.d (.int (i:Int))),some (.d (.int (n:Int))),none]=some (.nx [some (.d (aG x)),some (.d (.int (i:Int))),some (.d (.int (n:Int))),some (.d (.int x.no))]):=by
    generalize aG x=X at*
    simp? [eZ,af,s1,s2,aY]
  rw [hf] at hg
  generalize aG x=X at*
  simp? [f9,nK,hg]
def mi(L:List Int)(l:Int):List Int:=if l= -1 then L else L.set l.toNat (L.getD l.toNat 0+1)
theorem pC{L:List Int}{l:Int}:(mi L l).length=L.length:=by unfold mi;split<;>simp
abbrev gU(O:aM)(T:List Nd)(L:List Int)(v3 v4 v5:Option Sv):En:=[some (.d (aq O)),some (.d (.tuple (T.map aG))),some (.l (L.map .int)),v3,v4,v5]
theorem Ad{O:aM}{T:List Nd}{L:List Int}{l:Int}{v3 v4:Option Sv}(h: -1≤l∧l < (L.length:Int)):cM (gU O T L v3 v4 (some (.d (.int l))))=some (.nx (gU O T (mi L l) v3 v4 (some (.d (.int l))))):=by
  unfold mi
  simp only [gU]
  by_cases c:l= -1
  · rw [if_pos c]
    subst c
    have ge:∀e:En,bw true e (.d (.int (-1))) (.d (.int (-1)))=some (.d (.bool false)):=fun e=>rfl
    generalize T.map aG=TT at*
    generalize aq O=WW at*
    generalize L.map PyData.int=LL at*
    simp? [cM,ge]
  · rw [if_neg c]
    have ge:∀e:En,bw true e (.d (.int l)) (.d (.int (-1)))=some (.d (.bool true)):=fun e=>by rw [cS];simp [c]
    have l0:0≤l:=by lia
    have gx:(L.map PyData.int)[l.toNat]?=some (.int (L.getD l.toNat 0)):=by
      rw [List.getElem?_map,List.getElem?_eq_getElem (by lia),List.getD_eq_getElem?_getD,List.getElem?_eq_getElem (by lia)]
      rfl
    rw [List.map_set]
    generalize T.map aG=TT at*
    generalize aq O=WW at*
    generalize L.getD l.toNat 0=z at*
    generalize L.map PyData.int=LL at*
    simp? [cM,ge,wy,iW,l0,gx]
theorem qY{O:aM}{T:List Nd}{L:List Int}{y:Nd}{i:Nat}{v5:Option Sv}(lL:L.length=T.length)(hy:wO i y.yes)(hn:wO i y.no)(ry: -1≤y.yes∧y.yes < (T.length:Int))(rn: -1≤y.no∧y.no < (T.length:Int)):
    cN (gU O T L (some (.d (.int (i:Int)))) (some (.d (aG y))) v5)=(if (decide (0≤y.tie)&&decide (y.tie < (O.ties.length:Int)))=true then some (.nx (gU O T (mi (mi L y.yes) y.no) (some (.d (.int (i:Int)))) (some (.d (aG y))) (some (.d (.int y.no))))) else some (.rt (.d (.bool false)) (gU O T L (some (.d (.int (i:Int)))) (some (.d (aG y))) v5))):=by
  have tt:=Ac (O:=O) y.tie
  have tl:=Ce hy hn ry.2 rn.2
  have u1:=Ad (O:=O) (T:=T) (L:=L) (l:=y.yes) (v3:=some (.d (.int (i:Int)))) (v4:=some (.d (aG y))) (by rw [lL];exact ry)
  have u2:=Ad (O:=O) (T:=T) (L:=mi L y.yes) (l:=y.no) (v3:=some (.d (.int (i:Int)))) (v4:=some (.d (aG y))) (by rw [pC,lL];exact rn)
  have gt:∀e:En,iB "tuple" e (.d (aG y))=some (.d (.bool true)):=fun e=>rfl
  have cu:L2.cutD [PyData.int y.tie,.int y.yes,.int y.no] (some 1) none=[.int y.yes,.int y.no]:=rfl
  have ql:((T.map aG).length:Int)=(T.length:Int):=by simp
  have hi:iS (gU O T L (some (.d (.int (i:Int)))) (some (.d (aG y))) v5)=some ([.int y.yes,.int y.no],[],gU O T L (some (.d (.int (i:Int)))) (some (.d (aG y))) v5):=by
    unfold iS
    refine iT ?_
    simp only [gU]
    generalize T.map aG=TT at*
    unfold aG
    simp? [cu]
  have hg:=fun Wl=>bU (W:=Wl) (g:=af 5) (f:=cM) hi
  have hf:eZ [] (af 5) cM [.int y.yes,.int y.no] (gU O T L (some (.d (.int (i:Int)))) (some (.d (aG y))) v5)=some (.nx (gU O T (mi (mi L y.yes) y.no) (some (.d (.int (i:Int)))) (some (.d (aG y))) (some (.d (.int y.no))))):=by
    simp only [gU] at u1 u2 ⊢
    generalize T.map aG=TT at*
    generalize aG y=Y at*
    generalize (mi (mi L y.yes) y.no).map PyData.int=L2' at*
    generalize aq O=WW at*
    generalize L.map PyData.int=LL at*
    generalize (mi L y.yes).map PyData.int=L1 at*
    simp? [eZ,af,u1,u2,aY]
  rw [hf] at hg
  have l3:∀e:En,g1 cV e [.d (aG y)]=some (.d (.int 3)):=fun e=>rfl
  have x0:∀e:En,dX e (.d (aG y)) (.d (.int 0))=some (.d (.int y.tie)):=fun e=>rfl
  generalize (decide (0≤y.tie)&&decide (y.tie < (O.ties.length:Int)))=bb at*
  simp only [gU] at hg ⊢
  generalize T.map aG=TT at*
  generalize aG y=Y at*
  generalize aq O=WW at*
  cases bb<;>simp? [cN,gt,l3,x0,tt,ql,tl,hg]
def oQ(n:Nat)(A:List Int):List Int:=(List.range n).map fun(j:Nat)=>((A.count (j:Int):Nat):Int)
theorem kY{n:Nat}{A:List Int}:(oQ n A).length=n:=by simp [oQ]
theorem AO{n:Nat}{A:List Int}{j:Nat}(h:j < n):(oQ n A).getD j 0=((A.count (j:Int):Nat):Int):=by
  unfold oQ
  rw [List.getD_eq_getElem?_getD,List.getElem?_map,List.getElem?_range h]
  rfl
theorem we{n:Nat}{A:List Int}{l:Int}(h: -1≤l∧l < (n:Int)):mi (oQ n A) l=oQ n (A++(if l= -1 then [] else [l])):=by
  unfold mi
  by_cases c:l= -1
  · rw [if_pos c,if_pos c,List.append_nil]
  · rw [if_neg c,if_neg c]
    have ln:l.toNat < n:=by lia
    rw [AO ln]
    refine List.ext_getElem (by rw [List.length_set,kY,kY]) fun j h1 h2=>?_
    rw [List.length_set,kY] at h1
    rw [List.getElem_set]
    unfold oQ
    simp only [List.getElem_map,List.getElem_range,List.count_append]
    by_cases e:l.toNat=j
    · rw [if_pos e]
      have:((l.toNat:Nat):Int)=l:=by lia
      rw [←e,this]
      simp
    · rw [if_neg e]
      have:List.count (j:Int) [l]=0:=by
        rw [List.count_eq_zero]
        simp
        lia
      rw [this]
      simp
theorem Bf{T:List Nd}{i:Nat}{y:Nd}(h:T[i]?=some y):yR T i=(if y.yes= -1 then [] else [y.yes])++(if y.no= -1 then [] else [y.no]):=by
  unfold yR
  rw [bZ h,bZ h]
  rfl
theorem ul{O W:aM}{T:List Nd}{S:Nat→Std}(h:dN W T S)(o:iY T)(t:iZ T)(hn:T.length≤24):el [.d (aq O),.d (.tuple (T.map aG))]=some (.d (.bool (md O T)),[.d (aq O),.d (.tuple (T.map aG))]):=by
  have gt:∀e:En,iB "tuple" e (.d (.tuple (T.map aG)))=some (.d (.bool true)):=fun e=>rfl
  have ql:((T.map aG).length:Int)=(T.length:Int):=by simp
  have g300:∀e:En,CT e (.d (.int (T.length:Int))) (.d (.int 300))=some (.d (.bool false)):=fun e=>by
    have:decide ((300:Int) < (T.length:Int))=false:=decide_eq_false (by lia)
    rw [←this];rfl
  have z0:oQ T.length []=List.replicate T.length 0:=by
    unfold oQ
    refine List.ext_getElem (by simp) fun j h1 h2=>?_
    simp
  have rep:∀e:En,gy e (.l [.int 0]) (.d (.int (T.length:Int)))=some (.l ((oQ T.length []).map .int)):=fun e=>by
    rw [wb (by lia) (by lia),Int.toNat_natCast,z0,List.map_replicate]
  have hi:∀L v3 v4 v5,lA (gU O T L v3 v4 v5)=some (cq 0 (T.map aG),[],gU O T L v3 v4 v5):=fun L v3 v4 v5=>rfl
  have hg:=fun Wl L v3 v4 v5=>bU (W:=Wl) (g:=aZ (ao (af 3) (ao (af 4) aX))) (f:=cN) (hi L v3 v4 v5)
  cases c:md O T with
  | true=>
    have hO:=pb h c
    obtain⟨e',h1,⟨v3,v4,v5,he⟩⟩:=cv (own:=[]) (g:=aZ (ao (af 3) (ao (af 4) aX))) (f:=cN) (fun i e=>∃v3 v4 v5,e=gU O T (oQ T.length (pH T i)) v3 v4 v5) (cq 0 (T.map aG)) 0 (gU O T (oQ T.length []) none none none) (fun i x e hx ⟨v3,v4,v5,he⟩=>by
      subst he
      rw [Nat.zero_add] at*
      obtain⟨y,hy,rfl⟩:=ij hx
      have lk:=hO.lk i y hy
      have it:=hO.tie i y hy
      have nt:=qY (O:=O) (T:=T) (L:=oQ T.length (pH T i)) (v5:=v5) kY (pQ o hy true) (pQ o hy false) lk.1 lk.2
      rw [if_pos (by rw [decide_eq_true it.1,decide_eq_true it.2];rfl),we lk.1,we lk.2,List.append_assoc,←Bf hy] at nt
      exact⟨gU O T (oQ T.length (pH T i)) (some (.d (.int (i:Int)))) (some (.d (aG y))) v5,_,rfl,nt,aY,_,_,_,rfl⟩) ⟨none,none,none,rfl⟩
    rw [Nat.zero_add,eh,List.length_map] at he
    subst he
    have hg':=fun Wl=>hg Wl (oQ T.length []) none none none
    rw [h1] at hg'
    have dl:(oQ T.length (pH T T.length)).drop 1=List.replicate (T.length - 1) 1:=by
      refine List.ext_getElem (by rw [List.length_drop,kY,List.length_replicate]) fun j j1 j2=>?_
      rw [List.length_replicate] at j2
      rw [List.getElem_drop,List.getElem_replicate]
      unfold oQ
      simp only [List.getElem_map,List.getElem_range]
      rw [AQ h o t (by lia) (by lia)]
      rfl
    have cu:L2.cutD ((oQ T.length (pH T T.length)).map .int) (some 1) none=(List.replicate (T.length - 1) (1:Int)).map .int:=by
      rw [Dt,←List.map_drop,dl]
    have sl:∀e:En,e[2]?=some (some (.l ((oQ T.length (pH T T.length)).map .int)))→A8 e (.s 2) (some 1) none=some (.l ((List.replicate (T.length - 1) (1:Int)).map .int)):=fun e he=>by rw [FF he,cu]
    have rp:∀e:En,gy e (.l [.int 1]) (.d (.int ((T.length - 1:Nat):Int)))=some (.l ((List.replicate (T.length - 1) (1:Int)).map .int)):=fun e=>by
      rw [wb (by lia) (by lia),Int.toNat_natCast,List.map_replicate]
    have ge:=fun e=>yA (e:=e) (ns:=List.replicate (T.length - 1) (1:Int))
    have ln:(((List.replicate (T.length - 1) (1:Int)).map PyData.int).length:Int)=((T.length - 1:Nat):Int):=by simp
    simp only [gU] at hg'
    generalize ((T.length - 1:Nat):Int)=N1 at*
    generalize (List.replicate (T.length - 1) (1:Int)).map PyData.int=RR at*
    generalize (oQ T.length (pH T T.length)).map PyData.int=CL at*
    generalize (oQ T.length []).map PyData.int=C0 at*
    clear hg h1 hi
    generalize T.map aG=TT at*
    generalize aq O=WW at*
    simp? [el,j6,gt,ql,g300,rep,hg',sl,ln,rp,ge]
  | false=>
    have tst:=m7 (own:=[]) (g:=aZ (ao (af 3) (ao (af 4) aX))) (f:=cN) (Z:=.d (.bool false)) (uq (O.ties.length:Int)) (fun e=>∃L v3 v4 v5,e=gU O T L v3 v4 v5∧L.length=T.length) (fun e=>∃L v3 v4 v5,e=gU O T L v3 v4 v5∧L.length=T.length) (cq 0 (T.map aG)) (gU O T (oQ T.length []) none none none) (fun x hx e ⟨L,v3,v4,v5,he,hL⟩=>by
      subst he
      obtain⟨i,hi⟩:=List.getElem?_of_mem hx
      obtain⟨y,hy,rfl⟩:=ij hi
      have nd:=h i y hy
      have nt:=qY (O:=O) (T:=T) (L:=L) (v5:=v5) hL (pQ o hy true) (pQ o hy false) nd.yes.rng nd.no.rng
      refine⟨gU O T L (some (.d (.int (i:Int)))) (some (.d (aG y))) v5,rfl,fun q=>?_,fun q=>?_⟩
      · rw [if_pos (show(decide (0≤y.tie)&&decide (y.tie < (O.ties.length:Int)))=true from q)] at nt
        exact⟨_,nt,aY,_,_,_,_,rfl,by rw [pC,pC];exact hL⟩
      · rw [if_neg (by rw [show(decide (0≤y.tie)&&decide (y.tie < (O.ties.length:Int)))=false from q];decide)] at nt
        exact⟨_,nt,_,_,_,_,rfl,hL⟩) ⟨_,_,_,_,rfl,kY⟩
    obtain⟨e',h1,L,v3,v4,v5,rfl,_⟩:=tst.2 (by rw [tH];exact c)
    have hg':=fun Wl=>hg Wl (oQ T.length []) none none none
    rw [h1] at hg'
    simp only [gU] at hg'
    generalize (oQ T.length []).map PyData.int=C0 at*
    clear hg h1 hi tst
    generalize T.map aG=TT at*
    generalize aq O=WW at*
    simp? [el,j6,gt,ql,g300,rep,hg']
def DR(O:aM):PyData→Bool
  | .tuple [.tuple [.int k,_,_],.tuple [.tuple a,.tuple tk]]=>(match eW a,eW tk with | some a,some tk=>O.may a tk k | _,_=>false)
  | _=>false
theorem yU{O:aM}(p:Nd × Std):DR O (pD p)=qm O p:=by
  show(match eW (p.2.1.map .int),eW (p.2.2.map .int) with | some a,some tk=>O.may a tk p.1.tie | _,_=>false)=_
  rw [dz,dz]
  rfl
theorem rB{O W:aM}(ok:W.Ok)(okO:O.Ok){T:List Nd}{S:Nat→Std}(h:dN W T S)(o:iY T)(t:iZ T)(hn:T.length≤24):dA [.d (aq O),.d (.tuple (T.map aG))]=some (.d (.bool (A_ O T)),[.d (aq O),.d (.tuple (T.map aG))]):=by
  have tf:=ul (O:=O) h o t hn
  unfold A_
  cases c:md O T with
  | false=>
    rw [c] at tf
    generalize T.map aG=TT at*
    generalize aq O=WW at*
    simp? [dA,kW,tf]
  | true=>
    rw [c] at tf
    have hO:=pb h c
    obtain⟨s1,s2⟩:=vq ok h o hO
    have ts:=uk s1 s2 (by lia)
    have hz:=vJ T (aE O T T.length)
    have tst:=m7 (own:=[]) (g:=aZ (ao (af 2) (ao (af 3) aX))) (f:=fJ) (Z:=.d (.bool false)) (DR O) (fun e=>∃v2 v3,e=[some (.d (aq O)),some (.d (.tuple (T.map aG))),v2,v3]) (fun e=>∃v2 v3,e=[some (.d (aq O)),some (.d (.tuple (T.map aG))),v2,v3]) ((T.zip (aE O T T.length)).map pD) [some (.d (aq O)),some (.d (.tuple (T.map aG))),none,none] (fun x hx e ⟨v2,v3,he⟩=>by
      subst he
      obtain⟨p,hp,rfl⟩:=List.mem_map.mp hx
      obtain⟨z1,z2,z3,z4⟩:=uH ok h o hO hp
      have tm:=Da okO (asked:=p.2.1) (taken:=p.2.2) (k:=p.1.tie) z2 (by lia) z1
      have x0:∀e:En,dX e (.d (aG p.1)) (.d (.int 0))=some (.d (.int p.1.tie)):=fun e=>rfl
      rw [yU]
      change jR [.d (aq O),.d (dS p.2),.d (.int p.1.tie)]=some (.d (.bool (qm O p)),[.d (aq O),.d (dS p.2),.d (.int p.1.tie)]) at tm
      refine⟨[some (.d (aq O)),some (.d (.tuple (T.map aG))),some (.d (aG p.1)),some (.d (dS p.2))],rfl,fun q=>⟨_,?_,aY,some (.d (aG p.1)),some (.d (dS p.2)),rfl⟩,fun q=>⟨_,?_,some (.d (aG p.1)),some (.d (dS p.2)),rfl⟩⟩
      · rw [q] at tm
        clear ts tf
        generalize T.map aG=TT at*
        generalize aG p.1=P1 at*
        generalize dS p.2=P2 at*
        generalize aq O=WW at*
        simp? [fJ,x0,tm]
      · rw [q] at tm
        clear ts tf
        generalize T.map aG=TT at*
        generalize aG p.1=P1 at*
        generalize dS p.2=P2 at*
        generalize aq O=WW at*
        simp? [fJ,x0,tm]) ⟨none,none,rfl⟩
    have ea:((T.zip (aE O T T.length)).map pD).all (DR O)=(T.zip (aE O T T.length)).all (qm O):=by
      rw [List.all_map]
      congr 1
      funext p
      exact yU p
    rw [ea] at tst
    have hi:ko [some (.d (aq O)),some (.d (.tuple (T.map aG))),none,none]=some ((T.zip (aE O T T.length)).map pD,[],[some (.d (aq O)),some (.d (.tuple (T.map aG))),none,none]):=by
      rw [←hz]
      clear tst ea hz tf
      generalize (aE O T T.length).map dS=SS at*
      generalize T.map aG=TT at*
      generalize aq O=WW at*
      simp? [ko,ou,sM,ts]
    have hg:=fun Wl=>bU (W:=Wl) (g:=aZ (ao (af 2) (ao (af 3) aX))) (f:=fJ) hi
    rw [Bool.true_and]
    cases d:(T.zip (aE O T T.length)).all (qm O) with
    | true=>
      obtain⟨e',h1,v2,v3,rfl⟩:=tst.1 d
      rw [h1] at hg
      clear tst hi h1 hz ts ea
      generalize T.map aG=TT at*
      generalize aq O=WW at*
      simp? [dA,kW,tf,hg]
    | false=>
      obtain⟨e',h1,v2,v3,rfl⟩:=tst.2 d
      rw [h1] at hg
      clear tst hi h1 hz ts ea
      generalize T.map aG=TT at*
      generalize aq O=WW at*
      simp? [dA,kW,tf,hg]
theorem CM{xs:List PyData}{i:Nat}:L2.cutD xs none (some (i:Int))=xs.take i:=by
  unfold L2.cutD
  rw [HT.sIx_none,HT.sIx_nat,List.drop_zero,Nat.sub_zero]
  by_cases h:i≤xs.length
  · rw [Nat.min_eq_left h]
  · rw [Nat.min_eq_right (by lia),List.take_of_length_le (Nat.le_refl _),List.take_of_length_le (by lia)]
theorem CK{xs:List PyData}{i:Nat}:L2.cutD xs (some (i:Int)) none=xs.drop i:=by
  unfold L2.cutD
  rw [HT.sIx_none,HT.sIx_nat]
  by_cases h:i≤xs.length
  · rw [Nat.min_eq_left h]
    exact List.take_of_length_le (by rw [List.length_drop];exact Nat.le_refl _)
  · rw [Nat.min_eq_right (by lia),List.drop_of_length_le (Nat.le_refl _),List.drop_of_length_le (by lia),List.take_nil]
theorem AU{α:Type}(f:α→PyData)(l:List α)(lo hi:Option Int):∃m:List α,L2.cutD (l.map f) lo hi=m.map f∧(∀x∈m,x∈l)∧m.length≤l.length:=by
  unfold L2.cutD
  rw [←List.map_drop,←List.map_take]
  exact⟨_,rfl,fun x hx=>List.mem_of_mem_drop (List.mem_of_mem_take hx),by rw [List.length_take,List.length_drop];lia⟩
theorem Cy.own{W:aM}{T:List Nd}{S:Nat→Std}(h:dN W T S):Cy W T:=⟨fun i x hx=>(h i x hx).tie,fun i x hx=>⟨(h i x hx).yes.rng,(h i x hx).no.rng⟩⟩
def qD(p:Std × Nd):PyData:=.tuple [dS p.1,aG p.2]
theorem Aw:∀(ss:List Std) (T:List Nd),jX (ss.map dS) (T.map aG)=(ss.zip T).map qD
  | [],_=>by cases ‹List Nd›<;>rfl
  | _::_,[]=>rfl
  | s::ss,x::T=>by
    show PyData.tuple [dS s,aG x]::jX (ss.map dS) (T.map aG)=_
    rw [Aw ss T]
    rfl
theorem Bg{W:aM}{a:List Int}{t:Int}:0≤W.many a t∧W.many a t≤(a.length:Int):=by
  unfold aM.many
  have:=List.length_filter_le (fun k=>W.has k t) a
  lia
theorem Ah{W:aM}(ok:W.Ok){T:List Nd}{S:Nat→Std}(h:dN W T S)(o:iY T)(hn:T.length≤24)(thing:Int):∃m:Int,dB [.d (aq W),.d (.tuple (T.map aG)),.d (.int thing)]=some (.d (.int m),[.d (aq W),.d (.tuple (T.map aG)),.d (.int thing)])∧0≤m∧m≤16:=by
  have hO:=Cy.own h
  obtain⟨s1,s2⟩:=vq ok h o hO
  have ts:=uk s1 s2 (by lia)
  have hz:=Aw (aE W T T.length) T
  obtain⟨e',h1,⟨m,v4,v5,v6,v7,he,m0,m1⟩⟩:=cv (own:=[]) (g:=aZ (ao (af 4) (ao (af 5) aX))) (f:=cX) (fun i e=>∃(m:Int) (v4 v5 v6 v7:Option Sv),e=[some (.d (aq W)),some (.d (.tuple (T.map aG))),some (.d (.int thing)),some (.d (.int m)),v4,v5,v6,v7]∧0≤m∧m≤16) (((aE W T T.length).zip T).map qD) 0 [some (.d (aq W)),some (.d (.tuple (T.map aG))),some (.d (.int thing)),some (.d (.int 0)),none,none,none,none] (fun i x e hx ⟨m,v4,v5,v6,v7,he,m0,m1⟩=>by
    subst he
    obtain⟨p,hp,rfl⟩:=List.mem_map.mp (List.mem_of_getElem? hx)
    have hp':(p.2,p.1)∈T.zip (aE W T T.length):=by
      obtain⟨i,hi⟩:=List.getElem?_of_mem hp
      rw [List.getElem?_zip_eq_some] at hi
      exact List.mem_of_getElem? (List.getElem?_zip_eq_some.mpr ⟨hi.2,hi.1⟩)
    obtain⟨z1,z2,z3,z4⟩:=uH ok h o hO hp'
    have z3':p.1.1.length≤15:=z3
    have ta:=nF (W:=W) (asked:=p.1.1++[p.2.tie]) (thing:=thing) (fun k hk=>by
      rcases List.mem_append.mp hk with q | q
      · exact z2 k q
      · simp at q;subst q;exact z1) (by simp;lia)
    have ml:=Bg (W:=W) (a:=p.1.1++[p.2.tie]) (t:=thing)
    rw [List.length_append,List.length_singleton] at ml
    rw [List.map_append,List.map_cons,List.map_nil] at ta
    have gc:∀e:En,bv e (.d (.tuple (p.1.1.map .int))) (.d (.tuple [.int p.2.tie]))=some (.d (.tuple (p.1.1.map .int++[.int p.2.tie]))):=fun e=>jz (by simp;lia)
    have x0:∀e:En,dX e (.d (dS p.1)) (.d (.int 0))=some (.d (.tuple (p.1.1.map .int))):=fun e=>rfl
    have cu:L2.cutD [PyData.int p.2.tie,.int p.2.yes,.int p.2.no] none (some 1)=[.int p.2.tie]:=rfl
    have sl:∀e:En,A8 e (.d (aG p.2)) none (some 1)=some (.d (.tuple [.int p.2.tie])):=fun e=>rfl
    have ql:((p.1.1.map PyData.int++[PyData.int p.2.tie]).length:Int)=(p.1.1.length:Int)+1:=by simp
    by_cases c:0≤thing
    · have gg:∀e:En,uO e (.d (.int thing)) (.d (.int 0))=some (.d (.bool true)):=fun e=>by
        have:decide (0≤thing)=true:=decide_eq_true c
        rw [←this];rfl
      generalize W.many (p.1.1++[p.2.tie]) thing=y at*
      refine⟨[some (.d (aq W)),some (.d (.tuple (T.map aG))),some (.d (.int thing)),some (.d (.int m)),some (.d (dS p.1)),some (.d (aG p.2)),v6,v7],[some (.d (aq W)),some (.d (.tuple (T.map aG))),some (.d (.int thing)),some (.d (.int (max m y))),some (.d (dS p.1)),some (.d (aG p.2)),some (.d (.tuple (p.1.1.map .int++[.int p.2.tie]))),some (.d (.int y))],rfl,?_,aY,max m y,_,_,_,_,rfl,by lia,by lia⟩
      clear hz ts
      generalize p.1.1.map PyData.int++[PyData.int p.2.tie]=AA at*
      generalize p.1.1.map PyData.int=A0 at*
      generalize dS p.1=DS at*
      generalize aG p.2=DN at*
      generalize T.map aG=TT at*
      generalize aq W=WW at*
      simp? [cX,x0,sl,gc,ql,gg,ta, -bF,bF]
    · have gg:∀e:En,uO e (.d (.int thing)) (.d (.int 0))=some (.d (.bool false)):=fun e=>by
        have:decide (0≤thing)=false:=decide_eq_false c
        rw [←this];rfl
      refine⟨[some (.d (aq W)),some (.d (.tuple (T.map aG))),some (.d (.int thing)),some (.d (.int m)),some (.d (dS p.1)),some (.d (aG p.2)),v6,v7],[some (.d (aq W)),some (.d (.tuple (T.map aG))),some (.d (.int thing)),some (.d (.int (max m ((p.1.1.length:Int)+1)))),some (.d (dS p.1)),some (.d (aG p.2)),some (.d (.tuple (p.1.1.map .int++[.int p.2.tie]))),some (.d (.int ((p.1.1.length:Int)+1)))],rfl,?_,aY,max m ((p.1.1.length:Int)+1),_,_,_,_,rfl,by lia,by lia⟩
      clear hz ts ta
      generalize (p.1.1.length:Int)+1=N1 at*
      generalize p.1.1.map PyData.int++[PyData.int p.2.tie]=AA at*
      generalize p.1.1.map PyData.int=A0 at*
      generalize dS p.1=DS at*
      generalize aG p.2=DN at*
      generalize T.map aG=TT at*
      generalize aq W=WW at*
      simp? [cX,x0,sl,gc,ql,gg, -bF,bF]) ⟨0,none,none,none,none,rfl,by decide,by decide⟩
  subst he
  refine⟨m,?_,m0,m1⟩
  have hi:ik [some (.d (aq W)),some (.d (.tuple (T.map aG))),some (.d (.int thing)),some (.d (.int 0)),none,none,none,none]=some (((aE W T T.length).zip T).map qD,[],[some (.d (aq W)),some (.d (.tuple (T.map aG))),some (.d (.int thing)),some (.d (.int 0)),none,none,none,none]):=by
    rw [←hz]
    clear hz
    generalize (aE W T T.length).map dS=SS at*
    generalize T.map aG=TT at*
    generalize aq W=WW at*
    simp? [ik,ou,sM,ts]
  have hg:=fun Wl=>bU (W:=Wl) (g:=aZ (ao (af 4) (ao (af 5) aX))) (f:=cX) hi
  rw [h1] at hg
  clear hz ts hi h1
  generalize T.map aG=TT at*
  generalize aq W=WW at*
  simp? [dB,lW,hg]
def AE(d:PyData):Prop:=∃O:aM,O.Ok∧d=aq O
theorem y9{W:aM}(ok:W.Ok){a:Int}(h0:0≤a)(h1:a≤40):AE (.tuple [.int W.things,.tuple (W.ties.map aQ),.tuple (W.pat.map .int),.int a]):=⟨{W with asks:=a},⟨ok.t0,ok.t1,ok.ties,ok.len,ok.pl,ok.pat,h0,h1⟩,rfl⟩
theorem wu{W:aM}(ok:W.Ok){i:Nat}{a:Int}(hi:(i:Int) < W.things)(h0:0≤a)(h1:a≤20):AE (.tuple [.int W.things,.tuple (W.ties.map aQ),.tuple (L2.cutD (W.pat.map .int) none (some (i:Int))++[.int a]++L2.cutD (W.pat.map .int) (some ((i:Int)+1)) none),.int W.asks]):=by
  have pl:=ok.pl
  refine⟨{W with pat:=W.pat.take i++[a]++W.pat.drop (i+1)},⟨ok.t0,ok.t1,ok.ties,ok.len,?_,fun p hp=>?_,ok.a0,ok.a1⟩,?_⟩
  · show((W.pat.take i++[a]++W.pat.drop (i+1)).length:Int)=W.things
    simp only [List.length_append,List.length_take,List.length_drop,List.length_cons,List.length_nil]
    lia
  · rcases List.mem_append.mp hp with hp | hp
    · rcases List.mem_append.mp hp with hp | hp
      · exact ok.pat p (List.mem_of_mem_take hp)
      · simp at hp;subst hp;exact⟨h0,h1⟩
    · exact ok.pat p (List.mem_of_mem_drop hp)
  · rw [show((i:Int)+1)=((i+1:Nat):Int) by lia,CM,CK,←List.map_take,←List.map_drop]
    show _=PyData.tuple [.int W.things,.tuple (W.ties.map aQ),.tuple ((W.pat.take i++[a]++W.pat.drop (i+1)).map .int),.int W.asks]
    rw [List.map_append,List.map_append]
    rfl
theorem BB{W:aM}(ok:W.Ok){i:Nat}{t:oC}(ht:t.Ok W.things)(hi:i < W.ties.length):AE (.tuple [.int W.things,.tuple (L2.cutD (W.ties.map aQ) none (some (i:Int))++[aQ t]++L2.cutD (W.ties.map aQ) (some ((i:Int)+1)) none),.tuple (W.pat.map .int),.int W.asks]):=by
  have wl:=ok.len
  refine⟨{W with ties:=W.ties.take i++[t]++W.ties.drop (i+1)},⟨ok.t0,ok.t1,fun u hu=>?_,?_,ok.pl,ok.pat,ok.a0,ok.a1⟩,?_⟩
  · rcases List.mem_append.mp hu with hu | hu
    · rcases List.mem_append.mp hu with hu | hu
      · exact ok.ties u (List.mem_of_mem_take hu)
      · simp at hu;subst hu;exact ht
    · exact ok.ties u (List.mem_of_mem_drop hu)
  · show(W.ties.take i++[t]++W.ties.drop (i+1)).length≤16
    simp only [List.length_append,List.length_take,List.length_drop,List.length_cons,List.length_nil]
    lia
  · rw [show((i:Int)+1)=((i+1:Nat):Int) by lia,CM,CK,←List.map_take,←List.map_drop]
    show _=PyData.tuple [.int W.things,.tuple ((W.ties.take i++[t]++W.ties.drop (i+1)).map aQ),.tuple (W.pat.map .int),.int W.asks]
    rw [List.map_append,List.map_append]
    rfl
theorem y_{W:aM}(ok:W.Ok):AE (.tuple [.int W.things,.tuple (L2.cutD (W.ties.map aQ) none (some (-1))),.tuple (W.pat.map .int),.int W.asks]):=by
  obtain⟨ts,e,hs,hl⟩:=AU aQ W.ties none (some (-1))
  have wl:=ok.len
  exact⟨{W with ties:=ts},⟨ok.t0,ok.t1,fun u hu=>ok.ties u (hs u hu),by show ts.length≤16;lia,ok.pl,ok.pat,ok.a0,ok.a1⟩,by rw [e];rfl⟩
abbrev dI(ds:List Int)(W:aM)(T:List Nd)(v7 v8 v9 v10 v11 v12 v13 v14 v15 v16:Option Sv):En:=[some (.l (ds.map .int)),some (.d (aq W)),some (.d (.tuple (T.map aG))),some (.d (.int W.things)),some (.d (.tuple (W.ties.map aQ))),some (.d (.tuple (W.pat.map .int))),some (.d (.int W.asks)),v7,v8,v9,v10,v11,v12,v13,v14,v15,v16]
def yf(W:aM):PyData→PyData
  | .int a=>.tuple [.int W.things,.tuple (W.ties.map aQ),.tuple (W.pat.map .int),.int a]
  | _=>.none
theorem y0{ds:List Int}{W:aM}{T:List Nd}{ns:List Int}(hl:ns.length≤10){v7 v9 v10 v11 v12 v13 v14 v15 v16:Option Sv}:cT [(3,"_law_things"),(4,"_law_ties_here"),(5,"_law_patience")] 1 eL (af 3) cF ck (dI ds W T v7 (some (.l (ns.map .int))) v9 v10 v11 v12 v13 v14 v15 v16)=some (.l ((ns.map PyData.int).map (yf W)),dI ds W T v7 (some (.l (ns.map .int))) v9 v10 v11 v12 v13 v14 v15 v16):=by
  obtain⟨t1,hf1⟩:=cO (cs:=[some (.d (.int W.things)),some (.d (.tuple (W.ties.map aQ))),some (.d (.tuple (W.pat.map .int)))]) (ft:=cF) (fe:=ck) (b:=fun _=>true) (y:=yf W) (ns.map .int) none [] (fun x hx=>rfl) (fun x hx _=>by
    obtain⟨a,ha,rfl⟩:=List.mem_map.mp hx
    show ck [some (.d (.int W.things)),some (.d (.tuple (W.ties.map aQ))),some (.d (.tuple (W.pat.map .int))),some (.d (.int a))]=some (.d (.tuple [.int W.things,.tuple (W.ties.map aQ),.tuple (W.pat.map .int),.int a]),[some (.d (.int W.things)),some (.d (.tuple (W.ties.map aQ))),some (.d (.tuple (W.pat.map .int))),some (.d (.int a))])
    generalize W.ties.map aQ=TT at*
    generalize W.pat.map PyData.int=PP at*
    simp? [ck]) (by simp;lia)
  have hv:=rG (cp:=[(3,"_law_things"),(4,"_law_ties_here"),(5,"_law_patience")]) (nT:=1) (fi:=eL) (g:=af 3) (ft:=cF) (fe:=ck) (cs:=[some (.d (.int W.things)),some (.d (.tuple (W.ties.map aQ))),some (.d (.tuple (W.pat.map .int)))]) (t:=[none]) (t':=[t1]) (show eL (dI ds W T v7 (some (.l (ns.map .int))) v9 v10 v11 v12 v13 v14 v15 v16)=some (ns.map .int,[(8,ns.map .int)],dI ds W T v7 (some (.l (ns.map .int))) v9 v10 v11 v12 v13 v14 v15 v16) from rfl) rfl rfl rfl hf1
  rw [hv,List.nil_append,m6]
theorem zc{ds:List Int}{W:aM}(ok:W.Ok){T:List Nd}{S:Nat→Std}(h:dN W T S)(o:iY T)(hn:T.length≤24){L:List PyData}(hL:∀d∈L,AE d)(ll:L.length≤60){i:Nat}(hi:(i:Int) < W.things){v7 v8 v11 v12 v13 v14 v15 v16:Option Sv}:
    ∃L' w11 w12,cY (dI ds W T v7 v8 (some (.l L)) (some (.d (.int (i:Int)))) v11 v12 v13 v14 v15 v16)=some (.nx (dI ds W T v7 v8 (some (.l L')) (some (.d (.int (i:Int)))) w11 w12 v13 v14 v15 v16))∧(∀d∈L',AE d)∧L'.length=L.length+2:=by
  obtain⟨m,tm,m0,m1⟩:=Ah ok h o hn (i:Int)
  have t1:=ok.t1;have pl:=ok.pl
  have step:∀(a:Int) (L:List PyData) (v12:Option Sv),0≤a→a≤20→L.length≤70→eC (dI ds W T v7 v8 (some (.l L)) (some (.d (.int (i:Int)))) (some (.d (.int m))) (some (.d (.int a))) v13 v14 v15 v16)=some (.nx (dI ds W T v7 v8 (some (.l (L++[.tuple [.int W.things,.tuple (W.ties.map aQ),.tuple (L2.cutD (W.pat.map .int) none (some (i:Int))++[.int a]++L2.cutD (W.pat.map .int) (some ((i:Int)+1)) none),.int W.asks]]))) (some (.d (.int (i:Int)))) (some (.d (.int m))) (some (.d (.int a))) v13 v14 v15 v16)):=fun a L v12 a0 a1 hl=>by
    have lp:(W.pat.map PyData.int).length≤12:=by simp;lia
    have gc:∀(xs ys:List PyData),xs.length≤100→ys.length≤100→∀e:En,bv e (.d (.tuple xs)) (.d (.tuple ys))=some (.d (.tuple (xs++ys))):=fun xs ys h1 h2 e=>jz (by lia)
    have l1:=Nat.le_trans (L2.cut_len (xs:=W.pat.map PyData.int) (lo:=none) (hi:=some (i:Int))) lp
    have l2:=Nat.le_trans (L2.cut_len (xs:=W.pat.map PyData.int) (lo:=some ((i:Int)+1)) (hi:=none)) lp
    have ll:L.length < 1000000:=by lia
    simp only [dI]
    generalize W.pat.map PyData.int=PP at*
    have k4:=gc (L2.cutD PP none (some (i:Int))) [.int a] (by lia) (by simp)
    have k5:=gc (L2.cutD PP none (some (i:Int))++[.int a]) (L2.cutD PP (some ((i:Int)+1)) none) (by simp;lia) (by lia)
    generalize L2.cutD PP none (some (i:Int))++[.int a]++L2.cutD PP (some ((i:Int)+1)) none=E2 at*
    generalize hE4:L2.cutD PP none (some (i:Int))++[.int a]=E4 at*
    generalize hA:L2.cutD PP none (some (i:Int))=A at*
    generalize hB:L2.cutD PP (some ((i:Int)+1)) none=B at*
    generalize W.ties.map aQ=TI at*
    clear tm
    generalize T.map aG=TT at*
    generalize aq W=WW at*
    simp? [eC,hA,hB,k4,k5,ll, -bF,bF]
  have s1:=fun v12=>step m L v12 m0 (by lia) (by lia)
  have s2:=fun v12=>step (max 0 (m - 1)) (L++[.tuple [.int W.things,.tuple (W.ties.map aQ),.tuple (L2.cutD (W.pat.map .int) none (some (i:Int))++[.int m]++L2.cutD (W.pat.map .int) (some ((i:Int)+1)) none),.int W.asks]]) v12 (by lia) (by lia) (by simp;lia)
  have o1:=wu ok (i:=i) hi m0 (show m≤20 by lia)
  have o2:=wu ok (i:=i) hi (show 0≤max 0 (m - 1) by lia) (show max 0 (m - 1)≤20 by lia)
  have hi1:io (dI ds W T v7 v8 (some (.l L)) (some (.d (.int (i:Int)))) (some (.d (.int m))) v12 v13 v14 v15 v16)=some ([.int m,.int (max 0 (m - 1))],[],dI ds W T v7 v8 (some (.l L)) (some (.d (.int (i:Int)))) (some (.d (.int m))) v12 v13 v14 v15 v16):=by
    unfold io
    refine uR ?_
    simp only [dI]
    simp? [List.replicate]
  have hg:=fun Wl=>bU (W:=Wl) (g:=af 12) (f:=eC) hi1
  generalize PyData.tuple [.int W.things,.tuple (W.ties.map aQ),.tuple (L2.cutD (W.pat.map .int) none (some (i:Int))++[.int m]++L2.cutD (W.pat.map .int) (some ((i:Int)+1)) none),.int W.asks]=D1 at*
  generalize PyData.tuple [.int W.things,.tuple (W.ties.map aQ),.tuple (L2.cutD (W.pat.map .int) none (some (i:Int))++[.int (max 0 (m - 1))]++L2.cutD (W.pat.map .int) (some ((i:Int)+1)) none),.int W.asks]=D2 at*
  refine⟨L++[D1]++[D2],some (.d (.int m)),some (.d (.int (max 0 (m - 1)))),?_,fun d hd=>?_,by simp⟩
  · unfold cY
    refine(bo (e1:=dI ds W T v7 v8 (some (.l L)) (some (.d (.int (i:Int)))) (some (.d (.int m))) v12 v13 v14 v15 v16) ?_).trans ((hg _).trans ?_)
    · simp only [dI]
      clear s1 s2 hg hi1
      generalize T.map aG=TT at*
      generalize aq W=WW at*
      simp? [tm]
    · clear hg hi1 step tm
      simp only [dI] at s1 s2 ⊢
      generalize W.pat.map PyData.int=PP at*
      generalize W.ties.map aQ=TI at*
      generalize T.map aG=TT at*
      generalize aq W=WW at*
      generalize L++[D1]++[D2]=L2' at*
      generalize L++[D1]=L1 at*
      have s1:=s1 none
      have s2:=s2 none
      simp? [eZ,af,s1,s2,aY]
  · rcases List.mem_append.mp hd with hd | hd
    · rcases List.mem_append.mp hd with hd | hd
      · exact hL d hd
      · simp at hd;subst hd;exact o1
    · simp at hd;subst hd;exact o2
theorem uh{W:aM}:SeqAt.shaped (.tuple (W.ties.map aQ))=true:=(Sh.tup (n:=6) fun d hd=>by
  obtain⟨t,_,rfl⟩:=List.mem_map.mp hd
  exact Sh.tie).ok (by decide)
theorem sN{ds:List Int}{W:aM}(ok:W.Ok){T:List Nd}{S:Nat→Std}(h:dN W T S)(o:iY T)(hn:T.length≤24)(hd:iX ds):
    ∃(ds':List Int) (L:List PyData),dC [.l (ds.map .int),.d (aq W),.d (.tuple (T.map aG))]=some (.l L,[.l (ds'.map .int),.d (aq W),.d (.tuple (T.map aG))])∧iX ds'∧(∀d∈L,AE d):=by
  have t0:=ok.t0;have t1:=ok.t1;have a0:=ok.a0;have a1:=ok.a1;have wl:=ok.len
  obtain⟨m,tm,m0,m1⟩:=Ah ok h o hn (-1)
  obtain⟨ns,hns⟩:∃ns:List Int,ns=[m,max 0 (m - 1),min 40 (W.asks+1),max 0 (W.asks - 1)]:=⟨_,rfl⟩
  have nl:ns.length=4:=by rw [hns];rfl
  have nok:∀a∈ns,0≤a∧a≤40:=fun a ha=>by
    rw [hns] at ha
    simp only [List.mem_cons,List.not_mem_nil,or_false] at ha
    rcases ha with rfl | rfl | rfl | rfl<;>lia
  obtain⟨L0,hL0⟩:∃L0:List PyData,L0=(ns.map PyData.int).map (yf W):=⟨_,rfl⟩
  have l0:L0.length=4:=by rw [hL0];simp [nl]
  have o0:∀d∈L0,AE d:=fun d hd=>by
    rw [hL0] at hd
    obtain⟨x,hx,rfl⟩:=List.mem_map.mp hd
    obtain⟨a,ha,rfl⟩:=List.mem_map.mp hx
    exact y9 ok (nok a ha).1 (nok a ha).2
  have nc:=y0 (ds:=ds) (W:=W) (T:=T) (ns:=ns) (by lia) (v7:=some (.d (.int m))) (v9:=none) (v10:=none) (v11:=none) (v12:=none) (v13:=none) (v14:=none) (v15:=none) (v16:=none)
  rw [←hL0] at nc
  obtain⟨e',h1,⟨L,w10,w11,w12,he,hL,ll⟩⟩:=cv (own:=[]) (g:=af 10) (f:=cY) (fun i e=>∃L v10 v11 v12,e=dI ds W T (some (.d (.int m))) (some (.l (ns.map .int))) (some (.l L)) v10 v11 v12 none none none none∧(∀d∈L,AE d)∧L.length=4+2*i) (bz 0 W.things.toNat) 0 (dI ds W T (some (.d (.int m))) (some (.l (ns.map .int))) (some (.l L0)) none none none none none none none) (fun i x e hx ⟨L,v10,v11,v12,he,hL,ll⟩=>by
    subst he
    obtain⟨rfl,hlt⟩:=fw hx
    rw [Nat.zero_add] at*
    rw [Int.zero_add]
    obtain⟨L',w11,w12,hb,hL',ll'⟩:=zc (ds:=ds) ok h o hn hL (by lia) (i:=i) (by lia) (v7:=some (.d (.int m))) (v8:=some (.l (ns.map .int))) (v11:=v11) (v12:=v12) (v13:=none) (v14:=none) (v15:=none) (v16:=none)
    exact⟨dI ds W T (some (.d (.int m))) (some (.l (ns.map .int))) (some (.l L)) (some (.d (.int (i:Int)))) v11 v12 none none none none,_,rfl,hb,aY,L',_,_,_,rfl,hL',by lia⟩) ⟨L0,none,none,none,rfl,o0,l0⟩
  rw [Nat.zero_add,iu] at ll
  subst he
  have hi3:kr (dI ds W T (some (.d (.int m))) (some (.l (ns.map .int))) (some (.l L0)) none none none none none none none)=some (bz 0 W.things.toNat,[],dI ds W T (some (.d (.int m))) (some (.l (ns.map .int))) (some (.l L0)) none none none none none none none):=e_ (n:=W.things) (by simp only [dI];simp? [List.replicate]) (by lia) (by lia)
  have hg:=fun Wl=>bU (W:=Wl) (g:=af 10) (f:=cY) hi3
  rw [h1] at hg
  have eT:=fun e=>tK (e:=e) (neg:=true) (uh (W:=W))
  have pre:∀(R:Option Fl),(au (fF (ax (av (bw true) (ab 4) (br ah)))
    (au (a8 13 (av a9 (bW 1 a_ (aa (ab 0) ah)) (aC (g1 cV) (aa (ab 4) ah))))
    (au (a8 14 (av a9 (bW 1 a_ (aa (ab 0) ah)) (ab 3)))
    (au (a8 15 (av a9 (av bv (av bv (ab 14) (vC (.int 1))) (av a9 (bW 1 a_ (aa (ab 0) ah)) (av gw (ab 3) (vC (.int 1))))) (ab 3)))
    (au (a8 16 (av bv (br (aa (aC (g2 tM) (aa (ab 14) (aa (ab 15) ah))) (aa (aC (g2 oD) (aa (ab 14) (aa (ab 15) ah))) ah))) (lu (av dX (ab 4) (ab 13)) (bJ (vC (.int 2))) bO)))
    (au (cE (bX bg (ab 9) (aa (br (aa (ab 3) (aa (av bv (av bv (lu (ab 4) bO (bJ (ab 13))) (br (aa (ab 16) ah))) (lu (ab 4) (bJ (av bv (ab 13) (vC (.int 1)))) bO)) (aa (ab 5) (aa (ab 6) ah))))) ah)))
    (cE (bX bg (ab 9) (aa (br (aa (ab 3) (aa (lu (ab 4) bO (bJ (jW kl (vC (.int 1))))) (aa (ab 5) (aa (ab 6) ah))))) ah))))))))
    bI)
    (ba (ab 9))) (dI ds W T (some (.d (.int m))) (some (.l (ns.map .int))) (some (.l L)) w10 w11 w12 none none none none)=R→gQ ([some (.l (ds.map .int)),some (.d (aq W)),some (.d (.tuple (T.map aG)))]++List.replicate 14 none)=R:=fun R hR=>by
    rw [←hR]
    unfold gQ
    refine(bo (e1:=dI ds W T none none none none none none none none none none) ?_).trans ?_
    · simp only [dI]
      rw [dP]
      clear nc hg h1 hi3 tm eT
      generalize W.ties.map aQ=TI at*
      generalize W.pat.map PyData.int=PP at*
      generalize T.map aG=TT at*
      simp? [List.replicate]
    refine(bo (e1:=dI ds W T (some (.d (.int m))) none none none none none none none none none) ?_).trans ?_
    · simp only [dI]
      clear nc hg h1 hi3 eT
      generalize W.ties.map aQ=TI at*
      generalize W.pat.map PyData.int=PP at*
      generalize T.map aG=TT at*
      generalize aq W=WW at*
      simp? [tm]
    refine(bo (e1:=dI ds W T (some (.d (.int m))) (some (.l (ns.map .int))) none none none none none none none none) ?_).trans ?_
    · rw [hns]
      simp only [dI]
      clear nc hg h1 hi3 eT tm
      generalize W.ties.map aQ=TI at*
      generalize W.pat.map PyData.int=PP at*
      generalize T.map aG=TT at*
      generalize aq W=WW at*
      simp? [List.replicate]
    refine(bo (e1:=dI ds W T (some (.d (.int m))) (some (.l (ns.map .int))) (some (.l L0)) none none none none none none none) ?_).trans ?_
    · clear hg h1 hi3 eT tm
      simp only [dI] at nc ⊢
      generalize ns.map PyData.int=NS at*
      generalize W.ties.map aQ=TI at*
      generalize W.pat.map PyData.int=PP at*
      generalize T.map aG=TT at*
      generalize aq W=WW at*
      simp? [nc]
    exact bo (hg _)
  have fin:∀(d2:List Int) (L':List PyData) (v13 v14 v15 v16:Option Sv),gQ ([some (.l (ds.map .int)),some (.d (aq W)),some (.d (.tuple (T.map aG)))]++List.replicate 14 none)=some (.rt (.s 9) (dI d2 W T (some (.d (.int m))) (some (.l (ns.map .int))) (some (.l L')) w10 w11 w12 v13 v14 v15 v16))→dC [.l (ds.map .int),.d (aq W),.d (.tuple (T.map aG))]=some (.l L',[.l (d2.map .int),.d (aq W),.d (.tuple (T.map aG))]):=fun d2 L' v13 v14 v15 v16 hb=>by
    simp only [dI,List.replicate,List.cons_append,List.nil_append] at hb
    clear nc hg h1 hi3 eT tm pre
    generalize W.ties.map aQ=TI at*
    generalize W.pat.map PyData.int=PP at*
    generalize T.map aG=TT at*
    generalize aq W=WW at*
    simp? [dC,hb]
  by_cases c:W.ties=[]
  · refine⟨ds,L,fin ds L none none none none (pre _ ?_),hd,hL⟩
    have em:(W.ties.map aQ).isEmpty=true:=by rw [c];rfl
    rw [em] at eT
    simp only [if_true,Bool.not_true] at eT
    simp only [dI]
    clear nc hg h1 hi3 tm pre fin
    generalize W.ties.map aQ=TI at*
    generalize W.pat.map PyData.int=PP at*
    generalize T.map aG=TT at*
    generalize aq W=WW at*
    simp? [eT]
  · have pos:0 < W.ties.length:=List.length_pos_iff.mpr c
    have em:(W.ties.map aQ).isEmpty=false:=by cases hc:W.ties with | nil=>exact absurd hc c | cons _ _=>rfl
    rw [em] at eT
    simp only [if_true,Bool.not_false] at eT
    have t2:2≤W.things:=by
      have q:=ok.ties _ (List.getElem_mem pos)
      have:=q.o0;have:=q.o1;have:=q.o2
      lia
    obtain⟨n1,d1,x1, -, -,hd1⟩:=jl hd
    obtain⟨n2,d2,x2, -, -,hd2⟩:=jl hd1
    obtain⟨n3,d3,x3, -, -,hd3⟩:=jl hd2
    have g1:∀e:En,a9 e (.d (.int n1)) (.d (.int (W.ties.length:Int)))=some (.d (.int (n1 % (W.ties.length:Int)))):=fun e=>aS (by lia)
    have p0:=vV (n:=n1) (k:=(W.ties.length:Int)) (by lia);have p1:=vX (n:=n1) (k:=(W.ties.length:Int)) (by lia)
    obtain⟨at_,hat⟩:∃at_:Nat,(at_:Int)=n1 % (W.ties.length:Int):=⟨(n1 % (W.ties.length:Int)).toNat,by lia⟩
    rw [←hat] at g1 p0 p1
    have g2:∀e:En,a9 e (.d (.int n2)) (.d (.int W.things))=some (.d (.int (n2 % W.things))):=fun e=>aS (by lia)
    have q0:=vV (n:=n2) (k:=W.things) (by lia);have q1:=vX (n:=n2) (k:=W.things) (by lia)
    generalize n2 % W.things=one at*
    have g3:∀e:En,a9 e (.d (.int n3)) (.d (.int (W.things - 1)))=some (.d (.int (n3 % (W.things - 1)))):=fun e=>aS (by lia)
    have r0:=vV (n:=n3) (k:=W.things - 1) (by lia);have r1:=vX (n:=n3) (k:=W.things - 1) (by lia)
    generalize n3 % (W.things - 1)=sh at*
    have g4:∀e:En,a9 e (.d (.int (one+1+sh))) (.d (.int W.things))=some (.d (.int ((one+1+sh) % W.things))):=fun e=>aS (by lia)
    obtain⟨oth,ho,ho0,ho1,hne⟩:∃oth:Int,(one+1+sh) % W.things=oth∧0≤oth∧oth < W.things∧oth≠one:=by
      refine⟨_,rfl,Int.emod_nonneg _ (by lia),Int.emod_lt_of_pos _ (by lia),?_⟩
      by_cases z:one+1+sh < W.things
      · rw [Int.emod_eq_of_lt (by lia) z];lia
      · have:(one+1+sh) % W.things=(one+1+sh - W.things) % W.things:=by rw [Int.sub_emod,Int.emod_self,Int.sub_zero,Int.emod_emod_of_dvd _ (Int.dvd_refl _)]
        rw [this,Int.emod_eq_of_lt (by lia) (by lia)]
        lia
    rw [ho] at g4
    have al:at_ < W.ties.length:=by lia
    have ai:=j5 (W:=W) (k:=(at_:Int)) ⟨p0,p1⟩
    have tk:=ok.ties (W.tie (at_:Int)) (List.mem_of_getElem? (jO.get (W:=W) (k:=(at_:Int)) ⟨p0,p1⟩))
    obtain⟨tn,htn⟩:∃tn:oC,tn=⟨min one oth,max one oth,(W.tie (at_:Int)).top,(W.tie (at_:Int)).bot,(W.tie (at_:Int)).worth⟩:=⟨_,rfl⟩
    have tnok:tn.Ok W.things:=by
      rw [htn]
      exact⟨by show 0≤min one oth;lia,by show min one oth < max one oth;lia,by show max one oth < W.things;lia,tk.c0,tk.c1,tk.b0,tk.b1,tk.w0,tk.w1,tk.cop⟩
    have ot:=BB ok tnok al
    have ol:=y_ ok
    have lt16:(W.ties.map aQ).length≤16:=by simpa using wl
    have gc:∀(xs ys:List PyData),xs.length≤100→ys.length≤100→∀e:En,bv e (.d (.tuple xs)) (.d (.tuple ys))=some (.d (.tuple (xs++ys))):=fun xs ys h1 h2 e=>jz (by lia)
    have l1:=Nat.le_trans (L2.cut_len (xs:=W.ties.map aQ) (lo:=none) (hi:=some (at_:Int))) lt16
    have l2:=Nat.le_trans (L2.cut_len (xs:=W.ties.map aQ) (lo:=some ((at_:Int)+1)) (hi:=none)) lt16
    have k4:=gc (L2.cutD (W.ties.map aQ) none (some (at_:Int))) [aQ tn] (by lia) (by simp)
    have k5:=gc (L2.cutD (W.ties.map aQ) none (some (at_:Int))++[aQ tn]) (L2.cutD (W.ties.map aQ) (some ((at_:Int)+1)) none) (by simp;lia) (by lia)
    have cut2:L2.cutD [PyData.int (W.tie (at_:Int)).one,.int (W.tie (at_:Int)).other,.tuple [.int (W.tie (at_:Int)).top,.int (W.tie (at_:Int)).bot],.int (W.tie (at_:Int)).worth] (some 2) none=[.tuple [.int (W.tie (at_:Int)).top,.int (W.tie (at_:Int)).bot],.int (W.tie (at_:Int)).worth]:=rfl
    have k6:∀e:En,bv e (.d (.tuple [.int (min one oth),.int (max one oth)])) (.d (.tuple [.tuple [.int (W.tie (at_:Int)).top,.int (W.tie (at_:Int)).bot],.int (W.tie (at_:Int)).worth]))=some (.d (aQ tn)):=fun e=>by
      rw [gc _ _ (by simp) (by simp),htn]
      rfl
    have sl2:∀e:En,A8 e (.d (aQ (W.tie (at_:Int)))) (some 2) none=some (.d (.tuple [.tuple [.int (W.tie (at_:Int)).top,.int (W.tie (at_:Int)).bot],.int (W.tie (at_:Int)).worth])):=fun e=>rfl
    have ql:((W.ties.map aQ).length:Int)=(W.ties.length:Int):=by simp
    have ll2:L.length < 1000000:=by lia
    have ll3:L.length+1 < 1000000:=by lia
    generalize hD1:L2.cutD (W.ties.map aQ) none (some (at_:Int))++[aQ tn]++L2.cutD (W.ties.map aQ) (some ((at_:Int)+1)) none=E1 at*
    refine⟨d3,L++[.tuple [.int W.things,.tuple E1,.tuple (W.pat.map .int),.int W.asks]]++[.tuple [.int W.things,.tuple (L2.cutD (W.ties.map aQ) none (some (-1))),.tuple (W.pat.map .int),.int W.asks]],fin d3 _ (some (.d (.int (at_:Int)))) (some (.d (.int one))) (some (.d (.int oth))) (some (.d (aQ tn))) (pre _ ?_),hd3,fun d hd=>?_⟩
    · clear nc hg h1 hi3 tm pre fin hL ot ol
      generalize hE4:L2.cutD (W.ties.map aQ) none (some (at_:Int))++[aQ tn]=E4 at*
      generalize hA:L2.cutD (W.ties.map aQ) none (some (at_:Int))=A at*
      generalize hB:L2.cutD (W.ties.map aQ) (some ((at_:Int)+1)) none=B at*
      generalize hC:L2.cutD (W.ties.map aQ) none (some (-1))=C at*
      generalize aQ tn=TN at*
      generalize aQ (W.tie (at_:Int))=TA at*
      generalize hP:(PyData.tuple [.int (W.tie (at_:Int)).top,.int (W.tie (at_:Int)).bot])=CP at*
      generalize (W.tie (at_:Int)).worth=CW at*
      simp only [dI]
      generalize W.ties.map aQ=TI at*
      generalize W.pat.map PyData.int=PP at*
      generalize T.map aG=TT at*
      generalize aq W=WW at*
      generalize (W.ties.length:Int)=TL at*
      simp? [eT,x1,x2,x3,ql,g1,g2,g3,g4,ai,sl2,k4,k5,k6,hA,hB,hC,ll2,ll3, -bF,bF]
    · rcases List.mem_append.mp hd with hd | hd
      · rcases List.mem_append.mp hd with hd | hd
        · exact hL d hd
        · simp at hd;subst hd;exact ot
      · simp at hd;subst hd;exact ol
theorem Af{W:aM}(ok:W.Ok):∃O:aM,iq [.d (aq W)]=some (.d (aq O),[.d (aq W)])∧O.Ok:=by
  have t0:=ok.t0;have t1:=ok.t1
  refine⟨⟨W.things,W.ties,List.replicate W.things.toNat 20,40⟩,?_,⟨ok.t0,ok.t1,ok.ties,ok.len,by show((List.replicate W.things.toNat (20:Int)).length:Int)=W.things;rw [List.length_replicate];lia,fun p hp=>by rw [(List.mem_replicate.mp hp).2];decide,by show(0:Int)≤40;decide,by show(40:Int)≤40;decide⟩⟩
  have rep:∀e:En,gy e (.d (.tuple [.int 20])) (.d (.int W.things))=some (.d (.tuple ((List.replicate W.things.toNat (20:Int)).map .int))):=fun e=>by rw [Dw t0 (by lia),List.map_replicate]
  rw [dP ⟨W.things,W.ties,List.replicate W.things.toNat 20,40⟩]
  show iq [.d (aq W)]=some (.d (.tuple [.int W.things,.tuple (W.ties.map aQ),.tuple ((List.replicate W.things.toNat (20:Int)).map .int),.int 40]),[.d (aq W)])
  rw [dP W]
  generalize (List.replicate W.things.toNat (20:Int)).map PyData.int=RR at*
  generalize W.ties.map aQ=TI at*
  generalize W.pat.map PyData.int=PP at*
  simp? [iq,sV,rep]
inductive LI (ns:List Int):En→Prop
  | mk {ds v2 v3 v4 v5} (hd:iX ds):LI ns [some (.d (.list (ns.map .int))),some (.l (ds.map .int)),v2,v3,v4,v5]
theorem EK{ns ds:List Int}{W:aM}(ok:W.Ok){v2 v4 v5:Option Sv}(hd:iX ds):∃e2,(au (a8 4 (bW 2 dD (aa (ab 1) (aa (bW 3 k_ (aa (ab 1) (aa (ab 3) (aa (av bv (vC (.int 1)) (av a9 (bW 1 a_ (aa (ab 1) ah)) (vC (.int 24)))) ah)))) ah))))
    (au (fF (oX (ax (av pd (bW 2 er (aa (ab 3) (aa (ab 4) ah))) (vC (.bool true)))) (gG (ax (bW 2 dA (aa (ab 3) (aa (ab 4) ah))))))
    (ba (vC (.bool false)))
    bI)
    (dm ([5]++([]++[])) G3 (af 5) Fu))) [some (.d (.list (ns.map .int))),some (.l (ds.map .int)),v2,some (.d (aq W)),v4,v5]=some (.nx e2)∧LI ns e2:=by
  obtain⟨n1,d1,x1, -, -,hd1⟩:=jl hd
  have g1:∀e:En,a9 e (.d (.int n1)) (.d (.int 24))=some (.d (.int (n1 % 24))):=fun e=>aS (by decide)
  have p0:=vV (n:=n1) (k:=24) (by decide);have p1:=vX (n:=n1) (k:=24) (by decide)
  generalize n1 % 24=q at*
  obtain⟨d2,T0,S0,tg,hd2,h0,l0,u0,r0⟩:=Cd ok (most:=1+q) hd1 (by lia) (by lia)
  obtain⟨d3,T,S,tr,hd3,h,lT,o,t,lt,rt⟩:=sO ok hd2 h0 (by lia) u0 r0
  have hn:T.length≤24:=by lia
  have i1:=rD ok ok h o t hn
  have i2:=rB ok ok h o t hn
  rw [Ba h o t rt] at i1 i2
  obtain⟨d4,L,tw,hd4,hL⟩:=sN ok h o hn hd3
  obtain⟨e3,h3,⟨w5,he3⟩⟩:=cv (own:=[]) (g:=af 5) (f:=Fu) (fun i e=>∃v5,e=[some (.d (.list (ns.map .int))),some (.l (d4.map .int)),v2,some (.d (aq W)),some (.d (.tuple (T.map aG))),v5]) L 0 [some (.d (.list (ns.map .int))),some (.l (d4.map .int)),v2,some (.d (aq W)),some (.d (.tuple (T.map aG))),v5] (fun i y e hy ⟨v5,he⟩=>by
    subst he
    obtain⟨O,okO,rfl⟩:=hL y (List.mem_of_getElem? hy)
    have j1:=rD ok okO h o t hn
    have j2:=rB ok okO h o t hn
    have j3:=EV (A_ O T) (A_ O T)
    rw [beq_self_eq_true] at j3
    refine⟨[some (.d (.list (ns.map .int))),some (.l (d4.map .int)),v2,some (.d (aq W)),some (.d (.tuple (T.map aG))),some (.d (aq O))],[some (.d (.list (ns.map .int))),some (.l (d4.map .int)),v2,some (.d (aq W)),some (.d (.tuple (T.map aG))),some (.d (aq O))],rfl,?_,aY,_,rfl⟩
    generalize A_ O T=bb at*
    clear i1 i2 tw tr tg
    generalize T.map aG=TT at*
    generalize aq O=OO at*
    generalize aq W=WW at*
    simp? [Fu,j1,j2,j3]) ⟨v5,rfl⟩
  subst he3
  have hi:G3 [some (.d (.list (ns.map .int))),some (.l (d3.map .int)),v2,some (.d (aq W)),some (.d (.tuple (T.map aG))),v5]=some (L,[],[some (.d (.list (ns.map .int))),some (.l (d4.map .int)),v2,some (.d (aq W)),some (.d (.tuple (T.map aG))),v5]):=by
    unfold G3
    refine uR ?_
    clear i1 i2 tr tg h3
    generalize T.map aG=TT at*
    generalize aq W=WW at*
    simp? [tw]
  have hg:=fun Wl=>bU (W:=Wl) (g:=af 5) (f:=Fu) hi
  rw [h3] at hg
  have gb:∀e:En,pd e (.d (.bool true)) (.d (.bool true))=some (.d (.bool false)):=fun e=>rfl
  refine⟨[some (.d (.list (ns.map .int))),some (.l (d4.map .int)),v2,some (.d (aq W)),some (.d (.tuple (T.map aG))),w5],?_,.mk hd4⟩
  refine(bo (e1:=[some (.d (.list (ns.map .int))),some (.l (d3.map .int)),v2,some (.d (aq W)),some (.d (.tuple (T.map aG))),v5]) ?_).trans ?_
  · clear i1 i2 tw hi hg h3
    generalize T.map aG=TT at*
    generalize T0.map aG=TT0 at*
    generalize aq W=WW at*
    simp? [x1,g1,tg,tr]
  refine(bo (e1:=[some (.d (.list (ns.map .int))),some (.l (d3.map .int)),v2,some (.d (aq W)),some (.d (.tuple (T.map aG))),v5]) ?_).trans ?_
  · clear tw hi hg h3 tr tg
    generalize T.map aG=TT at*
    generalize aq W=WW at*
    simp? [i1,i2,gb]
  exact hg _
theorem yM{ns ds:List Int}{v2 v3 v4 v5:Option Sv}(hd:iX ds):∃e2,Fg [some (.d (.list (ns.map .int))),some (.l (ds.map .int)),v2,v3,v4,v5]=some (.nx e2)∧LI ns e2:=by
  obtain⟨W,d1,tw,hd1,ok, -, -⟩:=GU ds 12 16 hd (by decide) (by decide) (by decide) (by decide)
  have g1':=Hh (W:=W)
  have eT:=fun e=>tK (e:=e) (neg:=true) (uh (W:=W))
  have go:∀(d2:List Int) (O:aM),iX d2→O.Ok→(∀v2 v4 v5:Option Sv,(fF (jK (ax (av (bw true) (av dX (ab 3) (vC (.int 1))) (br ah))) (ax (av (bw false) (av a9 (bW 1 a_ (aa (ab 1) ah)) (vC (.int 2))) (vC (.int 0)))))
    (a8 3 (bW 1 iq (aa (ab 3) ah)))
    bI) [some (.d (.list (ns.map .int))),some (.l (d1.map .int)),v2,some (.d (aq W)),v4,v5]=some (.nx [some (.d (.list (ns.map .int))),some (.l (d2.map .int)),v2,some (.d (aq O)),v4,v5]))→∃e2,Fg [some (.d (.list (ns.map .int))),some (.l (ds.map .int)),v2,v3,v4,v5]=some (.nx e2)∧LI ns e2:=fun d2 O hd2 okO hs=>by
    obtain⟨e2,k1,k2⟩:=EK (ns:=ns) okO (v2:=v2) (v4:=v4) (v5:=v5) hd2
    refine⟨e2,?_,k2⟩
    unfold Fg
    refine(bo (e1:=[some (.d (.list (ns.map .int))),some (.l (d1.map .int)),v2,some (.d (aq W)),v4,v5]) ?_).trans ((bo (hs v2 v4 v5)).trans k1)
    clear hs eT g1'
    generalize aq W=WW at*
    simp? [tw]
  cases em:(W.ties.map aQ).isEmpty with
  | true=>
    rw [em] at eT
    simp only [if_true,Bool.not_true] at eT
    refine go d1 W hd1 ok fun v2 v4 v5=>?_
    clear em
    generalize W.ties.map aQ=TI at*
    clear tw go
    generalize aq W=WW at*
    simp? [g1',eT]
  | false=>
    rw [em] at eT
    simp only [if_true,Bool.not_false] at eT
    obtain⟨n1,d2,x1, -, -,hd2⟩:=jl hd1
    have g2':∀e:En,a9 e (.d (.int n1)) (.d (.int 2))=some (.d (.int (n1 % 2))):=fun e=>aS (by decide)
    obtain⟨O,te,okO⟩:=Af ok
    by_cases c:n1 % 2=0
    · have ge:∀e:En,bw false e (.d (.int (n1 % 2))) (.d (.int 0))=some (.d (.bool true)):=fun e=>by rw [cS];simp [c]
      refine go d2 O hd2 okO fun v2 v4 v5=>?_
      clear em c
      generalize n1 % 2=nm at*
      generalize W.ties.map aQ=TI at*
      clear tw go
      generalize aq W=WW at*
      generalize aq O=OO at*
      simp? [g1',eT,x1,g2',ge,te]
    · have ge:∀e:En,bw false e (.d (.int (n1 % 2))) (.d (.int 0))=some (.d (.bool false)):=fun e=>by rw [cS];simp [c]
      refine go d2 W hd2 ok fun v2 v4 v5=>?_
      clear em c te
      generalize n1 % 2=nm at*
      generalize W.ties.map aQ=TI at*
      clear tw go
      generalize aq W=WW at*
      simp? [g1',eT,x1,g2',ge]
theorem yL(ns:List Int)(hl:ns.length≤63):∃as',pK [.d (.list (ns.map .int))]=some (.d (.bool true),as'):=by
  obtain⟨ds,td,hd⟩:=Cc ns hl
  obtain⟨e2,h1,hI⟩:=cv (own:=[]) (g:=af 2) (f:=Fg) (fun _=>LI ns) (bz 0 3) 0 [some (.d (.list (ns.map .int))),some (.l (ds.map .int)),none,none,none,none] (fun i x e hx hI=>by
    obtain⟨hd⟩:=hI
    rename_i ds v2 v3 v4 v5
    obtain⟨e2,k1,k2⟩:=yM (ns:=ns) (v2:=some (.d x)) (v3:=v3) (v4:=v4) (v5:=v5) hd
    exact⟨_,e2,rfl,k1,aY,k2⟩) (.mk hd)
  obtain⟨hd2⟩:=hI
  rename_i ds2 v2 v3 v4 v5
  have hfor:=fun Wl=>bU (W:=Wl) (g:=af 2) (f:=Fg) (show HR [some (.d (.list (ns.map .int))),some (.l (ds.map .int)),none,none,none,none]=some (bz 0 3,[],[some (.d (.list (ns.map .int))),some (.l (ds.map .int)),none,none,none,none]) from rfl)
  rw [h1] at hfor
  simp? [pK,CH,td,hfor]
def kE(P:Params)(k:Str)(t:Tok)(v:Value):DictEntry:=⟨PyData.keyHash P k,.str k t,v⟩
def kF(n:Str)(s:Stmt)(doc pm:Value)(c:Addr):Obj:=⟨.type "function",none,.func (W.fnOf n n (eG s) (dw s) (am s) .none .none doc pm none (.ref c) .none),#[]⟩
def kI(n:Int):Value:=.int n 0
def kC(n:Str)(a:Nat)(l:List Value)(z:Nat):Obj:=⟨.type "code",none,.fields (Value.str n a::Value.str n (a+1)::Value.str "/claim/cut.py" (a+2)::l++[Value.str "/claim/cut.py" z]).toArray,#[]⟩
def kT(l:List Value)(n:Nat):Obj:=⟨.type "tuple",none,.seq l.toArray n,#[]⟩
def Fh:Value:=.str "askedpairs.forms" 187
def AB:Value:=.str "askedpairs.stands" 213
def yc:Value:=.str "askedpairs.trees" 259
def gB:Value:=.str "law_askedpairs_k14_trees_in_other_webs" 312
def kK(P:Params):W.Frag:=[(3,⟨.type "dict",none,.dict (List.toArray [kE P "__name__" 165 (.str "law_askedpairs_k14_trees_in_other_webs" 312),kE P "__doc__" 166 (.none),kE P "__package__" 167 (.none),kE P "__loader__" 168 (.builtin "__main__.__loader__#opaque"),kE P "__spec__" 169 (.none),kE P "__annotations__" 170 (.ref 6),kE P "__builtins__" 171 (.ref 4),kE P "__file__" 173 (.str "/claim/cut.py" 172),kE P "__cached__" 174 (.none),kE P "is_number" 195 (.ref 21),kE P "is_number_within" 204 (.ref 28),kE P "is_row_of" 212 (.ref 35),kE P "FIRST_STAND" 215 (.ref 38),kE P "things_of" 223 (.ref 45),kE P "many_asks" 229 (.ref 50),kE P "bears_one_more" 240 (.ref 57),kE P "may_ask" 246 (.ref 62),kE P "stand_behind" 258 (.ref 69),kE P "MOST_NODES" 262 (.int (300) 261),kE P "END" 265 (.int (-1) 264),kE P "is_link" 274 (.ref 76),kE P "is_node" 287 (.ref 83),kE P "is_told_once" 293 (.ref 88),kE P "is_tree_form" 299 (.ref 93),kE P "is_tree" 305 (.ref 98),kE P "stands_of" 311 (.ref 103),kE P "_law_mixed" 322 (.ref 110),kE P "_law_draws" 333 (.ref 117),kE P "_law_next" 340 (.ref 124),kE P "_law_gcd" 348 (.ref 131),kE P "_law_low" 357 (.ref 138),kE P "_law_says" 365 (.ref 145),kE P "_law_chance" 374 (.ref 152),kE P "_law_worth" 382 (.ref 159),kE P "_law_ties" 401 (.ref 166),kE P "_law_web" 417 (.ref 173),kE P "_law_enough" 428 (.ref 180),kE P "_law_asks_of" 434 (.ref 185),kE P "_law_may" 446 (.ref 192),kE P "_law_behind" 459 (.ref 199),kE P "_law_askable" 465 (.ref 204),kE P "_law_grown" 471 (.ref 209),kE P "_law_is_tie" 479 (.ref 216),kE P "_law_are_links" 489 (.ref 223),kE P "_law_are_nodes" 501 (.ref 230),kE P "_law_stands" 514 (.ref 237),kE P "_law_is_tree" 524 (.ref 244),kE P "_law_renumbered" 530 (.ref 249),kE P "_law_most_asked" 544 (.ref 256),kE P "_law_other_webs" 550 (.ref 261),kE P "law" 562 (.ref 268)]) 51,#[]⟩),
  (21,kF "is_number" eu (.none) Fh 20),
  (20,kC "is_number" 189 [kI 2,kI 1,kI 0,kI 0,kI 3,.ref 15,.bool true,kI 181,.ref 16,.none,.ref 17,.ref 18,.ref 19,kI 193,kI 2] 194),
  (28,kF "is_number_within" bQ (.none) Fh 27),
  (27,kC "is_number_within" 196 [kI 4,kI 3,kI 0,kI 0,kI 3,.ref 22,.bool true,kI 181,.ref 23,.none,.ref 24,.ref 25,.ref 26,kI 202,kI 4] 203),
  (35,kF "is_row_of" gu (.none) Fh 34),
  (34,kC "is_row_of" 205 [kI 6,kI 2,kI 0,kI 0,kI 3,.ref 29,.bool true,kI 181,.ref 30,.none,.ref 31,.ref 32,.ref 33,kI 210,kI 6] 211),
  (45,kF "things_of" dq (.none) AB 44),
  (44,kC "things_of" 216 [kI 10,kI 2,kI 0,kI 0,kI 3,.ref 39,.bool true,kI 181,.ref 40,.none,.ref 41,.ref 42,.ref 43,kI 221,kI 10] 222),
  (50,kF "many_asks" ey (.none) AB 49),
  (49,kC "many_asks" 224 [kI 12,kI 3,kI 0,kI 0,kI 3,.ref 46,.bool true,kI 181,.ref 47,.none,.none,.none,.ref 48,kI 227,kI 12] 228),
  (57,kF "bears_one_more" cA (.none) AB 56),
  (56,kC "bears_one_more" 230 [kI 14,kI 3,kI 0,kI 0,kI 3,.ref 51,.bool true,kI 181,.ref 52,.none,.ref 53,.ref 54,.ref 55,kI 238,kI 14] 239),
  (62,kF "may_ask" h9 (.none) AB 61),
  (61,kC "may_ask" 241 [kI 17,kI 3,kI 0,kI 0,kI 3,.ref 58,.bool true,kI 181,.ref 59,.none,.none,.none,.ref 60,kI 244,kI 17] 245),
  (69,kF "stand_behind" dn (.none) AB 68),
  (68,kC "stand_behind" 247 [kI 22,kI 4,kI 0,kI 0,kI 3,.ref 63,.bool true,kI 181,.ref 64,.none,.ref 65,.ref 66,.ref 67,kI 256,kI 22] 257),
  (76,kF "is_link" jh (.none) yc 75),
  (75,kC "is_link" 266 [kI 30,kI 3,kI 0,kI 0,kI 3,.ref 70,.bool true,kI 181,.ref 71,.none,.ref 72,.ref 73,.ref 74,kI 272,kI 30] 273),
  (83,kF "is_node" ji (.none) yc 82),
  (82,kC "is_node" 275 [kI 32,kI 4,kI 0,kI 0,kI 3,.ref 77,.bool true,kI 181,.ref 78,.none,.ref 79,.ref 80,.ref 81,kI 285,kI 32] 286),
  (88,kF "is_told_once" cB (.none) yc 87),
  (87,kC "is_told_once" 288 [kI 37,kI 1,kI 0,kI 0,kI 3,.ref 84,.bool true,kI 181,.ref 85,.none,.none,.none,.ref 86,kI 291,kI 37] 292),
  (93,kF "is_tree_form" cC (.none) yc 92),
  (92,kC "is_tree_form" 294 [kI 40,kI 2,kI 0,kI 0,kI 3,.ref 89,.bool true,kI 181,.ref 90,.none,.none,.none,.ref 91,kI 297,kI 40] 298),
  (98,kF "is_tree" h8 (.none) yc 97),
  (97,kC "is_tree" 300 [kI 46,kI 2,kI 0,kI 0,kI 3,.ref 94,.bool true,kI 181,.ref 95,.none,.none,.none,.ref 96,kI 303,kI 46] 304),
  (103,kF "stands_of" eA (.none) yc 102),
  (102,kC "stands_of" 306 [kI 50,kI 2,kI 0,kI 0,kI 3,.ref 99,.bool true,kI 181,.ref 100,.none,.none,.none,.ref 101,kI 309,kI 50] 310),
  (110,kF "_law_mixed" mI (.none) gB 109),
  (109,kC "_law_mixed" 314 [kI 58,kI 2,kI 0,kI 0,kI 3,.ref 104,.bool true,kI 181,.ref 105,.none,.ref 106,.ref 107,.ref 108,kI 320,kI 58] 321),
  (117,kF "_law_draws" mH (.none) gB 116),
  (116,kC "_law_draws" 323 [kI 61,kI 1,kI 0,kI 0,kI 3,.ref 111,.bool true,kI 181,.ref 112,.none,.ref 113,.ref 114,.ref 115,kI 331,kI 61] 332),
  (124,kF "_law_next" iU (.none) gB 123),
  (123,kC "_law_next" 334 [kI 74,kI 1,kI 0,kI 0,kI 3,.ref 118,.bool true,kI 181,.ref 119,.none,.ref 120,.ref 121,.ref 122,kI 338,kI 74] 339),
  (131,kF "_law_gcd" tZ (.none) gB 130),
  (130,kC "_law_gcd" 341 [kI 78,kI 2,kI 0,kI 0,kI 3,.ref 125,.bool true,kI 181,.ref 126,.none,.ref 127,.ref 128,.ref 129,kI 346,kI 78] 347),
  (138,kF "_law_low" t9 (.none) gB 137),
  (137,kC "_law_low" 349 [kI 82,kI 2,kI 0,kI 0,kI 3,.ref 132,.bool true,kI 181,.ref 133,.none,.ref 134,.ref 135,.ref 136,kI 355,kI 82] 356),
  (145,kF "_law_says" pT (.none) gB 144),
  (144,kC "_law_says" 358 [kI 85,kI 2,kI 0,kI 0,kI 3,.ref 139,.bool true,kI 181,.ref 140,.none,.ref 141,.ref 142,.ref 143,kI 363,kI 85] 364),
  (152,kF "_law_chance" kN (.none) gB 151),
  (151,kC "_law_chance" 366 [kI 89,kI 2,kI 0,kI 0,kI 3,.ref 146,.bool true,kI 181,.ref 147,.none,.ref 148,.ref 149,.ref 150,kI 372,kI 89] 373),
  (159,kF "_law_worth" mJ (.none) gB 158),
  (158,kC "_law_worth" 375 [kI 99,kI 2,kI 0,kI 0,kI 3,.ref 153,.bool true,kI 181,.ref 154,.none,.ref 155,.ref 156,.ref 157,kI 380,kI 99] 381),
  (166,kF "_law_ties" pU (.none) gB 165),
  (165,kC "_law_ties" 383 [kI 101,kI 3,kI 0,kI 0,kI 3,.ref 160,.bool true,kI 181,.ref 161,.none,.ref 162,.ref 163,.ref 164,kI 399,kI 101] 400),
  (173,kF "_law_web" t_ (.none) gB 172),
  (172,kC "_law_web" 402 [kI 116,kI 3,kI 0,kI 0,kI 3,.ref 167,.bool true,kI 181,.ref 168,.none,.ref 169,.ref 170,.ref 171,kI 415,kI 116] 416),
  (180,kF "_law_enough" kO (.none) gB 179),
  (179,kC "_law_enough" 418 [kI 126,kI 1,kI 0,kI 0,kI 3,.ref 174,.bool true,kI 181,.ref 175,.none,.ref 176,.ref 177,.ref 178,kI 426,kI 126] 427),
  (185,kF "_law_asks_of" fx (.none) gB 184),
  (184,kC "_law_asks_of" 429 [kI 129,kI 3,kI 0,kI 0,kI 3,.ref 181,.bool true,kI 181,.ref 182,.none,.none,.none,.ref 183,kI 432,kI 129] 433),
  (192,kF "_law_may" rd (.none) gB 191),
  (191,kC "_law_may" 435 [kI 131,kI 3,kI 0,kI 0,kI 3,.ref 186,.bool true,kI 181,.ref 187,.none,.ref 188,.ref 189,.ref 190,kI 444,kI 131] 445),
  (199,kF "_law_behind" je (.none) gB 198),
  (198,kC "_law_behind" 447 [kI 139,kI 4,kI 0,kI 0,kI 3,.ref 193,.bool true,kI 181,.ref 194,.none,.ref 195,.ref 196,.ref 197,kI 457,kI 139] 458),
  (204,kF "_law_askable" hX (.none) gB 203),
  (203,kC "_law_askable" 460 [kI 145,kI 2,kI 0,kI 0,kI 3,.ref 200,.bool true,kI 181,.ref 201,.none,.none,.none,.ref 202,kI 463,kI 145] 464),
  (209,kF "_law_grown" lc (.none) gB 208),
  (208,kC "_law_grown" 466 [kI 147,kI 3,kI 0,kI 0,kI 3,.ref 205,.bool true,kI 181,.ref 206,.none,.none,.none,.ref 207,kI 469,kI 147] 470),
  (216,kF "_law_is_tie" kP (.none) gB 215),
  (215,kC "_law_is_tie" 472 [kI 162,kI 2,kI 0,kI 0,kI 3,.ref 210,.bool true,kI 181,.ref 211,.none,.ref 212,.ref 213,.ref 214,kI 477,kI 162] 478),
  (223,kF "_law_are_links" gp (.none) gB 222),
  (222,kC "_law_are_links" 480 [kI 164,kI 3,kI 0,kI 0,kI 3,.ref 217,.bool true,kI 181,.ref 218,.none,.ref 219,.ref 220,.ref 221,kI 487,kI 164] 488),
  (230,kF "_law_are_nodes" gq (.none) gB 229),
  (229,kC "_law_are_nodes" 490 [kI 171,kI 2,kI 0,kI 0,kI 3,.ref 224,.bool true,kI 181,.ref 225,.none,.ref 226,.ref 227,.ref 228,kI 499,kI 171] 500),
  (237,kF "_law_stands" jg (.none) gB 236),
  (236,kC "_law_stands" 502 [kI 184,kI 2,kI 0,kI 0,kI 3,.ref 231,.bool true,kI 181,.ref 232,.none,.ref 233,.ref 234,.ref 235,kI 512,kI 184] 513),
  (244,kF "_law_is_tree" jf (.none) gB 243),
  (243,kC "_law_is_tree" 515 [kI 191,kI 2,kI 0,kI 0,kI 3,.ref 238,.bool true,kI 181,.ref 239,.none,.ref 240,.ref 241,.ref 242,kI 522,kI 191] 523),
  (249,kF "_law_renumbered" cJ (.none) gB 248),
  (248,kC "_law_renumbered" 525 [kI 198,kI 2,kI 0,kI 0,kI 3,.ref 245,.bool true,kI 181,.ref 246,.none,.none,.none,.ref 247,kI 528,kI 198] 529),
  (256,kF "_law_most_asked" eP (.none) gB 255),
  (255,kC "_law_most_asked" 531 [kI 208,kI 3,kI 0,kI 0,kI 3,.ref 250,.bool true,kI 181,.ref 251,.none,.ref 252,.ref 253,.ref 254,kI 542,kI 208] 543),
  (261,kF "_law_other_webs" dH (.none) gB 260),
  (260,kC "_law_other_webs" 545 [kI 217,kI 3,kI 0,kI 0,kI 3,.ref 257,.bool true,kI 181,.ref 258,.none,.none,.none,.ref 259,kI 548,kI 217] 549),
  (268,kF "law" pW (.none) gB 267),
  (267,kC "law" 551 [kI 234,kI 1,kI 0,kI 0,kI 3,.ref 262,.bool true,kI 181,.ref 263,.none,.ref 264,.ref 265,.ref 266,kI 560,kI 234] 561),
  (38,kT [.ref 36,.ref 37] 0),
  (36,kT [] 0),
  (37,kT [] 0)]
def kA:List Addr:=[3,21,20,28,27,35,34,45,44,50,49,57,56,62,61,69,68,76,75,83,82,88,87,93,92,98,97,103,102,110,109,117,116,124,123,131,130,138,137,145,144,152,151,159,158,166,165,173,172,180,179,185,184,192,191,199,198,204,203,209,208,216,215,223,222,230,229,237,236,244,243,249,248,256,255,261,260,268,267,38,36,37]
def kq:Program:={PySem.Challenge.pw_askedpairs_k14_trees_in_other_webs with main:={PySem.Challenge.pw_askedpairs_k14_trees_in_other_webs.main with body:=[top 1,top 2,top 3,top 5,top 6,top 7,top 8,top 9,top 10,top 12,top 13,top 14,top 15,top 16,top 17,top 18,top 19,top 21,top 22,top 23,top 24,top 25,top 26,top 27,top 28,top 29,top 30,top 31,top 32,top 33,top 34,top 35,top 36,top 37,top 38,top 39,top 40,top 41,top 42,top 43,top 44,top 45]}}
def kH:W.Hook:=W.kHook kK kA (fun _=>by kernel_rfl)
theorem left:W.LeftO PySem.Challenge.pw_askedpairs_k14_trees_in_other_webs kq [] (fun s=>W.xlAt kq [] s&&W.recOk (W.RowW.records (W.OpenRow.toRowW (W.OpenLaw.row PySem.Challenge.rw_askedpairs_k14_trees_in_other_webs))) s) (W.Hook.obs kH) (W.Hook.val kH) 2668:=fun w=>by kernel_rfl
theorem Fi{P:List Value→Prop}(h:∀a0,P [a0]):∀us:List Value,us.length=1→P us:=fun us e=>match us,e with | [a0],_=>h a0
theorem tO{P:List Value→Prop}(h:∀a0 a1,P [a0,a1]):∀us:List Value,us.length=2→P us:=fun us e=>match us,e with | [a0,a1],_=>h a0 a1
theorem xm{P:List Value→Prop}(h:∀a0 a1 a2,P [a0,a1,a2]):∀us:List Value,us.length=3→P us:=fun us e=>match us,e with | [a0,a1,a2],_=>h a0 a1 a2
theorem Hr{P:List Value→Prop}(h:∀a0 a1 a2 a3,P [a0,a1,a2,a3]):∀us:List Value,us.length=4→P us:=fun us e=>match us,e with | [a0,a1,a2,a3],_=>h a0 a1 a2 a3
theorem hm{w:World}{h:Heap}{mg:Str→Option Value}{n:Str}{s:Stmt}{a:Addr}{ps:List Str}(c:Addr)(d p:Value)(X:(kK w.params).In h)(G:h.Ns mainGlobals mg)
    (e:(W.nsIn (kK w.params) mainGlobals n,List.lookup a (kK w.params),W.codeIn (kK w.params) (.ref c) n,W.keepIn (kK w.params) (.ref a))=(some (some (.ref a)),some (kF n s d p c),true,true))
    (b:∀(kV doc pm:Value) (an:Option Addr) (cdv ct:Value) (us:List Value),us.length=ps.length→bindArgs (W.fnOf n n (eG s) (dw s) (am s) .none kV doc pm an cdv ct) ⟨us,[]⟩=pure (ps.zip us)):
    be (kK w.params) mg n s a (W.fnOf n n (eG s) (dw s) (am s) .none .none d p none (.ref c) .none) ps:=Dy X G (congrArg (·.1) e) (congrArg (·.2.1) e) (congrArg (·.2.2.1) e) (congrArg (·.2.2.2) e) b
theorem all_mk{l:W.OpenLaw}{w:World}{h:Heap}{mg:Str→Option Value}{fa:Addr}(X:(kK w.params).In h)(G:h.Ns mainGlobals mg)(hfa:mg "law"=some (.ref fa)):
    ∃fd:FuncData,(∀(s:Shared) (v:Value),BindsTo s fd ⟨[v],[]⟩ [("_law_script",v)])∧∀base:Heap,(kK w.params).In base→base.Ns mainGlobals mg→aL l.prog w (kK w.params) mg base bH 6 fa fd ["_law_script"] (bM (kK w.params) 1 pK):=by
  have e:=hfa.symm.trans (W.mg_of X G (show W.nsIn (kK w.params) mainGlobals "law"=some (some (.ref 268)) by kernel_rfl))
  cases e
  have T:jm mg:=⟨W.mg_none_of X G (show W.nsIn (kK w.params) mainGlobals "abs"=some none by kernel_rfl),W.mg_none_of X G (show W.nsIn (kK w.params) mainGlobals "len"=some none by kernel_rfl),W.mg_none_of X G (show W.nsIn (kK w.params) mainGlobals "min"=some none by kernel_rfl),W.mg_none_of X G (show W.nsIn (kK w.params) mainGlobals "max"=some none by kernel_rfl),W.mg_none_of X G (show W.nsIn (kK w.params) mainGlobals "range"=some none by kernel_rfl),W.mg_none_of X G (show W.nsIn (kK w.params) mainGlobals "tuple"=some none by kernel_rfl),W.mg_none_of X G (show W.nsIn (kK w.params) mainGlobals "int"=some none by kernel_rfl),W.mg_none_of X G (show W.nsIn (kK w.params) mainGlobals "sorted"=some none by kernel_rfl),W.mg_none_of X G (show W.nsIn (kK w.params) mainGlobals "zip"=some none by kernel_rfl),W.mg_none_of X G (show W.nsIn (kK w.params) mainGlobals "enumerate"=some none by kernel_rfl),W.mg_none_of X G (show W.nsIn (kK w.params) mainGlobals "isinstance"=some none by kernel_rfl),W.mg_none_of X G (show W.nsIn (kK w.params) mainGlobals "bool"=some none by kernel_rfl),W.mg_none_of X G (show W.nsIn (kK w.params) mainGlobals "all"=some none by kernel_rfl),W.mg_none_of X G (show W.nsIn (kK w.params) mainGlobals "list"=some none by kernel_rfl)⟩
  have h_is_number:be (kK w.params) mg "is_number" eu 21 _ ["thing"]:=hm 20 (.none) Fh X G (by kernel_rfl) fun _ _ _ _ _ _=>Fi fun _=>rfl
  have h_is_number_within:be (kK w.params) mg "is_number_within" bQ 28 _ ["thing","low","high"]:=hm 27 (.none) Fh X G (by kernel_rfl) fun _ _ _ _ _ _=>xm fun _ _ _=>rfl
  have h_is_row_of:be (kK w.params) mg "is_row_of" gu 35 _ ["thing","many"]:=hm 34 (.none) Fh X G (by kernel_rfl) fun _ _ _ _ _ _=>tO fun _ _=>rfl
  have h_things_of:be (kK w.params) mg "things_of" dq 45 _ ["web","tie"]:=hm 44 (.none) AB X G (by kernel_rfl) fun _ _ _ _ _ _=>tO fun _ _=>rfl
  have h_many_asks:be (kK w.params) mg "many_asks" ey 50 _ ["web","asked","thing"]:=hm 49 (.none) AB X G (by kernel_rfl) fun _ _ _ _ _ _=>xm fun _ _ _=>rfl
  have h_bears_one_more:be (kK w.params) mg "bears_one_more" cA 57 _ ["web","stand","thing"]:=hm 56 (.none) AB X G (by kernel_rfl) fun _ _ _ _ _ _=>xm fun _ _ _=>rfl
  have h_may_ask:be (kK w.params) mg "may_ask" h9 62 _ ["web","stand","tie"]:=hm 61 (.none) AB X G (by kernel_rfl) fun _ _ _ _ _ _=>xm fun _ _ _=>rfl
  have h_stand_behind:be (kK w.params) mg "stand_behind" dn 69 _ ["web","stand","tie","truth"]:=hm 68 (.none) AB X G (by kernel_rfl) fun _ _ _ _ _ _=>Hr fun _ _ _ _=>rfl
  have h_is_link:be (kK w.params) mg "is_link" jh 76 _ ["thing","at","many"]:=hm 75 (.none) yc X G (by kernel_rfl) fun _ _ _ _ _ _=>xm fun _ _ _=>rfl
  have h_is_node:be (kK w.params) mg "is_node" ji 83 _ ["web","thing","at","many"]:=hm 82 (.none) yc X G (by kernel_rfl) fun _ _ _ _ _ _=>Hr fun _ _ _ _=>rfl
  have h_is_told_once:be (kK w.params) mg "is_told_once" cB 88 _ ["tree"]:=hm 87 (.none) yc X G (by kernel_rfl) fun _ _ _ _ _ _=>Fi fun _=>rfl
  have h_is_tree_form:be (kK w.params) mg "is_tree_form" cC 93 _ ["web","thing"]:=hm 92 (.none) yc X G (by kernel_rfl) fun _ _ _ _ _ _=>tO fun _ _=>rfl
  have h_is_tree:be (kK w.params) mg "is_tree" h8 98 _ ["web","thing"]:=hm 97 (.none) yc X G (by kernel_rfl) fun _ _ _ _ _ _=>tO fun _ _=>rfl
  have h_stands_of:be (kK w.params) mg "stands_of" eA 103 _ ["web","tree"]:=hm 102 (.none) yc X G (by kernel_rfl) fun _ _ _ _ _ _=>tO fun _ _=>rfl
  have hLmixed:be (kK w.params) mg "_law_mixed" mI 110 _ ["_law_cell","_law_k"]:=hm 109 (.none) gB X G (by kernel_rfl) fun _ _ _ _ _ _=>tO fun _ _=>rfl
  have hLdraws:be (kK w.params) mg "_law_draws" mH 117 _ ["_law_script"]:=hm 116 (.none) gB X G (by kernel_rfl) fun _ _ _ _ _ _=>Fi fun _=>rfl
  have hLnext:be (kK w.params) mg "_law_next" iU 124 _ ["_law_drawn"]:=hm 123 (.none) gB X G (by kernel_rfl) fun _ _ _ _ _ _=>Fi fun _=>rfl
  have hLgcd:be (kK w.params) mg "_law_gcd" tZ 131 _ ["_law_one","_law_other"]:=hm 130 (.none) gB X G (by kernel_rfl) fun _ _ _ _ _ _=>tO fun _ _=>rfl
  have hLlow:be (kK w.params) mg "_law_low" t9 138 _ ["_law_top","_law_bottom"]:=hm 137 (.none) gB X G (by kernel_rfl) fun _ _ _ _ _ _=>tO fun _ _=>rfl
  have hLsays:be (kK w.params) mg "_law_says" pT 145 _ ["_law_found","_law_due"]:=hm 144 (.none) gB X G (by kernel_rfl) fun _ _ _ _ _ _=>tO fun _ _=>rfl
  have hLchance:be (kK w.params) mg "_law_chance" kN 152 _ ["_law_number","_law_kind"]:=hm 151 (.none) gB X G (by kernel_rfl) fun _ _ _ _ _ _=>tO fun _ _=>rfl
  have hLworth:be (kK w.params) mg "_law_worth" mJ 159 _ ["_law_number","_law_kind"]:=hm 158 (.none) gB X G (by kernel_rfl) fun _ _ _ _ _ _=>tO fun _ _=>rfl
  have hLties:be (kK w.params) mg "_law_ties" pU 166 _ ["_law_drawn","_law_things","_law_many"]:=hm 165 (.none) gB X G (by kernel_rfl) fun _ _ _ _ _ _=>xm fun _ _ _=>rfl
  have hLweb:be (kK w.params) mg "_law_web" t_ 173 _ ["_law_drawn","_law_most","_law_ties_here"]:=hm 172 (.none) gB X G (by kernel_rfl) fun _ _ _ _ _ _=>xm fun _ _ _=>rfl
  have hLenough:be (kK w.params) mg "_law_enough" kO 180 _ ["_law_web_here"]:=hm 179 (.none) gB X G (by kernel_rfl) fun _ _ _ _ _ _=>Fi fun _=>rfl
  have hLasks_of:be (kK w.params) mg "_law_asks_of" fx 185 _ ["_law_web_here","_law_asked","_law_thing"]:=hm 184 (.none) gB X G (by kernel_rfl) fun _ _ _ _ _ _=>xm fun _ _ _=>rfl
  have hLmay:be (kK w.params) mg "_law_may" rd 192 _ ["_law_web_here","_law_stand","_law_tie"]:=hm 191 (.none) gB X G (by kernel_rfl) fun _ _ _ _ _ _=>xm fun _ _ _=>rfl
  have hLbehind:be (kK w.params) mg "_law_behind" je 199 _ ["_law_web_here","_law_stand","_law_tie","_law_truth"]:=hm 198 (.none) gB X G (by kernel_rfl) fun _ _ _ _ _ _=>Hr fun _ _ _ _=>rfl
  have hLaskable:be (kK w.params) mg "_law_askable" hX 204 _ ["_law_web_here","_law_stand"]:=hm 203 (.none) gB X G (by kernel_rfl) fun _ _ _ _ _ _=>tO fun _ _=>rfl
  have hLgrown:be (kK w.params) mg "_law_grown" lc 209 _ ["_law_drawn","_law_web_here","_law_most"]:=hm 208 (.none) gB X G (by kernel_rfl) fun _ _ _ _ _ _=>xm fun _ _ _=>rfl
  have hLis_tie:be (kK w.params) mg "_law_is_tie" kP 216 _ ["_law_web_here","_law_thing"]:=hm 215 (.none) gB X G (by kernel_rfl) fun _ _ _ _ _ _=>tO fun _ _=>rfl
  have hLare_links:be (kK w.params) mg "_law_are_links" gp 223 _ ["_law_thing","_law_at","_law_many"]:=hm 222 (.none) gB X G (by kernel_rfl) fun _ _ _ _ _ _=>xm fun _ _ _=>rfl
  have hLare_nodes:be (kK w.params) mg "_law_are_nodes" gq 230 _ ["_law_web_here","_law_thing"]:=hm 229 (.none) gB X G (by kernel_rfl) fun _ _ _ _ _ _=>tO fun _ _=>rfl
  have hLstands:be (kK w.params) mg "_law_stands" jg 237 _ ["_law_web_here","_law_tree"]:=hm 236 (.none) gB X G (by kernel_rfl) fun _ _ _ _ _ _=>tO fun _ _=>rfl
  have hLis_tree:be (kK w.params) mg "_law_is_tree" jf 244 _ ["_law_web_here","_law_thing"]:=hm 243 (.none) gB X G (by kernel_rfl) fun _ _ _ _ _ _=>tO fun _ _=>rfl
  have hLrenumbered:be (kK w.params) mg "_law_renumbered" cJ 249 _ ["_law_drawn","_law_tree"]:=hm 248 (.none) gB X G (by kernel_rfl) fun _ _ _ _ _ _=>tO fun _ _=>rfl
  have hLmost_asked:be (kK w.params) mg "_law_most_asked" eP 256 _ ["_law_web_here","_law_tree","_law_thing"]:=hm 255 (.none) gB X G (by kernel_rfl) fun _ _ _ _ _ _=>xm fun _ _ _=>rfl
  have hLother_webs:be (kK w.params) mg "_law_other_webs" dH 261 _ ["_law_drawn","_law_web_here","_law_tree"]:=hm 260 (.none) gB X G (by kernel_rfl) fun _ _ _ _ _ _=>xm fun _ _ _=>rfl
  have h_law:be (kK w.params) mg "law" pW 268 _ ["_law_script"]:=hm 267 (.none) gB X G (by kernel_rfl) fun _ _ _ _ _ _=>Fi fun _=>rfl
  have lG_38:List.lookup 38 (kK w.params)=some (kT [.ref 36,.ref 37] 0):=by kernel_rfl
  have lG_36:List.lookup 36 (kK w.params)=some (kT [] 0):=by kernel_rfl
  have lG_37:List.lookup 37 (kK w.params)=some (kT [] 0):=by kernel_rfl
  have m_FIRST_STAND:=W.mg_of X G (show W.nsIn (kK w.params) mainGlobals "FIRST_STAND"=some (some (.ref 38)) by kernel_rfl)
  have c_FIRST_STAND:∀F,DA (kK w.params) F (.tuple [.tuple [],.tuple []]) (.ref 38):=fun F=>by simp only [DA,aU];exact⟨38,[V.ref 36,V.ref 37],rfl,.inr ⟨_,_,_,lG_38,rfl,rfl,rfl,(by show 2≤sizeLine;decide),(.cons rfl (.cons rfl .nil))⟩,⟨_,_,rfl,⟨36,[],rfl,.inr ⟨_,_,_,lG_36,rfl,rfl,rfl,(by show 0≤sizeLine;decide),.nil⟩,rfl⟩,⟨_,_,rfl,⟨37,[],rfl,.inr ⟨_,_,_,lG_37,rfl,rfl,rfl,(by show 0≤sizeLine;decide),.nil⟩,rfl⟩,rfl⟩⟩⟩
  have m_MOST_NODES:=W.mg_of X G (show W.nsIn (kK w.params) mainGlobals "MOST_NODES"=some (some (.int (300) 261)) by kernel_rfl)
  have m_END:=W.mg_of X G (show W.nsIn (kK w.params) mainGlobals "END"=some (some (.int (-1) 264)) by kernel_rfl)
  refine⟨W.fnOf "law" "law" (eG pW) (dw pW) (am pW) .none .none (.none) gB none (.ref 267) .none,fun s v=>.of_eq rfl,fun base _ _=>?_⟩
  have G_is_number:=sr (P:=l.prog) (w:=w) (base:=base) h_is_number T
  have G_is_number_within:=ls (P:=l.prog) (w:=w) (base:=base) h_is_number_within T h_is_number G_is_number
  have G_is_row_of:=su (P:=l.prog) (w:=w) (base:=base) h_is_row_of T
  have G_things_of:=sy (P:=l.prog) (w:=w) (base:=base) h_things_of T
  have G_many_asks:=sv (P:=l.prog) (w:=w) (base:=base) h_many_asks T h_things_of G_things_of
  have G_bears_one_more:=mw (P:=l.prog) (w:=w) (base:=base) h_bears_one_more T h_many_asks G_many_asks
  have G_may_ask:=vc (P:=l.prog) (w:=w) (base:=base) h_may_ask T h_bears_one_more G_bears_one_more h_things_of G_things_of
  have G_stand_behind:=oI (P:=l.prog) (w:=w) (base:=base) h_stand_behind T h_things_of G_things_of
  have G_is_link:=u_ (P:=l.prog) (w:=w) (base:=base) h_is_link T h_is_number G_is_number m_END
  have G_is_node:=va (P:=l.prog) (w:=w) (base:=base) h_is_node T h_is_row_of G_is_row_of h_is_number_within G_is_number_within h_is_link G_is_link
  have G_is_told_once:=oG (P:=l.prog) (w:=w) (base:=base) h_is_told_once T m_END
  have G_is_tree_form:=oH (P:=l.prog) (w:=w) (base:=base) h_is_tree_form T h_is_told_once G_is_told_once h_is_node G_is_node m_MOST_NODES
  have G_stands_of:=sx (P:=l.prog) (w:=w) (base:=base) h_stands_of T h_stand_behind G_stand_behind m_FIRST_STAND c_FIRST_STAND m_END
  have G_is_tree:=vb (P:=l.prog) (w:=w) (base:=base) h_is_tree T h_is_tree_form G_is_tree_form h_may_ask G_may_ask h_stands_of G_stands_of
  have GLmixed:=y3 (P:=l.prog) (w:=w) (base:=base) hLmixed T
  have GLdraws:=y1 (P:=l.prog) (w:=w) (base:=base) hLdraws T hLmixed GLmixed
  have GLnext:=Bn (P:=l.prog) (w:=w) (base:=base) hLnext T
  have GLgcd:=DX (P:=l.prog) (w:=w) (base:=base) hLgcd T
  have GLlow:=DY (P:=l.prog) (w:=w) (base:=base) hLlow T hLgcd GLgcd
  have GLsays:=Bo (P:=l.prog) (w:=w) (base:=base) hLsays T
  have GLchance:=xA (P:=l.prog) (w:=w) (base:=base) hLchance T hLlow GLlow
  have GLworth:=y4 (P:=l.prog) (w:=w) (base:=base) hLworth T
  have GLties:=Bp (P:=l.prog) (w:=w) (base:=base) hLties T hLnext GLnext hLchance GLchance hLworth GLworth
  have GLweb:=D3 (P:=l.prog) (w:=w) (base:=base) hLweb T hLties GLties hLnext GLnext
  have GLenough:=xB (P:=l.prog) (w:=w) (base:=base) hLenough T
  have GLasks_of:=uY (P:=l.prog) (w:=w) (base:=base) hLasks_of T
  have GLmay:=DZ (P:=l.prog) (w:=w) (base:=base) hLmay T hLasks_of GLasks_of
  have GLbehind:=xx (P:=l.prog) (w:=w) (base:=base) hLbehind T
  have GLaskable:=uX (P:=l.prog) (w:=w) (base:=base) hLaskable T hLmay GLmay
  have GLgrown:=y2 (P:=l.prog) (w:=w) (base:=base) hLgrown T hLaskable GLaskable hLnext GLnext hLbehind GLbehind
  have GLis_tie:=xC (P:=l.prog) (w:=w) (base:=base) hLis_tie T
  have GLare_links:=sj (P:=l.prog) (w:=w) (base:=base) hLare_links T
  have GLare_nodes:=sk (P:=l.prog) (w:=w) (base:=base) hLare_nodes T hLare_links GLare_links hLis_tie GLis_tie
  have GLstands:=xD (P:=l.prog) (w:=w) (base:=base) hLstands T hLbehind GLbehind
  have GLis_tree:=uZ (P:=l.prog) (w:=w) (base:=base) hLis_tree T hLare_nodes GLare_nodes hLstands GLstands hLmay GLmay
  have GLrenumbered:=qq (P:=l.prog) (w:=w) (base:=base) hLrenumbered T hLnext GLnext
  have GLmost_asked:=qo (P:=l.prog) (w:=w) (base:=base) hLmost_asked T hLstands GLstands hLasks_of GLasks_of
  have GLother_webs:=qp (P:=l.prog) (w:=w) (base:=base) hLother_webs T hLmost_asked GLmost_asked hLnext GLnext
  have G_law:=D4 (P:=l.prog) (w:=w) (base:=base) h_law T hLdraws GLdraws hLweb GLweb hLrenumbered GLrenumbered hLother_webs GLother_webs hLenough GLenough hLgrown GLgrown h_is_tree G_is_tree hLis_tree GLis_tree hLsays GLsays hLnext GLnext
  exact G_law
def GC(K:W.Frag):Sp:=fun vs H Q _=>∃(a:Addr) (ns:List Int),vs=[.ref a]∧cW K H a (ns.map V.int)∧ns.length≤63∧∀H',Q (.bl true) H'
theorem DM{K:W.Frag}{vs:List V}{H:Hp}{Q:VK}{E:XK}(h:GC K vs H Q E):bM K 1 pK vs H Q E:=by
  obtain⟨a,ns,rfl,hS,hl,q⟩:=h
  obtain⟨as',hm⟩:=yL ns hl
  exact vp hS hm q
theorem walk{l:W.OpenLaw}{q:Program}{loose:List Str}{XP:(Str→Option Value)→Heap→Prop}{YP:World→Heap→Prop}{d:DefRec}{K:Params→W.Frag}(hn:l.most=some 63)(hdf:d.params.defaults=[])
    (hY:∀(w:World) (h:Heap),YP w h→(K w.params).In h)
    (F:∀(w:World) (mg:Str→Option Value) (fa:Addr) (h:Heap),(K w.params).In h→h.Ns mainGlobals mg→mg d.name=some (.ref fa)→
      ∃fd:FuncData,(∀(s:Shared) (u:Value),BindsTo s fd ⟨[u],[]⟩ [("_law_script",u)])∧∀base:Heap,(K w.params).In base→base.Ns mainGlobals mg→aL l.prog w (K w.params) mg base bH 6 fa fd ["_law_script"] (bM (K w.params) 1 pK)):
    W.WalkO q loose XP YP l.row.toRowW d [] (fun f vs=>PySem.call f vs):=
  L2.walk_of (n:=63) (k:=6) (x:="_law_script") (CX:=fun _=>bH) (sp:=fun w=>bM (K w.params) 1 pK) hn (by decide) hdf ⟨rfl,by decide,by decide,rfl⟩ hY F (fun _ _ a ns hl _ hS=>DM ⟨a,ns,rfl,hS,hl,fun _=>rfl⟩) fun _ _ _ _ _ z=>z
end V14
open PySem PySem.W PyProof.Rows
set_option maxRecDepth 100000 in
set_option maxHeartbeats 0 in
theorem PySem.Challenge.cw_askedpairs_k14_trees_in_other_webs_holds : PySem.Challenge.rw_askedpairs_k14_trees_in_other_webs.Holds := by
  w_on;o_law
  refine holds_open (q:=V14.kq) (loose:=[]) (Xt:=fun s=>xlAt V14.kq [] s&&recOk (RowW.records (OpenRow.toRowW (OpenLaw.row PySem.Challenge.rw_askedpairs_k14_trees_in_other_webs))) s) (XP:=XL V14.kq []) (Yf:=Hook.obs V14.kH) (Ya:=Hook.val V14.kH) (YP:=Hook.says V14.kH) (N:=2668) V14.left (Hook.of V14.kH) (Hook.keeps V14.kH) (fun s e=>xl_of s (Bool.and_eq_true_iff.mp e).1) XL.keeps (by rfl) (by rfl) (by rfl) (fun s e=>recFacts_of (Bool.and_eq_true_iff.mp e).2) (by rfl) (by assumption) (by decide+kernel) ⟨rfl,rfl,rfl,rfl,rfl,by decide+kernel⟩ ?hw ?hc
  case hw=>w_witness2
  case hc=>exact V14.walk (l:=PySem.Challenge.rw_askedpairs_k14_trees_in_other_webs) rfl rfl (fun w h Y=>kIn_of Y) (fun w mg fa h KX G hmg=>V14.all_mk KX G hmg)
