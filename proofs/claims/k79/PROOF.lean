import PyProof.Rows.All
import Wide.All
import OpenK.AllK
import Wide.FinOn
import Lean
import PyProof.EqAt
import PyProof.EqKinds
import PyProof.TupleCall
import PyProof.ReprRoads
import PyProof.IsInstance
import PyProof.IsInstanceH
import PyProof.FitsBits
import PyProof.CompFree
import PyProof.Rows.SumAny
import PyProof.Rows.SortShell
import PyProof.Rows.TupAdd
import PyProof.NeKinds
import PyProof.ConsumeWalk
import PyProof.ZipIter
import PyProof.TupleIter
import PyProof.LayNew
import PyProof.CollectWalk
import PyProof.ListNew
import PyProof.Draws
import PyProof.EnumFor
import PyProof.EnumMake
import PyProof.ListRange
import PyProof.CollectIter
import KE.KRevIter
import PyProof.ListMulRoad
import PyProof.TupleOps
import PyProof.TupleOfStr
import PyProof.WalksMore
import PyProof.FactsAll.range_iterator
import PyProof.IsRules
import PyProof.CompUse
import PyProof.P3In
import PyProof.EqLayable
import KE.KIsAll
import PyProof.Rows.FactsN_isinstance
import PyProof.CallStr
import PyProof.Rows.StrWeight2
import PyProof.Rows.FStr
import PyProof.StrLawsRepr
import PyProof.Rows.SetFrom
import KE.KIntText
import KE.KRevSl
import PyProof.Rows.SeqMore2
import OpenK.KOwn
import KE.KTryMore
import PySem.Challenge.RW_askedpairs_k79_webs_beside
set_option Elab.async false
set_option linter.all false
set_option maxRecDepth 100000
namespace L2
open PySem PySem.Spec PyProof.Rows
abbrev kB:=Sum Int Str
def uU:kB→Value→Bool
  | .inl k,v=>Value.isInt k v
  | .inr x,v=>Value.isStrOf x v
def Di(w:World):kB→Int
  | .inl k=>hashInt k
  | .inr x=>hashStr w x
theorem bD:∀{k:kB} {v:Value},uU k v=true→(∃i t,k=Sum.inl i∧v=Value.int i t)∨(∃x t,k=Sum.inr x∧v=Value.str x t)
  | .inl i,v,h=>by
    obtain⟨t,e⟩:=Value.isInt_shape (k:=i) (v:=v) h
    exact .inl ⟨i,t,rfl,e⟩
  | .inr x,v,h=>by
    obtain⟨t,e⟩:=Value.isStrOf_shape (x:=x) (v:=v) h
    exact .inr ⟨x,t,rfl,e⟩
theorem zE(a b:Int):decide ((Sum.inl a:kB)=Sum.inl b)=(a==b):=by
  by_cases e:a=b
  · subst e;simp
  · have h:¬(Sum.inl a:kB)=Sum.inl b:=fun q=>e (Sum.inl.inj q)
    rw [decide_eq_false h]
    exact(beq_eq_false_iff_ne.mpr e).symm
theorem zH(a b:Str):decide ((Sum.inr a:kB)=Sum.inr b)=decide (a=b):=by
  by_cases e:a=b
  · subst e;simp
  · have h:¬(Sum.inr a:kB)=Sum.inr b:=fun q=>e (Sum.inr.inj q)
    rw [decide_eq_false h,decide_eq_false e]
theorem zF(a:Int)(b:Str):decide ((Sum.inl a:kB)=Sum.inr b)=false:=decide_eq_false (fun q=>nomatch q)
theorem zG(a:Str)(b:Int):decide ((Sum.inr a:kB)=Sum.inl b)=false:=decide_eq_false (fun q=>nomatch q)
def oZ(prog:Program)(w:World):PySem.KeyKind prog w kB where
  is:=uU
  hash:=Di w
  inj:=fun v a b ha hb=>by
    rcases bD ha with ⟨i,t,rfl,rfl⟩ | ⟨x,t,rfl,rfl⟩
    · rcases bD hb with ⟨j,u,rfl,e⟩ | ⟨y,u,rfl,e⟩
      · injection e with e1 _;rw [e1]
      · exact nomatch e
    · rcases bD hb with ⟨j,u,rfl,e⟩ | ⟨y,u,rfl,e⟩
      · exact nomatch e
      · injection e with e1 _;rw [e1]
  byValue:=fun k v h=>by
    rcases bD h with ⟨i,t,rfl,rfl⟩ | ⟨x,t,rfl,rfl⟩<;>rfl
  pyHash:=fun hv h=>by
    rcases bD hv with ⟨i,t,rfl,rfl⟩ | ⟨x,t,rfl,rfl⟩
    · exact wpAny_pyHash_int h
    · exact wpAny_pyHash_str h
  eqBool:=fun hu hv h=>by
    rcases bD hu with ⟨i,t,rfl,rfl⟩ | ⟨x,t,rfl,rfl⟩
    · rcases bD hv with ⟨j,u,rfl,rfl⟩ | ⟨y,u,rfl,rfl⟩
      · rw [zE] at h;exact wpAny_eqBool_int h
      · rw [zF] at h;exact SeqAt.EqAt.int_str i t y u _ _ _ _ h
    · rcases bD hv with ⟨j,u,rfl,rfl⟩ | ⟨y,u,rfl,rfl⟩
      · rw [zG] at h;exact SeqAt.EqAt.str_int x t j u _ _ _ _ h
      · rw [zH] at h;exact wpAny_eqBool_str h
  «strs»:=fun k x t v h=>by
    rcases bD h with ⟨i,u,rfl,e⟩ | ⟨y,u,rfl,e⟩
    · exact nomatch e
    · injection e with e1 _
      subst e1
      cases v<;>rfl
end L2
namespace L2
open PySem PySem.Spec PyProof.Rows
inductive V where
  | non | bl (b:Bool) | int (i:Int) | str (x:Str) | byt (b:Array UInt8) | flt (b:UInt64) | ref (a:Addr) | ty (n:String)
  deriving DecidableEq
def bz:V→Value→Prop
  | .non,u=>u=Value.none
  | .bl b,u=>u=Value.bool b
  | .int i,u=>∃t,u=Value.int i t
  | .str x,u=>∃t,u=Value.str x t
  | .byt b,u=>∃t,u=Value.bytes b t
  | .flt b,u=>∃t,u=Value.float b t
  | .ref a,u=>u=Value.ref a
  | .ty n,u=>u=Value.type n
abbrev aU:List V→List Value→Prop:=Paired bz
theorem aU.length{xs:List V}{us:List Value}(r:aU xs us):xs.length=us.length:=Paired.length r
theorem aU.get:∀{xs:List V} {us:List Value} {i:Nat} {x:V},aU xs us→xs[i]?=some x→∃u,us[i]?=some u∧bz x u
  | _,_,_,_,.nil,e=>by simp at e
  | _,_,0,_,.cons r _,e=>by simp at e;subst e;exact⟨_,rfl,r⟩
  | _,_,i+1,x,.cons _ t,e=>by
    obtain⟨u,h1,h2⟩:=aU.get (i:=i) (x:=x) t (by simpa using e)
    exact⟨u,by simpa using h1,h2⟩
theorem aU.append:∀{xs ys:List V} {us ws:List Value},aU xs us→aU ys ws→aU (xs++ys) (us++ws)
  | _,_,_,_,.nil,s=>s
  | _,_,_,_,.cons r t,s=>.cons r (aU.append t s)
theorem aU.take:∀{xs:List V} {us:List Value} (n:Nat),aU xs us→aU (xs.take n) (us.take n)
  | _,_,0,_=>.nil
  | _,_,_+1,.nil=>.nil
  | _,_,n+1,.cons r t=>.cons r (aU.take n t)
theorem aU.drop:∀{xs:List V} {us:List Value} (n:Nat),aU xs us→aU (xs.drop n) (us.drop n)
  | _,_,0,r=>r
  | _,_,_+1,.nil=>.nil
  | _,_,n+1,.cons _ t=>aU.drop n t
def Bj:Option V→Option Value→Prop
  | some v,some u=>bz v u
  | none,none=>True
  | _,_=>False
def KV{κ:Type}:List (κ × V)→List (κ × Value)→Prop:=Paired fun(p:κ × V) (q:κ × Value)=>p.1=q.1∧bz p.2 q.2
def kV:kB→V
  | .inl i=>.int i
  | .inr x=>.str x
inductive HO where
  /-- a list -/
  | lst (xs:List V)
  /-- a tuple (never changes) -/
  | tup (xs:List V)
  /-- a dict whose keys are ints and texts; one whose keys are tuples of ints and texts (the empty one is both) -/
  | dK (kvs:List (kB × V)) | dT (kvs:List (List kB × V))
  /-- a set of ints: its members, its size -/
  | set (S:Int→Bool) (n:Nat)
  /-- an instance of the class at C, its dict at dx, its attributes -/
  | ins (C dx:Addr) (fs:List (Str × V))
  /-- the dict of the instance at x -/
  | own (x:Addr)
  /-- the dict of an exception -/
  | xd (fs:List (Str × V))
  /-- a bound method, f of x -/
  | met (f x:Addr)
  /-- a range object lo, lo + 1, .. below hi -/
  | rng (lo hi:Int)
  /-- a thing that is known to the object (the script; a dict while a loop walks it): read, never written while it is so -/
  | frz (o:Obj) (u:HO)
  /-- a code object's table -/
  | tbl (ps:Array Value)
  /-- any other thing, by what is true of its one object (a def of one's own: SetO a S n := HO.ext fun h => ..) -/
  | ext (φ:Heap→Prop)
abbrev Hp:=Addr→Option HO
def cu(H:Hp)(a:Addr)(o:HO):Hp:=fun b=>if b=a then some o else H b
theorem aH{H:Hp}{a:Addr}{o:HO}:cu H a o a=some o:=by unfold cu;rw [if_pos rfl]
theorem aN{H:Hp}{a b:Addr}{o:HO}(h:b≠a):cu H a o b=H b:=by unfold cu;rw [if_neg h]
theorem dN{H:Hp}{a b:Addr}{o:HO}(h:H a=some o)(h':H b=none):a≠b:=by
  intro e;subst e;rw [h] at h';cases h'
def oz(h:Heap)(a:Addr)(items:Array Value):Prop:=∃o,h.get? a=some o∧o.cls=.type "tuple"∧∃n,o.data=.seq items n∧o.dict=none
theorem oz.tup{h:Heap}{a:Addr}{items:Array Value}(x:oz h a items):IsTup h a items:=let ⟨o,ho,hc,n,hd,_⟩:=x;⟨o,ho,hc,n,hd⟩
theorem oz.new(h:Heap)(items:Array Value):oz (h.push {cls:=.type "tuple",data:=.seq items}) h.objs.size items:=⟨_,Heap.get?_push_size _ rfl,rfl,_,rfl,rfl⟩
section
variable(P:Program)(w:World)
def dg(H:Hp)(h:Heap)(a:Addr):HO→Prop
  | .lst xs=>xs.length≤sizeLine∧∃(its:List Value) (n:Nat),aU xs its∧h.get? a=some {cls:=.type "list",data:=.seq its.toArray n}
  | .tup xs=>xs.length≤sizeLine∧∃its:List Value,aU xs its∧oz h a its.toArray
  | .dK kvs=>kvs.length≤sizeLine∧(a==sysModules)=false∧∃vs,KV kvs vs∧h.DictOf (oZ P w) a vs
  | .dT kvs=>kvs.length≤sizeLine∧(a==sysModules)=false∧∃xs:List (List kB × Addr × Value),
      Paired (fun(p:List kB × V) (q:List kB × Addr × Value)=>p.1=q.1∧H q.2.1=some (.tup (p.1.map kV))∧bz p.2 q.2.2) kvs xs∧
      ∃o es ep,h.get? a=some o∧o.ExactDict∧o.data=.dict es ep∧es.toList=xs.map (entryOfKey (tupleKind (oZ P w)))∧(xs.map (·.1)).Nodup
  | .set S n=>h.SetOf (intKind P w) a S n
  | .ins C dx fs=>H dx=some (.own a)∧fs.length≤1000∧dx≠a∧h.get? a=some (PySem.W.instObj C dx)∧
      ∃mA,h.Ns1 dx mA∧(∀f,Bj (fs.lookup f) (mA f))∧PySem.Within mA (fs.map (·.1))
  | .own _=>∃o,h.get? a=some o
  | .xd fs=>∃mA,h.Ns1 a mA∧∀f,Bj (fs.lookup f) (mA f)
  | .rng lo hi=>∃t u v,h.get? a=some {cls:=.type "range",data:=.fields #[.int lo t,.int hi u,.int 1 v]}
  | .frz o u=>h.get? a=some o∧dg H h a u
  | .tbl ps=>h.get? a=some {cls:=.none,data:=.fields ps}
  | .met f x=>h.get? a=some (PySem.W.methodObj (.ref f) (.ref x))
  | .ext φ=>φ h∧(∃o,h.get? a=some o)∧∀h1 h2:Heap,φ h1→(∀o,h1.get? a=some o→h2.get? a=some o)→φ h2
def kX(H:Hp)(h:Heap):Prop:=∀a o,H a=some o→dg P w H h a o
end
section
variable{P:Program}{w:World}{H H':Hp}{h h':Heap}{a:Addr}{o:HO}
theorem dg.lt(x:dg P w H h a o):a < h.objs.size:=by
  cases o with
  | lst xs=>obtain⟨_,_,_,_,e⟩:=x;exact Heap.lt_size e
  | tup xs=>obtain⟨_,_,_,p⟩:=x;exact p.tup.lt
  | dK kvs=>obtain⟨_,_,_,_,o,_,_,e,_⟩:=x;exact Heap.lt_size e
  | dT kvs=>obtain⟨_,_,_,_,o,_,_,e,_⟩:=x;exact Heap.lt_size e
  | set S n=>obtain⟨o,_,_,_,e,_⟩:=x;exact Heap.lt_size e
  | ins C dx fs=>obtain⟨_,_,_,e,_⟩:=x;exact Heap.lt_size e
  | own y=>obtain⟨_,e⟩:=x;exact Heap.lt_size e
  | xd fs=>obtain⟨_,⟨_,_,_,e,_⟩,_⟩:=x;exact Heap.lt_size e
  | rng lo hi=>obtain⟨_,_,_,e⟩:=x;exact Heap.lt_size e
  | frz ob u=>obtain⟨e,_⟩:=x;exact Heap.lt_size e
  | tbl ps=>exact Heap.lt_size (show h.get? a=some _ from x)
  | met f y=>exact Heap.lt_size (show h.get? a=some _ from x)
  | ext φ=>obtain⟨_,⟨_,e⟩,_⟩:=x;exact Heap.lt_size e
theorem Paired.mapP{α β:Type}{F G:α→β→Prop}:∀{l₁:List α} {l₂:List β},Paired F l₁ l₂→(∀a b,F a b→G a b)→Paired G l₁ l₂
  | _,_,.nil,_=>.nil
  | _,_,.cons r t,f=>.cons (f _ _ r) (Paired.mapP t f)
theorem dg.stay(x:dg P w H h a o)(k:∀b u,(b=a∨H b=some (.own a))→h.get? b=some u→h'.get? b=some u)
    (ho:∀b,H b=some (.own a)→H' b=some (.own a))(ht:∀b xs,H b=some (.tup xs)→H' b=some (.tup xs)):dg P w H' h' a o:=by
  induction o with
  | lst xs=>obtain⟨z,its,n,r,e⟩:=x;exact⟨z,its,n,r,k _ _ (.inl rfl) e⟩
  | tup xs=>obtain⟨z,its,r,ob,e,c⟩:=x;exact⟨z,its,r,ob,k _ _ (.inl rfl) e,c⟩
  | dK kvs=>obtain⟨z,y,vs,r,ob,es,ep,e,c⟩:=x;exact⟨z,y,vs,r,ob,es,ep,k _ _ (.inl rfl) e,c⟩
  | dT kvs=>
    obtain⟨z,y,xs,r,ob,es,ep,e,c⟩:=x
    exact⟨z,y,xs,Paired.mapP r fun p q z=>⟨z.1,ht _ _ z.2.1,z.2.2⟩,ob,es,ep,k _ _ (.inl rfl) e,c⟩
  | set S n=>obtain⟨ob,es,ep,t,e,c⟩:=x;exact⟨ob,es,ep,t,k _ _ (.inl rfl) e,c⟩
  | ins C dx fs=>
    obtain⟨d,z,ne,e,mA,⟨od,es,ep,e2,c⟩,r⟩:=x
    exact⟨ho _ d,z,ne,k _ _ (.inl rfl) e,mA,⟨od,es,ep,k _ _ (.inr d) e2,c⟩,r⟩
  | own y=>obtain⟨ob,e⟩:=x;exact⟨ob,k _ _ (.inl rfl) e⟩
  | xd fs=>obtain⟨mA,⟨od,es,ep,e,c⟩,r⟩:=x;exact⟨mA,⟨od,es,ep,k _ _ (.inl rfl) e,c⟩,r⟩
  | rng lo hi=>obtain⟨t,u,v,e⟩:=x;exact⟨t,u,v,k _ _ (.inl rfl) e⟩
  | frz ob u ih=>obtain⟨e,q⟩:=x;exact⟨k _ _ (.inl rfl) e,ih q⟩
  | tbl ps=>
    have e:h.get? a=some {cls:=.none,data:=.fields ps}:=x
    show h'.get? a=some {cls:=.none,data:=.fields ps}
    exact k a _ (.inl rfl) e
  | met f y=>
    have e:h.get? a=some (PySem.W.methodObj (.ref f) (.ref y)):=x
    show h'.get? a=some (PySem.W.methodObj (.ref f) (.ref y))
    exact k a _ (.inl rfl) e
  | ext φ=>obtain⟨p,⟨o,e⟩,st⟩:=x;exact⟨st _ _ p fun o q=>k _ _ (.inl rfl) q,⟨o,k _ _ (.inl rfl) e⟩,st⟩
theorem kX.lt(x:kX P w H h)(e:H a=some o):a < h.objs.size:=(x a o e).lt
theorem kX.fresh(x:kX P w H h)(e:h.objs.size≤a):H a=none:=by
  cases q:H a with
  | none=>rfl
  | some u=>exact absurd (Nat.lt_of_lt_of_le (x.lt q) e) (Nat.lt_irrefl _)
theorem kX.kept(x:kX P w H h)(k:∀b u,h.get? b=some u→h'.get? b=some u):kX P w H h':=fun a o e=>
  (x a o e).stay (fun b u _ q=>k b u q) (fun _ q=>q) fun _ _ q=>q
theorem kX.laid(x:kX P w H h)(k:∀b u,h.get? b=some u→h'.get? b=some u)(hp:h.objs.size≤a)(new:dg P w (cu H a o) h' a o):kX P w (cu H a o) h':=fun b u e=>by
  have hn:=x.fresh hp
  by_cases hb:b=a
  · subst hb;rw [aH] at e;cases e;exact new
  · rw [aN hb] at e
    exact(x b u e).stay (fun c v _ q=>k c v q) (fun c q=>by rw [aN (dN q hn)];exact q) fun c xs q=>by rw [aN (dN q hn)];exact q
end
def Rd(H:Hp)(a:Addr)(u:HO):Prop:=H a=some u∨∃o,H a=some (.frz o u)
theorem Rd.ok{P:Program}{w:World}{H:Hp}{h:Heap}{a:Addr}{u:HO}(r:Rd H a u)(x:kX P w H h):dg P w H h a u:=by
  rcases r with r | ⟨o,r⟩
  · exact x a u r
  · obtain⟨_,q⟩:=x a _ r
    exact q
def CB:Option HO→Prop
  | some (.lst _)=>True
  | some (.dK _)=>True
  | some (.dT _)=>True
  | some (.set _ _)=>True
  | some (.ins _ _ _)=>True
  | some (.ext _)=>True
  | _=>False
section
variable{P:Program}{w:World}{H:Hp}{h h':Heap}{x e:Addr}{o':HO}
theorem kX.write(ok:kX P w H h)(mu:CB (H x))(he:e=x∨H e=some (.own x))(k:∀b u,b≠e→h.get? b=some u→h'.get? b=some u)(heo:∃u,h'.get? e=some u)
    (new:dg P w (cu H x o') h' x o'):kX P w (cu H x o') h':=fun b u q=>by
  have nown:∀c y,H c=some (.own y)→c≠x:=fun c y r z=>by subst z;rw [r] at mu;exact mu
  have ntup:∀c xs,H c=some (.tup xs)→c≠x:=fun c xs r z=>by subst z;rw [r] at mu;exact mu
  by_cases hb:b=x
  · subst hb;rw [aH] at q;cases q;exact new
  · rw [aN hb] at q
    by_cases hbe:b=e
    · have q':H b=some (.own x):=by
        rcases he with z | z
        · exact absurd (hbe.trans z) hb
        · rw [hbe];exact z
      rw [q] at q';cases q'
      obtain⟨v,hv⟩:=heo
      exact⟨v,by rw [hbe];exact hv⟩
    · refine(ok b u q).stay (fun c v hc r=>k c v ?_ r) (fun c r=>by rw [aN (nown c b r)];exact r) fun c xs r=>by rw [aN (ntup c xs r)];exact r
      rcases hc with rfl | hc
      · exact hbe
      · rintro rfl
        rcases he with z | z
        · exact nown c b hc z
        · rw [hc] at z;cases z;exact hb rfl
end
structure Un (fs ex:List Addr) (H H':Hp) (h h':Heap):Prop where
  keep:∀b o,h.get? b=some o→H b=none→b∉fs→b∉ex→h'.get? b=some o
  slot:∀b o,h.get? b=some o→H b=none→b∈fs→b∉ex→∃sl,h'.get? b=some {o with slots:=sl}
  free:∀b o,h.get? b=some o→H b=none→b∉ex→H' b=none
  there:∀b o,h.get? b=some o→b∉ex→∃o',h'.get? b=some o'
  tups:∀b xs,H b=some (.tup xs)→H' b=some (.tup xs)
  frzs:∀b o u,H b=some (.frz o u)→H' b=some (.frz o u)
  tbls:∀b ps,H b=some (.tbl ps)→∃more,H' b=some (.tbl (ps++more))
section
variable{fs fs' ex ex':List Addr}{H H1 H2:Hp}{h h1 h2 h':Heap}{a x e:Addr}{o:HO}
theorem Un.any(u:Un fs ex H H1 h h1){b:Addr}{ob:Obj}(q:h.get? b=some ob)(n:H b=none)(hx:b∉ex):∃sl,h1.get? b=some {ob with slots:=sl}:=by
  by_cases hb:b∈fs
  · exact u.slot b ob q n hb hx
  · exact⟨ob.slots,u.keep b ob q n hb hx⟩
theorem Un.kept(k:∀b u,h.get? b=some u→h'.get? b=some u):Un fs ex H H h h':=
  ⟨fun b ob q _ _ _=>k b ob q,fun b ob q _ _ _=>⟨ob.slots,k b ob q⟩,fun _ _ _ n _=>n,fun b ob q _=>⟨ob,k b ob q⟩,fun _ _ q=>q,fun _ _ _ q=>q,fun _ ps q=>⟨#[],by rw [q];simp⟩⟩
theorem Un.refl:Un fs ex H H h h:=Un.kept fun _ _ q=>q
theorem Un.laid(k:∀b u,h.get? b=some u→h'.get? b=some u)(hp:h.objs.size≤a)(hn:H a=none):Un fs ex H (cu H a o) h h' where
  keep:=fun b u q _ _ _=>k b u q
  slot:=fun b u q _ _ _=>⟨u.slots,k b u q⟩
  free:=fun b u q n _=>by rw [aN (Nat.ne_of_lt (Nat.lt_of_lt_of_le (Heap.lt_size q) hp))];exact n
  there:=fun b u q _=>⟨u,k b u q⟩
  tups:=fun b xs q=>by rw [aN (dN q hn)];exact q
  frzs:=fun b u xs q=>by rw [aN (dN q hn)];exact q
  tbls:=fun b ps q=>⟨#[],by rw [aN (dN q hn),q];simp⟩
theorem Un.write(mu:CB (H x))(he:e=x∨H e=some (.own x))(k:∀b u,b≠e→h.get? b=some u→h'.get? b=some u)(heo:∃u,h'.get? e=some u):Un fs ex H (cu H x o) h h':=by
  have hx:∀b,H b=none→b≠x:=fun b n z=>by subst z;rw [n] at mu;exact mu
  have hb:∀b,H b=none→b≠e:=fun b n z=>by
    subst z
    rcases he with r | r
    · exact hx b n r
    · rw [n] at r;cases r
  have hm:∀b u,H b=some u→¬CB (some u)→b≠x:=fun b u q nm z=>by subst z;rw [q] at mu;exact nm mu
  refine⟨fun b u q n _ _=>k b u (hb b n) q,fun b u q n _ _=>⟨u.slots,k b u (hb b n) q⟩,fun b u q n _=>by rw [aN (hx b n)];exact n,fun b u q _=>?_,
    fun b xs q=>by rw [aN (hm b _ q fun z=>z)];exact q,fun b u xs q=>by rw [aN (hm b _ q fun z=>z)];exact q,fun b ps q=>⟨#[],by rw [aN (hm b _ q fun z=>z),q];simp⟩⟩
  by_cases hbe:b=e
  · subst hbe;exact heo
  · exact⟨u,k b u hbe q⟩
end
def CQ(h:Heap)(H:Hp):List Addr:=(List.range h.objs.size).filter fun a=>(H a).isSome
def oT(h:Heap)(H:Hp):Heap:=PySem.W.hideAll h (CQ h H)
theorem sX(h:Heap)(H:Hp):(oT h H).objs.size=h.objs.size:=PySem.W.hideAll_size _ _
theorem uP{h:Heap}{H:Hp}{b:Addr}{o:Obj}(e:h.get? b=some o)(n:H b=none):(oT h H).get? b=some o:=
  PySem.W.hideAll_get _ e fun hm=>by
    have q:(H b).isSome=true:=(List.mem_filter.mp hm).2
    rw [n] at q;simp at q
theorem xn{h:Heap}{H:Hp}{b:Addr}{o:Obj}(e:(oT h H).get? b=some o):h.get? b=some o∧H b=none:=by
  have e':h.get? b=some o:=PySem.W.of_hideAll (CQ h H) e
  refine⟨e',?_⟩
  cases q:H b with
  | none=>rfl
  | some x=>
    have hm:b∈CQ h H:=List.mem_filter.mpr ⟨List.mem_range.mpr (Heap.lt_size e'),by simp [q]⟩
    have z:(oT h H).get? b=none:=PySem.W.hideAll_none (CQ h H) hm
    rw [z] at e;cases e
def oF(g h:Heap)(L:Addr):List (Addr × Obj):=(List.range h.objs.size).filterMap fun a=>if a=L∨(g.get? a).isSome=true then none else(h.get? a).map fun o=>(a,o)
theorem ml{g h:Heap}{L:Addr}{p:Addr × Obj}(hp:p∈oF g h L):p.1≠L∧g.get? p.1=none∧h.get? p.1=some p.2:=by
  obtain⟨b,_,e⟩:=List.mem_filterMap.mp hp
  split at e
  · cases e
  · rename_i hn
    cases q:h.get? b with
    | none=>rw [q] at e;simp at e
    | some u=>
      rw [q] at e
      simp only [Option.map_some,Option.some.injEq] at e
      subst e
      refine⟨fun z=>hn (.inl z),?_,q⟩
      show g.get? b=none
      cases r:g.get? b with
      | none=>rfl
      | some v=>exact(hn (.inr (by simp [r]))).elim
def dc(g h:Heap)(L d:Addr):List (Addr × Obj):=(oF g h L).filter fun p=>decide (p.1≠d)
theorem va{g h:Heap}{L:Addr}:News g L h (oF g h L):=fun p hp=>let ⟨a,b,c⟩:=ml hp;⟨c,a,b⟩
end L2
namespace L2
open PySem PySem.Spec PyProof.Rows
structure Mod (K:PySem.W.Frag) (mg:Str→Option Value) (base:Heap):Prop where
  kin:K.In base
  glob:base.Ns mainGlobals mg
  blt:∃mb,base.Ns builtinsNs mb∧∀x:Str,x≠"__name__"→mb x=bootBuiltins x
  nolimit:base.NoLimit
structure Cx where
  prog:Program
  w:World
  K:PySem.W.Frag
  mg:Str→Option Value
  base:Heap
  A:Around
  N:List Str
  s₀:Shared
  H₀:Hp
  env:Env
  outer:List Env
  stack:List Env
  ex:List Addr
  fn:Str→Bool
  calm:Bool
  pn:List (Addr × Obj)
  xe:Value→Shared→Prop
def j'(l:List Env):List Addr:=l.filterMap (·.frame)
abbrev Cx.fs(X:Cx):List Addr:=j' X.outer
def Bb(sc:Scope)(x:Str):Prop:=sc.names.lookup x=some .local∨sc.names.lookup x=some .cell∨sc.names.lookup x=some .free
def Ba(sc:Scope)(x:Str):Prop:=sc.names.lookup x=some .local∨sc.names.lookup x=some .cell
def CZ(env:Env)(h:Heap)(m:Str→Option Value)(x:Str)(u:Value):Prop:=
  (env.kindOf x=some .local∧m x=some u)∨((env.kindOf x=some .cell∨env.kindOf x=some .free)∧∃c,env.cells.lookup x=some c∧h.IsCell c (some u))
structure Cx.Ok (X:Cx):Prop where
  mod:Mod X.K X.mg X.base
  kind:X.env.scope.kind=.function
  glob:X.env.globals=mainGlobals
  blt:X.env.builtins=builtinsNs
  above:X.s₀.heap.objs.size≤X.env.locals
  inj:∀x y c,X.env.cells.lookup x=some c→X.env.cells.lookup y=some c→x=y
  has:∀x,(X.env.kindOf x=some .cell∨X.env.kindOf x=some .free)→∃c,X.env.cells.lookup x=some c
  cab:∀x c,X.fn x=true→X.env.cells.lookup x=some c→X.s₀.heap.objs.size≤c
  hd:X.calm=true→X.A.handled=none
  frames:X.A.frames=some X.stack
  stk:X.stack=X.outer∨(X.stack=X.env::X.outer∧X.env.frame=some X.env.locals)
  exf:∀b∈X.ex,b≠X.env.locals∧∀x c,X.env.cells.lookup x=some c→c≠b
  bs:∀b o,X.base.get? b=some o→X.s₀.heap.get? b=some o∧X.H₀ b=none
  bsz:X.base.objs.size≤X.s₀.heap.objs.size
  noex:∀b o,X.base.get? b=some o→b∉X.ex
  exfs:∀b∈X.ex,b∉X.fs
  funs:X.s₀.heap.FunFrames X.base X.outer
  frf:∀b∈X.fs,X.H₀ b=none
structure aJ (X:Cx) (pins:List (Addr × Obj)) (σ:List (Option V)) (H:Hp) (s:Shared):Prop where
  ok:X.Ok
  os:s.os=X.s₀.os
  bare:AllBare s.gens
  base:Un X.fs X.ex X.H₀ H X.s₀.heap s.heap
  loc:∃m,s.heap.Ns X.env.locals m∧∀(i:Nat) (x:Str) (v:V),X.N[i]?=some x→σ[i]?=some (some v)→Bb X.env.scope x→∃u,bz v u∧CZ X.env s.heap m x u
  cell:∀x c,X.env.cells.lookup x=some c→∃v,s.heap.IsCell c v
  free:H X.env.locals=none
  freeC:∀x c,X.env.cells.lookup x=some c→H c=none
  pin:∀p∈X.pn++pins,s.heap.get? p.1=some p.2∧H p.1=none∧p.1≠X.env.locals∧p.1∉X.fs∧∀v,p.2.data≠.cell v
  hok:kX X.prog X.w H s.heap
  len:σ.length=X.N.length
section
variable{X:Cx}{pins:List (Addr × Obj)}{σ:List (Option V)}{H H':Hp}{s:Shared}{h':Heap}
theorem Cx.Ok.nofr(ok:X.Ok){b:Addr}{o:Obj}(e:X.base.get? b=some o):b∉X.fs:=fun hb=>by
  have:=(ok.funs.mem hb).1
  rw [e] at this;cases this
theorem aJ.bs(I:aJ X pins σ H s):∀b o,X.base.get? b=some o→s.heap.get? b=some o∧H b=none:=fun b o e=>
  ⟨I.base.keep b o (I.ok.bs b o e).1 (I.ok.bs b o e).2 (I.ok.nofr e) (I.ok.noex b o e),I.base.free b o (I.ok.bs b o e).1 (I.ok.bs b o e).2 (I.ok.noex b o e)⟩
theorem aJ.bk(I:aJ X pins σ H s):∀b o,X.base.get? b=some o→s.heap.get? b=some o:=fun b o e=>(I.bs b o e).1
theorem aJ.mod(I:aJ X pins σ H s):Mod X.K X.mg X.base:=I.ok.mod
theorem aJ.kIn(I:aJ X pins σ H s):X.K.In s.heap:=I.ok.mod.kin.keeps I.bk
theorem aJ.fr(I:aJ X pins σ H s):∃m,Fr X.base X.env.locals s.heap m:=
  let ⟨m,hn,_⟩:=I.loc
  ⟨m,hn,I.bk,Nat.le_trans I.ok.bsz I.ok.above⟩
theorem aJ.lt(I:aJ X pins σ H s):X.env.locals < s.heap.objs.size:=let ⟨_,hn,_⟩:=I.loc;hn.lt
theorem aJ.sz(I:aJ X pins σ H s):X.s₀.heap.objs.size≤s.heap.objs.size:=Nat.le_trans I.ok.above (Nat.le_of_lt I.lt)
theorem aJ.nofs(I:aJ X pins σ H s){a:Addr}(h:s.heap.objs.size≤a):a∉X.fs:=fun hb=>by
  obtain⟨_,o,ho,_⟩:=I.ok.funs.mem hb
  exact absurd (Nat.lt_of_lt_of_le (Heap.lt_size ho) (Nat.le_trans I.sz h)) (Nat.lt_irrefl _)
theorem aJ.cne(I:aJ X pins σ H s):∀x c,X.env.cells.lookup x=some c→c≠X.env.locals:=fun x c e z=>by
  obtain⟨v,o,ho,hd⟩:=I.cell x c e
  obtain⟨m,⟨o',es,ep,ho',hd',_⟩,_⟩:=I.loc
  rw [z,ho'] at ho;cases ho;rw [hd'] at hd;cases hd
theorem aJ.funs(I:aJ X pins σ H s):s.heap.FunFrames X.base X.outer:=by
  have all:∀(l:List Env),(∀b∈j' l,b∈X.fs)→X.s₀.heap.FunFrames X.base l→s.heap.FunFrames X.base l:=by
    intro l
    induction l with
    | nil=>intro _ _;trivial
    | cons env r ih=>
      intro hs hl
      obtain⟨hk,⟨L,o,hf,hn,ho,hd⟩,hr⟩:=hl
      have hL:L∈X.fs:=hs L (by unfold j';rw [List.filterMap_cons,hf];exact List.mem_cons_self)
      obtain⟨sl,e⟩:=I.base.slot L o ho (I.ok.frf L hL) hL fun z=>I.ok.exfs L z hL
      exact⟨hk,⟨L,_,hf,hn,e,hd⟩,ih (fun b hb=>hs b (by unfold j';rw [List.filterMap_cons,hf];exact List.mem_cons_of_mem _ hb)) hr⟩
  exact all X.outer (fun _ hb=>hb) I.ok.funs
theorem aJ.stack(I:aJ X pins σ H s):s.heap.FunFrames X.base X.stack:=by
  rcases I.ok.stk with e | ⟨e,hf⟩
  · rw [e];exact I.funs
  · rw [e]
    obtain⟨m,hn,_⟩:=I.loc
    refine .cons (by rw [I.ok.kind];decide) hf hn ?_ I.funs
    exact Heap.get?_none_of_le (Nat.le_trans I.ok.bsz I.ok.above)
theorem aJ.stkSub(I:aJ X pins σ H s):∀b∈j' X.stack,b∈X.env.locals::X.fs:=fun b hb=>by
  rcases I.ok.stk with e | ⟨e,hf⟩
  · rw [e] at hb;exact List.mem_cons_of_mem _ hb
  · rw [e] at hb
    unfold j' at hb
    rw [List.filterMap_cons,hf] at hb
    exact hb
theorem aJ.stkFree(I:aJ X pins σ H s):∀b∈j' X.stack,H b=none:=fun b hb=>by
  rcases List.mem_cons.mp (I.stkSub b hb) with e | hb
  · rw [e];exact I.free
  · obtain⟨_,o,ho,_⟩:=I.ok.funs.mem hb
    exact I.base.free b o ho (I.ok.frf b hb) fun z=>I.ok.exfs b z hb
theorem aJ.step{g':Array GenState}{t':Nat}{d':Drawn}{ch:List Addr}(I:aJ X pins σ H s)
    (hch:∀b∈ch,(b∈X.ex∨X.s₀.heap.objs.size≤b)∧b≠X.env.locals∧(∀x c,X.env.cells.lookup x=some c→c≠b)∧∀p∈X.pn++pins,p.1≠b)
    (keep:∀b o,b≠X.env.locals→b∉X.fs→b∉ch→s.heap.get? b=some o→H b=none→h'.get? b=some o)
    (slot:∀b o,b≠X.env.locals→b∈X.fs→b∉ch→s.heap.get? b=some o→H b=none→∃sl,h'.get? b=some {o with slots:=sl})(free:∀b o,b∉ch→s.heap.get? b=some o→H b=none→H' b=none)
    (there:∀b o,b∉ch→s.heap.get? b=some o→∃o',h'.get? b=some o')
    (tups:∀b xs,H b=some (.tup xs)→H' b=some (.tup xs))(frzs:∀b o u,H b=some (.frz o u)→H' b=some (.frz o u))(tbls:∀b ps,H b=some (.tbl ps)→∃more,H' b=some (.tbl (ps++more)))
    (ns:∀m,s.heap.Ns X.env.locals m→h'.Ns X.env.locals m)(hok:kX X.prog X.w H' h')(hg:AllBare g'):
    aJ X pins σ H' {s with heap:=h',gens:=g',drawn:=d',toks:=t'}:=by
  have neL:∀b o,X.s₀.heap.get? b=some o→b≠X.env.locals:=fun b o e=>Nat.ne_of_lt (Nat.lt_of_lt_of_le (Heap.lt_size e) I.ok.above)
  have neC:∀b o,X.s₀.heap.get? b=some o→b∉X.ex→b∉ch:=fun b o e hx hb=>by
    rcases(hch b hb).1 with z | z
    · exact hx z
    · exact absurd (Nat.lt_of_lt_of_le (Heap.lt_size e) z) (Nat.lt_irrefl _)
  have cellK:∀x c,X.env.cells.lookup x=some c→∀v,s.heap.IsCell c v→h'.IsCell c v:=fun x c e v ⟨o,ho,hd⟩=>by
    have nch:c∉ch:=fun z=>(hch c z).2.2.1 x c e rfl
    by_cases hc:c∈X.fs
    · obtain⟨sl,q⟩:=slot c o (I.cne x c e) hc nch ho (I.freeC x c e)
      exact⟨_,q,hd⟩
    · exact⟨o,keep c o (I.cne x c e) hc nch ho (I.freeC x c e),hd⟩
  refine⟨I.ok,I.os,hg,⟨fun b o e n hb hx=>?_,fun b o e n hb hx=>?_,fun b o e n hx=>?_,fun b o e hx=>?_,fun b xs e=>tups b xs (I.base.tups b xs e),fun b o xs e=>frzs b o xs (I.base.frzs b o xs e),fun b ps e=>?_⟩,?_,fun x c e=>?_,?_,fun x c e=>?_,fun p hp=>?_,hok,I.len⟩
  · exact keep b o (neL b o e) hb (neC b o e hx) (I.base.keep b o e n hb hx) (I.base.free b o e n hx)
  · obtain⟨sl,e1⟩:=I.base.slot b o e n hb hx
    obtain⟨sl',e2⟩:=slot b _ (neL b o e) hb (neC b o e hx) e1 (I.base.free b o e n hx)
    exact⟨sl',e2⟩
  · obtain⟨o',e1⟩:=I.base.there b o e hx
    exact free b o' (neC b o e hx) e1 (I.base.free b o e n hx)
  · obtain⟨o',e1⟩:=I.base.there b o e hx
    exact there b o' (neC b o e hx) e1
  · obtain⟨m1,e1⟩:=I.base.tbls b ps e
    obtain⟨m2,e2⟩:=tbls b _ e1
    exact⟨m1++m2,by rw [e2,Array.append_assoc]⟩
  · obtain⟨m,hn,hl⟩:=I.loc
    refine⟨m,ns m hn,fun i x v e1 e2 e3=>?_⟩
    obtain⟨u,r,l⟩:=hl i x v e1 e2 e3
    refine⟨u,r,?_⟩
    rcases l with l | ⟨k,c,e,z⟩
    · exact .inl l
    · exact .inr ⟨k,c,e,cellK x c e _ z⟩
  · obtain⟨v,z⟩:=I.cell x c e
    exact⟨v,cellK x c e v z⟩
  · obtain⟨m,⟨o,_,_,ho,_⟩,_⟩:=I.loc
    exact free _ o (fun z=>(hch _ z).2.1 rfl) ho I.free
  · obtain⟨v,o,ho,hd⟩:=I.cell x c e
    exact free c o (fun z=>(hch c z).2.2.1 x c e rfl) ho (I.freeC x c e)
  · obtain⟨e,n,ne,nf,d⟩:=I.pin p hp
    have nch:p.1∉ch:=fun z=>(hch p.1 z).2.2.2 p hp rfl
    exact⟨keep p.1 p.2 ne nf nch e n,free p.1 p.2 nch e n,ne,nf,d⟩
theorem aJ.un{t':Nat}(I:aJ X pins σ H s)(u:Un X.fs [] H H' s.heap h')(hok:kX X.prog X.w H' h'):aJ X pins σ H' {s with heap:=h',toks:=t'}:=by
  obtain⟨m,⟨o,es,ep,ho,r⟩,_⟩:=id I.loc
  obtain⟨sl,hL⟩:=u.any ho I.free (by simp)
  exact I.step (g':=s.gens) (d':=s.drawn) (ch:=[]) (fun _ z=>nomatch z) (fun b o _ hb _ e n=>u.keep b o e n hb (by simp)) (fun b o _ hb _ e n=>u.slot b o e n hb (by simp)) (fun b o _ e n=>u.free b o e n (by simp)) (fun b o _ e=>u.there b o e (by simp)) u.tups u.frzs u.tbls (fun m' hm=>by
    obtain⟨o',es',ep',ho',r'⟩:=hm
    rw [ho] at ho';cases ho'
    exact⟨_,es',ep',hL,r'⟩) hok I.bare
theorem aJ.call{g':Array GenState}{t':Nat}{d':Drawn}{ch:List Addr}(I:aJ X pins σ H s)(u:Un (j' X.stack) ch H H' s.heap h')(hok:kX X.prog X.w H' h')(hg:AllBare g')
    (hch:∀b∈ch,(b∈X.ex∨X.s₀.heap.objs.size≤b)∧b≠X.env.locals∧(∀x c,X.env.cells.lookup x=some c→c≠b)∧∀p∈X.pn++pins,p.1≠b):
    aJ X pins σ H' {s with heap:=h',gens:=g',drawn:=d',toks:=t'}:=by
  obtain⟨m,⟨o,es,ep,ho,r⟩,_⟩:=id I.loc
  obtain⟨sl,hL⟩:=u.any ho I.free fun z=>(hch _ z).2.1 rfl
  exact I.step (ch:=ch) hch (fun b o hL hb hc e n=>u.keep b o e n (fun z=>(List.mem_cons.mp (I.stkSub b z)).elim hL hb) hc) (fun b o _ _ hc e n=>u.any e n hc) (fun b o hc e n=>u.free b o e n hc) (fun b o hc e=>u.there b o e hc) u.tups u.frzs u.tbls (fun m' hm=>by
    obtain⟨o',es',ep',ho',r'⟩:=hm
    rw [ho] at ho';cases ho'
    exact⟨_,es',ep',hL,r'⟩) hok hg
theorem aJ.turned{t':Nat}{it:Addr}(I:aJ X pins σ H s)(k:∀b o,b≠it→s.heap.get? b=some o→h'.get? b=some o)(hn:H it=none)(hL:it≠X.env.locals)
    (h1:it∈X.ex∨X.s₀.heap.objs.size≤it)(h2:∀x c,X.env.cells.lookup x=some c→c≠it)(h3:∀p∈X.pn++pins,p.1≠it):aJ X pins σ H {s with heap:=h',toks:=t'}:=by
  have nit:∀b u,H b=some u→b≠it:=fun b u e z=>by rw [z,hn] at e;cases e
  refine I.step (g':=s.gens) (d':=s.drawn) (ch:=[it]) (fun b hb=>?_) (fun b o _ _ hc e _=>k b o (fun z=>hc (by simp [z])) e) (fun b o _ _ hc e _=>⟨o.slots,k b o (fun z=>hc (by simp [z])) e⟩) (fun _ _ _ _ n=>n)
    (fun b o hc e=>⟨o,k b o (fun z=>hc (by simp [z])) e⟩) (fun _ _ e=>e) (fun _ _ _ e=>e) (fun b ps e=>⟨#[],by rw [e];simp⟩) (fun m hm=>?_) (fun b u e=>?_) I.bare
  · have e:b=it:=by simpa using hb
    subst e
    exact⟨h1,hL,h2,h3⟩
  · obtain⟨o,es,ep,ho,r⟩:=hm
    exact⟨o,es,ep,k _ o (Ne.symm hL) ho,r⟩
  · refine(I.hok b u e).stay (fun c v hc q=>k c v ?_ q) (fun _ q=>q) fun _ _ q=>q
    rcases hc with z | z
    · rw [z];exact nit b u e
    · exact nit c _ z
theorem aJ.tok(I:aJ X pins σ H s)(t:Nat):aJ X pins σ H {s with toks:=t}:=I.un (h':=s.heap) (t':=t) Un.refl I.hok
theorem aJ.kept{t':Nat}(I:aJ X pins σ H s)(k:∀b u,s.heap.get? b=some u→h'.get? b=some u):aJ X pins σ H {s with heap:=h',toks:=t'}:=I.un (Un.kept k) (I.hok.kept k)
theorem aJ.laid{a:Addr}{o:HO}{t':Nat}(I:aJ X pins σ H s)(k:∀b u,s.heap.get? b=some u→h'.get? b=some u)(hp:s.heap.objs.size≤a)(new:dg X.prog X.w (cu H a o) h' a o):
    aJ X pins σ (cu H a o) {s with heap:=h',toks:=t'}:=I.un (Un.laid k hp (I.hok.fresh hp)) (I.hok.laid k hp new)
theorem aJ.write{x e:Addr}{o:HO}{t':Nat}(I:aJ X pins σ H s)(mu:CB (H x))(he:e=x∨H e=some (.own x))(k:∀b u,b≠e→s.heap.get? b=some u→h'.get? b=some u)(heo:∃u,h'.get? e=some u)
    (new:dg X.prog X.w (cu H x o) h' x o):aJ X pins σ (cu H x o) {s with heap:=h',toks:=t'}:=I.un (Un.write mu he k heo) (I.hok.write mu he k heo new)
theorem aJ.pins_of{pins':List (Addr × Obj)}(I:aJ X pins σ H s)(h:∀p∈pins',s.heap.get? p.1=some p.2∧H p.1=none∧p.1≠X.env.locals∧p.1∉X.fs∧∀v,p.2.data≠.cell v):aJ X pins' σ H s:=
  ⟨I.ok,I.os,I.bare,I.base,I.loc,I.cell,I.free,I.freeC,fun p hp=>(List.mem_append.mp hp).elim (fun z=>I.pin p (List.mem_append_left _ z)) (h p),I.hok,I.len⟩
theorem mi{N:List Str}(hN:N.Nodup){i j:Nat}{x:Str}(a:N[i]?=some x)(b:N[j]?=some x):i=j:=by
  obtain⟨h1,e1⟩:=List.getElem?_eq_some_iff.mp a
  obtain⟨h2,e2⟩:=List.getElem?_eq_some_iff.mp b
  exact(List.getElem_inj hN).mp (e1.trans e2.symm)
theorem tU{M:Model}{A:Around}{E:Value→Shared→Prop}{i:Nat}{x:Str}{v:V}{u:Value}{Q:Unit→Shared→Prop}(I:aJ X pins σ H s)(hN:X.N.Nodup)(hi:X.N[i]?=some x)(hx:Ba X.env.scope x)(r:bz v u)
    (h:∀s',aJ X pins (σ.set i (some v)) H s'→(∃a,Heap.SameBut a s.heap s'.heap∧(a=X.env.locals∨X.env.cells.lookup x=some a))→Q () s')(hf:X.fn x=true∨X.env.scope.names.lookup x=some .local:=by first | exact .inl rfl | exact .inr rfl | assumption):wpAny M A (storeName X.env x u) Q E s:=by
  obtain⟨m,hn,hl⟩:=id I.loc
  have hcls:(X.env.scope.kind==.class || (X.env.scope.kind==.module&&X.env.locals != X.env.globals))=false:=by rw [I.ok.kind];rfl
  have hiσ:i < σ.length:=by rw [I.len];exact(List.getElem?_eq_some_iff.mp hi).1
  have cne:=I.cne
  have tracked:∀{a:Addr} {h':Heap},(∃o,s.heap.get? a=some o∧H a=none)→Heap.SameBut a s.heap h'→kX X.prog X.w H h':=fun{a h'} ha hs b ob e=>by
    obtain⟨_,_,hfree⟩:=ha
    refine(I.hok b ob e).stay (fun c w' hc q=>(hs.2 c ?_).trans q) (fun _ q=>q) fun _ _ q=>q
    rintro rfl
    rcases hc with rfl | hc
    · rw [hfree] at e;cases e
    · rw [hfree] at hc;cases hc
  rcases hx with hk | hk
  · refine wpAny_storeName_local hk hn (fun h' hn' hs=>?_) hcls
    obtain⟨oL,_,_,hoL,_⟩:=id hn
    refine h _ ⟨I.ok,I.os,I.bare,⟨fun b o e n hb hx=>?_,fun b o e n hb hx=>?_,I.base.free,fun b o e hx=>?_,I.base.tups,I.base.frzs,I.base.tbls⟩,⟨_,hn',fun j y v' e1 e2 e3=>?_⟩,fun y c e=>?_,I.free,I.freeC,fun p hp=>?_,tracked ⟨oL,hoL,I.free⟩ hs,by simpa using I.len⟩ ⟨_,hs,.inl rfl⟩
    · exact(hs.2 b (Nat.ne_of_lt (Nat.lt_of_lt_of_le (Heap.lt_size e) I.ok.above))).trans (I.base.keep b o e n hb hx)
    · obtain⟨sl,e1⟩:=I.base.slot b o e n hb hx
      exact⟨sl,(hs.2 b (Nat.ne_of_lt (Nat.lt_of_lt_of_le (Heap.lt_size e) I.ok.above))).trans e1⟩
    · obtain⟨o',e1⟩:=I.base.there b o e hx
      exact⟨o',(hs.2 b (Nat.ne_of_lt (Nat.lt_of_lt_of_le (Heap.lt_size e) I.ok.above))).trans e1⟩
    · by_cases hj:j=i
      · subst hj
        rw [hi] at e1;cases e1
        rw [List.getElem?_set_self hiσ] at e2
        cases e2
        exact⟨u,r,.inl ⟨hk,by simp⟩⟩
      · rw [List.getElem?_set_ne (Ne.symm hj)] at e2
        obtain⟨u',r',q⟩:=hl j y v' e1 e2 e3
        refine⟨u',r',?_⟩
        rcases q with ⟨k,e⟩ | ⟨k,c,e,z⟩
        · refine .inl ⟨k,?_⟩
          have:y≠x:=fun e=>hj (mi hN e1 (e ▸ hi))
          simp [this,e]
        · exact .inr ⟨k,c,e,z.sameBut hs (cne y c e)⟩
    · obtain⟨w',z⟩:=I.cell y c e
      exact⟨w',z.sameBut hs (cne y c e)⟩
    · obtain⟨e,n,ne,nf,d⟩:=I.pin p hp
      exact⟨(hs.2 p.1 ne).trans e,n,ne,nf,d⟩
  · have hfn:X.fn x=true:=by
      rcases hf with z | z
      · exact z
      · rw [z] at hk;cases hk
    obtain⟨c,hc⟩:=I.ok.has x (.inl hk)
    obtain⟨w',z⟩:=I.cell x c hc
    refine wpAny_storeName_cell I.ok.kind hk hc z (fun h' hc' hs=>?_)
    obtain⟨oc,hoc,hocd⟩:=id z
    refine h {s with heap:=h'} ⟨I.ok,I.os,I.bare,⟨fun b o e n hb hx=>?_,fun b o e n hb hx=>?_,I.base.free,fun b o e hx=>?_,I.base.tups,I.base.frzs,I.base.tbls⟩,⟨m,hn.sameBut hs (Ne.symm (cne x c hc)),fun j y v' e1 e2 e3=>?_⟩,fun y c' e=>?_,I.free,I.freeC,fun p hp=>?_,tracked ⟨oc,hoc,I.freeC x c hc⟩ hs,by simpa using I.len⟩ ⟨c,hs,.inr hc⟩
    · exact(hs.2 b (Nat.ne_of_lt (Nat.lt_of_lt_of_le (Heap.lt_size e) (I.ok.cab x c hfn hc)))).trans (I.base.keep b o e n hb hx)
    · obtain⟨sl,e1⟩:=I.base.slot b o e n hb hx
      exact⟨sl,(hs.2 b (Nat.ne_of_lt (Nat.lt_of_lt_of_le (Heap.lt_size e) (I.ok.cab x c hfn hc)))).trans e1⟩
    · obtain⟨o',e1⟩:=I.base.there b o e hx
      exact⟨o',(hs.2 b (Nat.ne_of_lt (Nat.lt_of_lt_of_le (Heap.lt_size e) (I.ok.cab x c hfn hc)))).trans e1⟩
    · by_cases hj:j=i
      · subst hj
        rw [hi] at e1;cases e1
        rw [List.getElem?_set_self hiσ] at e2
        cases e2
        exact⟨u,r,.inr ⟨.inl hk,c,hc,hc'⟩⟩
      · rw [List.getElem?_set_ne (Ne.symm hj)] at e2
        obtain⟨u',r',q⟩:=hl j y v' e1 e2 e3
        refine⟨u',r',?_⟩
        rcases q with q | ⟨k,c',e,z'⟩
        · exact .inl q
        · refine .inr ⟨k,c',e,z'.sameBut hs ?_⟩
          rintro rfl
          exact hj (mi hN e1 (I.ok.inj _ _ _ e hc ▸ hi))
    · by_cases hcc:c'=c
      · subst hcc;exact⟨_,hc'⟩
      · obtain⟨w2,z2⟩:=I.cell y c' e
        exact⟨w2,z2.sameBut hs hcc⟩
    · obtain⟨e,n,ne,nf,d⟩:=I.pin p hp
      refine⟨(hs.2 p.1 ?_).trans e,n,ne,nf,d⟩
      intro q
      rw [q,hoc] at e
      have q':oc=p.2:=Option.some.inj e
      exact d w' (by rw [←q'];exact hocd)
theorem iQ{M:Model}{A:Around}{E:Value→Shared→Prop}{i:Nat}{x:Str}{v:V}{u:Value}{Q:Unit→Shared→Prop}(I:aJ X pins σ H s)(hN:X.N.Nodup)(hi:X.N[i]?=some x)(hx:Ba X.env.scope x)(r:bz v u)
    (h:∀s',aJ X pins (σ.set i (some v)) H s'→Q () s')(hf:X.fn x=true∨X.env.scope.names.lookup x=some .local:=by first | exact .inl rfl | exact .inr rfl | assumption):wpAny M A (storeName X.env x u) Q E s:=
  tU I hN hi hx r (fun s' I' _=>h s' I') hf
theorem aJ.call'{s':Shared}{ch:List Addr}(I:aJ X pins σ H s)(ho:s'.os=s.os)(u:Un (j' X.stack) ch H H' s.heap s'.heap)(hok:kX X.prog X.w H' s'.heap)(hg:AllBare s'.gens)
    (hch:∀b∈ch,(b∈X.ex∨X.s₀.heap.objs.size≤b)∧b≠X.env.locals∧(∀x c,X.env.cells.lookup x=some c→c≠b)∧∀p∈X.pn++pins,p.1≠b):aJ X pins σ H' s':=by
  obtain⟨h',g',d',t',o'⟩:=s'
  have e:o'=s.os:=ho
  subst e
  exact I.call (g':=g') (t':=t') (d':=d') u hok hg hch
end
abbrev XK:=Value→Option Addr→Hp→Prop
abbrev St:=List (Option V)
abbrev VK:=V→Hp→Prop
abbrev TE:=St→Hp→VK→Prop
abbrev TT:=St→Hp→(Bool→Hp→Prop)→Prop
abbrev TA:=St→Hp→(List V→Hp→Prop)→Prop
structure oy where
  nx:St→Hp→Prop
  rt:VK
  bk:St→Hp→Prop:=fun _ _=>False
  ct:St→Hp→Prop:=fun _ _=>False
abbrev TS:=oy→St→Hp→Prop
def EP(X:Cx)(pins:List (Addr × Obj))(σ:St)(Q:VK)(u:Value)(s':Shared):Prop:=∃v H',aJ X pins σ H' s'∧bz v u∧Q v H'
def TP(X:Cx)(pins:List (Addr × Obj))(σ:St)(Q:Bool→Hp→Prop)(b:Bool)(s':Shared):Prop:=∃H',aJ X pins σ H' s'∧Q b H'
def AP(X:Cx)(pins:List (Addr × Obj))(σ:St)(Q:List V→Hp→Prop)(us:List Value)(s':Shared):Prop:=∃vs H',aJ X pins σ H' s'∧aU vs us∧Q vs H'
def SP(X:Cx)(pins:List (Addr × Obj))(D:oy)(f:Flow)(s':Shared):Prop:=
  match f with
  | .next=>∃σ' H',aJ X pins σ' H' s'∧D.nx σ' H'
  | .brk=>∃σ' H',aJ X pins σ' H' s'∧D.bk σ' H'
  | .cont=>∃σ' H',aJ X pins σ' H' s'∧D.ct σ' H'
  | .ret u=>∃v σ' H',aJ X pins σ' H' s'∧bz v u∧D.rt v H'
def PE(X:Cx)(e:Expr)(t:TE):Prop:=
  ∀(pins:List (Addr × Obj)) (s:Shared) (σ:St) (H:Hp) (Q:VK),aJ X pins σ H s→t σ H Q→wpAny (model X.prog X.w) X.A (eval e X.env) (EP X pins σ Q) X.xe s
def PT(X:Cx)(e:Expr)(t:TT):Prop:=
  ∀(pins:List (Addr × Obj)) (s:Shared) (σ:St) (H:Hp) (Q:Bool→Hp→Prop),aJ X pins σ H s→t σ H Q→wpAny (model X.prog X.w) X.A (isTrue e X.env (eval e X.env)) (TP X pins σ Q) X.xe s
def PW(X:Cx)(e:Expr)(t:TT):Prop:=
  ∀(whole:Sem Value) (pins:List (Addr × Obj)) (s:Shared) (σ:St) (H:Hp) (Q:Bool→Hp→Prop),aJ X pins σ H s→t σ H Q→wpAny (model X.prog X.w) X.A (isTrue e X.env whole) (TP X pins σ Q) X.xe s
theorem PW.pt{X:Cx}{e:Expr}{t:TT}(h:PW X e t):PT X e t:=h _
def PA(X:Cx)(es:List Expr)(t:TA):Prop:=
  ∀(pos:Pos) (pins:List (Addr × Obj)) (s:Shared) (σ:St) (H:Hp) (Q:List V→Hp→Prop),aJ X pins σ H s→t σ H Q→wpAny (model X.prog X.w) X.A (spliced (backTo pos (starEach es X.env))) (AP X pins σ Q) X.xe s
def PS(X:Cx)(st:Stmt)(t:TS):Prop:=
  ∀(pins:List (Addr × Obj)) (s:Shared) (σ:St) (H:Hp) (D:oy),aJ X pins σ H s→t D σ H→wpAny (model X.prog X.w) X.A (exec st X.env) (SP X pins D) X.xe s
def jy(X:Cx)(st:List Stmt)(t:TS):Prop:=
  ∀(pins:List (Addr × Obj)) (s:Shared) (σ:St) (H:Hp) (D:oy),aJ X pins σ H s→t D σ H→wpAny (model X.prog X.w) X.A (execs st X.env) (SP X pins D) X.xe s
theorem cN{α:Type}{t:Sem α}{Q Q':α→Shared→Prop}{M:Model}{A:Around}{E:Value→Shared→Prop}{s:Shared}(h:wpAny M A t Q E s)(hQ:∀a s,Q a s→Q' a s):wpAny M A t Q' E s:=wpAny_mono h hQ fun _ _ x=>x
end L2
namespace L2
open PySem PySem.Spec PyProof.Rows
section
variable{X:Cx}
def tX(i:Nat):TE:=fun σ H Q=>∃v,σ[i]?=some (some v)∧Q v H
def tC(v:V):TE:=fun _ H Q=>Q v H
theorem qZ{i:Nat}{x:Str}{pos:Pos}(hN:X.N[i]?=some x)(hv:Bb X.env.scope x)(hd:(x==("__debug__":Str))=false:=by decide)(hcd:(x==("__classdict__":Str))=false:=by decide):PE X (.Name x pos) (tX i):=by
  intro pins s σ H Q I h
  obtain⟨v,e,h⟩:=h
  obtain⟨m,hn,hl⟩:=I.loc
  obtain⟨u,r,l⟩:=hl i x v hN e hv
  have fin:EP X pins σ Q u s:=⟨v,H,I,r,h⟩
  rcases l with ⟨hk,hm⟩ | ⟨hk,c,hc,hcell⟩
  · exact wpAny_Name (wpAny_loadName_local I.ok.kind hk hn hm fin) hd
  · rcases hk with hk | hk
    · exact wpAny_Name (wpAny_loadName_cell I.ok.kind hk hc hcell fin) hd
    · exact wpAny_Name (wpAny_loadName_free I.ok.kind hk hc hcell fin hcd) hd
theorem Ac{i j pos}:PE X (.Constant (.int i) j pos) (tC (.int i)):=fun _ _ _ H _ I h=>wpAny_Constant_int ⟨.int i,H,I.tok _,⟨_,rfl⟩,h⟩
theorem ms{b j pos}:PE X (.Constant (.bool b) j pos) (tC (.bl b)):=fun _ _ _ H _ I h=>Constant_bool ⟨.bl b,H,I,rfl,h⟩
theorem Ad{j pos}:PE X (.Constant .none j pos) (tC .non):=fun _ _ _ H _ I h=>Constant_none ⟨.non,H,I,rfl,h⟩
theorem Ag{x j pos}:PE X (.Constant (.str x) j pos) (tC (.str x)):=fun _ _ _ H _ I h=>Calls.Constant_str ⟨.str x,H,I.tok _,⟨_,rfl⟩,h⟩
def Gl(X:Cx)(x:Str):Prop:=X.env.kindOf x=some .globalImplicit
theorem jL{E:Value→Shared→Prop}{pins:List (Addr × Obj)}{s:Shared}{σ:St}{H:Hp}{x:Str}{u:Value}{pos:Pos}{Q:Value→Shared→Prop}(I:aJ X pins σ H s)(hg:Gl X x)(hm:X.mg x=some u)(h:Q u s)
    (hd:(x==("__debug__":Str))=false:=by decide):wpAny (model X.prog X.w) X.A (eval (.Name x pos) X.env) Q E s:=
  Calls.Name_function_global I.ok.kind hg (Calls.loadGlobal_global (by rw [I.ok.glob];exact I.mod.glob.keeps I.bk) hm h) hd
theorem ki{E:Value→Shared→Prop}{pins:List (Addr × Obj)}{s:Shared}{σ:St}{H:Hp}{x:Str}{u:Value}{pos:Pos}{Q:Value→Shared→Prop}(I:aJ X pins σ H s)(hg:Gl X x)(hm:X.mg x=none)(hv:bootBuiltins x=some u)(h:Q u s)
    (hn:x≠"__name__":=by decide)(hd:(x==("__debug__":Str))=false:=by decide):wpAny (model X.prog X.w) X.A (eval (.Name x pos) X.env) Q E s:=by
  obtain⟨mb,h1,h2⟩:=I.mod.blt
  exact Calls.Name_function_global I.ok.kind hg (Calls.loadGlobal_builtin (by rw [I.ok.glob];exact I.mod.glob.keeps I.bk) hm (by rw [I.ok.blt];exact h1.keeps I.bk) ((h2 x hn).trans hv) h) hd
theorem i0{x:Str}{v:V}{u:Value}{pos:Pos}(hg:Gl X x)(hm:X.mg x=some u)(r:bz v u)(hd:(x==("__debug__":Str))=false:=by decide):PE X (.Name x pos) (tC v):=
  fun _ _ _ H _ I h=>jL I hg hm ⟨v,H,I,r,h⟩ hd
variable{a b:Expr}{ta tb:TE}{pos:Pos}
def tB(t:TE):TT:=fun σ H Q=>t σ H fun x H1=>∃c,x=.bl c∧Q c H1
theorem Ao{e:Expr}{t:TE}(h:PE X e t)(he:∀whole,isTrue e X.env whole=(do let v ←whole;standAt e.pos;holding [v] (truthy v)):=by intro _;rfl):PT X e (tB t):=by
  intro pins s σ H Q I hw
  refine isTrue_plain (cN (h pins s σ H _ I hw) fun v s1 ⟨x,H1,I1,r1,q1⟩=>?_) (he _)
  obtain⟨d,rfl,q⟩:=q1
  cases r1
  exact wpAny_truthy_bool ⟨H1,I1,q⟩
variable{tA tB':TT}{dc:List Expr}
def Ci(t u:TT):TT:=fun σ H Q=>t σ H fun c H1=>if c=true then u σ H1 Q else Q false H1
def DS(t u:TT):TT:=fun σ H Q=>t σ H fun c H1=>if c=true then Q true H1 else u σ H1 Q
def Cn(t:TT):TT:=fun σ H Q=>t σ H fun c H1=>Q (!c) H1
theorem xX(ha:PT X a tA):PW X (.BoolOp .And [a] pos) tA:=by
  intro wh pins s σ H Q I h
  refine isTrue_and (cN (ha pins s σ H Q I h) fun c s1 e=>?_)
  cases c with
  | true=>exact isTrue_and_nil e
  | false=>exact e
theorem Ar(ha:PT X a tA):PW X (.BoolOp .Or [a] pos) tA:=by
  intro wh pins s σ H Q I h
  refine isTrue_or (cN (ha pins s σ H Q I h) fun c s1 e=>?_)
  cases c with
  | false=>exact isTrue_or_nil e
  | true=>exact e
theorem Aq(ha:PT X a tA)(hb:PW X (.BoolOp .And (b::dc) pos) tB'):PW X (.BoolOp .And (a::b::dc) pos) (Ci tA tB'):=by
  intro wh pins s σ H Q I h
  refine isTrue_and (cN (ha pins s σ H _ I h) fun c s1 ⟨H1,I1,q1⟩=>?_)
  cases c with
  | true=>exact hb wh pins s1 σ H1 Q I1 q1
  | false=>exact⟨H1,I1,q1⟩
theorem BX(ha:PT X a tA)(hb:PW X (.BoolOp .Or (b::dc) pos) tB'):PW X (.BoolOp .Or (a::b::dc) pos) (DS tA tB'):=by
  intro wh pins s σ H Q I h
  refine isTrue_or (cN (ha pins s σ H _ I h) fun c s1 ⟨H1,I1,q1⟩=>?_)
  cases c with
  | true=>exact⟨H1,I1,q1⟩
  | false=>exact hb wh pins s1 σ H1 Q I1 q1
theorem An(ha:PT X a tA):PT X (.UnaryOp .Not a pos) (Cn tA):=by
  intro pins s σ H Q I h
  exact isTrue_not (ha pins s σ H (fun c H1=>Q (!c) H1) I h)
def Cj(ta tb:TE):TE:=fun σ H Q=>ta σ H fun x H1=>∃c,x=.bl c∧if c=true then tb σ H1 Q else Q (.bl false) H1
def Co(ta:TE):TE:=fun σ H Q=>ta σ H fun x H1=>∃c,x=.bl c∧Q (.bl (!c)) H1
theorem Af{op}{t:TE}(h:PE X a t):PE X (.BoolOp op [a] pos) t:=fun pins s σ H Q I hw=>BoolOp_one (h pins s σ H Q I hw)
theorem Ab(ha:PE X a ta)(hb:PE X (.BoolOp .And (b::dc) pos) tb):PE X (.BoolOp .And (a::b::dc) pos) (Cj ta tb):=by
  intro pins s σ H Q I h
  refine BoolOp_and (cN (ha pins s σ H _ I h) fun v s1 ⟨x,H1,I1,r1,q1⟩=>?_)
  obtain⟨c,rfl,q1⟩:=q1
  cases r1
  refine wpAny_truthy_bool ?_
  cases c with
  | true=>exact hb pins s1 σ H1 Q I1 q1
  | false=>exact⟨.bl false,H1,I1,rfl,q1⟩
theorem Ae(ha:PE X a ta):PE X (.UnaryOp .Not a pos) (Co ta):=by
  intro pins s σ H Q I h
  refine UnaryOp_ (cN (ha pins s σ H _ I h) fun v s1 ⟨x,H1,I1,r1,q1⟩=>?_)
  obtain⟨c,rfl,q1⟩:=q1
  cases r1
  exact not_of (wpAny_truthy_bool ⟨.bl (!c),H1,I1,rfl,q1⟩)
end
end L2
namespace L2
open PySem PySem.Spec PyProof.Rows
def gL(K:PySem.W.Frag)(H:Hp)(a:Addr)(xs:List V):Prop:=
  Rd H a (.lst xs)∨
    ∃(o:Obj) (its:Array Value) (n:Nat),K.lookup a=some o∧o.cls=.type "list"∧o.dict=none∧o.data=.seq its n∧its.size≤sizeLine∧aU xs its.toList
def dY(K:PySem.W.Frag)(H:Hp)(a:Addr)(xs:List V):Prop:=
  Rd H a (.tup xs)∨
    ∃(o:Obj) (its:Array Value) (n:Nat),K.lookup a=some o∧o.cls=.type "tuple"∧o.dict=none∧o.data=.seq its n∧its.size≤sizeLine∧aU xs its.toList
def C6:Value→Option V
  | .none=>some .non
  | .bool b=>some (.bl b)
  | .int i _=>some (.int i)
  | .str x _=>some (.str x)
  | .bytes b _=>some (.byt b)
  | .float b _=>some (.flt b)
  | .ref a=>some (.ref a)
  | .type n=>some (.ty n)
  | _=>none
theorem bz.abs{x:V}{u:Value}(r:bz x u):C6 u=some x:=by
  cases x with
  | non=>cases r;rfl
  | bl _=>cases r;rfl
  | int _=>obtain⟨t,rfl⟩:=r;rfl
  | str _=>obtain⟨t,rfl⟩:=r;rfl
  | byt _=>obtain⟨t,rfl⟩:=r;rfl
  | flt _=>obtain⟨t,rfl⟩:=r;rfl
  | ref _=>cases r;rfl
  | ty _=>cases r;rfl
theorem bz.inj{x y:V}{u:Value}(r:bz x u)(q:bz y u):x=y:=Option.some.inj (r.abs.symm.trans q.abs)
theorem aU.inj:∀{xs ys:List V} {us:List Value},aU xs us→aU ys us→xs=ys
  | _,_,_,.nil,.nil=>rfl
  | _,_,_,.cons r t,.cons r' t'=>by rw [r.inj r',aU.inj t t']
section
variable{X:Cx}{pins:List (Addr × Obj)}{σ:St}{H:Hp}{s:Shared}{a:Addr}{xs ys:List V}
theorem gL.of{K:PySem.W.Frag}(h:H a=some (.lst xs)):gL K H a xs:=.inl (.inl h)
theorem dY.of{K:PySem.W.Frag}(h:H a=some (.tup xs)):dY K H a xs:=.inl (.inl h)
theorem aJ.list(I:aJ X pins σ H s)(h:gL X.K H a xs):∃its:List Value,aU xs its∧PlainL s.heap a its.toArray∧xs.length≤sizeLine:=by
  rcases h with h | ⟨o,its,n,hk,hc,hd,hs,hz,r⟩
  · obtain⟨z,its,n,r,e⟩:=h.ok I.hok
    exact⟨its,r,⟨_,n,e,rfl,rfl,rfl⟩,z⟩
  · refine⟨its.toList,r,⟨o,n,I.kIn a o hk,hc,hd,by simpa using hs⟩,?_⟩
    have e:=r.length
    simp only [Array.length_toList] at e
    lia
theorem aJ.tuple(I:aJ X pins σ H s)(h:dY X.K H a xs):∃its:List Value,aU xs its∧IsTup s.heap a its.toArray∧xs.length≤sizeLine:=by
  rcases h with h | ⟨o,its,n,hk,hc,_,hs,hz,r⟩
  · obtain⟨z,its,r,p⟩:=h.ok I.hok
    exact⟨its,r,p.tup,z⟩
  · refine⟨its.toList,r,⟨o,I.kIn a o hk,hc,n,by simpa using hs⟩,?_⟩
    have e:=r.length
    simp only [Array.length_toList] at e
    lia
theorem aJ.list_inj(I:aJ X pins σ H s)(h:gL X.K H a xs)(h':gL X.K H a ys):xs=ys:=by
  obtain⟨its,r,⟨o,n,e,_,_,d⟩,_⟩:=I.list h
  obtain⟨its',r',⟨o',n',e',_,_,d'⟩,_⟩:=I.list h'
  rw [e] at e';cases e'
  rw [d] at d'
  injection d' with d1 _
  have:its=its':=by simpa using congrArg Array.toList d1
  subst this
  exact r.inj r'
theorem aJ.tuple_inj(I:aJ X pins σ H s)(h:dY X.K H a xs)(h':dY X.K H a ys):xs=ys:=by
  obtain⟨its,r,⟨o,e,_,n,d⟩,_⟩:=I.tuple h
  obtain⟨its',r',⟨o',e',_,n',d'⟩,_⟩:=I.tuple h'
  rw [e] at e';cases e'
  rw [d] at d'
  injection d' with d1 _
  have:its=its':=by simpa using congrArg Array.toList d1
  subst this
  exact r.inj r'
end
abbrev Cx.wish(X:Cx)(E:Value→Shared→Prop):Cx:={X with xe:=E}
abbrev Cx.nox(X:Cx):Cx:=X.wish fun _ _=>False
theorem Cx.Ok.wish{X:Cx}(ok:X.Ok)(E:Value→Shared→Prop):(X.wish E).Ok:=
  ⟨ok.mod,ok.kind,ok.glob,ok.blt,ok.above,ok.inj,ok.has,ok.cab,ok.hd,ok.frames,ok.stk,ok.exf,ok.bs,ok.bsz,ok.noex,ok.exfs,ok.funs,ok.frf⟩
theorem Cx.Ok.unwish{X:Cx}{E:Value→Shared→Prop}(ok:(X.wish E).Ok):X.Ok:=
  ⟨ok.mod,ok.kind,ok.glob,ok.blt,ok.above,ok.inj,ok.has,ok.cab,ok.hd,ok.frames,ok.stk,ok.exf,ok.bs,ok.bsz,ok.noex,ok.exfs,ok.funs,ok.frf⟩
section
variable{X:Cx}{pins:List (Addr × Obj)}{σ:St}{H:Hp}{s:Shared}{E:Value→Shared→Prop}
theorem aJ.wish(I:aJ X pins σ H s)(E:Value→Shared→Prop):aJ (X.wish E) pins σ H s:=⟨I.ok.wish E,I.os,I.bare,I.base,I.loc,I.cell,I.free,I.freeC,I.pin,I.hok,I.len⟩
theorem aJ.unwish(I:aJ (X.wish E) pins σ H s):aJ X pins σ H s:=⟨I.ok.unwish,I.os,I.bare,I.base,I.loc,I.cell,I.free,I.freeC,I.pin,I.hok,I.len⟩
theorem SP.unwish{D:oy}{f:Flow}{s':Shared}(h:SP (X.wish E) pins D f s'):SP X pins D f s':=by
  cases f with
  | next=>obtain⟨σ',H',I,q⟩:=h;exact⟨σ',H',I.unwish,q⟩
  | brk=>obtain⟨σ',H',I,q⟩:=h;exact⟨σ',H',I.unwish,q⟩
  | cont=>obtain⟨σ',H',I,q⟩:=h;exact⟨σ',H',I.unwish,q⟩
  | ret u=>obtain⟨v,σ',H',I,r,q⟩:=h;exact⟨v,σ',H',I.unwish,r,q⟩
theorem PT.nox{e:Expr}{t:TT}(h:PT X.nox e t):PT X e t:=fun pins s σ H Q I hw=>
  wpAny_mono (h pins s σ H Q (I.wish _) hw) (fun _ _ ⟨H',I',q⟩=>⟨H',I'.unwish,q⟩) fun _ _ z=>False.elim z
theorem jy.nox{st:List Stmt}{t:TS}(h:jy X.nox st t):jy X st t:=fun pins s σ H D I hw=>
  wpAny_mono (h pins s σ H D (I.wish _) hw) (fun _ _ q=>q.unwish) fun _ _ z=>False.elim z
end
section
variable{X:Cx}{st:Stmt}{dc:List Stmt}{t u:TS}{e:Expr}{te:TE}{pos:Pos}
def Cm:TS:=fun D σ H=>D.nx σ H
def Cq(t u:TS):TS:=fun D σ H=>t {D with nx:=u D} σ H
theorem rY:jy X [] Cm:=fun _ _ σ H _ I h=>wpAny_execs_nil ⟨σ,H,I,h⟩
theorem iG(h1:PS X st t)(h2:jy X dc u):jy X (st::dc) (Cq t u):=by
  intro pins s σ H D I h
  refine wpAny_execs_cons (cN (h1 pins s σ H {D with nx:=u D} I h) fun f s1 q=>?_)
  cases f with
  | next=>
    obtain⟨σ',H',I',q⟩:=q
    exact h2 pins s1 σ' H' D I' q
  | ret v=>exact q
  | brk=>exact q
  | cont=>exact q
theorem jS(h1:PS X st t):jy X [st] t:=by
  intro pins s σ H D I h
  refine wpAny_execs_cons (cN (h1 pins s σ H D I h) fun f s1 q=>?_)
  cases f with
  | next=>exact wpAny_execs_nil q
  | ret v=>exact q
  | brk=>exact q
  | cont=>exact q
theorem aJ.quiet{pins:List (Addr × Obj)}{σ:St}{H:Hp}{s:Shared}(I:aJ X pins σ H s):interactive X.env=false:=by simp [interactive,I.ok.kind]
def Ck(te:TE):TS:=fun D σ H=>te σ H fun _ H1=>D.nx σ H1
theorem xT(he:PE X e te)(hs:swapsWith e none pos.line X.env=pure false:=by rfl):PS X (.Expr e pos) (Ck te):=by
  intro pins s σ H D I h
  exact wpAny_Expr_any (cN (he pins s σ H _ I h) fun v s1 ⟨x,H1,I1,r1,q1⟩=>⟨σ,H1,I1,q1⟩) I.quiet hs
def AO(te:TE):TS:=fun D σ H=>te σ H D.rt
theorem rc(he:PE X e te):PS X (.Return (some e) pos) (AO te):=by
  intro pins s σ H D I h
  exact wpAny_Return_some (cN (he pins s σ H _ I h) fun v s1 ⟨x,H1,I1,r1,q1⟩=>⟨x,σ,H1,I1,r1,q1⟩)
def Dx(c:TT)(t u:TS):TS:=fun D σ H=>c σ H fun b H1=>if b=true then t D σ H1 else u D σ H1
theorem yW{c:Expr}{a b:List Stmt}{tc:TT}(hc:PT X c tc)(ha:jy X a t)(hb:jy X b u):PS X (.If c a b pos) (Dx tc t u):=by
  intro pins s σ H D I h
  refine wpAny_If (cN (hc pins s σ H _ I h) fun d s1 ⟨H1,I1,q1⟩=>?_)
  cases d with
  | true=>exact ha pins s1 σ H1 D I1 q1
  | false=>exact hb pins s1 σ H1 D I1 q1
end
abbrev TG:=V→St→Hp→(St→Hp→Prop)→Prop
abbrev wq:=List V→St→Hp→(St→Hp→Prop)→Prop
def PG(X:Cx)(target:Expr)(t:TG):Prop:=
  ∀(pins:List (Addr × Obj)) (s:Shared) (σ:St) (H:Hp) (v:V) (u:Value) (Q:St→Hp→Prop),aJ X pins σ H s→bz v u→t v σ H Q→
    wpAny (model X.prog X.w) X.A (assign target X.env u) (fun _ s'=>∃σ' H',aJ X pins σ' H' s'∧Q σ' H') X.xe s
def ua(X:Cx)(ts:List Expr)(t:wq):Prop:=
  ∀(pins:List (Addr × Obj)) (s:Shared) (σ:St) (H:Hp) (vs:List V) (us:List Value) (Q:St→Hp→Prop),aJ X pins σ H s→aU vs us→t vs σ H Q→
    wpAny (model X.prog X.w) X.A (assignInOrder ((assignEach ts X.env).map (·.2)) us) (fun _ s'=>∃σ' H',aJ X pins σ' H' s'∧Q σ' H') X.xe s
section
variable{X:Cx}{pos:Pos}
def uI(i:Nat):TG:=fun v σ H Q=>Q (σ.set i (some v)) H
theorem xK{i:Nat}{x:Str}(hN:X.N.Nodup)(hi:X.N[i]?=some x)(hx:Ba X.env.scope x)(hf:X.fn x=true∨X.env.scope.names.lookup x=some .local:=by first | exact .inl rfl | exact .inr rfl | assumption):PG X (.Name x pos) (uI i):=by
  intro pins s σ H v u Q I r h
  exact wpAny_assign_Name (iQ I hN hi hx r (fun s' I'=>⟨_,H,I',h⟩) hf)
def C9:wq:=fun vs σ H Q=>vs=[]∧Q σ H
def Bs(t:TG)(u:wq):wq:=fun vs σ H Q=>∃v r,vs=v::r∧t v σ H fun σ' H'=>u r σ' H' Q
theorem xN:ua X [] C9:=by
  intro pins s σ H vs us Q I r h
  obtain⟨e,h⟩:=h
  subst e
  cases r
  exact assignInOrder_nil ⟨σ,H,I,h⟩
theorem vw{e:Expr}{es:List Expr}{t:TG}{u:wq}(h1:PG X e t)(h2:ua X es u)
    (hs:(assignEach (e::es) X.env).map (·.2)=assign e X.env::(assignEach es X.env).map (·.2):=by rfl):ua X (e::es) (Bs t u):=by
  intro pins s σ H vs us Q I r h
  obtain⟨v,vr,e1,h⟩:=h
  subst e1
  cases r with
  | cons r rr=>
    rw [hs]
    refine assignInOrder_cons (cN (h1 pins s σ H _ _ _ I r h) fun _ s1 ⟨σ1,H1,I1,q1⟩=>?_)
    exact h2 pins s1 σ1 H1 _ _ Q I1 rr q1
def Bu(K:PySem.W.Frag)(n:Nat)(t:wq):TG:=fun v σ H Q=>∃a xs,v=.ref a∧dY K H a xs∧xs.length=n∧t xs σ H Q
theorem Ai{es:List Expr}{k:Nat}{t:wq}{n:Nat}(hc:X.calm=true)(h:ua X es t)
    (hn:(assignEach es X.env).length=n:=by rfl)(hst:(assignEach es X.env).findIdx? (·.1)=none:=by rfl):PG X (.Tuple es k pos) (Bu X.K n t):=by
  intro pins s σ H v u Q I r hw
  obtain⟨a,xs,e1,hq,hl,hw⟩:=hw
  subst e1
  cases r
  obtain⟨its,rv,ht,hz⟩:=I.tuple hq
  refine assign_Tuple_tuple (I.ok.hd hc) ht (by simp [hn,←hl,rv.length]) hst fun h' hx=>?_
  have I1:aJ X pins σ H {s with heap:=h'}:=I.kept (t':=s.toks) fun b o e=>hx b o (Nat.ne_of_lt (Heap.lt_size e)) e
  exact h pins _ σ H xs _ Q I1 (by simpa using rv) hw
def AK(te:TE)(g:TG):TS:=fun D σ H=>te σ H fun x H1=>g x σ H1 D.nx
theorem Ak{tg e:Expr}{te:TE}{g:TG}(he:PE X e te)(hg:PG X tg g)(hs:swapsWithSole [tg] e pos.line X.env=pure false:=by rfl)(hw:swappedStores [tg] e X.env=pure none:=by rfl)
    (h1:(assignEach [tg] X.env).map (·.2)=[assign tg X.env]:=by rfl):PS X (.Assign [tg] e pos) (AK te g):=by
  intro pins s σ H D I h
  refine wpAny_Assign_stores (cN (he pins s σ H _ I h) fun v s1 ⟨x,H1,I1,r1,q1⟩=>?_) hs hw
  rw [h1]
  exact cN (hg pins s1 σ H1 x v _ I1 r1 q1) fun _ s2 q=>q
theorem pj{i:Nat}{x:Str}{e:Expr}{te:TE}{pos':Pos}(hN:X.N.Nodup)(hi:X.N[i]?=some x)(hx:Ba X.env.scope x)(he:PE X e te)(hs:swapsWith e (some (.Name x pos')) pos.line X.env=pure false:=by rfl)(hf:X.fn x=true∨X.env.scope.names.lookup x=some .local:=by first | exact .inl rfl | exact .inr rfl | assumption):
    PS X (.Assign [.Name x pos'] e pos) (AK te (uI i)):=by
  intro pins s σ H D I h
  refine wpAny_Assign_Name (cN (he pins s σ H _ I h) fun v s1 ⟨y,H1,I1,r1,q1⟩=>?_) hs
  exact iQ I1 hN hi hx r1 (fun s2 I2=>⟨_,H1,I2,q1⟩) hf
def Dz(i j:Nat)(ta:TA):TS:=fun D σ H=>ta σ H fun vs H1=>∃v w,vs=[v,w]∧D.nx ((σ.set i (some v)).set j (some w)) H1
theorem Am{i j:Nat}{x y:Str}{a b:Expr}{ta:TA}{px py pt:Pos}{kt k2 pt2}(hc:X.calm=true)(hN:X.N.Nodup)(hi:X.N[i]?=some x)(hj:X.N[j]?=some y)(hij:i≠j)
    (hx:X.env.scope.names.lookup x=some .local)(hy:X.env.scope.names.lookup y=some .local)(ha:PA X [a,b] ta)
    (hw:swappedStores [.Tuple [.Name x px,.Name y py] kt pt] (.Tuple [a,b] k2 pt2) X.env=pure (some [x,y]))
    (hs:swapsWithSole [.Tuple [.Name x px,.Name y py] kt pt] (.Tuple [a,b] k2 pt2) pos.line X.env=pure false:=by rfl):
    PS X (.Assign [.Tuple [.Name x px,.Name y py] kt pt] (.Tuple [a,b] k2 pt2) pos) (Dz i j ta):=by
  intro pins s σ H D I h
  rw [exec_Assign_arm]
  refine wpAny_bind (wpAny_standAt ?_)
  rw [hs]
  refine wpAny_bind (wpAny_pure ?_)
  rw [if_neg (by decide)]
  refine wpAny_bind (Tuple_ (cN (ha _ pins s σ H _ I h) fun us s1 ⟨vs,H1,I1,r1,q1⟩=>?_))
  obtain⟨v,w,e1,q1⟩:=q1
  subst e1
  obtain⟨u1,u2,rfl,rv,rw'⟩:∃u1 u2,us=[u1,u2]∧bz v u1∧bz w u2:=by
    cases r1 with
    | cons p q=>
      cases q with
      | cons p' q'=>
        cases q'
        exact⟨_,_,rfl,p,p'⟩
  refine wpAny_newObj_type ?_ (by show 2≤sizeLine;decide)
  have I2:aJ X pins σ H1 {s1 with heap:=s1.heap.push {cls:=.type "tuple",data:=.seq [u1,u2].toArray}}:=I1.kept (t':=s1.toks) fun b o e=>Heap.get?_push_of_some _ e
  rw [hw]
  refine wpAny_bind (wpAny_pure ?_)
  show wpAny (model X.prog X.w) X.A (do rule "assign.swapped-stores";let items ←unpackItems (.ref s1.heap.objs.size) 2 none;assignInOrder [fun v=>bindName X.env y v,fun v=>bindName X.env x v] items.reverse;pure Flow.next) _ _ _
  refine wpAny_bind (wpAny_rule (wpAny_bind (unpackItems_tuple (items:=#[u1,u2]) (I.ok.hd hc) (IsTup.new s1.heap _) fun h' hx'=>?_)))
  have I3:=I2.kept (h':=h') (t':=s1.toks) fun b o e=>hx' b o (Nat.ne_of_lt (Heap.lt_size e)) e
  show wpAny _ _ (assignInOrder [fun v=>bindName X.env y v,fun v=>bindName X.env x v] [u2,u1] >>= fun _=>pure Flow.next) _ _ _
  refine wpAny_bind (assignInOrder_cons (wpAny_bindName (iQ I3 hN hj (.inl hy) rw' (fun s2 I4=>?_) (.inr hy))))
  refine assignInOrder_cons (wpAny_bindName (iQ I4 hN hi (.inl hx) rv (fun s3 I5=>assignInOrder_nil (wpAny_pure ?_)) (.inr hx)))
  rw [List.set_comm _ _ (Ne.symm hij)] at I5
  exact⟨_,H1,I5,q1⟩
end
section
variable{X:Cx}{pos:Pos}
def AQ(c:TT)(tb:TS):TS:=fun D σ H=>∃W:Nat→St→Hp→Prop,(∃m,W m σ H)∧∀m σ H,W m σ H→
  c σ H fun b H1=>if b=true then ∃N:St→Hp→Prop,(∀σ' H',N σ' H'→∃m',m' < m∧W m' σ' H')∧tb {D with nx:=N,ct:=N,bk:=D.nx} σ H1 else D.nx σ H1
theorem vD{c:Expr}{body:List Stmt}{tc:TT}{tb:TS}(hp:PassesOwn (model X.prog X.w) X.A X.env X.xe)(hc:PT X c tc)(hb:jy X body tb):PS X (.While c body [] pos) (AQ tc tb):=by
  intro pins s σ H D I h
  obtain⟨W,⟨m0,w0⟩,turn⟩:=h
  refine wpAny_While (codeAny_whileLoop (fun n s'=>∃σ' H',aJ X pins σ' H' s'∧W n σ' H') ?_ m0 ⟨σ,H,I,w0⟩)
  rintro n s1 ⟨σ1,H1,I1,w1⟩
  refine wpAny_passesOwn hp (cN (hc pins s1 σ1 H1 _ I1 (turn n σ1 H1 w1)) fun b s2 ⟨H2,I2,q2⟩=>?_)
  cases b with
  | true=>
    obtain⟨N,hN,q2⟩:=q2
    rw [if_pos rfl]
    refine wpAny_passesOwn hp (cN (hb pins s2 σ1 H2 _ I2 q2) fun f s3 q3=>?_)
    cases f with
    | next=>
      obtain⟨σ3,H3,I3,n3⟩:=q3
      obtain⟨m',hm,w3⟩:=hN σ3 H3 n3
      exact⟨m',hm,σ3,H3,I3,w3⟩
    | cont=>
      obtain⟨σ3,H3,I3,n3⟩:=q3
      obtain⟨m',hm,w3⟩:=hN σ3 H3 n3
      exact⟨m',hm,σ3,H3,I3,w3⟩
    | brk=>exact q3
    | ret v=>exact q3
  | false=>
    rw [if_neg Bool.false_ne_true]
    exact wpAny_execs_nil ⟨σ1,H2,I2,q2⟩
end
structure It where
  go:Nat→Hp→Prop
  yld:Nat→Hp→V→Hp→Prop
  stop:Nat→Hp→Prop
def pE(X:Cx)(pins:List (Addr × Obj))(H:Hp)(b:Addr):Prop:=
  H b=none∧b≠X.env.locals∧b∉X.fs∧(b∈X.ex∨X.s₀.heap.objs.size≤b)∧(∀x c,X.env.cells.lookup x=some c→c≠b)∧∀p∈X.pn++pins,p.1≠b
theorem aJ.fpOk{X:Cx}{pins:List (Addr × Obj)}{σ:St}{H H':Hp}{s:Shared}{b:Addr}(I:aJ X pins σ H s)(hb:s.heap.objs.size≤b)(hn:H' b=none):pE X pins H' b:=by
  refine⟨hn,Nat.ne_of_gt (Nat.lt_of_lt_of_le I.lt hb),I.nofs hb,.inr (Nat.le_trans I.sz hb),fun x c e z=>?_,fun p hp z=>?_⟩
  · obtain⟨v,q⟩:=I.cell x c e
    exact absurd (Nat.lt_of_lt_of_le q.lt (by rw [z];exact hb)) (Nat.lt_irrefl _)
  · exact absurd (Nat.lt_of_lt_of_le (Heap.lt_size (I.pin p hp).1) (by rw [z];exact hb)) (Nat.lt_irrefl _)
structure wJ (P:Program) (w:World) (K:PySem.W.Frag) (tg:Expr) (J:It) (fp:List Addr) (it:Addr) (tn:Nat→Heap→Prop):Prop where
  mem:it∈fp
  obj:∀i h,tn i h→∀b∈fp,∃o,h.get? b=some o∧∀v,o.data≠.cell v
  keep:∀i h h',tn i h→(∀b∈fp,∀o,h.get? b=some o→h'.get? b=some o)→tn i h'
  item:∀(X:Cx),X.prog=P→X.w=w→X.K=K→X.calm=true→∀(i:Nat) (pins:List (Addr × Obj)) (s:Shared) (σ:St) (H:Hp) (E:Value→Shared→Prop),aJ X pins σ H s→(∀b∈fp,pE X pins H b)→tn i s.heap→J.go i H→
    wpAny (model P w) X.A (pyNext (.ref it)) (fun r s1=>∃u,r=some u∧
      wpAny (model P w) X.A (letOwnedTupleGo tg (.ref it) u) (fun _ s2=>∃x H',aJ X pins σ H' s2∧bz x u∧J.yld i H x H'∧tn (i+1) s2.heap∧∀b∈fp,H' b=none) E s1) E s
  done:∀(X:Cx),X.prog=P→X.w=w→X.K=K→X.calm=true→∀(i:Nat) (pins:List (Addr × Obj)) (s:Shared) (σ:St) (H:Hp) (E:Value→Shared→Prop),aJ X pins σ H s→(∀b∈fp,pE X pins H b)→tn i s.heap→J.stop i H→
    wpAny (model P w) X.A (pyNext (.ref it)) (fun r s1=>r=none∧aJ X pins σ H s1) E s
  self:∀(A:Around) (i:Nat) (s:Shared) (Q:Value→Shared→Prop) (E:Value→Shared→Prop),tn i s.heap→Q (.ref it) s→wpAny (model P w) A (pyIter (.ref it)) Q E s
abbrev TI:=St→Hp→(It→Hp→Prop)→Prop
def DK(X:Cx)(pins:List (Addr × Obj))(σ:St)(tg:Expr)(R:It→Hp→Prop)(itv:Value)(s2:Shared):Prop:=
  ∃(it:Addr) (fp:List Addr) (tn:Nat→Heap→Prop) (J:It) (H':Hp),itv=.ref it∧aJ X pins σ H' s2∧wJ X.prog X.w X.K tg J fp it tn∧tn 0 s2.heap∧(∀b∈fp,pE X pins H' b)∧R J H'
def PI(X:Cx)(tg iter:Expr)(wi:TI):Prop:=
  ∀(pins:List (Addr × Obj)) (s:Shared) (σ:St) (H:Hp) (R:It→Hp→Prop),aJ X pins σ H s→wi σ H R→
    wpAny (model X.prog X.w) X.A (eval iter X.env) (fun v s1=>wpAny (model X.prog X.w) X.A (pyIter v) (DK X pins σ tg R) X.xe s1) X.xe s
theorem uM{M:Model}{A:Around}{E:Value→Shared→Prop}{s:Shared}{tg:Expr}{it:Addr}{u:Value}{o:Obj}{n:String}{vs:Array Value}{Q:Unit→Shared→Prop}(ho:s.heap.get? it=some o)(hc:o.cls=.type n)(hd:o.data=.fields vs)
    (hn:["enumerate","zip","dict_itemiterator","dict_reverseitemiterator","odict_iterator","itertools.zip_longest","itertools.pairwise"].contains n=false)(hQ:Q () s):wpAny M A (letOwnedTupleGo tg (.ref it) u) Q E s:=by
  unfold letOwnedTupleGo
  cases tg<;>first
    | exact wpAny_pure hQ
    | (cases u<;>first
        | exact wpAny_pure hQ
        | (refine wpAny_bind (wpAny_load ho ?_)
           rw [hc,hd]
           show wpAny M A (if (["enumerate","zip","dict_itemiterator","dict_reverseitemiterator","odict_iterator","itertools.zip_longest","itertools.pairwise"].contains n&&vs[0]?==some (rawInt _))=true then _ else _) Q E s
           rw [if_neg (by intro h;rw [hn,Bool.false_and] at h;cases h)]
           exact wpAny_pure hQ))
def CV(K:PySem.W.Frag)(a:Addr):It:=
  ⟨fun i H=>∃xs x,gL K H a xs∧xs[i]?=some x,fun i H x H'=>H'=H∧∀xs,gL K H a xs→xs[i]?=some x,fun i H=>∃xs,gL K H a xs∧xs.length≤i⟩
def CW(K:PySem.W.Frag)(a:Addr):It:=
  ⟨fun i H=>∃xs x,dY K H a xs∧xs[i]?=some x,fun i H x H'=>H'=H∧∀xs,dY K H a xs→xs[i]?=some x,fun i H=>∃xs,dY K H a xs∧xs.length≤i⟩
def CA(lo:Int)(n:Nat):It:=⟨fun i _=>i < n,fun i H x H'=>H'=H∧x=.int (lo+i),fun i _=>n≤i⟩
theorem t9{P:Program}{w:World}{K:PySem.W.Frag}{tg:Expr}(a it:Addr):wJ P w K tg (CV K a) [it] it (fun i h=>h.IsListIter it a i) where
  mem:=by simp
  obj:=fun i h st b hb=>by
    have e:b=it:=by simpa using hb
    subst e
    obtain⟨o,e,c,d⟩:=st
    exact⟨o,e,fun v z=>by rw [d] at z;cases z⟩
  keep:=fun i h h' st k=>st.at fun o e=>k it (by simp) o e
  item:=by
    intro X hP hw hK hc i pins s σ H E I hf st hg
    subst hP hw hK
    obtain⟨xs,x,hq,hx⟩:=hg
    obtain⟨its,rv,p,hz⟩:=I.list hq
    obtain⟨u,hu,ru⟩:=rv.get hx
    obtain⟨f0,f1,f2,f3,f4,f5⟩:=hf it (by simp)
    refine wpAny_pyNext_list_item st p.isList (x:=u) (by simpa using hu) fun h' st' sb=>?_
    have I1:aJ X pins σ H {s with heap:=h'}:=I.turned (t':=s.toks) (fun b o hb e=>(sb.2 b hb).trans e) f0 f1 f3 f4 f5
    obtain⟨o,e,c,d⟩:=id st'
    exact⟨u,rfl,uM (s:={s with heap:=h'}) e c d (by decide) ⟨x,H,I1,ru,⟨rfl,fun ys hy=>by rw [I.list_inj hy hq];exact hx⟩,st',fun b hb=>(hf b hb).1⟩⟩
  done:=by
    intro X hP hw hK hc i pins s σ H E I hf st hg
    subst hP hw hK
    obtain⟨xs,hq,hx⟩:=hg
    obtain⟨its,rv,p,hz⟩:=I.list hq
    obtain⟨f0,f1,f2,f3,f4,f5⟩:=hf it (by simp)
    have hl:=rv.length
    exact wpAny_pyNext_list_end (I.ok.hd hc) st p.isList (by simp;lia) fun h' eb=>⟨rfl,I.turned (t':=s.toks) (fun b o hb e=>eb b o hb e) f0 f1 f3 f4 f5⟩
  self:=fun _ _ _ _ _ st h=>wpAny_pyIter_listiter st h
theorem rl{P:Program}{w:World}{K:PySem.W.Frag}{tg:Expr}(a it:Addr):wJ P w K tg (CW K a) [it] it (fun i h=>h.IsTupleIter it a i) where
  mem:=by simp
  obj:=fun i h st b hb=>by
    have e:b=it:=by simpa using hb
    subst e
    obtain⟨o,e,c,d⟩:=st
    exact⟨o,e,fun v z=>by rw [d] at z;cases z⟩
  keep:=fun i h h' st k=>st.at fun o e=>k it (by simp) o e
  item:=by
    intro X hP hw hK hc i pins s σ H E I hf st hg
    subst hP hw hK
    obtain⟨xs,x,hq,hx⟩:=hg
    obtain⟨its,rv,p,hz⟩:=I.tuple hq
    obtain⟨u,hu,ru⟩:=rv.get hx
    obtain⟨f0,f1,f2,f3,f4,f5⟩:=hf it (by simp)
    refine wpAny_pyNext_tuple_item st (show s.heap.IsTuple a its.toArray from p) (x:=u) (by simpa using hu) fun h' st' sb=>?_
    have I1:aJ X pins σ H {s with heap:=h'}:=I.turned (t':=s.toks) (fun b o hb e=>(sb.2 b hb).trans e) f0 f1 f3 f4 f5
    obtain⟨o,e,c,d⟩:=id st'
    exact⟨u,rfl,uM (s:={s with heap:=h'}) e c d (by decide) ⟨x,H,I1,ru,⟨rfl,fun ys hy=>by rw [I.tuple_inj hy hq];exact hx⟩,st',fun b hb=>(hf b hb).1⟩⟩
  done:=by
    intro X hP hw hK hc i pins s σ H E I hf st hg
    subst hP hw hK
    obtain⟨xs,hq,hx⟩:=hg
    obtain⟨its,rv,p,hz⟩:=I.tuple hq
    obtain⟨f0,f1,f2,f3,f4,f5⟩:=hf it (by simp)
    have hl:=rv.length
    exact wpAny_pyNext_tuple_end (I.ok.hd hc) st (show s.heap.IsTuple a its.toArray from p) (by simp;lia) fun h' eb=>⟨rfl,I.turned (t':=s.toks) (fun b o hb e=>eb b o hb e) f0 f1 f3 f4 f5⟩
  self:=fun _ _ _ _ _ st h=>wpAny_pyIter_tupleiter st h
theorem rk{P:Program}{w:World}{K:PySem.W.Frag}{tg:Expr}(it:Addr)(lo:Int)(n:Nat):wJ P w K tg (CA lo n) [it] it (fun i h=>IsRangeIter h it (lo+(i:Nat)*1) ((n:Int) - (i:Nat)) 1) where
  mem:=by simp
  obj:=fun i h st b hb=>by
    have e:b=it:=by simpa using hb
    subst e
    exact⟨_,st,fun v z=>by
      have z':Data.fields _=Data.cell v:=z
      cases z'⟩
  keep:=fun i h h' st k=>k it (by simp) _ st
  item:=by
    intro X hP hw hK hc i pins s σ H E I hf st hg
    subst hP hw hK
    obtain⟨f0,f1,f2,f3,f4,f5⟩:=hf it (by simp)
    have W:=Walks.range (prog:=X.prog) (w:=X.w) (I.ok.hd hc) it lo 1 n
    refine W.item i s _ _ hg st fun v h' tk hv st' kk=>?_
    obtain⟨t,rfl⟩:=hv
    have I1:aJ X pins σ H {s with heap:=h',toks:=tk}:=I.turned (fun b o hb e=>kk b o (by simpa using hb) e) f0 f1 f3 f4 f5
    refine⟨_,rfl,uM (s:={s with heap:=h',toks:=tk}) (n:="range_iterator") st' rfl rfl (by decide) ⟨.int (lo+i),H,I1,⟨t,?_⟩,⟨rfl,rfl⟩,st',fun b hb=>(hf b hb).1⟩⟩
    rw [Int.mul_one]
  done:=by
    intro X hP hw hK hc i pins s σ H E I hf st hg
    subst hP hw hK
    obtain⟨f0,f1,f2,f3,f4,f5⟩:=hf it (by simp)
    exact wpAny_pyNext_range_end (I.ok.hd hc) st (by have:n≤i:=hg;lia) fun h' eb=>⟨rfl,I.turned (t':=s.toks) (fun b o hb e=>eb b o hb e) f0 f1 f3 f4 f5⟩
  self:=fun _ _ _ _ _ st h=>wpAny_pyIter_rangeiter st h
end L2
namespace L2
open PySem PySem.Spec PyProof.Rows
section
variable{X:Cx}{tg:Expr}
def yJ(K:PySem.W.Frag)(tl:TE):TI:=fun σ H R=>tl σ H fun x H1=>∃a,x=.ref a∧(∃xs,gL K H1 a xs)∧R (CV K a) H1
def Bw(K:PySem.W.Frag)(tl:TE):TI:=fun σ H R=>tl σ H fun x H1=>∃a,x=.ref a∧(∃xs,dY K H1 a xs)∧R (CW K a) H1
theorem xO{l:Expr}{tl:TE}(hl:PE X l tl):PI X tg l (yJ X.K tl):=by
  intro pins s σ H R I h
  refine cN (hl pins s σ H _ I h) fun v s1 ⟨x,H1,I1,r1,q1⟩=>?_
  obtain⟨a,e,⟨xs,hq⟩,q⟩:=q1
  subst e
  cases r1
  obtain⟨its,rv,p,hz⟩:=I1.list hq
  refine wpAny_pyIter_list p.isList ?_
  refine⟨s1.heap.objs.size,[s1.heap.objs.size],_,_,H1,rfl,I1.kept (t':=s1.toks) fun b o e=>Heap.get?_push_of_some _ e,t9 a _,⟨_,Heap.get?_push_size _ rfl,rfl,rfl⟩,fun b hb=>?_,q⟩
  have e:b=s1.heap.objs.size:=by simpa using hb
  subst e
  exact I1.fpOk (Nat.le_refl _) (I1.hok.fresh (Nat.le_refl _))
theorem Aj{l:Expr}{tl:TE}(hl:PE X l tl):PI X tg l (Bw X.K tl):=by
  intro pins s σ H R I h
  refine cN (hl pins s σ H _ I h) fun v s1 ⟨x,H1,I1,r1,q1⟩=>?_
  obtain⟨a,e,⟨xs,hq⟩,q⟩:=q1
  subst e
  cases r1
  obtain⟨its,rv,p,hz⟩:=I1.tuple hq
  refine wpAny_pyIter_tuple (show s1.heap.IsTuple a its.toArray from p) ?_
  refine⟨s1.heap.objs.size,[s1.heap.objs.size],_,_,H1,rfl,I1.kept (t':=s1.toks) fun b o e=>Heap.get?_push_of_some _ e,rl a _,⟨_,Heap.get?_push_size _ rfl,rfl,rfl⟩,fun b hb=>?_,q⟩
  have e:b=s1.heap.objs.size:=by simpa using hb
  subst e
  exact I1.fpOk (Nat.le_refl _) (I1.hok.fresh (Nat.le_refl _))
theorem vO{pins:List (Addr × Obj)}{σ:St}{H:Hp}{s:Shared}{R:It→Hp→Prop}{E:Value→Shared→Prop}{lo hi:Int}{t u v:Tok}{tk:Nat}(I:aJ X pins σ H s)(h1: -(2 ^ 62)≤lo)(h2:lo < 2 ^ 62)(h3: -(2 ^ 62)≤hi)(h4:hi < 2 ^ 62)
    (q:R (CA lo (hi - lo).toNat) H):wpAny (model X.prog X.w) X.A (pyIter (.ref s.heap.objs.size)) (DK X pins σ tg R) E {s with heap:=s.heap.push {cls:=.type "range",data:=.fields #[.int lo t,.int hi u,.int 1 v]},toks:=tk}:=by
  refine wpAny_pyIter_range (IsRange.new ..) (small_one h1 h2 h3 h4) ?_
  have I1:aJ X pins σ H {s with heap:=s.heap.push {cls:=.type "range",data:=.fields #[.int lo t,.int hi u,.int 1 v]},toks:=tk}:=I.kept fun b o e=>Heap.get?_push_of_some _ e
  refine⟨(s.heap.push {cls:=.type "range",data:=.fields #[.int lo t,.int hi u,.int 1 v]}).objs.size,[(s.heap.push {cls:=.type "range",data:=.fields #[.int lo t,.int hi u,.int 1 v]}).objs.size],_,_,H,rfl,
    I1.kept (t':=tk) fun b o e=>Heap.get?_push_of_some _ e,rk _ lo (hi - lo).toNat,?_,fun b hb=>?_,q⟩
  · have e1:lo+((0:Nat):Int)*1=lo:=by simp
    have e2:(((hi - lo).toNat:Nat):Int) - ((0:Nat):Int)=Builtin.Range.rangeSize lo hi 1:=by rw [rangeSize_one];split<;>lia
    show IsRangeIter _ _ (lo+((0:Nat):Int)*1) ((((hi - lo).toNat:Nat):Int) - ((0:Nat):Int)) 1
    rw [e1,e2]
    exact Heap.get?_push_size _ rfl
  · have e:b=(s.heap.push {cls:=.type "range",data:=.fields #[.int lo t,.int hi u,.int 1 v]}).objs.size:=by simpa using hb
    subst e
    exact I1.fpOk (Nat.le_refl _) (I1.hok.fresh (Nat.le_refl _))
def Bv(ta:TA):TI:=fun σ H R=>ta σ H fun vs H1=>∃j:Int,vs=[.int j]∧ -(2 ^ 62)≤j∧j < 2 ^ 62∧R (CA 0 j.toNat) H1
theorem tO{a:Expr}{ta:TA}{p pos:Pos}(hg:Gl X "range")(hm:X.mg "range"=none)(ha:PA X [a] ta)(hs:starEach [a] X.env=[(false,eval a X.env)]:=by rfl):PI X tg (.Call (.Name "range" p) [a] [] pos) (Bv ta):=by
  intro pins s σ H R I h
  refine Call_ (ki I hg hm boot_range (PyProof.Rows.callWith_type1 (cN (ha pos pins s σ H _ I h) fun us s1 ⟨vs,H1,I1,r1,q1⟩=>?_) hs rfl))
  obtain⟨j,e,q1,q2,q⟩:=q1
  subst e
  cases r1 with
  | cons r rr=>
    cases rr
    obtain⟨t,rfl⟩:=r
    exact call_range_1 (vO I1 (by lia) (by lia) q1 q2 (by simpa using q))
def Dw(wi:TI)(g:TG)(tb:TS):TS:=fun D σ H=>wi σ H fun J H1=>∃W:Nat→Nat→St→Hp→Prop,(∃m,W 0 m σ H1)∧∀i m σ H,W i m σ H→
  (J.stop i H∧D.nx σ H)∨(J.go i H∧∃N:St→Hp→Prop,(∀σ' H',N σ' H'→∃m',m' < m∧W (i+1) m' σ' H')∧∀x H',J.yld i H x H'→g x σ H' fun σ2 H2=>tb {D with nx:=N,ct:=N,bk:=D.nx} σ2 H2)
def mw(fp:List Addr)(h:Heap):List (Addr × Obj):=fp.filterMap fun b=>(h.get? b).map fun o=>(b,o)
theorem gZ{fp:List Addr}{h:Heap}{b:Addr}{o:Obj}(hb:b∈fp)(e:h.get? b=some o):(b,o)∈mw fp h:=List.mem_filterMap.mpr ⟨b,hb,by rw [e];rfl⟩
theorem tu{fp:List Addr}{h:Heap}{p:Addr × Obj}(hp:p∈mw fp h):p.1∈fp∧h.get? p.1=some p.2:=by
  obtain⟨b,hb,e⟩:=List.mem_filterMap.mp hp
  cases q:h.get? b with
  | none=>rw [q] at e;cases e
  | some o=>
    rw [q] at e
    have e':(b,o)=p:=Option.some.inj e
    subst e'
    exact⟨hb,q⟩
theorem aJ.pinned{pins:List (Addr × Obj)}{σ:St}{H:Hp}{s:Shared}{fp:List Addr}(I:aJ X pins σ H s)(hf:∀b∈fp,pE X pins H b)(ho:∀b∈fp,∃o,s.heap.get? b=some o∧∀v,o.data≠.cell v):aJ X (pins++mw fp s.heap) σ H s:=
  I.pins_of fun p hp=>(List.mem_append.mp hp).elim (fun z=>I.pin p (List.mem_append_right _ z)) fun z=>by
    obtain⟨hb,e⟩:=tu z
    obtain⟨f0,f1,f2,_⟩:=hf p.1 hb
    obtain⟨o,e',d⟩:=ho p.1 hb
    rw [e] at e';cases e'
    exact⟨e,f0,f1,f2,d⟩
theorem aJ.unpinned{pins pl:List (Addr × Obj)}{σ:St}{H:Hp}{s:Shared}(I:aJ X (pins++pl) σ H s):aJ X pins σ H s:=I.pins_of fun p hp=>I.pin p (List.mem_append_right _ (List.mem_append_left _ hp))
theorem Al{iter:Expr}{body:List Stmt}{wi:TI}{g:TG}{tb:TS}{pos:Pos}(hp:PassesOwn (model X.prog X.w) X.A X.env X.xe)(hc:X.calm=true)(hi:PI X tg iter wi)(hg:PG X tg g)(hb:jy X body tb)
    (hs:∀x,foldedSetIterable iter X.env x=pure x:=by intro _;rfl):PS X (.For tg iter body [] pos) (Dw wi g tb):=by
  intro pins s σ H D I h
  refine wpAny_For (cN (hi pins s σ H _ I h) fun v s1 h1=>cN h1 fun itv s2 h2=>?_) hs
  obtain⟨it,fp,tn,J,H2,e,I2,T,st2,f2,W,⟨m0,w0⟩,turn⟩:=h2
  subst e
  have stat:∀{H':Hp},(∀b∈fp,H' b=none)→∀b∈fp,pE X pins H' b:=fun hn b hb=>⟨hn b hb,(f2 b hb).2⟩
  refine codeAny_forLoop_any (fun n s'=>∃i σ' H',aJ X pins σ' H' s'∧tn i s'.heap∧(∀b∈fp,H' b=none)∧W i n σ' H') ?_ m0 ⟨0,σ,H2,I2,st2,fun b hb=>(f2 b hb).1,w0⟩
  rintro n s3 ⟨i,σ3,H3,I3,st3,fr3,w3⟩
  rcases turn i n σ3 H3 w3 with ⟨stop,qn⟩ | ⟨go,N,hN,step⟩
  · refine wpAny_passesOwn hp (cN (T.done X rfl rfl rfl hc i pins s3 σ3 H3 X.xe I3 (stat fr3) st3 stop) fun r s4 ⟨hr,I4⟩=>?_)
    subst hr
    exact wpAny_execs_nil ⟨σ3,H3,I4,qn⟩
  · refine wpAny_passesOwn hp (cN (T.item X rfl rfl rfl hc i pins s3 σ3 H3 X.xe I3 (stat fr3) st3 go) fun r s4 ⟨u,hr,h4⟩=>?_)
    subst hr
    refine wpAny_passesOwn hp (cN h4 fun _ s5 ⟨x,H5,I5,r5,y5,st5,fr5⟩=>?_)
    have I5':=I5.pinned (stat fr5) (T.obj _ _ st5)
    refine wpAny_passesOwn hp (cN (hg _ s5 σ3 H5 x u _ I5' r5 (step x H5 y5)) fun _ s6 ⟨σ6,H6,I6,q6⟩=>?_)
    refine wpAny_passesOwn hp (cN (hb _ s6 σ6 H6 _ I6 q6) fun f s7 q7=>?_)
    have again:∀{σ7:St} {H7:Hp},aJ X (pins++mw fp s5.heap) σ7 H7 s7→N σ7 H7→∃m,m < n∧∃i σ' H',aJ X pins σ' H' s7∧tn i s7.heap∧(∀b∈fp,H' b=none)∧W i m σ' H':=fun{σ7 H7} I7 n7=>by
      obtain⟨m',hm,w7⟩:=hN σ7 H7 n7
      refine⟨m',hm,i+1,σ7,H7,I7.unpinned,T.keep _ _ _ st5 fun b hb o e=>(I7.pin (b,o) (List.mem_append_right _ (List.mem_append_right _ (gZ hb e)))).1,fun b hb=>?_,w7⟩
      obtain⟨o,e,d⟩:=T.obj _ _ st5 b hb
      exact(I7.pin (b,o) (List.mem_append_right _ (List.mem_append_right _ (gZ hb e)))).2.1
    cases f with
    | next=>obtain⟨σ7,H7,I7,n7⟩:=q7;exact again I7 n7
    | cont=>obtain⟨σ7,H7,I7,n7⟩:=q7;exact again I7 n7
    | brk=>obtain⟨σ7,H7,I7,q7⟩:=q7;exact⟨σ7,H7,I7.unpinned,q7⟩
    | ret v=>obtain⟨x7,σ7,H7,I7,r7,q7⟩:=q7;exact⟨x7,σ7,H7,I7.unpinned,r7,q7⟩
end
end L2
namespace L2
open PySem PySem.Spec PyProof.Rows
abbrev R2:=V→V→Hp→VK→Prop
def eR(X:Cx)(f:Value→Value→Sem Value)(r:R2):Prop:=
  ∀(pins:List (Addr × Obj)) (s:Shared) (σ:St) (H:Hp) (x y:V) (v u:Value) (Q:VK),aJ X pins σ H s→bz x v→bz y u→r x y H Q→
    wpAny (model X.prog X.w) X.A (f v u) (EP X pins σ Q) X.xe s
def CG(X:Cx)(f:Value→Sem Value)(r:V→Hp→VK→Prop):Prop:=
  ∀(pins:List (Addr × Obj)) (s:Shared) (σ:St) (H:Hp) (x:V) (v:Value) (Q:VK),aJ X pins σ H s→bz x v→r x H Q→
    wpAny (model X.prog X.w) X.A (f v) (EP X pins σ Q) X.xe s
def de(X:Cx)(f:Value)(r:List V→Hp→VK→Prop):Prop:=
  ∀(pins:List (Addr × Obj)) (s:Shared) (σ:St) (H:Hp) (xs:List V) (us:List Value) (Q:VK),aJ X pins σ H s→aU xs us→r xs H Q→
    wpAny (model X.prog X.w) X.A (call f us) (EP X pins σ Q) X.xe s
def AN(r:R2)(ta tb:TE):TE:=fun σ H Q=>ta σ H fun x H1=>tb σ H1 fun y H2=>r x y H2 Q
def DT(r:V→Hp→VK→Prop)(ta:TE):TE:=fun σ H Q=>ta σ H fun x H1=>r x H1 Q
def rI(C:Int→Int→Prop)(g:Int→Int→V):R2:=fun x y H Q=>∃i j,x=.int i∧y=.int j∧C i j∧Q (g i j) H
def rg(g:Int→Int→V):R2:=fun x y H Q=>∃i j,x=.int i∧y=.int j∧Q (g i j) H
def rU(g:Int→V):V→Hp→VK→Prop:=fun x H Q=>∃i,x=.int i∧Q (g i) H
section
variable{X:Cx}{a b c:Expr}{ta tb tc:TE}{pos:Pos}
theorem zi(ha:PE X a ta)(hb:PE X b tb){pins:List (Addr × Obj)}{s:Shared}{σ:St}{H:Hp}{R:V→V→Hp→Prop}(I:aJ X pins σ H s)
    (h:ta σ H fun x H1=>tb σ H1 fun y H2=>R x y H2){Q:Value→Shared→Prop}{f:Value→Value→Sem Value}
    (hf:∀v u s2 x y H2,aJ X pins σ H2 s2→bz x v→bz y u→R x y H2→wpAny (model X.prog X.w) X.A (f v u) Q X.xe s2):
    wpAny (model X.prog X.w) X.A (eval a X.env) (fun v s₁=>wpAny (model X.prog X.w) X.A (eval b X.env) (fun u s₂=>wpAny (model X.prog X.w) X.A (f v u) Q X.xe s₂) X.xe s₁) X.xe s:=by
  refine cN (ha pins s σ H _ I h) fun v s1 ⟨x,H1,I1,r1,q1⟩=>?_
  refine cN (hb pins s1 σ H1 _ I1 q1) fun u s2 ⟨y,H2,I2,r2,q2⟩=>?_
  exact hf v u s2 x y H2 I2 r1 r2 q2
theorem yV{op:Operator}{r:R2}(ho:eR X (binaryOp op) r)(ha:PE X a ta)(hb:PE X b tb):PE X (.BinOp a op b pos) (AN r ta tb):=by
  intro pins s σ H Q I h
  exact wpAny_BinOp (zi ha hb I h fun v u s2 x y H2 I2 rx ry q=>ho pins s2 σ H2 x y v u Q I2 rx ry q)
theorem BV{op:UnaryOp}{r:V→Hp→VK→Prop}(ho:CG X (unaryOp op) r)(ha:PE X a ta):PE X (.UnaryOp op a pos) (DT r ta):=by
  intro pins s σ H Q I h
  exact UnaryOp_ (cN (ha pins s σ H _ I h) fun v s1 ⟨x,H1,I1,r1,q1⟩=>ho pins s1 σ H1 x v Q I1 r1 q1)
theorem Bg{f:Value→Value→Sem Value}{C:Int→Int→Prop}{g:Int→Int→Int}
    (rule:∀(i j:Int) (t u:Tok) (s:Shared) (Q:Value→Shared→Prop) (E:Value→Shared→Prop),C i j→Q (.int (g i j) s.toks) {s with toks:=s.toks+1}→wpAny (model X.prog X.w) X.A (f (.int i t) (.int j u)) Q E s):
    eR X f (rI C fun i j=>.int (g i j)):=by
  intro pins s σ H x y v u Q I rx ry h
  obtain⟨i,j,rfl,rfl,hc,q⟩:=h
  obtain⟨t,rfl⟩:=rx
  obtain⟨t',rfl⟩:=ry
  exact rule i j t t' s _ _ hc ⟨.int (g i j),H,I.tok _,⟨_,rfl⟩,q⟩
theorem BN{f:Value→Value→Sem Value}{g:Int→Int→Int}
    (rule:∀(i j:Int) (t u:Tok) (s:Shared) (Q:Value→Shared→Prop) (E:Value→Shared→Prop),Q (.int (g i j) s.toks) {s with toks:=s.toks+1}→wpAny (model X.prog X.w) X.A (f (.int i t) (.int j u)) Q E s):
    eR X f (rg fun i j=>.int (g i j)):=by
  intro pins s σ H x y v u Q I rx ry h
  obtain⟨i,j,rfl,rfl,q⟩:=h
  obtain⟨t,rfl⟩:=rx
  obtain⟨t',rfl⟩:=ry
  exact rule i j t t' s _ _ ⟨.int (g i j),H,I.tok _,⟨_,rfl⟩,q⟩
theorem xx{f:Value→Value→Sem Value}{g:Int→Int→Bool}
    (rule:∀(i j:Int) (t u:Tok) (s:Shared) (Q:Value→Shared→Prop) (E:Value→Shared→Prop),Q (.bool (g i j)) s→wpAny (model X.prog X.w) X.A (f (.int i t) (.int j u)) Q E s):
    eR X f (rg fun i j=>.bl (g i j)):=by
  intro pins s σ H x y v u Q I rx ry h
  obtain⟨i,j,rfl,rfl,q⟩:=h
  obtain⟨t,rfl⟩:=rx
  obtain⟨t',rfl⟩:=ry
  exact rule i j t t' s _ _ ⟨.bl (g i j),H,I,rfl,q⟩
def uf(i j:Int):Prop:=0≤j∧j≤1000000∧i.natAbs < 2 ^ 64
def wB(i j:Int):Prop:=(-(2 ^ 64) < i∧i < 2 ^ 64)∨(-(2 ^ 64) < j∧j < 2 ^ 64)
theorem wB.ok{i j:Int}(h:wB i j):IntMulOk i j:=by
  rcases h with ⟨h1,h2⟩ | ⟨h1,h2⟩
  · exact .of_left (intBits_le_64 h1 h2)
  · exact .of_right (intBits_le_64 h1 h2)
theorem zY:eR X (binaryOp .Add) (rg fun i j=>.int (i+j)):=BN fun _ _ _ _ _ _ _ q=>add_int q
theorem Aa:eR X (binaryOp .Sub) (rg fun i j=>.int (i - j)):=BN fun _ _ _ _ _ _ _ q=>sub_int q
theorem z0:eR X (binaryOp .Mult) (rI wB fun i j=>.int (i*j)):=Bg fun _ _ _ _ _ _ _ hc q=>mul_int q hc.ok
theorem xD:eR X (binaryOp .Mod) (rI (fun _ j=>j≠0) fun i j=>.int (i.fmod j)):=Bg fun _ _ _ _ _ _ _ hc q=>mod_int' hc q
theorem z7:eR X (binaryOp .Pow) (rI uf fun i j=>.int (i ^ j.toNat)):=Bg fun _ _ _ _ _ _ _ hc q=>pow_int_small hc.1 hc.2.1 hc.2.2 q
theorem z_:eR X (binaryOp .LShift) (rI uf fun i j=>.int (i*2 ^ j.toNat)):=Bg fun _ _ _ _ _ _ _ hc q=>lshift_int_small hc.1 hc.2.1 hc.2.2 q
theorem Eg{f:Value→Sem Value}{g:Int→Int}
    (rule:∀(i:Int) (t:Tok) (s:Shared) (Q:Value→Shared→Prop) (E:Value→Shared→Prop),Q (.int (g i) s.toks) {s with toks:=s.toks+1}→wpAny (model X.prog X.w) X.A (f (.int i t)) Q E s):
    CG X f (rU fun i=>.int (g i)):=by
  intro pins s σ H x v Q I rx h
  obtain⟨i,rfl,q⟩:=h
  obtain⟨t,rfl⟩:=rx
  exact rule i t s _ _ ⟨.int (g i),H,I.tok _,⟨_,rfl⟩,q⟩
theorem AX:CG X (unaryOp .USub) (rU fun i=>.int (-i)):=Eg fun _ _ _ _ _ q=>neg_int q
end
section
variable{X:Cx}{a b c:Expr}{ta tb tc:TE}{pos:Pos}
theorem zx{pins:List (Addr × Obj)}{σ:St}{H:Hp}{s:Shared}{Q:VK}{k k':Bool}(I:aJ X pins σ H s)(q:Q (.bl k) H)(e:k=k'):EP X pins σ Q (.bool k') s:=by
  subst e
  exact⟨.bl k,H,I,rfl,q⟩
theorem BR:eR X (compareOp .Lt) (rg fun i j=>.bl (decide (i < j))):=xx fun _ _ _ _ _ _ _ q=>lt_int q
theorem BQ:eR X (compareOp .LtE) (rg fun i j=>.bl (decide (i≤j))):=xx fun _ _ _ _ _ _ _ q=>le_int q
theorem BP:eR X (compareOp .Gt) (rg fun i j=>.bl (decide (j < i))):=xx fun _ _ _ _ _ _ _ q=>gt_int q
theorem BO:eR X (compareOp .GtE) (rg fun i j=>.bl (decide (j≤i))):=xx fun _ _ _ _ _ _ _ q=>ge_int q
theorem xH:eR X (compareOp .IsNot) (fun x y H Q=>y=.non∧Q (.bl (!decide (x=.non))) H):=by
  intro pins s σ H x y v u Q I rx ry h
  obtain⟨rfl,q⟩:=h
  cases ry
  refine isnot_none_gen (zx I q ?_)
  cases x<;>first
    | (cases rx;rfl)
    | (obtain⟨t,rfl⟩:=rx;rfl)
theorem eR.or{f:Value→Value→Sem Value}{r r':R2}(h:eR X f r)(h':eR X f r'):eR X f (fun x y H Q=>r x y H Q∨r' x y H Q):=by
  intro pins s σ H x y v u Q I rx ry q
  rcases q with q | q
  · exact h pins s σ H x y v u Q I rx ry q
  · exact h' pins s σ H x y v u Q I rx ry q
theorem aX(b:Expr){op:CmpOp}(h:op≠.In:=by decide)(h2:op≠.NotIn:=by decide):behindInMarks op b=false:=by
  have e1:(op==CmpOp.In)=false:=by cases op<;>first | rfl | exact absurd rfl h
  have e2:(op==CmpOp.NotIn)=false:=by cases op<;>first | rfl | exact absurd rfl h2
  cases b<;>simp [behindInMarks,e1,e2]
theorem rV{op:CmpOp}{r:R2}(ho:eR X (compareOp op) r)(ha:PE X a ta)(hb:PE X b tb)(hm:behindInMarks op b=false):PE X (.Compare a [op] [b] pos) (AN r ta tb):=by
  intro pins s σ H Q I h
  exact wpAny_Compare1 (zi ha hb I h fun v u s2 x y H2 I2 rx ry q=>ho pins s2 σ H2 x y v u Q I2 rx ry q) hm
def Cr(t:TE):TT:=fun σ H Q=>t σ H fun x H'=>∃k,x=.bl k∧Q k H'
theorem xU{op:CmpOp}{r:R2}(ho:eR X (compareOp op) r)(ha:PE X a ta)(hb:PE X b tb)(hm:behindInMarks op b=false):PT X (.Compare a [op] [b] pos) (Cr (AN r ta tb)):=by
  intro pins s σ H Q I h
  refine wpAny_isTrue_Compare1 (cN (ha pins s σ H _ I h) fun v s1 ⟨x,H1,I1,r1,q1⟩=>cN (hb pins s1 σ H1 _ I1 q1) fun u s2 ⟨y,H2,I2,r2,q2⟩=>
    cN (ho pins s2 σ H2 x y v u _ I2 r1 r2 q2) fun c s3 ⟨z,H3,I3,r3,k,e,q3⟩=>?_) hm
  subst e
  cases r3
  exact wpAny_truthy_bool ⟨H3,I3,q3⟩
def wa(r r':R2)(ta tb tc:TE):TE:=fun σ H Q=>ta σ H fun x H1=>tb σ H1 fun y H2=>r x y H2 fun z H3=>∃k,z=.bl k∧
  (if k=true then tc σ H3 fun w' H4=>r' y w' H4 Q else Q (.bl false) H3)
theorem vq{op op':CmpOp}{r r':R2}(ho:eR X (compareOp op) r)(ho':eR X (compareOp op') r')(ha:PE X a ta)(hb:PE X b tb)(hc:PE X c tc)
    (hm:lastMarks [op,op'] [b,c]=false:=by with_unfolding_all rfl):PE X (.Compare a [op,op'] [b,c] pos) (wa r r' ta tb tc):=by
  intro pins s σ H Q I h
  refine Compare_chain (cN (ha pins s σ H _ I h) fun v s1 ⟨x,H1,I1,r1,q1⟩=>chain_link (cN (hb pins s1 σ H1 _ I1 q1) fun u s2 ⟨y,H2,I2,r2,q2⟩=>
    cN (ho pins s2 σ H2 x y v u _ I2 r1 r2 q2) fun d s3 ⟨z,H3,I3,r3,k,e,q3⟩=>?_)) hm
  subst e
  cases r3
  refine wpAny_truthy_bool ?_
  cases k with
  | false=>exact ite_ff ⟨.bl false,H3,I3,rfl,q3⟩
  | true=>exact ite_tt (chain_last (cN (hc pins s3 σ H3 _ I3 q3) fun w' s4 ⟨z',H4,I4,r4,q4⟩=>ho' pins s4 σ H4 y z' u w' Q I4 r2 r4 q4))
theorem qO:(sizeLine:Nat) < 2 ^ 63:=by rw [sizeLine_eq];decide
theorem ox{x:V}{us:List Value}(r:aU [x] us):∃u,us=[u]∧bz x u:=by
  cases r with
  | cons r1 r2=>cases r2;exact⟨_,rfl,r1⟩
theorem za{x y:V}{us:List Value}(r:aU [x,y] us):∃u w',us=[u,w']∧bz x u∧bz y w':=by
  cases r with
  | cons r1 r2=>
    cases r2 with
    | cons r3 r4=>cases r4;exact⟨_,_,rfl,r1,r3⟩
theorem ur:de X (.builtin "abs") (fun xs H Q=>∃i,xs=[.int i]∧Q (.int (if i < 0 then -i else i)) H):=by
  intro pins s σ H xs us Q I r h
  obtain⟨i,rfl,q⟩:=h
  obtain⟨u,rfl,t,rfl⟩:=ox r
  exact call_abs_int fun u tk=>⟨.int (if i < 0 then -i else i),H,I.tok _,⟨_,rfl⟩,q⟩
theorem sM(hc:X.calm=true):de X (.builtin "max") (fun xs H Q=>∃i j,xs=[.int i,.int j]∧Q (.int (if j > i then j else i)) H):=by
  intro pins s σ H xs us Q I r h
  obtain⟨i,j,rfl,q⟩:=h
  obtain⟨u,w',rfl,⟨t,rfl⟩,⟨t',rfl⟩⟩:=za r
  refine max_two_ints (I.ok.hd hc) fun h' tk k=>⟨_,H,I.kept k,?_,q⟩
  by_cases hj:j > i
  · rw [if_pos hj,if_pos hj];exact⟨_,rfl⟩
  · rw [if_neg hj,if_neg hj];exact⟨_,rfl⟩
theorem sN(hc:X.calm=true):de X (.builtin "min") (fun xs H Q=>∃i j,xs=[.int i,.int j]∧Q (.int (if j < i then j else i)) H):=by
  intro pins s σ H xs us Q I r h
  obtain⟨i,j,rfl,q⟩:=h
  obtain⟨u,w',rfl,⟨t,rfl⟩,⟨t',rfl⟩⟩:=za r
  refine min_two_ints (I.ok.hd hc) fun h' tk k=>⟨_,H,I.kept k,?_,q⟩
  by_cases hj:j < i
  · rw [if_pos hj,if_pos hj];exact⟨_,rfl⟩
  · rw [if_neg hj,if_neg hj];exact⟨_,rfl⟩
theorem sL:de X (.type "int") (fun xs H Q=>(∃i,xs=[.int i]∧Q (.int i) H)∨∃k,xs=[.bl k]∧Q (.int (if k then 1 else 0)) H):=by
  intro pins s σ H xs us Q I r h
  rcases h with ⟨i,rfl,q⟩ | ⟨k,rfl,q⟩
  · obtain⟨u,rfl,t,rfl⟩:=ox r
    exact call_int_int ⟨.int i,H,I,⟨_,rfl⟩,q⟩
  · obtain⟨u,rfl,r1⟩:=ox r
    cases r1
    exact call_int_bool ⟨.int (if k then 1 else 0),H,I.tok _,⟨_,rfl⟩,q⟩
end
end L2
namespace L2
open PySem PySem.Spec PyProof.Rows
structure D4 (h:Heap) (x dx C:Addr) (mA:Str→Option Value):Prop where
  obj:h.get? x=some (PySem.W.instObj C dx)
  ns:h.Ns1 dx mA
  ne:dx≠x
section
variable{prog:Program}{w:World}{A:Around}{E:Value→Shared→Prop}{s:Shared}{K:PySem.W.Frag}{x dx C f:Addr}{mA:Str→Option Value}{name:Str}{v:Value}
end
section
variable{P:Program}{w:World}{H H':Hp}{h h':Heap}{a C dx:Addr}{fs fs':List (Str × V)}
end
structure DY (K:PySem.W.Frag) (C:Addr):Prop where
  pg:PySem.W.plainGet K C Str.empty=true
  hd:PySem.W.hasDictIn K C=true
  po:PySem.W.plainOver K C=true
  sa:PySem.W.findIn K (.ref C) "__setattr__"=some (some (.builtin "object.__setattr__"))
structure Eh (K:PySem.W.Frag) (C:Addr) (f:Str) (v:V) (u:Value):Prop where
  at_:PySem.W.findIn K (.ref C) f=some (some u)
  rel:bz v u
  get:PySem.W.specialIn K u "__get__"=some none
  cp:PySem.W.copiedNames.contains f=false
structure D3 (K:PySem.W.Frag) (C:Addr) (m:Str) (f:Addr):Prop where
  at_:PySem.W.findIn K (.ref C) m=some (some (.ref f))
  fn:PySem.W.isFn K (.ref f)=true
  kp:PySem.W.keepIn K (.ref f)=true
section
variable{X:Cx}{pins:List (Addr × Obj)}{σ:St}{H:Hp}{s:Shared}{a C dx:Addr}{fs:List (Str × V)}{f:Str}{v:V}{A:Around}{E:Value→Shared→Prop}
end
section
variable{X:Cx}{o e value:Expr}{f:Str}{pos pos' tpos:Pos}{ta tv:TE}
end
section
variable{X:Cx}{pins:List (Addr × Obj)}{σ:St}{H:Hp}{s:Shared}{A:Around}{E:Value→Shared→Prop}{Q:Value→Shared→Prop}{c:Value}{b:Bool}
inductive ly (K:PySem.W.Frag) (H:Hp):V→Value→Prop where
  | non:ly K H .non (.type "NoneType")
  | bl (x:Bool):ly K H (.bl x) (.type "bool")
  | int (i:Int):ly K H (.int i) (.type "int")
  | str (x:Str):ly K H (.str x) (.type "str")
  | flt (x:UInt64):ly K H (.flt x) (.type "float")
  | lst {a:Addr} {xs:List V} (e:H a=some (.lst xs)):ly K H (.ref a) (.type "list")
  | frz {a:Addr} {o:Obj} {xs:List V} (e:H a=some (.frz o (.lst xs))):ly K H (.ref a) (.type "list")
  | tup {a:Addr} {xs:List V} (e:H a=some (.tup xs)):ly K H (.ref a) (.type "tuple")
  | dK {a:Addr} {kvs:List (kB × V)} (e:H a=some (.dK kvs)):ly K H (.ref a) (.type "dict")
  | dT {a:Addr} {kvs:List (List kB × V)} (e:H a=some (.dT kvs)):ly K H (.ref a) (.type "dict")
  | ins {a C dx:Addr} {fs:List (Str × V)} (e:H a=some (.ins C dx fs)) (cl:DY K C) (ha:PySem.W.findIn K (.ref C) "__class__"=some (some (.builtin "object.__class__")))
      (hn:PySem.W.specialIn K (.builtin "object.__class__") "__get__"=some (some (.builtin "getset_descriptor.__get__"))) (htk:PySem.W.takesIn K (.builtin "object.__class__")=some true)
      (hm:PySem.W.mroIn K C (.type "object")=some true):ly K H (.ref a) (.ref C)
end
end L2
namespace L2
open PySem PySem.Spec PyProof.Rows
structure cO (k:Nat) (A:Around):Prop where
  hd:A.handled=none
  dp:A.depth+3*k+5 < recursionLimit
  un:A.units+16*k+200 < cLine
  gd:A.guards=some []
theorem cO.mono{j k:Nat}{A:Around}(r:cO k A)(h:j≤k):cO j A:=⟨r.hd,by have:=r.dp;lia,by have:=r.un;lia,r.gd⟩
theorem cO.deeper{k:Nat}{A:Around}(r:cO (k+1) A)(env:Env):cO k (A.deeper env):=
  ⟨r.hd,by have:=r.dp;show A.depth+1+3*k+5 < _;lia,by have:=r.un;show A.units+3+16*k+200 < _;lia,r.gd⟩
theorem cO.depth{k:Nat}{A:Around}(r:cO k A):A.depth < recursionLimit:=by have:=r.dp;lia
theorem cO.units{k:Nat}{A:Around}(r:cO k A):A.units+64 < cLine:=by have:=r.un;lia
def wb:TA:=fun _ H Q=>Q [] H
def j8(ta:TE)(tr:TA):TA:=fun σ H Q=>ta σ H fun x H1=>tr σ H1 fun xs H2=>Q (x::xs) H2
section
variable{X:Cx}{e:Expr}{es:List Expr}{te:TE}{t:TA}{pos:Pos}
theorem g9:PA X [] wb:=fun _ _ _ _ H Q I h=>Calls.spliced_nil ⟨[],H,I,.nil,h⟩
theorem bu(ha:PE X e te)(hr:PA X es t)(hs:starEach (e::es) X.env=(false,eval e X.env)::starEach es X.env:=by rfl):PA X (e::es) (j8 te t):=by
  intro pos pins s σ H Q I h
  rw [hs]
  show wpAny _ _ (spliced ((false,eval e X.env)::backTo pos (starEach es X.env))) _ _ s
  refine Calls.spliced_cons (cN (ha pins s σ H _ I h) fun u s1 ⟨x,H1,I1,r1,q1⟩=>?_)
  exact cN (hr pos pins s1 σ H1 _ I1 q1) fun us s2 ⟨xs,H2,I2,r2,q2⟩=>⟨x::xs,H2,I2,.cons r1 r2,q2⟩
def Cs(t:TA):TE:=fun σ H Q=>t σ H fun xs H1=>xs.length≤sizeLine∧∀p,H1 p=none→Q (.ref p) (cu H1 p (.tup xs))
def AM(t:TA):TE:=fun σ H Q=>t σ H fun xs H1=>xs.length≤sizeLine∧∀p,H1 p=none→Q (.ref p) (cu H1 p (.lst xs))
theorem Ah{x1}(h:PA X es t):PE X (.Tuple es x1 pos) (Cs t):=by
  intro pins s σ H Q I hq
  refine wpAny_Tuple_spliced (cN (h pos pins s σ H _ I hq) fun us s1 ⟨xs,H1,I1,r,z,q⟩=>⟨by rw [←r.length];exact z,?_⟩)
  have hf:H1 s1.heap.objs.size=none:=I1.hok.fresh (Nat.le_refl _)
  refine⟨.ref s1.heap.objs.size,cu H1 s1.heap.objs.size (.tup xs),I1.laid (t':=s1.toks) (fun b u e=>Heap.get?_push_of_some _ e) (Nat.le_refl _) ?_,rfl,q _ hf⟩
  exact⟨z,us,r,⟨_,Heap.get?_push_size _ rfl,rfl,_,rfl,rfl⟩⟩
theorem ph(h:PA X es t):PE X (.List es pos) (AM t):=by
  intro pins s σ H Q I hq
  refine wpAny_List_spliced (cN (h pos pins s σ H _ I hq) fun us s1 ⟨xs,H1,I1,r,z,q⟩=>⟨by rw [←r.length];exact z,?_⟩)
  have hf:H1 s1.heap.objs.size=none:=I1.hok.fresh (Nat.le_refl _)
  refine⟨.ref s1.heap.objs.size,cu H1 s1.heap.objs.size (.lst xs),I1.laid (t':=s1.toks) (fun b u e=>Heap.get?_push_of_some _ e) (Nat.le_refl _) ?_,rfl,q _ hf⟩
  exact⟨z,us,0,r,Heap.get?_push_size _ rfl⟩
end
abbrev Sp:=List V→Hp→VK→XK→Prop
abbrev qu:=List Env→Hp→Shared→XK→Value→Shared→Prop
structure wC (P:Program) (w:World) (K:PySem.W.Frag) (mg:Str→Option Value) (base:Heap) (A:Around) (outer:List Env) (s:Shared) (H:Hp):Prop where
  frames:A.frames=some outer
  mod:Mod K mg base
  bs:∀b o,base.get? b=some o→s.heap.get? b=some o∧H b=none
  bsz:base.objs.size≤s.heap.objs.size
  funs:s.heap.FunFrames base outer
  frf:∀b∈j' outer,H b=none
  hok:kX P w H s.heap
  bare:AllBare s.gens
def CE(outer:List Env)(P:Program)(w:World)(H:Hp)(s:Shared)(Q:VK)(u:Value)(s':Shared):Prop:=
  ∃v H',s'.os=s.os∧AllBare s'.gens∧Un (j' outer) [] H H' s.heap s'.heap∧kX P w H' s'.heap∧bz v u∧Q v H'
def CR(CX:qu)(outer:List Env)(P:Program)(w:World)(H:Hp)(s:Shared)(Q:VK)(E:XK)(r:Result)(s':Shared):Prop:=
  match r with
  | .ok (.ret u)=>CE outer P w H s Q u s'
  | .ok _=>False
  | .error e=>CX outer H s E e s'
structure aF (P:Program) (w:World) (K:PySem.W.Frag) (mg:Str→Option Value) (base:Heap) (CX:qu) (k:Nat) (f:Addr) (fd:FuncData) (ps:List Str) (sp:Sp):Prop where
  len:∀vs H Q E,sp vs H Q E→vs.length=ps.length
  run:∀(A:Around) (outer:List Env) (s:Shared) (H:Hp) (args:Args) (us:List Value) (vs:List V) (Q:VK) (E:XK),cO k A→wC P w K mg base A outer s H→BindsTo s fd args (ps.zip us)→aU vs us→sp vs H Q E→
    codeAny (model P w) A (.call (.ref f) args) (CR CX outer P w H s Q E) s
section
variable{X:Cx}{pins:List (Addr × Obj)}{σ:St}{H:Hp}{s s':Shared}
theorem aJ.env0(I:aJ X pins σ H s):wC X.prog X.w X.K X.mg X.base X.A X.stack s H:=
  ⟨I.ok.frames,I.ok.mod,I.bs,Nat.le_trans I.ok.bsz I.sz,I.stack,I.stkFree,I.hok,I.bare⟩
theorem aJ.after{Q:VK}{u:Value}(I:aJ X pins σ H s)(h:CE X.stack X.prog X.w H s Q u s'):EP X pins σ Q u s':=by
  obtain⟨v,H',os,bare,un,hok,r,q⟩:=h
  obtain⟨hh,g,d,t,os'⟩:=s'
  obtain rfl:os'=s.os:=os
  exact⟨v,H',I.call (h':=hh) (g':=g) (d':=d) (t':=t) (ch:=[]) un hok bare (fun b z=>absurd z (by simp)),r,q⟩
end
def su(sp:Sp)(dvs:List V)(E:XK)(t:TA):TE:=fun σ H Q=>t σ H fun vs H1=>sp (vs++dvs) H1 Q E
def lw(K:PySem.W.Frag)(fd:FuncData)(ps:List Str)(ds:List Value):Prop:=
  ∀(s:Shared) (us:List Value),K.In s.heap→(us++ds).length=ps.length→BindsTo s fd ⟨us,[]⟩ (ps.zip (us++ds))
theorem lw.all{K:PySem.W.Frag}{fd:FuncData}{ps:List Str}(h:∀us:List Value,us.length=ps.length→bindArgs fd ⟨us,[]⟩=pure (ps.zip us)):lw K fd ps []:=fun s us _ hl=>by
  rw [List.append_nil] at hl ⊢
  exact .of_eq (h us hl)
def qz(CX:qu)(X:Cx)(E:XK):Prop:=∀(pins:List (Addr × Obj)) (σ:St) (H:Hp) (s:Shared) (e:Value) (s':Shared),aJ X pins σ H s→CX X.stack H s E e s'→X.xe e s'
section
variable{X:Cx}{CX:qu}{k:Nat}{f C:Addr}{fd:FuncData}{ps:List Str}{sp:Sp}{dvs:List V}{ds:List Value}{E:XK}{x m:Str}{p pos apos:Pos}{e o:Expr}{es:List Expr}{ta:TE}{t:TA}
theorem AE{pins:List (Addr × Obj)}{σ:St}{H:Hp}{s:Shared}{Q:VK}{us:List Value}{vs:List V}(F:aF X.prog X.w X.K X.mg X.base CX k f fd ps sp)(hr:cO k X.A)(hb:lw X.K fd ps ds)(hd:aU dvs ds)(hx:qz CX X E)
    (I:aJ X pins σ H s)(r:aU vs us)(h:sp (vs++dvs) H Q E):wpAny (model X.prog X.w) X.A (call (.ref f) us) (EP X pins σ Q) X.xe s:=by
  have r2:aU (vs++dvs) (us++ds):=r.append hd
  have hl:(us++ds).length=ps.length:=by rw [←r2.length];exact F.len _ _ _ _ h
  refine wpAny_call (codeAny_mono (F.run X.A X.stack s H ⟨us,[]⟩ (us++ds) (vs++dvs) Q E hr I.env0 (hb s us I.kIn hl) r2 h) fun r s' hq=>?_)
  cases r with
  | error e=>exact hx pins σ H s e s' I hq
  | ok fl=>
    cases fl with
    | ret u=>exact I.after hq
    | next=>exact False.elim hq
    | brk=>exact False.elim hq
    | cont=>exact False.elim hq
theorem rT(F:aF X.prog X.w X.K X.mg X.base CX k f fd ps sp)(hr:cO k X.A)(hg:Gl X x)(hm:X.mg x=some (.ref f))(hk:PySem.W.keepIn X.K (.ref f)=true)(hb:lw X.K fd ps ds)(hd:aU dvs ds)(hx:qz CX X E)
    (ha:PA X (e::es) t)(hdb:(x==("__debug__":Str))=false:=by decide)(he:starEach (e::es) X.env=(false,eval e X.env)::starEach es X.env:=by rfl)(hpl:(backTo pos (starEach es X.env)).any (·.1)=false:=by rfl):
    PE X (.Call (.Name x p) (e::es) [] pos) (su sp dvs E t):=by
  intro pins s σ H Q I h
  refine wpAny_Call_Name_kw (jL I hg hm ?_ hdb)
  refine PySem.W.callWith_K (h₀:=X.base) I.ok.mod.kin hk (cN (ha pos pins s σ H _ I h) fun us s1 ⟨vs,H1,I1,r,q⟩=>⟨I1.kIn,?_⟩) he hpl
  exact AE F hr hb hd hx I1 r q
structure Mk (K:PySem.W.Frag) (C f:Addr):Prop where
  makes:PySem.W.makesIn K C=true
  init:PySem.W.findIn K (.ref C) "__init__"=some (some (.ref f))
  fn:PySem.W.isFn K (.ref f)=true
  kp:PySem.W.keepIn K (.ref C)=true
end
section
variable{X:Cx}{CX:qu}{k:Nat}{f C:Addr}{fd:FuncData}{ps ks:List Str}{sp:Sp}{E:XK}{x m:Str}{p pos apos kpos:Pos}{e o:Expr}{es:List Expr}{kws:List Keyword}{te ta:TE}{t tk:TA}{nm:Option Str}
structure CY (K:PySem.W.Frag) (fd:FuncData) (ps ks:List Str) (g:List Value→List Value→List Value) (gV:List V→List V→List V):Prop where
  to:∀(s:Shared) (us ws:List Value),K.In s.heap→(g us ws).length=ps.length→BindsTo s fd ⟨us,ks.zip ws⟩ (ps.zip (g us ws))
  rel:∀{vs:List V} {us:List Value} {zs:List V} {ws:List Value},aU vs us→aU zs ws→aU (gV vs zs) (g us ws)
variable{g:List Value→List Value→List Value}{gV:List V→List V→List V}
end
structure az (N P:List Str) (sc:Scope):Prop where
  kind:sc.kind=.function
  co:sc.isCoroutine=false
  gen:sc.isGenerator=false
  nd:N.Nodup
  pre:N.take P.length=P
  par:∀x∈P,sc.names.lookup x=some .local∨sc.names.lookup x=some .cell
  nofree:∀y∈sc.names,y.2≠.free
theorem nI{kindOf:Str→Option NameKind}{x:Str}:∀{binds:List (Str × Value)} {m:Str→Option Value},(∀v,(x,v)∉binds)→bindL kindOf binds m x=m x
  | [],_,_=>rfl
  | (n,v)::r,m,h=>by
    unfold bindL
    rw [nI fun w hw=>h w (List.mem_cons_of_mem _ hw)]
    split
    · have:x≠n:=by rintro rfl;exact h v List.mem_cons_self
      simp [this]
    · rfl
theorem nG{kindOf:Str→Option NameKind}{x:Str}:∀{binds:List (Str × Value)} {m:Str→Option Value},(∀v,(x,v)∉binds)→bindC kindOf binds m x=m x
  | [],_,_=>rfl
  | (n,v)::r,m,h=>by
    unfold bindC
    rw [nG fun w hw=>h w (List.mem_cons_of_mem _ hw)]
    split
    · rfl
    · have:x≠n:=by rintro rfl;exact h v List.mem_cons_self
      simp [this]
theorem nH{kindOf:Str→Option NameKind}{x:Str}{v:Value}:∀{P:List Str} {vs:List Value} {i:Nat} {m:Str→Option Value},P.Nodup→P[i]?=some x→vs[i]?=some v→kindOf x=some .local→
    bindL kindOf (P.zip vs) m x=some v
  | [],_,_,_,_,h,_,_=>by simp at h
  | _::_,[],_,_,_,_,h,_=>by simp at h
  | p::P,w::vs,0,m,nd,h1,h2,hk=>by
    simp at h1 h2;subst h1;subst h2
    show bindL kindOf ((p,w)::P.zip vs) m p=_
    unfold bindL
    rw [nI fun v hv=>(List.nodup_cons.mp nd).1 (List.of_mem_zip hv).1,if_pos hk]
    simp
  | p::P,w::vs,i+1,m,nd,h1,h2,hk=>by
    show bindL kindOf ((p,w)::P.zip vs) m x=_
    unfold bindL
    exact nH (i:=i) (List.nodup_cons.mp nd).2 (by simpa using h1) (by simpa using h2) hk
theorem nF{kindOf:Str→Option NameKind}{x:Str}{v:Value}:∀{P:List Str} {vs:List Value} {i:Nat} {m:Str→Option Value},P.Nodup→P[i]?=some x→vs[i]?=some v→kindOf x≠some .local→
    bindC kindOf (P.zip vs) m x=some v
  | [],_,_,_,_,h,_,_=>by simp at h
  | _::_,[],_,_,_,_,h,_=>by simp at h
  | p::P,w::vs,0,m,nd,h1,h2,hk=>by
    simp at h1 h2;subst h1;subst h2
    show bindC kindOf ((p,w)::P.zip vs) m p=_
    unfold bindC
    rw [nG fun v hv=>(List.nodup_cons.mp nd).1 (List.of_mem_zip hv).1,if_neg hk]
    simp
  | p::P,w::vs,i+1,m,nd,h1,h2,hk=>by
    show bindC kindOf ((p,w)::P.zip vs) m x=_
    unfold bindC
    exact nF (i:=i) (List.nodup_cons.mp nd).2 (by simpa using h1) (by simpa using h2) hk
def fJ(N:List Str)(vs:List V):St:=vs.map some++List.replicate (N.length - vs.length) none
def kY(CX:qu)(P:Program)(w:World)(K:PySem.W.Frag)(mg:Str→Option Value)(base:Heap)(N:List Str)(qual:Str)(scope:Scope)(f:Addr)(cd:Value)(A:Around)(outer:List Env)(s:Shared)(H:Hp)(E:XK):Cx where
  prog:=P
  w:=w
  K:=K
  mg:=mg
  base:=base
  A:=A.deeper (envOfC qual scope s.heap.objs.size f cd)
  N:=N
  s₀:=s
  H₀:=H
  env:=envOfC qual scope s.heap.objs.size f cd
  outer:=outer
  stack:=envOfC qual scope s.heap.objs.size f cd::outer
  ex:=[]
  calm:=true
  fn:=fun _=>true
  pn:=[]
  xe:=fun e s'=>wpAny (model P w) (A.deeper (envOfC qual scope s.heap.objs.size f cd)) (leaving (envOfC qual scope s.heap.objs.size f cd) e) (fun _ s''=>CX outer H s E e s'') (fun e' s''=>CX outer H s E e' s'') s'
theorem pN{sc:Scope}{n:Nat}{x:Str}(h:sc.names.lookup x=some .cell):∃c,(cellsFrom n sc.names []).lookup x=some c:=by
  have q:=PySem.W.cellsFrom_some sc.names n [] (.inl h)
  exact Option.isSome_iff_exists.mp q
theorem sY{CX:qu}{P:Program}{w:World}{K:PySem.W.Frag}{mg:Str→Option Value}{base:Heap}{N ps:List Str}{qual:Str}{scope:Scope}{f:Addr}{cd:Value}{A:Around}{outer:List Env}{s s1:Shared}{H:Hp}{E:XK}{us:List Value}{vs:List V}
    (S:az N ps scope)(hd:A.handled=none)(e0:wC P w K mg base A outer s H)(hl:vs.length=ps.length)(r:aU vs us)
    (x:InCallC s s.heap.objs.size (bindL (envOfC qual scope s.heap.objs.size f cd).kindOf (ps.zip us) fun _=>none) (cellsFrom (s.heap.objs.size+1) scope.names []) (bindC (envOfC qual scope s.heap.objs.size f cd).kindOf (ps.zip us) fun _=>none) s1):
    aJ (kY CX P w K mg base N qual scope f cd A outer s H E) [] (fJ N vs) H s1:=by
  have hpl:ps.length≤N.length:=by have:=congrArg List.length S.pre;rw [List.length_take] at this;lia
  obtain⟨h1,tk,rfl,hk⟩:=x.done
  have noA:∀b:Addr,b∉(kY CX P w K mg base N qual scope f cd A outer s H E).ex:=fun b z=>absurd (show b∈([]:List Addr) from z) (by simp)
  refine⟨⟨e0.mod,S.kind,rfl,rfl,Nat.le_refl _,fun y z c h1 h2=>?_,fun y hy=>?_,fun y c _ h=>?_,fun _=>hd,Around.frames_deeper e0.frames,.inr ⟨rfl,rfl⟩,fun b z=>absurd z (noA b),e0.bs,e0.bsz,fun b _ _=>noA b,fun b z=>absurd z (noA b),e0.funs,e0.frf⟩,
    rfl,e0.bare,Un.kept hk,⟨_,x.toInCall.ns,fun i y v h1 h2 h3=>?_⟩,fun y c h=>⟨_,x.cell y c h⟩,e0.hok.fresh (Nat.le_refl _),fun y c h=>?_,fun p hp=>absurd (show p∈([]:List (Addr × Obj)) from hp) (by simp),e0.hok.kept hk,?_⟩
  · exact name_of_addr x.apart (PySem.mem_of_lookup h1) (PySem.mem_of_lookup h2)
  · have hy:scope.names.lookup y=some .cell∨scope.names.lookup y=some .free:=hy
    rcases hy with hy | hy
    · exact pN hy
    · exact absurd rfl (S.nofree _ (PySem.mem_of_lookup hy))
  · exact Nat.le_of_lt (x.above y c (PySem.mem_of_lookup h))
  · have hi:i < vs.length:=by
      unfold fJ at h2
      by_cases hi:i < vs.length
      · exact hi
      · rw [List.getElem?_append_right (by simpa using hi)] at h2
        rw [List.getElem?_replicate] at h2
        split at h2<;>cases h2
    have ha:vs[i]?=some v:=by
      unfold fJ at h2
      rw [List.getElem?_append_left (by simpa using hi),List.getElem?_map] at h2
      cases e:vs[i]? with
      | none=>rw [e] at h2;cases h2
      | some a=>rw [e] at h2;cases h2;rfl
    obtain⟨u,hu,rv⟩:=r.get ha
    have hp:ps[i]?=some y:=by
      rw [←S.pre,List.getElem?_take_of_lt (by lia)];exact h1
    have ndP:ps.Nodup:=by rw [←S.pre];exact S.nd.sublist (List.take_sublist _ _)
    refine⟨u,rv,?_⟩
    rcases S.par y (List.mem_of_getElem? hp) with k | k
    · exact .inl ⟨k,nH ndP hp hu k⟩
    · obtain⟨c,e⟩:=pN (n:=s.heap.objs.size+1) k
      refine .inr ⟨.inl k,c,e,?_⟩
      have q:=x.cell y c e
      rw [nF ndP hp hu (by show scope.names.lookup y≠_;rw [k];decide)] at q
      exact q
  · exact e0.hok.fresh (Nat.le_of_lt (x.above y c (PySem.mem_of_lookup h)))
  · unfold fJ
    show _=N.length
    rw [List.length_append,List.length_map,List.length_replicate]
    lia
theorem yF{CX:qu}{P:Program}{w:World}{K:PySem.W.Frag}{mg:Str→Option Value}{base:Heap}{k:Nat}{f:Addr}{name qual:Str}{params:Arguments}{body:List Stmt}{scope:Scope}{dV kV doc pm cdv ct oc:Value}{an od:Option Addr}
    {osl:Array (Option Value)}{N ps:List Str}{sp:Sp}(lk:K.lookup f=some ⟨oc,od,.func (PySem.W.fnOf name qual params body scope dV kV doc pm an cdv ct),osl⟩)(hcd:PySem.W.codeIn K cdv qual=true)(S:az N ps scope)
    (len:∀vs H Q E,sp vs H Q E→vs.length=ps.length)
    (hbody:∀(A:Around) (outer:List Env) (s:Shared) (H:Hp) (vs:List V) (Q:VK) (E:XK),cO k (A.deeper (envOfC qual scope s.heap.objs.size f cdv))→sp vs H Q E→
      ∃t,jy (kY CX P w K mg base N qual scope f cdv A outer s H E) body t∧t {nx:=fun _ H'=>Q .non H',rt:=Q} (fJ N vs) H):
    aF P w K mg base CX (k+1) f (PySem.W.fnOf name qual params body scope dV kV doc pm an cdv ct) ps sp:=by
  refine⟨len,fun A outer s H args us vs Q E hr e0 hb r hsp=>?_⟩
  have hl:=len _ _ _ _ hsp
  have KX:K.In s.heap:=e0.mod.kin.keeps fun b o e=>(e0.bs b o e).1
  have lim:s.heap.NoLimit:=e0.mod.nolimit.keeps fun b o e=>(e0.bs b o e).1
  have hkind:∀y∈ps.zip us,scope.names.lookup y.1=some .local∨(scope.names.lookup y.1=some .cell∧((cellsFrom (s.heap.objs.size+1) scope.names []).lookup y.1).isSome=true):=fun⟨n,v⟩ hy=>by
    rcases S.par n (List.of_mem_zip hy).1 with q | q
    · exact .inl q
    · exact .inr ⟨q,PySem.W.cellsFrom_some _ _ _ (.inl q)⟩
  refine codeAny_call_function hr.depth (KX _ _ lk) rfl S.co S.gen rfl (PySem.W.codeRec_of KX hcd) (hb _ _ _ _ ?_)
  refine wpAny_newFunctionEnv_cells S.kind hkind fun env he s1 x=>?_
  subst he
  refine⟨lim.keeps x.toInCall.keep,codeAny_func ?_⟩
  obtain⟨t,ht,hq⟩:=hbody A outer s H vs Q E (hr.deeper _) hsp
  have I:aJ (kY CX P w K mg base N qual scope f cdv A outer s H E) [] (fJ N vs) H s1:=sY S hr.hd e0 hl r x
  refine wpAny_mono (ht [] s1 (fJ N vs) H _ I hq) (fun fl s' hs=>?_) fun e s' hs=>hs
  have fin:∀{σ':St} {H':Hp} {v:V} {u:Value},aJ (kY CX P w K mg base N qual scope f cdv A outer s H E) [] σ' H' s'→bz v u→Q v H'→CE outer P w H s Q u s':=
    fun{σ' H' v u} J rv q=>⟨v,H',J.os,J.bare,J.base,J.hok,rv,q⟩
  cases fl with
  | ret u=>
    obtain⟨v,σ',H',J,rv,q⟩:=hs
    exact fin J rv q
  | next=>
    obtain⟨σ',H',J,q⟩:=hs
    exact fin (v:=V.non) (u:=Value.none) J rfl q
  | brk=>
    obtain⟨_,_,_,q⟩:=hs
    exact False.elim q
  | cont=>
    obtain⟨_,_,_,q⟩:=hs
    exact False.elim q
end L2
namespace L2
open PySem PySem.Spec PyProof.Rows
section
variable{X:Cx}{x:Str}{p pos:Pos}{e:Expr}{es:List Expr}{t:TA}{id T:String}{r:List V→Hp→VK→Prop}
def Du(r:List V→Hp→VK→Prop)(t:TA):TE:=fun σ H Q=>t σ H fun vs H1=>r vs H1 Q
theorem mv(hc:de X (.builtin id) r)(hg:Gl X x)(hm:X.mg x=none)(hv:bootBuiltins x=some (.builtin id))(ha:PA X (e::es) t)(hn:x≠"__name__":=by decide)(hdb:(x==("__debug__":Str))=false:=by decide)
    (he:starEach (e::es) X.env=(false,eval e X.env)::starEach es X.env:=by rfl)(hpl:(backTo pos (starEach es X.env)).any (·.1)=false:=by rfl):PE X (.Call (.Name x p) (e::es) [] pos) (Du r t):=by
  intro pins s σ H Q I h
  refine wpAny_Call_Name_kw (ki I hg hm hv ?_ hn hdb)
  exact PyProof.Rows.callWith_builtin1 (cN (ha pos pins s σ H _ I h) fun us s1 ⟨vs,H1,I1,r1,q1⟩=>hc pins s1 σ H1 vs us Q I1 r1 q1) he hpl
theorem tM(hc:de X (.type T) r)(hg:Gl X x)(hm:X.mg x=none)(hv:bootBuiltins x=some (.type T))(ha:PA X (e::es) t)(hn:x≠"__name__":=by decide)(hdb:(x==("__debug__":Str))=false:=by decide)
    (he:starEach (e::es) X.env=(false,eval e X.env)::starEach es X.env:=by rfl)(hpl:(backTo pos (starEach es X.env)).any (·.1)=false:=by rfl):PE X (.Call (.Name x p) (e::es) [] pos) (Du r t):=by
  intro pins s σ H Q I h
  refine wpAny_Call_Name_kw (ki I hg hm hv ?_ hn hdb)
  exact PyProof.Rows.callWith_type1 (cN (ha pos pins s σ H _ I h) fun us s1 ⟨vs,H1,I1,r1,q1⟩=>hc pins s1 σ H1 vs us Q I1 r1 q1) he hpl
end
end L2
namespace HT
open PySem PyProof.Rows
section
open PySem.SeqAt
open PySem.AutoSeq1 (wpAny_loadPart')
open PySem.MeetsSeq PySem.MeetsSeq2 PySem.MeetsSeq3
end
section
variable{prog:Program}{w:World}{A:Around}{E:Value→Shared→Prop}{s:Shared}
theorem cat_tup{t b:Addr}{vs ws:List Value}{Q:Value→Shared→Prop}(ht:IsTup s.heap t vs.toArray)(hb:IsTup s.heap b ws.toArray)(hv:vs≠[])
    (h1:ws=[]→Q (.ref t) s)(h2:ws≠[]→Q (.ref s.heap.objs.size) {s with heap:=s.heap.push {cls:=.type "tuple",data:=.seq (vs++ws).toArray}})
    (hsz:vs.length+ws.length≤sizeLine):wpAny (model prog w) A (binaryOp .Add (.ref t) (.ref b)) Q E s:=by
  obtain⟨⟨cls,dd,data,sl⟩,ho,hc,n,hd⟩:=id ht
  obtain⟨⟨cls2,dd2,data2,sl2⟩,ho2,hc2,n2,hd2⟩:=id hb
  simp only at hc hd hc2 hd2
  subst hc hd hc2 hd2
  have e:vs.toArray++ws.toArray=(vs++ws).toArray:=by simp
  by_cases hw:ws=[]
  · exact concat_meets ⟨_,ho,rfl⟩ ⟨_,ho2,rfl⟩ noFill_tuple_add seq_tuple_add PySem.F.slot_tuple_add PySem.F.entry_tuple_add (PySem.F.args_tuple_add_2 _ _)
      (tuple_addW1 t b vs.toArray ws.toArray n n2 dd dd2 sl sl2 (by simpa using hv) (by simp [hw])) ⟨ho,ho2,h1 hw⟩
  · refine concat_meets ⟨_,ho,rfl⟩ ⟨_,ho2,rfl⟩ noFill_tuple_add seq_tuple_add PySem.F.slot_tuple_add PySem.F.entry_tuple_add (PySem.F.args_tuple_add_2 _ _)
      (tuple_addW2 t b vs.toArray ws.toArray n n2 dd dd2 sl sl2 (by simpa using hv) (by simpa using hw) (by rw [List.size_toArray,List.size_toArray];exact hsz)) ⟨ho,ho2,?_⟩
    rw [e]
    exact h2 hw
def sIx(n d:Nat):Option Int→Nat
  | none=>d
  | some v=>if v < 0 then(v+(n:Int)).toNat else min v.toNat n
theorem AF(n d:Nat)(hd:d≤n)(o:Option Int):sIx n d o≤n:=by
  cases o with
  | none=>exact hd
  | some v=>
    show(if v < 0 then(v+(n:Int)).toNat else min v.toNat n)≤n
    by_cases hv:v < 0
    · rw [if_pos hv];lia
    · rw [if_neg hv];exact Nat.min_le_right _ _
theorem rK(v:Int)(n d:Nat):(if v < 0 then max (v+(n:Int)) 0 else min v (n:Int))=((sIx n d (some v):Nat):Int):=by
  show(if v < 0 then max (v+(n:Int)) 0 else min v (n:Int))=(((if v < 0 then(v+(n:Int)).toNat else min v.toNat n):Nat):Int)
  by_cases hv:v < 0
  · simp only [if_pos hv];lia
  · simp only [if_neg hv];lia
theorem qA(lo hi:Option Int)(n:Nat):Builtin.Slice.sliceAdjust lo hi 1 (n:Int)=(((sIx n 0 lo:Nat):Int),((sIx n n hi:Nat):Int)):=by
  have h1:¬((1:Int) < 0):=by lia
  unfold Builtin.Slice.sliceAdjust
  simp only [h1,if_false]
  refine Prod.ext ?_ ?_
  · cases lo with
    | none=>rfl
    | some v=>exact rK v n 0
  · cases hi with
    | none=>rfl
    | some v=>exact rK v n n
theorem q_(i j:Nat):Builtin.Slice.slicePlaces (i:Int) (j:Int) 1=j - i:=by
  unfold Builtin.Slice.slicePlaces
  have h1:(1:Int) > 0:=by lia
  simp only [h1,if_true,Int.ediv_one]
  split<;>lia
theorem mS{v:Value}{o:Option Int}{Q:Option Int→Shared→Prop}(p:IsPart v o)(h:Q o s):wpAny (model prog w) A (Builtin.Slice.slicePartIndex v) Q E s:=by
  cases p with
  | none=>exact slicePart_none h
  | int i t=>exact slicePart_int h
theorem gK{sl:Addr}{vl vu:Value}{lo hi:Option Int}{n:Nat}{Q:Int × Int × Nat→Shared→Prop}(hs:s.heap.IsSliceOf sl vl vu .none)(pl:IsPart vl lo)(pu:IsPart vu hi)
    (h:Q (((sIx n 0 lo:Nat):Int),1,sIx n n hi - sIx n 0 lo) s):wpAny (model prog w) A (Builtin.Slice.sliceApplied (.ref sl) (pure (n:Int))) Q E s:=by
  obtain⟨os,hos,hcs,hds⟩:=id hs
  unfold Builtin.Slice.sliceApplied Builtin.Slice.sliceFields
  refine wpAny_bind (wpAny_bind (wpAny_field hos hds (x:=vl) rfl (wpAny_bind (wpAny_field hos hds (x:=vu) rfl (wpAny_bind (wpAny_field hos hds (x:=.none) rfl (wpAny_pure ?_)))))))
  refine wpAny_bind (slicePart_none ?_)
  show wpAny _ _ (if ((1:Int)==0)=true then _ else _) _ _ s
  rw [if_neg (by decide)]
  refine wpAny_bind (mS pl (wpAny_bind (mS pu (wpAny_bind (wpAny_pure ?_)))))
  show wpAny _ _ (match Builtin.Slice.sliceAdjust lo hi 1 (n:Int) with | (lo,hi)=>pure (lo,(1:Int),Builtin.Slice.slicePlaces lo hi 1)) _ _ s
  rw [qA lo hi n]
  show wpAny _ _ (pure (((sIx n 0 lo:Nat):Int),(1:Int),Builtin.Slice.slicePlaces ((sIx n 0 lo:Nat):Int) ((sIx n n hi:Nat):Int) 1)) _ _ s
  rw [q_]
  exact wpAny_pure h
theorem vy(xs:Array Value)(i k:Nat):((List.range k).filterMap fun(m:Nat)=>xs[((i:Int)+(m:Int)*1).toNat]?).toArray=((xs.toList.drop i).take k).toArray:=by
  have e:(fun(m:Nat)=>xs[((i:Int)+(m:Int)*1).toNat]?)=fun m=>xs[i+m]?:=by
    funext m
    have:((i:Int)+(m:Int)*1).toNat=i+m:=by lia
    rw [this]
  rw [e]
  have:=pick_run xs i k
  rw [List.filterMap_map] at this
  have e2:((fun x=>xs[x]?) ∘ fun x=>i+x)=fun m=>xs[i+m]?:=rfl
  rw [e2] at this
  rw [this]
theorem getItem_tuple_cut{t sl:Addr}{items:Array Value}{vl vu:Value}{lo hi:Option Int}{Q:Value→Shared→Prop}(ht:IsTup s.heap t items)(hs:s.heap.IsSliceOf sl vl vu .none)(pl:IsPart vl lo)(pu:IsPart vu hi)
    (hw:¬(sIx items.size 0 lo=0∧sIx items.size items.size hi=items.size))
    (h:Q (.ref s.heap.objs.size) {s with heap:=s.heap.push {cls:=.type "tuple",data:=.seq ((items.toList.drop (sIx items.size 0 lo)).take (sIx items.size items.size hi - sIx items.size 0 lo)).toArray}})
    (hsz:items.size≤sizeLine):wpAny (model prog w) A (getItem (.ref t) (.ref sl)) Q E s:=by
  have htake:sizeOk (.seq ((items.toList.drop (sIx items.size 0 lo)).take (sIx items.size items.size hi - sIx items.size 0 lo)).toArray):=by
    show((items.toList.drop (sIx items.size 0 lo)).take (sIx items.size items.size hi - sIx items.size 0 lo)).toArray.size≤sizeLine
    rw [List.size_toArray,List.length_take,List.length_drop,Array.length_toList]
    lia
  have hj:sIx items.size items.size hi≤items.size:=AF _ _ (Nat.le_refl _) hi
  obtain⟨os,hos,hcs,hds⟩:=id hs
  have hTs:s.TypeIs (.ref sl) "slice":=⟨os,hos,hcs⟩
  unfold getItem
  try with_reducible refine wpAny_holding ?_
  first | refine wpAny_bind (wpAny_pure ?_) | skip
  refine wpAny_bind (wpAny_sequenceKey ht.typeIs (by decide) ?_)
  refine wpAny_bind (wpAny_callSpecial?_slot (name:=Str.ofString "__getitem__") ht.typeIs PyProof.Rows.slot_tuple_getitem
    (wpAny_call_entry PyProof.Rows.slot_tuple_getitem ht.typeIs entry_tuple_getitem ?_ (args_tuple_getitem _ _)))
  show wpAny _ _ (Builtin.Tuple.tupleItemsOf (.ref t) >>= _) _ _ s
  refine wpAny_bind (tupleItemsOf_ ht ?_)
  refine wpAny_bind (wpAny_typeOf hTs ?_)
  rw [if_pos (by decide)]
  refine wpAny_bind (gK hs pl pu ?_)
  have hno:¬((((sIx items.size 0 lo:Nat):Int)==0&&(1:Int)==1&&(sIx items.size items.size hi - sIx items.size 0 lo)==items.size)=true):=by
    intro q
    rw [Bool.and_eq_true,Bool.and_eq_true] at q
    have q1:((sIx items.size 0 lo:Nat):Int)=0:=eq_of_beq q.1.1
    have q2:sIx items.size items.size hi - sIx items.size 0 lo=items.size:=eq_of_beq q.2
    exact hw ⟨by lia,by lia⟩
  show wpAny _ _ (if (((sIx items.size 0 lo:Nat):Int)==0&&(1:Int)==1&&(sIx items.size items.size hi - sIx items.size 0 lo)==items.size)=true then _ else _) _ _ s
  rw [if_neg hno,vy]
  first
    | exact wpAny_bind (m:=Builtin.Tuple.tupleExact _) (wpAny_newObj_type (wpAny_pure ⟨_,rfl,wpAny_pure h⟩) htake)
    | exact wpAny_bind (m:=Builtin.Tuple.tupleExact _) (wpAny_newObj_type (wpAny_bind (wpAny_pure (wpAny_pure ⟨_,rfl,wpAny_pure h⟩))) htake)
    | exact wpAny_bind (wpAny_bind (m:=Builtin.Tuple.tupleExact _) (wpAny_newObj_type (wpAny_pure (wpAny_pure ⟨_,rfl,wpAny_pure h⟩)) htake))
    | exact wpAny_bind (wpAny_bind (m:=Builtin.Tuple.tupleExact _) (wpAny_newObj_type (wpAny_pure ⟨_,rfl,wpAny_pure h⟩) htake))
end
end HT
namespace L2
open PySem PySem.Spec PyProof.Rows
abbrev TO:=St→Hp→(Option Int→Hp→Prop)→Prop
def PO(X:Cx)(e:Option Expr)(t:TO):Prop:=
  ∀(pins:List (Addr × Obj)) (s:Shared) (σ:St) (H:Hp) (Q:Option Int→Hp→Prop),aJ X pins σ H s→t σ H Q→
    wpAny (model X.prog X.w) X.A (evalPart e X.env) (fun u s'=>∃o H',aJ X pins σ H' s'∧IsPart u o∧Q o H') X.xe s
def yh:TO:=fun _ H Q=>Q none H
def Cp(t:TE):TO:=fun σ H Q=>t σ H fun x H1=>∃i,x=.int i∧Q (some i) H1
theorem qL{ns:List Int}:∀{us:List Value},aU (ns.map V.int) us→IntsAre us ns:=by
  induction ns with
  | nil=>intro us r;rw [List.map_nil] at r;cases r;exact .nil
  | cons n ns ih=>
    intro us r
    rw [List.map_cons] at r
    cases r with
    | cons r1 r2=>
      obtain⟨t,e⟩:=r1
      subst e
      exact .cons n t (ih r2)
section
variable{X:Cx}{e:Expr}{te:TE}{lo hi:Option Expr}{tl th:TO}{pos p2:Pos}
theorem xQ:PO X none yh:=by
  intro pins s σ H Q I h
  rw [evalPart_none]
  exact wpAny_pure ⟨none,H,I,.none,h⟩
theorem xR(h:PE X e te):PO X (some e) (Cp te):=by
  intro pins s σ H Q I hw
  rw [evalPart_some]
  refine cN (h pins s σ H _ I hw) fun u s1 ⟨x,H1,I1,r1,q1⟩=>?_
  obtain⟨i,rfl,q⟩:=q1
  obtain⟨t,rfl⟩:=r1
  exact⟨some i,H1,I1,.int i t,q⟩
def wH(X:Cx)(r:V→Option Int→Option Int→Hp→VK→Prop):Prop:=
  ∀(pins:List (Addr × Obj)) (s:Shared) (σ:St) (H:Hp) (x:V) (v vl vu:Value) (lo hi:Option Int) (sl:Addr) (Q:VK),aJ X pins σ H s→bz x v→s.heap.IsSliceOf sl vl vu .none→IsPart vl lo→IsPart vu hi→r x lo hi H Q→
    ∃T id,typeLookup (.type T) "__getitem__"=pure (some (.builtin id))∧s.TypeIs v T∧wpAny (model X.prog X.w) X.A (getItem v (.ref sl)) (EP X pins σ Q) X.xe s
theorem wH.or{r r':V→Option Int→Option Int→Hp→VK→Prop}(h:wH X r)(h':wH X r'):wH X (fun x lo hi H Q=>r x lo hi H Q∨r' x lo hi H Q):=by
  intro pins s σ H x v vl vu lo hi sl Q I rx hs pl pu q
  rcases q with q | q
  · exact h pins s σ H x v vl vu lo hi sl Q I rx hs pl pu q
  · exact h' pins s σ H x v vl vu lo hi sl Q I rx hs pl pu q
def Ef(r:V→Option Int→Option Int→Hp→VK→Prop)(te:TE)(tl th:TO):TE:=fun σ H Q=>te σ H fun x H1=>tl σ H1 fun l H2=>th σ H2 fun u H3=>r x l u H3 Q
theorem vt{r:V→Option Int→Option Int→Hp→VK→Prop}(hr:wH X r)(he:PE X e te)(hl:PO X lo tl)(hu:PO X hi th):PE X (.Subscript e (.Slice lo hi none p2) pos) (Ef r te tl th):=by
  intro pins s σ H Q I h
  refine Subscript_ (cN (he pins s σ H _ I h) fun v s1 ⟨x,H1,I1,r1,q1⟩=>?_)
  refine wpAny_Slice (cN (hl pins s1 σ H1 _ I1 q1) fun vl s2 ⟨l,H2,I2,pl,q2⟩=>cN (hu pins s2 σ H2 _ I2 q2) fun vu s3 ⟨u,H3,I3,pu,q3⟩=>?_)
  rw [evalPart_none]
  refine wpAny_pure ?_
  have I4:aJ X pins σ H3 {s3 with heap:=s3.heap.push {cls:=.type "slice",data:=.fields #[vl,vu,.none]}}:=I3.kept (t':=s3.toks) fun b ob q=>Heap.get?_push_of_some _ q
  obtain⟨T,id,hT,ht,hg⟩:=hr pins {s3 with heap:=s3.heap.push {cls:=.type "slice",data:=.fields #[vl,vu,.none]}} σ H3 x v vl vu l u s3.heap.objs.size Q I4 r1 (Heap.IsSliceOf.new ..) pl pu q3
  show wpAny (model X.prog X.w) X.A (subscriptTail e (.Slice lo hi none p2) v (.ref s3.heap.objs.size)) (EP X pins σ Q) X.xe {s3 with heap:=s3.heap.push {cls:=.type "slice",data:=.fields #[vl,vu,.none]}}
  exact tail_any (ops:=[.ref s3.heap.objs.size,v]) ht hT hg (by with_unfolding_all rfl)
def m9(xs:List V)(lo hi:Option Int):List V:=(xs.drop (HT.sIx xs.length 0 lo)).take (HT.sIx xs.length xs.length hi - HT.sIx xs.length 0 lo)
theorem kN(xs:List V)(lo hi:Option Int):(m9 xs lo hi).length≤xs.length:=by
  unfold m9
  rw [List.length_take,List.length_drop]
  lia
def B8(K:PySem.W.Frag):V→Option Int→Option Int→Hp→VK→Prop:=fun x lo hi H Q=>∃a xs,x=.ref a∧dY K H a xs∧
  ¬(HT.sIx xs.length 0 lo=0∧HT.sIx xs.length xs.length hi=xs.length)∧∀p,H p=none→Q (.ref p) (cu H p (.tup (m9 xs lo hi)))
theorem AI:wH X (B8 X.K):=by
  intro pins s σ H x v vl vu lo hi sl Q I rx hs pl pu h
  obtain⟨a,xs,rfl,hx,hw,q⟩:=h
  cases rx
  obtain⟨its,r,ht,hz⟩:=I.tuple hx
  have hlen:its.toArray.size=xs.length:=by rw [List.size_toArray];exact r.length.symm
  refine⟨"tuple",_,PyProof.Rows.slot_tuple_getitem.lookup,ht.typeIs,?_⟩
  refine HT.getItem_tuple_cut ht hs pl pu (by rw [hlen];exact hw) ?_ (by rw [hlen];exact hz)
  rw [hlen]
  refine⟨.ref s.heap.objs.size,_,I.laid (t':=s.toks) (o:=.tup (m9 xs lo hi)) (fun b ob q=>Heap.get?_push_of_some _ q) (Nat.le_refl _) ?_,rfl,q _ (I.hok.fresh (Nat.le_refl _))⟩
  exact⟨Nat.le_trans (kN xs lo hi) hz,_,(r.drop (HT.sIx xs.length 0 lo)).take (HT.sIx xs.length xs.length hi - HT.sIx xs.length 0 lo),oz.new _ _⟩
def B2(K:PySem.W.Frag):R2:=fun x y H Q=>∃a b xs ys,x=.ref a∧y=.ref b∧dY K H a xs∧dY K H b ys∧xs≠[]∧xs.length+ys.length≤sizeLine∧
  (ys=[]→Q (.ref a) H)∧(ys≠[]→∀p,H p=none→Q (.ref p) (cu H p (.tup (xs++ys))))
theorem aU.nil_iff{xs:List V}{us:List Value}(r:aU xs us):us=[]↔ xs=[]:=by
  cases r with
  | nil=>simp
  | cons _ _=>simp
theorem xC:eR X (binaryOp .Add) (B2 X.K):=by
  intro pins s σ H x y v u Q I rx ry h
  obtain⟨a,b,xs,ys,rfl,rfl,ha,hb,hx,hz,q1,q2⟩:=h
  cases rx
  cases ry
  obtain⟨its,r1,p1,_⟩:=I.tuple ha
  obtain⟨its2,r2,p2,_⟩:=I.tuple hb
  refine HT.cat_tup p1 p2 (fun z=>hx (r1.nil_iff.mp z)) (fun z=>⟨.ref a,H,I,rfl,q1 (r2.nil_iff.mp z)⟩) (fun z=>?_) (by rw [←r1.length,←r2.length];exact hz)
  refine⟨.ref s.heap.objs.size,_,I.laid (t':=s.toks) (o:=.tup (xs++ys)) (fun b ob q=>Heap.get?_push_of_some _ q) (Nat.le_refl _) ?_,rfl,q2 (fun w=>z (r2.nil_iff.mpr w)) _ (I.hok.fresh (Nat.le_refl _))⟩
  exact⟨by rw [List.length_append];exact hz,_,r1.append r2,oz.new _ _⟩
end
end L2
namespace L2
open PySem PySem.Spec PyProof.Rows
def BC(n:Nat)(i:Int):Option Nat:=if 0≤i then(if i < n then some i.toNat else none) else if -(n:Int)≤i then some (i+n).toNat else none
def atI{α:Type}(xs:List α)(i:Int):Option α:=(BC xs.length i).bind fun j=>xs[j]?
theorem xh{n:Nat}{i:Int}{j:Nat}(h:BC n i=some j):seqIndex? i n=some j∧j < n∧ -(n:Int)≤i∧i < n:=by
  unfold BC at h
  by_cases h0:0≤i
  · rw [if_pos h0] at h
    by_cases h1:i < n
    · rw [if_pos h1] at h
      have e:i.toNat=j:=Option.some.inj h
      exact⟨by rw [seqIndex_of h0 h1,e],by lia,by lia,h1⟩
    · rw [if_neg h1] at h;cases h
  · rw [if_neg h0] at h
    by_cases h1: -(n:Int)≤i
    · rw [if_pos h1] at h
      have e:(i+n).toNat=j:=Option.some.inj h
      exact⟨by rw [seqIndex_neg (by lia) h1,e],by lia,h1,by lia⟩
    · rw [if_neg h1] at h;cases h
theorem rD{α:Type}{xs:List α}{i:Int}{v:α}(h:atI xs i=some v):∃j,seqIndex? i xs.length=some j∧xs[j]?=some v∧j < xs.length∧ -(xs.length:Int)≤i∧i < xs.length:=by
  unfold atI at h
  cases e:BC xs.length i with
  | none=>rw [e] at h;cases h
  | some j=>
    rw [e] at h
    obtain⟨h1,h2,h3,h4⟩:=xh e
    exact⟨j,h1,h,h2,h3,h4⟩
def oC(b:Expr):Prop:=∀o i,subscripted b false o i=operate [o,i] (getItem o i)
def wF(X:Cx)(r:R2):Prop:=
  ∀(value slice:Expr) (pins:List (Addr × Obj)) (s:Shared) (σ:St) (H:Hp) (x y:V) (v u:Value) (Q:VK),aJ X pins σ H s→bz x v→bz y u→r x y H Q→
    subscripted slice false v u=operate [v,u] (getItem v u)→wpAny (model X.prog X.w) X.A (subscriptTail value slice v u) (EP X pins σ Q) X.xe s
def DG(X:Cx)(id:String)(r:V→List V→Hp→VK→Prop):Prop:=
  ∀(pins:List (Addr × Obj)) (s:Shared) (σ:St) (H:Hp) (x:V) (xs:List V) (v:Value) (us:List Value) (Q:VK),aJ X pins σ H s→bz x v→aU xs us→r x xs H Q→
    wpAny (model X.prog X.w) X.A (call (.builtin id) (v::us)) (EP X pins σ Q) X.xe s
section
variable{X:Cx}{a b:Expr}{ta tb:TE}{pos:Pos}
theorem wF.or{r r':R2}(h:wF X r)(h':wF X r'):wF X (fun x y H Q=>r x y H Q∨r' x y H Q):=by
  intro value slice pins s σ H x y v u Q I rx ry q hs
  rcases q with q | q
  · exact h value slice pins s σ H x y v u Q I rx ry q hs
  · exact h' value slice pins s σ H x y v u Q I rx ry q hs
theorem BU{r:R2}(hr:wF X r)(ha:PE X a ta)(hb:PE X b tb)(hs:oC b):PE X (.Subscript a b pos) (AN r ta tb):=by
  intro pins s σ H Q I h
  exact Subscript_ (zi ha hb I h fun v u s2 x y H2 I2 rx ry q=>hr a b pins s2 σ H2 x y v u Q I2 rx ry q (hs _ _))
def B5(K:PySem.W.Frag):R2:=fun x y H Q=>∃p xs i v,x=.ref p∧y=.int i∧gL K H p xs∧atI xs i=some v∧Q v H
def B6(K:PySem.W.Frag):R2:=fun x y H Q=>∃p xs i v,x=.ref p∧y=.int i∧dY K H p xs∧atI xs i=some v∧Q v H
theorem xi:wF X (B5 X.K):=by
  intro value slice pins s σ H x y v u Q I rx ry h hs
  obtain⟨p,xs,i,z,rfl,rfl,hq,he,q⟩:=h
  cases rx
  obtain⟨t,rfl⟩:=ry
  obtain⟨its,r,pl,hz⟩:=I.list hq
  obtain⟨j,h1,h2,h3,h4,h5⟩:=rD he
  obtain⟨w,ew,rw'⟩:=r.get h2
  have hl:=r.length
  have hn:=qO
  have fin:EP X pins σ Q w s:=⟨z,H,I,rw',q⟩
  by_cases h0:0≤i
  · have hj:i.toNat=j:=by
      rw [seqIndex_of h0 h5] at h1
      exact Option.some.inj h1
    exact item_listR pl.isList h0 (by lia) (by rw [hj];simpa using ew) fin hs
  · have hj:(i+(its.toArray.size:Int)).toNat=j:=by
      rw [seqIndex_neg (by lia) h4] at h1
      rw [List.size_toArray,←hl]
      exact Option.some.inj h1
    exact subscriptTail_builtinR (x:=w) pl.isList.typeIs slot_list_getitem.lookup
      (wpAny_getItem_list_neg (Q:=fun r s'=>r=w∧EP X pins σ Q r s') pl.isList (by lia) (by rw [List.size_toArray]<;>lia) (by lia) (by rw [hj];simpa using ew) ⟨rfl,fin⟩) hs
theorem zD:wF X (B6 X.K):=by
  intro value slice pins s σ H x y v u Q I rx ry h hs
  obtain⟨p,xs,i,z,rfl,rfl,hq,he,q⟩:=h
  cases rx
  obtain⟨t,rfl⟩:=ry
  obtain⟨its,r,pl,hz⟩:=I.tuple hq
  obtain⟨j,h1,h2,h3,h4,h5⟩:=rD he
  obtain⟨w,ew,rw'⟩:=r.get h2
  have hl:=r.length
  have hn:=qO
  have fin:EP X pins σ Q w s:=⟨z,H,I,rw',q⟩
  exact subscriptTail_builtinR (x:=w) pl.typeIs slot_tuple_getitem.lookup
    (getItem_tuple (j:=j) (Q:=fun r s'=>r=w∧EP X pins σ Q r s') pl (by lia) (by lia) (by rw [List.size_toArray,←hl];exact h1) (by simpa using ew) ⟨rfl,fin⟩) hs
theorem pw(lo hi:Option Int)(n:Nat):(sliceBounds lo hi none n).1=((HT.sIx n 0 lo:Nat):Int)∧(sliceBounds lo hi none n).2.1=((HT.sIx n n hi:Nat):Int)∧(sliceBounds lo hi none n).2.2=1:=by
  refine⟨?_,?_,rfl⟩
  · cases lo with
    | none=>simp [sliceBounds,HT.sIx]
    | some i=>
      simp only [sliceBounds,HT.sIx,Option.getD_none,show(1:Int) > 0 by decide,if_true]
      by_cases h:i < 0
      · simp only [h,if_true]<;>lia
      · simp only [h,if_false]<;>lia
  · cases hi with
    | none=>simp [sliceBounds,HT.sIx]
    | some i=>
      simp only [sliceBounds,HT.sIx,Option.getD_none,show(1:Int) > 0 by decide,if_true]
      by_cases h:i < 0
      · simp only [h,if_true]<;>lia
      · simp only [h,if_false]<;>lia
theorem nq(its:List Value)(lo hi:Option Int):slicePick its.toArray lo hi none=((its.drop (HT.sIx its.length 0 lo)).take (HT.sIx its.length its.length hi - HT.sIx its.length 0 lo)).toArray:=by
  obtain⟨h1,h2,h3⟩:=pw lo hi its.toArray.size
  unfold slicePick
  rw [h1,h2,h3]
  simp only [sliceRange_one,pick_run,List.size_toArray]<;>rfl
def B7(K:PySem.W.Frag):V→Option Int→Option Int→Hp→VK→Prop:=fun x lo hi H Q=>∃a xs,x=.ref a∧gL K H a xs∧∀p,H p=none→Q (.ref p) (cu H p (.lst (m9 xs lo hi)))
theorem yd:wH X (B7 X.K):=by
  intro pins s σ H x v vl vu lo hi sl Q I rx hs pl pu h
  obtain⟨a,xs,rfl,hx,q⟩:=h
  cases rx
  obtain⟨its,r,ht,hz⟩:=I.list hx
  have hlen:=r.length
  refine⟨"list",_,slot_list_getitem.lookup,ht.isList.typeIs,?_⟩
  refine wpAny_getItem_list_slice ht.isList hs pl pu .none (by simp) ?_ (by rw [List.size_toArray]<;>lia)
  rw [nq,←hlen]
  refine⟨.ref s.heap.objs.size,_,I.laid (t':=s.toks) (o:=.lst (m9 xs lo hi)) (fun b ob q=>Heap.get?_push_of_some _ q) (Nat.le_refl _) ?_,rfl,q _ (I.hok.fresh (Nat.le_refl _))⟩
  exact⟨Nat.le_trans (kN xs lo hi) hz,_,0,(r.drop (HT.sIx xs.length 0 lo)).take (HT.sIx xs.length xs.length hi - HT.sIx xs.length 0 lo),Heap.get?_push_size _ rfl⟩
theorem oJ:de X (.builtin "len") (fun xs H Q=>∃p ys,xs=[.ref p]∧(gL X.K H p ys∨dY X.K H p ys)∧Q (.int ys.length) H):=by
  intro pins s σ H xs us Q I r h
  obtain⟨p,ys,rfl,hq,q⟩:=h
  obtain⟨u,rfl,rx⟩:=ox r
  cases rx
  have hn:=qO
  rcases hq with hq | hq
  · obtain⟨its,r',pl,hz⟩:=I.list hq
    have hlen:=r'.length
    exact Calls.call_len_list pl.isList (by simp only [List.size_toArray]<;>lia) ⟨.int ys.length,H,I.tok _,⟨s.toks+1,by rw [List.size_toArray,hlen]⟩,q⟩
  · obtain⟨its,r',pl,hz⟩:=I.tuple hq
    have hlen:=r'.length
    exact len_tuple pl (by simp only [List.size_toArray]<;>lia) ⟨.int ys.length,H,I.tok _,⟨s.toks+1,by rw [List.size_toArray,hlen]⟩,q⟩
theorem oK:de X (.type "list") (fun xs H Q=>∃p ys,xs=[.ref p]∧(gL X.K H p ys∨dY X.K H p ys)∧∀l,H l=none→Q (.ref l) (cu H l (.lst ys))):=by
  intro pins s σ H xs us Q I r h
  obtain⟨p,ys,rfl,hq,q⟩:=h
  obtain⟨u,rfl,rx⟩:=ox r
  cases rx
  have fin:∀(its:List Value),aU ys its→ys.length≤sizeLine→∀(h':Heap) (c':Nat),(∀b o',s.heap.get? b=some o'→h'.get? b=some o')→
      h'.get? s.heap.objs.size=some {cls:=.type "list",dict:=none,data:=.seq its.toArray c',slots:=#[]}→EP X pins σ Q (.ref s.heap.objs.size) {s with heap:=h'}:=fun its r' hz h' c' kp e=>
    ⟨.ref s.heap.objs.size,_,I.laid (t':=s.toks) kp (Nat.le_refl _) (show dg X.prog X.w _ h' _ (.lst ys) from⟨hz,its,c',r',e⟩),rfl,q _ (I.hok.fresh (Nat.le_refl _))⟩
  rcases hq with hq | hq
  · obtain⟨its,r',pl,hz⟩:=I.list hq
    have hlen:=r'.length
    obtain⟨o,ho,hc,n,hd⟩:=pl.isList
    exact call_list_seq p (.inl rfl) ho hc hd (fun h' c' kp e=>fin its r' hz h' c' kp e) (by simp only [List.size_toArray]<;>lia)
  · obtain⟨its,r',pl,hz⟩:=I.tuple hq
    have hlen:=r'.length
    obtain⟨o,ho,hc,n,hd⟩:=pl
    exact call_list_seq p (.inr rfl) ho hc hd (fun h' c' kp e=>fin its r' hz h' c' kp e) (by simp only [List.size_toArray]<;>lia)
theorem m7:de X (.type "tuple") (fun xs H Q=>∃p ys,xs=[.ref p]∧((gL X.K H p ys∧∀l,H l=none→Q (.ref l) (cu H l (.tup ys)))∨(dY X.K H p ys∧Q (.ref p) H))):=by
  intro pins s σ H xs us Q I r h
  obtain⟨p,ys,rfl,h⟩:=h
  obtain⟨u,rfl,rx⟩:=ox r
  cases rx
  rcases h with ⟨hq,q⟩ | ⟨hq,q⟩
  · obtain⟨its,r',pl,hz⟩:=I.list hq
    have hlen:=r'.length
    refine call_tuple_list pl.isList (fun h' kp=>?_) (by simp only [List.size_toArray]<;>lia)
    have I1:aJ X pins σ H {s with heap:=h'}:=I.kept (t':=s.toks) kp
    have I2:aJ X pins σ (cu H h'.objs.size (.tup ys)) {s with heap:=h'.push {cls:=.type "tuple",data:=.seq its.toArray}}:=
      I1.laid (t':=s.toks) (fun b o e=>Heap.get?_push_of_some _ e) (Nat.le_refl _) (show dg X.prog X.w _ _ _ (.tup ys) from⟨hz,its,r',oz.new _ _⟩)
    exact⟨.ref h'.objs.size,_,I2,rfl,q _ (I1.hok.fresh (Nat.le_refl _))⟩
  · obtain⟨its,r',pl,hz⟩:=I.tuple hq
    exact call_tuple_same pl ⟨.ref p,H,I,rfl,q⟩
def DU(K:PySem.W.Frag)(T:String)(x:V)(H:Hp):Prop:=match x with
  | .str _=>T="str"
  | .int _=>T="int"
  | .ref p=>(T="list"∧∃xs,gL K H p xs)∨(T="tuple"∧∃o,K.lookup p=some o∧o.cls=.type "tuple"∧o.dict=none)∨
      (T="dict"∧((∃kvs,H p=some (.dK kvs))∨∃kvs,H p=some (.dT kvs)))∨(T="set"∧∃S n,H p=some (.set S n))
  | _=>False
theorem AW{pins:List (Addr × Obj)}{σ:St}{H:Hp}{s:Shared}{T:String}{x:V}{v:Value}(I:aJ X pins σ H s)(r:bz x v)(ty:DU X.K T x H):
    s.TypeIs v T∧∀a,v=.ref a→∃ob,s.heap.get? a=some ob∧ob.dict=none:=by
  cases x with
  | str z=>
    obtain⟨t,rfl⟩:=r
    cases (show T="str" from ty)
    exact⟨typeIs_str s z t,fun _ e=>nomatch e⟩
  | int i=>
    obtain⟨t,rfl⟩:=r
    cases (show T="int" from ty)
    exact⟨typeIs_int s i t,fun _ e=>nomatch e⟩
  | ref p=>
    cases r
    rcases ty with ⟨rfl,xs,hq⟩ | ⟨rfl,o,hk,hc,hd⟩ | ⟨rfl,hk⟩ | ⟨rfl,S,n,hk⟩
    · obtain⟨its,_,pl,_⟩:=I.list hq
      refine⟨pl.isList.typeIs,fun a e=>?_⟩
      cases e
      obtain⟨o,n,e,c,hd,_⟩:=pl
      exact⟨o,e,hd⟩
    · refine⟨⟨o,I.kIn p o hk,hc⟩,fun a e=>?_⟩
      cases e
      exact⟨o,I.kIn _ o hk,hd⟩
    · have z:∃o,s.heap.get? p=some o∧o.ExactDict:=by
        rcases hk with ⟨kvs,hk⟩ | ⟨kvs,hk⟩
        · obtain⟨_,_,_,_,o,_,_,e,ex,_⟩:=I.hok p _ hk
          exact⟨o,e,ex⟩
        · obtain⟨_,_,_,_,o,_,_,e,ex,_⟩:=I.hok p _ hk
          exact⟨o,e,ex⟩
      obtain⟨o,e,ex⟩:=z
      refine⟨⟨o,e,ex.1⟩,fun a e2=>?_⟩
      cases e2
      exact⟨o,e,ex.2.1⟩
    · obtain⟨o,_,_,_,e,ex,_⟩:=I.hok p _ hk
      refine⟨⟨o,e,ex.1⟩,fun a e2=>?_⟩
      cases e2
      exact⟨o,e,ex.2.1⟩
  | _=>exact False.elim ty
def DR(K:PySem.W.Frag)(T:String)(r:V→List V→Hp→VK→Prop)(to:TE)(t:TA):TE:=fun σ H Q=>to σ H fun x H1=>DU K T x H1∧t σ H1 fun xs H2=>r x xs H2 Q
variable{o e:Expr}{es:List Expr}{to:TE}{t:TA}{name:Str}{apos cpos:Pos}{T id:String}{r:V→List V→Hp→VK→Prop}
theorem BS(pa:PlainAttrs T)(slot:Slot T name id)(hty:typeOf (.builtin id)=pure (.type "method_descriptor"))(hm:DG X id r)(ho:PE X o to)(ha:PA X (e::es) t)
    (hbase:attributeBase o name X.env (eval o X.env)=eval o X.env:=by rfl)
    (hfew:((backTo cpos (starEach (e::es) X.env)).all (fun x=> !x.1)&&(backToKw cpos (keywordEach [] X.env)).all (fun x=>x.1.isSome)
      &&decide ((e::es).length+([]:List Keyword).length+(if ([]:List Keyword).isEmpty then 0 else 1) < 30))=true:=by rfl)
    (hline:(apos.endLine==cpos.line)=true:=by rfl)(hs:starEach (e::es) X.env=(false,eval e X.env)::starEach es X.env:=by rfl)(hplain:(backTo cpos (starEach es X.env)).any (·.1)=false:=by rfl):
    PE X (.Call (.Attribute o name apos) (e::es) [] cpos) (DR X.K T r to t):=by
  intro pins s σ H Q I h
  refine wpAny_Call_method_late hbase hfew hline rfl (cN (ho pins s σ H _ I h) fun v s1 ⟨x,H1,I1,r1,ty,q1⟩=>?_)
  obtain⟨h1,h2⟩:=AW I1 r1 ty
  refine⟨T,id,pa,slot,hty,h1,h2,?_⟩
  have hA:=ha cpos pins s1 σ H1 _ I1 q1
  rw [hs] at hA ⊢
  refine Calls.callWith_builtin (by show(false || (backTo cpos (starEach es X.env)).any (·.1))=false;rw [hplain]<;>rfl) (Calls.evalArgs_plain ?_)
  exact cN hA fun us s2 ⟨vs,H2,I2,r2,q2⟩=>hm pins s2 σ H2 x vs v us Q I2 r1 r2 q2
end
end L2
namespace L2
open PySem PySem.Spec PyProof.Rows
def DF(X:Cx)(id:String)(r:V→List V→Hp→VK→Prop):Prop:=
  ∀(pins:List (Addr × Obj)) (s:Shared) (σ:St) (H:Hp) (x:V) (xs:List V) (v:Value) (us:List Value) (Q:VK),aJ X pins σ H s→bz x v→aU xs us→r x xs H Q→
    wpAny (model X.prog X.w) X.A (call (.builtin id) (v::us)) (EP X pins σ Q) X.xe s
theorem aU.one:∀{x:V} {us:List Value},aU [x] us→∃u,us=[u]∧bz x u
  | _,_,.cons r .nil=>⟨_,rfl,r⟩
theorem aU.eraseIdx:∀{xs:List V} {us:List Value} (i:Nat),aU xs us→aU (xs.eraseIdx i) (us.eraseIdx i)
  | _,_,_,.nil=>.nil
  | _,_,0,.cons _ t=>t
  | _,_,i+1,.cons r t=>.cons r (aU.eraseIdx i t)
theorem aU.rep{xs:List V}{us:List Value}(h:aU xs us):∀k:Nat,aU (List.replicate k xs).flatten (List.replicate k us).flatten
  | 0=>.nil
  | k+1=>by
    rw [List.replicate_succ,List.replicate_succ,List.flatten_cons,List.flatten_cons]
    exact aU.append h (aU.rep h k)
theorem nS{α:Type}:∀(l:List α) (i:Nat),(l.eraseIdx i).length≤l.length
  | [],_=>Nat.le_refl _
  | _::_,0=>Nat.le_succ _
  | _::r,i+1=>Nat.succ_le_succ (nS r i)
theorem nO(its:List Value):∀(k:Nat) (acc:List Value),
    List.foldl (fun x1 x2=>x1++x2) acc.toArray (List.replicate k its.toArray)=(acc++(List.replicate k its).flatten).toArray
  | 0,acc=>by simp
  | k+1,acc=>by
    have e:acc.toArray++its.toArray=(acc++its).toArray:=by simp
    have e2:(acc++its)++(List.replicate k its).flatten=acc++(List.replicate (k+1) its).flatten:=by
      rw [List.replicate_succ,List.flatten_cons,List.append_assoc]
    rw [←e2,←nO its k (acc++its),←e,List.replicate_succ,List.foldl_cons]
section
variable{X:Cx}{pins:List (Addr × Obj)}{σ:St}{H:Hp}{s:Shared}{l b:Addr}{xs ys zs:List V}
theorem aJ.lset{its its':List Value}{n:Nat}{f:Array Value→Array Value}{t':Nat}(I:aJ X pins σ H s)(hH:H l=some (.lst xs))
    (e:s.heap.get? l=some {cls:=.type "list",data:=.seq its.toArray n})(hf:f its.toArray=its'.toArray)(hv:aU ys its')(hz:ys.length≤sizeLine):
    aJ X pins σ (cu H l (.lst ys)) {s with heap:=s.heap.update l (Obj.mapSeq f),toks:=t'}:=by
  have q:=PySem.IsL.update e f
  rw [hf] at q
  refine I.write (x:=l) (e:=l) (by rw [hH];exact trivial) (.inl rfl) (fun b' u hb hu=>(Heap.get?_update_other s.heap (Obj.mapSeq f) (Ne.symm hb)).trans hu) ⟨_,q⟩ ?_
  exact⟨hz,its',_,hv,q⟩
theorem aJ.lnew{its:List Value}{t':Nat}(I:aJ X pins σ H s)(hv:aU ys its)(hz:ys.length≤sizeLine):
    aJ X pins σ (cu H s.heap.objs.size (.lst ys)) {s with heap:=s.heap.push {cls:=.type "list",data:=.seq its.toArray},toks:=t'}:=
  I.laid (fun _ _ q=>Heap.get?_push_of_some _ q) (Nat.le_refl _) ⟨hz,its,0,hv,Heap.get?_push_size _ rfl⟩
theorem aJ.fresh(I:aJ X pins σ H s):H s.heap.objs.size=none:=I.hok.fresh (Nat.le_refl _)
theorem aJ.lstM(I:aJ X pins σ H s)(hH:H l=some (.lst xs)):xs.length≤sizeLine∧∃(its:List Value) (n:Nat),aU xs its∧xs.length=its.length∧s.heap.get? l=some {cls:=.type "list",data:=.seq its.toArray n}:=by
  obtain⟨z,its,n,r,e⟩:=I.hok l _ hH
  exact⟨z,its,n,r,r.length,e⟩
theorem vd{n:Nat}(h:n≤sizeLine):Builtin.List.listTooLong n=false:=by
  unfold Builtin.List.listTooLong
  exact decide_eq_false (by lia)
end
section
variable{X:Cx}
def r9:V→List V→Hp→VK→Prop:=fun x vs H Q=>∃l xs y,x=.ref l∧vs=[y]∧H l=some (.lst xs)∧xs.length < sizeLine∧Q .non (cu H l (.lst (xs++[y])))
theorem nW:DF X "list.append" r9:=by
  intro pins s σ H x vs v us Q I rx rv h
  obtain⟨l,xs,y,rfl,rfl,hH,hz,q⟩:=h
  cases rx
  obtain⟨u,rfl,ru⟩:=rv.one
  obtain⟨z,its,n,r,hl,e⟩:=I.lstM hH
  refine call_meets F.slot_list_append ⟨_,e,rfl⟩ F.entry_list_append (F.args_list_append_2 _ _) (PySem.list_append l its.toArray n u (by rw [List.size_toArray];lia)) ⟨e,?_⟩
  refine⟨.non,_,I.lset (its':=its++[u]) hH e (by simp) (r.append (.cons ru .nil)) ?_,rfl,q⟩
  rw [List.length_append,List.length_singleton]
  lia
def vJ:V→List V→Hp→VK→Prop:=fun x vs H Q=>∃l xs i k y,x=.ref l∧vs=[.int i]∧H l=some (.lst xs)∧ -(2 ^ 63)≤i∧i < 2 ^ 63∧seqIndex? i xs.length=some k∧xs[k]?=some y∧Q y (cu H l (.lst (xs.eraseIdx k)))
theorem u7:DF X "list.pop" vJ:=by
  intro pins s σ H x vs v us Q I rx rv h
  obtain⟨l,xs,i,k,y,rfl,rfl,hH,h1,h2,hk,hy,q⟩:=h
  cases rx
  obtain⟨u,rfl,ru⟩:=rv.one
  obtain⟨t,rfl⟩:=ru
  obtain⟨z,its,n,r,hl,e⟩:=I.lstM hH
  obtain⟨w,hw,rw'⟩:=r.get hy
  refine call_meets F.slot_list_pop ⟨_,e,rfl⟩ F.entry_list_pop (F.args_list_pop_2 _ _)
    (MeetsSeq.list_pop_at l its.toArray n i t k w (fitsIndex_both h1 h2) (by rw [List.size_toArray,←hl];exact hk) (by rw [←Array.getElem?_toList];exact hw) (by rw [List.size_toArray];lia)) ⟨e,?_⟩
  refine⟨y,_,I.lset (its':=its.eraseIdx k) hH e ?_ (r.eraseIdx k) ?_,rw',q⟩
  · show its.toArray.eraseIdxIfInBounds k=(its.eraseIdx k).toArray
    rw [List.eraseIdxIfInBounds_toArray]
  · have:=nS xs k
    lia
def x6:R2:=fun x y H Q=>∃l b xs zs,x=.ref l∧y=.ref b∧H l=some (.lst xs)∧H b=some (.lst zs)∧xs.length+zs.length≤sizeLine∧∀p,H p=none→Q (.ref p) (cu H p (.lst (xs++zs)))
theorem vk:eR X (binaryOp .Add) x6:=by
  intro pins s σ H x y v u Q I rx ry h
  obtain⟨l,b,xs,zs,rfl,rfl,hH,hB,hz,q⟩:=h
  cases rx
  cases ry
  obtain⟨z,its,n,r,hl,e⟩:=I.lstM hH
  obtain⟨z2,its2,n2,r2,hl2,e2⟩:=I.lstM hB
  refine PySem.P.add_list e e2 ?_ (by rw [List.size_toArray,List.size_toArray];lia)
  have ea:its.toArray++its2.toArray=(its++its2).toArray:=by simp
  rw [ea]
  exact⟨.ref _,_,I.lnew (t':=s.toks) (r.append r2) (by rw [List.length_append];lia),rfl,q _ I.fresh⟩
def Ax:R2:=fun x y H Q=>∃l k xs,x=.ref l∧y=.int k∧H l=some (.lst xs)∧ -(2 ^ 63)≤k∧k < 2 ^ 63∧xs.length*k.toNat≤sizeLine∧
  ∀p,H p=none→Q (.ref p) (cu H p (.lst (List.replicate k.toNat xs).flatten))
theorem xj{α:Type}(xs:List α)(k:Nat):(List.replicate k xs).flatten.length=k*xs.length:=by
  induction k with
  | zero=>simp
  | succ k ih=>rw [List.replicate_succ,List.flatten_cons,List.length_append,ih,Nat.succ_mul,Nat.add_comm]
theorem z8:eR X (binaryOp .Mult) Ax:=by
  intro pins s σ H x y v u Q I rx ry h
  obtain⟨l,k,xs,rfl,rfl,hH,h1,h2,hz,q⟩:=h
  cases rx
  obtain⟨t,rfl⟩:=ry
  obtain⟨z,its,n,r,hl,e⟩:=I.lstM hH
  have hlen:its.toArray.size*k.toNat≤sizeLine:=by rw [List.size_toArray,←hl];exact hz
  have hcap:¬its.toArray.size*k.toNat > (2 ^ 63 - 1) / 8:=by
    have:(sizeLine:Nat)≤(2 ^ 63 - 1) / 8:=by decide
    lia
  have hfit:¬(!Builtin.List.listFitsIndex k)=true:=by
    rw [fitsIndex_both h1 h2]
    exact Bool.false_ne_true
  have hlong:¬Builtin.List.listTooLong (its.toArray.size*k.toNat)=true:=by
    rw [vd hlen]
    exact Bool.false_ne_true
  have hnew:List.foldl (fun x1 x2=>x1++x2) #[] (List.replicate (if its.toArray.isEmpty=true then 0 else k.toNat) its.toArray)=(List.replicate k.toNat its).flatten.toArray:=by
    have f0:∀m:Nat,List.foldl (fun x1 x2=>x1++x2) #[] (List.replicate m its.toArray)=(List.replicate m its).flatten.toArray:=fun m=>by
      have:=nO its m []
      rw [List.nil_append] at this
      exact this
    rw [f0]
    cases its with
    | nil=>simp
    | cons a r'=>rw [if_neg (by simp)]
  refine wpAny_binaryOp_repeat_ref (T:="list") (U:="int") (by decide) ⟨_,e,rfl⟩ (fun s'=>typeIs_int s' k t) noFill_list_mul F.fills_int_mul F.slot_int_rmul repeat_list F.slot_int_index.lookup
    (call_meets F.slot_int_rmul (typeIs_int s k t) F.entry_int_rmul (F.args_int_rmul_2 _ _) (int___rmul___int_list k t l its.toArray n)
      ⟨e,rfl,⟨_,e,rfl⟩,call_meets F.slot_list_mul ⟨_,e,rfl⟩ F.entry_list_mul (F.args_list_mul_2 _ _) (AutoListH.list___mul___list_int_3 l its.toArray n k t hfit hcap hlong) ⟨e,?_⟩⟩)
  rw [hnew]
  exact⟨.ref _,_,I.lnew (t':=s.toks) (r.rep k.toNat) (by rw [xj,Nat.mul_comm];exact hz),rfl,q _ I.fresh⟩
end
section
variable{prog:Program}{w:World}{A:Around}{E:Value→Shared→Prop}{s:Shared}
end
section
variable{X:Cx}
end
end L2
namespace Att
open PySem PySem.W PySem.Calls PyProof.Rows
theorem k7{P:Params}{h:Heap}:∀(ns:List Int) (vs:List Value),WellAll P h vs (ns.map WData.int)→IntsAre vs ns:=by
  intro ns
  induction ns with
  | nil=>
    intro vs w
    rw [List.map_nil] at w
    cases w
    exact .nil
  | cons n ns ih=>
    intro vs w
    rw [List.map_cons] at w
    cases w with
    | cons a b=>
      cases a
      exact .cons _ _ (ih _ b)
theorem tS{l:OpenLaw}{n:Nat}(hn:l.most=some n){P:Params}{h:Heap}{args:List WData}{vals:List Value}
    (hpre:l.row.toRowW.claim.pre args=true)(hwl:WellAll P h vals args):
    ∃a vs ns,vals=[Value.ref a]∧args=[WData.list (ns.map WData.int)]∧h.get? a=some {cls:=.type "list",data:=.seq vs.toArray}∧IntsAre vs ns∧ns.length≤n:=by
  have hsh:WShape.hasAll [] args [.list .int]=true:=(pre_splitW hpre).1
  have hc:l.pre.holds [] {args:=args}=true:=(pre_splitW hpre).2
  obtain⟨d,r,rfl,h1,h2⟩:=hasAllW_cons hsh
  obtain rfl:=hasAllW_nil h2
  obtain⟨xs,rfl,h3⟩:=hasW_list h1
  obtain⟨ns,rfl⟩:=items_int h3
  have hlen:ns.length≤n:=by
    unfold OpenLaw.pre at hc
    have h4:(WTm.not (.lt (.lit (.int (n:Int))) (.len (.arg 0)))).holds [] {args:=[.list (ns.map .int)]}=true:=by
      have h4:=(holds_andW hc).1
      rw [hn] at h4
      exact h4
    have h5:=condW_of h4 (w_not (w_lt w_lit (w_len_list (w_arg rfl))))
    rw [List.length_map] at h5
    refine Nat.le_of_not_lt fun q=>?_
    have q':(n:Int) < ((ns.length:Nat):Int):=by lia
    first
      | (rw [decide_eq_true q'] at h5;exact absurd h5 (by decide))
      | (simp at h5;lia)
  cases hwl with
  | cons w1 w2=>
    cases w2
    cases w1 with
    | list ho hall=>exact⟨_,_,ns,rfl,rfl,ho,k7 ns _ hall,hlen⟩
theorem tP(l:OpenLaw)(args:List WData):l.row.toRowW.claim.post args (.bool true) args=true:=
  postW_of (r:=l.row.toRowW) (X:=(true==true))
    (show WShape.has [] (.bool true) .bool=true by first | rfl | decide | simp [WShape.has,WShape.arms,WShape.armsAll])
    (show(WTm.eq .res (.lit (.bool true))).value [] {args:=args,res:=some (.bool true),after:=args}=some (.bool (true==true)) from w_eq_bool (w_res rfl) w_lit) rfl
theorem attach_call{l:OpenLaw}{n:Nat}{q:Program}{loose:List Str}{XP:(Str→Option Value)→Heap→Prop}{YP:World→Heap→Prop}{d:DefRec}
    (hn:l.most=some n)(hdf:d.params.defaults=[])
    (call:∀(w:World) (s₀ s₁:Shared) (mg mb:Str→Option Value) (fa:Addr) (o:Obj) (pm cd doc:Value) (a:Addr) (vs:List Value) (ns:List Int),
      Ground q loose [] XP w s₀ mg mb s₁.heap→YP w s₁.heap→
      s₁.heap.get? fa=some o→o.data=.func (docDef d.name d.params d.body d.scope pm cd doc)→s₁.heap.CodeRec cd d.name→mg d.name=some (.ref fa)→
      s₁.heap.get? a=some {cls:=.type "list",data:=.seq vs.toArray}→IntsAre vs ns→ns.length≤n→s₁.gens=#[]→
      codeAny (model l.prog w) callerA (.call (.ref fa) ⟨[.ref a],[]⟩) (fun r s'=>r=.ok (.ret (.bool true))∧OldK s₁.heap s'.heap∧s'.os=s₁.os∧AllBare s'.gens) s₁):
    WalkO q loose XP YP l.row.toRowW d [] (fun f vs=>PySem.call f vs):=by
  intro w s₀ s₁ mg mb G Y fa o pm cd doc dV kV ho hd hcd hD hmg hg args vals as hpre hlay hrd hwl hlo
  obtain rfl:dV=.none:=Dflts.none hD hdf
  obtain rfl:kV=.none:=Dflts.noKw hD
  obtain⟨a,vs,ns,rfl,rfl,hobj,hints,hlen⟩:=tS hn hpre hwl
  refine enter_call (codeAny_mono (call w s₀ s₁ mg mb fa o pm cd doc a vs ns G Y ho (fd_plain hd) hcd hmg hobj hints hlen hg) fun r s' hq=>?_)
  obtain⟨rfl,h2,h3,h4⟩:=hq
  exact⟨.inl ⟨.bool true,.bool true,[],rfl,fun _=>rfl,.bool true,tP l _,fun _=>⟨List.Pairwise.nil,fun _ hm=>(nomatch hm)⟩⟩,h2,h3,h4⟩
section
variable{prog:Program}{w:World}{A:Around}{E:Value→Shared→Prop}{s:Shared}{K:Frag}
end
end Att
namespace L2
open PySem PySem.Spec PyProof.Rows
theorem kz:∀{vs:List Value} {ns:List Int},IntsAre vs ns→aU (ns.map V.int) vs
  | _,_,.nil=>.nil
  | _,_,.cons n t h=>.cons ⟨t,rfl⟩ (kz h)
def ze(H:Hp):Prop:=∀b,H b=none∨∃o xs,H b=some (.frz o (.lst xs))
theorem uW{P:Program}{w:World}{K:PySem.W.Frag}{mg mb:Str→Option Value}{CX:qu}{k:Nat}{fa a:Addr}{fd:FuncData}{x:Str}{sp:Sp}{s₁:Shared}{vs:List Value}{ns:List Int}
    (KX:K.In s₁.heap)(hns:s₁.heap.Ns mainGlobals mg)(hb:s₁.heap.Ns builtinsNs mb)(hbb:∀x:Str,x≠"__name__"→mb x=bootBuiltins x)(hlim:s₁.heap.NoLimit)(hg:s₁.gens=#[])
    (ha:s₁.heap.get? a=some {cls:=.type "list",data:=.seq vs.toArray})(hi:IntsAre vs ns)(hl:ns.length≤sizeLine)(hr:cO k callerA)
    (F:∀base:Heap,K.In base→base.Ns mainGlobals mg→aF P w K mg base CX k fa fd [x] sp)(hbind:∀(s:Shared) (u:Value),BindsTo s fd ⟨[u],[]⟩ [(x,u)])
    (hsp:∀H:Hp,ze H→gL K H a (ns.map V.int)→sp [.ref a] H (fun v _=>v=.bl true) fun _ _ _=>False)
    (hCX:∀H e s',CX [] H s₁ (fun _ _ _=>False) e s'→False):
    codeAny (model P w) callerA (.call (.ref fa) ⟨[.ref a],[]⟩) (fun r s'=>r=.ok (.ret (.bool true))∧OldK s₁.heap s'.heap∧s'.os=s₁.os∧AllBare s'.gens) s₁:=by
  have rv:=kz hi
  have lenV:=hi.length
  have core:∀H:Hp,ze H→gL K H a (ns.map V.int)→kX P w H s₁.heap→(∀b,H b≠none→b=a)→(H a≠none→K.lookup a=none)→
      codeAny (model P w) callerA (.call (.ref fa) ⟨[.ref a],[]⟩) (fun r s'=>r=.ok (.ret (.bool true))∧OldK s₁.heap s'.heap∧s'.os=s₁.os∧AllBare s'.gens) s₁:=by
    intro H hO hS hok hA hK
    have base_of:∀{b:Addr} {o:Obj},s₁.heap.get? b=some o→H b=none→(oT s₁.heap H).get? b=some o:=fun e n=>uP e n
    have noA:∀{b:Addr} {o:Obj} {es:Array DictEntry} {ep:Nat},s₁.heap.get? b=some o→o.data=.dict es ep→H b=none:=fun{b o es ep} e d=>by
      cases q:H b with
      | none=>rfl
      | some u=>
        have e':b=a:=hA b (by rw [q];simp)
        subst e'
        rw [ha] at e;cases e
        have d':Data.seq vs.toArray _=Data.dict es ep:=d
        cases d'
    have nsK:∀{b:Addr} {m:Str→Option Value},s₁.heap.Ns b m→(oT s₁.heap H).Ns b m:=fun{b m} ⟨o,es,ep,e,d,r⟩=>⟨o,es,ep,base_of e (noA e d),d,r⟩
    have hKb:K.In (oT s₁.heap H):=fun b o e=>base_of (KX b o e) (by
      cases q:H b with
      | none=>rfl
      | some u=>
        have e':b=a:=hA b (by rw [q];simp)
        subst e'
        rw [hK (by rw [q];simp)] at e;cases e)
    have hM:Mod K mg (oT s₁.heap H):=⟨hKb,nsK hns,⟨mb,nsK hb,hbb⟩,let ⟨mc,h1,h2⟩:=hlim;⟨mc,nsK h1,h2⟩⟩
    have e0:wC P w K mg (oT s₁.heap H) callerA [] s₁ H:=⟨rfl,hM,fun b o e=>xn e,Nat.le_of_eq (sX _ _),trivial,fun b hb=>absurd (show b∈([]:List Addr) from hb) (by simp),hok,.of_eq hg⟩
    refine codeAny_mono ((F _ hKb (nsK hns)).run callerA [] s₁ H ⟨[.ref a],[]⟩ [.ref a] [.ref a] _ _ hr e0 (hbind s₁ (.ref a)) (.cons rfl .nil) (hsp H hO hS)) fun r s' h=>?_
    cases r with
    | error e=>exact(hCX H e s' h).elim
    | ok fl=>
      cases fl with
      | next=>exact False.elim h
      | brk=>exact False.elim h
      | cont=>exact False.elim h
      | ret u=>
        obtain⟨v,H',os,bare,un,hok',r',q⟩:=h
        have q':v=.bl true:=q
        subst q'
        obtain rfl:u=Value.bool true:=r'
        refine⟨rfl,OldK.of_keep fun b o e=>?_,os,bare⟩
        cases q:H b with
        | none=>exact un.keep b o e q (by intro z;exact absurd (show b∈([]:List Addr) from z) (by simp)) (by simp)
        | some u=>
          rcases hO b with z | ⟨ob,xs,z⟩
          · rw [q] at z;cases z
          · have z2:=un.frzs b ob _ z
            obtain⟨e1,_⟩:=hok b _ z
            obtain⟨e2,_⟩:=hok' b _ z2
            rw [e] at e1;cases e1
            exact e2
  cases hk:K.lookup a with
  | some o=>
    have e:=KX a o hk
    rw [ha] at e
    cases e
    refine core (fun _=>none) (fun _=>.inl rfl) (.inr ⟨_,vs.toArray,_,hk,rfl,rfl,rfl,by rw [List.size_toArray,lenV];exact hl,by simpa using rv⟩) (fun b u z=>by have z':(none:Option HO)=some u:=z;cases z') (fun b z=>absurd rfl z) fun z=>absurd rfl z
  | none=>
    refine core (fun b=>if b=a then some (.frz {cls:=.type "list",data:=.seq vs.toArray} (.lst (ns.map V.int))) else none) (fun b=>?_) (.inl (.inr ⟨{cls:=.type "list",data:=.seq vs.toArray},if_pos rfl⟩)) (fun b u z=>?_) (fun b z=>?_) fun _=>hk
    · by_cases hb:b=a
      · exact .inr ⟨_,_,if_pos hb⟩
      · exact .inl (if_neg hb)
    · by_cases hb:b=a
      · have z':=(if_pos hb).symm.trans z
        cases z'
        subst hb
        exact⟨ha,by rw [List.length_map];exact hl,vs,_,rv,ha⟩
      · have z':=(if_neg hb).symm.trans z
        cases z'
    · by_cases hb:b=a
      · exact hb
      · exact absurd (if_neg hb) z
end L2
namespace L2
open PySem PySem.Spec PyProof.Rows
theorem walk_of{l:PySem.W.OpenLaw}{n k:Nat}{q:Program}{loose:List Str}{XP:(Str→Option Value)→Heap→Prop}{YP:World→Heap→Prop}{d:DefRec}{K:Params→PySem.W.Frag}{CX:World→qu}{sp:World→Sp}{x:Str}
    (hn:l.most=some n)(hn2:n≤sizeLine)(hdf:d.params.defaults=[])(hr:cO k callerA)
    (hY:∀(w:World) (h:Heap),YP w h→(K w.params).In h)
    (F:∀(w:World) (mg:Str→Option Value) (fa:Addr) (h:Heap),(K w.params).In h→h.Ns mainGlobals mg→mg d.name=some (.ref fa)→
      ∃fd:FuncData,(∀(s:Shared) (u:Value),BindsTo s fd ⟨[u],[]⟩ [(x,u)])∧
        ∀base:Heap,(K w.params).In base→base.Ns mainGlobals mg→aF l.prog w (K w.params) mg base (CX w) k fa fd [x] (sp w))
    (hsp:∀(w:World) (H:Hp) (a:Addr) (ns:List Int),ns.length≤n→ze H→gL (K w.params) H a (ns.map V.int)→sp w [.ref a] H (fun v _=>v=.bl true) fun _ _ _=>False)
    (hCX:∀(w:World) (H:Hp) (s:Shared) (e:Value) (s':Shared),CX w [] H s (fun _ _ _=>False) e s'→False):
    PySem.W.WalkO q loose XP YP l.row.toRowW d [] (fun f vs=>PySem.call f vs):=by
  refine Att.attach_call hn hdf fun w s₀ s₁ mg mb fa o pm cd doc a vs ns G Y ho hd hcd hmg hobj hints hlen hg=>?_
  have KX:=hY w _ Y
  obtain⟨fd,hb,hF⟩:=F w mg fa _ KX G.T.g hmg
  exact uW KX G.T.g G.T.b G.T.builtins G.T.nolimit hg hobj hints (Nat.le_trans hlen hn2) hr hF hb (fun H hO hS=>hsp w H a ns hlen hO hS) fun H e s'=>hCX w H s₁ e s'
end L2
namespace L2
open PySem PySem.Spec PyProof.Rows
def dk(s:Stmt):Arguments:=match s with
  | .FunctionDef _ a _ _ _ _ _ _ _ _=>a
  | _=>{posonlyargs:=[],args:=[],vararg:=none,kwonlyargs:=[],kw_defaults:=[],kwarg:=none,defaults:=[]}
def cq(s:Stmt):List Stmt:=match s with
  | .FunctionDef _ _ b _ _ _ _ _ _ _=>b
  | _=>[]
def aj(s:Stmt):Scope:=match s with
  | .FunctionDef _ _ _ _ _ _ sc _ _ _=>sc
  | _=>{kind:=.function,names:=[],isGenerator:=false,isCoroutine:=false}
abbrev bM:qu:=fun _ _ _ _ _ _=>False
abbrev E0:XK:=fun _ _ _=>False
theorem yU{X:Cx}:qz bM X E0:=fun _ _ _ _ _ _ _ h=>h.elim
structure yw (K:PySem.W.Frag) (x qual:Str) (st:Stmt) (f:Addr) (fd:FuncData):Prop where
  ex:∃(oc:Value) (od:Option Addr) (kV doc pm:Value) (an:Option Addr) (cdv ct:Value) (osl:Array (Option Value)),
    fd=PySem.W.fnOf x qual (dk st) (cq st) (aj st) .none kV doc pm an cdv ct∧K.lookup f=some ⟨oc,od,.func fd,osl⟩∧PySem.W.codeIn K cdv qual=true
  kp:PySem.W.keepIn K (.ref f)=true
section
variable{P:Program}{w:World}{K:PySem.W.Frag}{mg:Str→Option Value}{base:Heap}
theorem yw.ok{x qual:Str}{st:Stmt}{f:Addr}{fd:FuncData}{N ps:List Str}{k:Nat}{sp:Sp}(F:yw K x qual st f fd)(S:az N ps (aj st))(len:∀vs H Q E,sp vs H Q E→vs.length=ps.length)
    (hbody:∀(cdv:Value) (A:Around) (outer:List Env) (s:Shared) (H:Hp) (vs:List V) (Q:VK) (E:XK),cO k (A.deeper (envOfC qual (aj st) s.heap.objs.size f cdv))→sp vs H Q E→
      ∃t,jy (kY bM P w K mg base N qual (aj st) f cdv A outer s H E).nox (cq st) t∧t {nx:=fun _ H'=>Q .non H',rt:=Q} (fJ N vs) H):aF P w K mg base bM (k+1) f fd ps sp:=by
  obtain⟨oc,od,kV,doc,pm,an,cdv,ct,osl,rfl,lk,hcd⟩:=F.ex
  refine yF lk hcd S len fun A outer s H vs Q E hr hsp=>?_
  obtain⟨t,h,q⟩:=hbody cdv A outer s H vs Q E hr hsp
  exact⟨t,h.nox,q⟩
theorem yw.binds{x qual:Str}{st:Stmt}{f:Addr}{fd:FuncData}{ps:List Str}(F:yw K x qual st f fd)
    (h:∀(kV doc pm:Value) (an:Option Addr) (cdv ct:Value) (us:List Value),us.length=ps.length→bindArgs (PySem.W.fnOf x qual (dk st) (cq st) (aj st) .none kV doc pm an cdv ct) ⟨us,[]⟩=pure (ps.zip us)):lw K fd ps []:=by
  obtain⟨oc,od,kV,doc,pm,an,cdv,ct,osl,rfl,lk,hcd⟩:=F.ex
  exact .all (h kV doc pm an cdv ct)
theorem uD{x qual:Str}{st:Stmt}{f:Addr}{oc:Value}{od an:Option Addr}{osl:Array (Option Value)}{kV doc pm cdv ct:Value}(l:K.lookup f=some ⟨oc,od,.func (PySem.W.fnOf x qual (dk st) (cq st) (aj st) .none kV doc pm an cdv ct),osl⟩)
    (c:PySem.W.codeIn K cdv qual=true)(k:PySem.W.keepIn K (.ref f)=true):yw K x qual st f (PySem.W.fnOf x qual (dk st) (cq st) (aj st) .none kV doc pm an cdv ct):=⟨⟨oc,od,kV,doc,pm,an,cdv,ct,osl,rfl,l,c⟩,k⟩
end
theorem ol{n:Nat}(h:n≤1000):n < sizeLine:=Nat.lt_of_le_of_lt h (by decide)
section
variable{X:Cx}
theorem pv(i:Nat){x:Str}{pos:Pos}(hN:X.N[i]?=some x:=by rfl)(hv:Bb X.env.scope x:=by first | exact Or.inl rfl | exact Or.inr (Or.inl rfl) | exact Or.inr (Or.inr rfl))(hd:(x==("__debug__":Str))=false:=by decide)
    (hcd:(x==("__classdict__":Str))=false:=by decide):PE X (.Name x pos) (tX i):=qZ hN hv hd hcd
end
theorem BA{A B:Prop}(h:B):if false=true then A else B:=by
  rw [if_neg Bool.false_ne_true]
  exact h
theorem zC{A B:Prop}(h:A):if true=true then A else B:=by
  rw [if_pos rfl]
  exact h
def aA(H H':Hp):Prop:=∀b o,H b=some o→H' b=some o
theorem aA.refl(H:Hp):aA H H:=fun _ _ h=>h
theorem aA.trans{H H1 H2:Hp}(a:aA H H1)(b:aA H1 H2):aA H H2:=fun c o h=>b c o (a c o h)
theorem aA.free{H H':Hp}(e:aA H H'){l:Addr}(h:H' l=Option.none):H l=Option.none:=by
  cases q:H l with
  | none=>rfl
  | some o=>
    rw [e l o q] at h
    cases h
theorem aA.seq{K:PySem.W.Frag}{H H':Hp}{a:Addr}{xs:List V}(e:aA H H')(h:gL K H a xs):gL K H' a xs:=by
  rcases h with (h | ⟨o,h⟩) | h
  · exact .inl (.inl (e _ _ h))
  · exact .inl (.inr ⟨o,e _ _ h⟩)
  · exact .inr h
end L2
set_option maxHeartbeats 4000000
namespace L2
open PySem PySem.Spec PyProof.Rows
def Bt(n:Nat)(i:Int):Prop:=i.natAbs < 2 ^ n
theorem Bt.mono{m n:Nat}{i:Int}(h:Bt m i)(hm:m≤n):Bt n i:=Nat.lt_of_lt_of_le h (Nat.pow_le_pow_right (by decide) hm)
theorem Bt.log{m:Nat}{i:Int}(h:Bt m i)(hm:0 < m):i.natAbs.log2 < m:=by
  unfold Bt at h
  rcases Nat.eq_zero_or_pos i.natAbs with h0 | hp
  · rw [h0];exact hm
  · exact(Nat.log2_lt (by lia)).mpr h
theorem Bt.bits{m:Nat}{i:Int}(h:Bt m i)(hm:0 < m):Builtin.Int.intBits i≤m:=by
  unfold Builtin.Int.intBits
  split
  · exact Nat.zero_le _
  · exact h.log hm
theorem Bt.of_le{m:Nat}{i:Int}{j:Int}(h:Bt m j)(e:i.natAbs≤j.natAbs):Bt m i:=Nat.lt_of_le_of_lt e h
section
variable{X:Cx}
def yu(i j:Int):Prop:=Bt 4000 i∧Bt 4000 j
theorem xG:eR X (binaryOp .Mult) (rI yu fun i j=>.int (i*j)):=Bg fun _ _ _ _ _ _ _ hc q=>
  mul_int q (.of_bits (Nat.le_trans (hc.1.bits (by decide)) (by decide)) (Nat.le_trans (hc.2.bits (by decide)) (by decide)))
def yt(i j:Int):Prop:=j≠0∧Bt 8000 j
theorem vo:eR X (binaryOp .FloorDiv) (rI yt fun i j=>.int (i.fdiv j)):=Bg fun _ _ _ _ _ _ _ hc q=>
  floordiv_int hc.1 q (.inl (PyProof.noPylong_of_log2 (Nat.lt_trans (hc.2.log (by decide)) (by decide))))
end
def kD(H H':Hp):Prop:=∀a o,H a=some o→(∀xs,o≠.lst xs)→(∀ob xs,o≠.frz ob (.lst xs))→H' a=some o
theorem kD.trans{H H1 H2:Hp}(a:kD H H1)(b:kD H1 H2):kD H H2:=fun c o h n m=>b c o (a c o h n m) n m
theorem aA.ts{H H':Hp}(h:aA H H'):kD H H':=fun a o e _ _=>h a o e
theorem kD.tup{K:PySem.W.Frag}{H H':Hp}(h:kD H H'){a:Addr}{xs:List V}(q:dY K H a xs):dY K H' a xs:=by
  rcases q with (q | ⟨o,q⟩) | q
  · exact .inl (.inl (h _ _ q (fun _ e=>nomatch e) (fun _ _ e=>nomatch e)))
  · exact .inl (.inr ⟨o,h _ _ q (fun _ e=>nomatch e) (fun _ _ e=>nomatch e)⟩)
  · exact .inr q
section
variable{X:Cx}
end
end L2
namespace L2
open PySem PySem.Spec PyProof.Rows
structure a_ (K:PySem.W.Frag) (mg:Str→Option Value) (x:Str) (st:Stmt) (f:Addr) (fd:FuncData) (ps:List Str):Prop where
  F:yw K x x st f fd
  m:mg x=some (.ref f)
  b:lw K fd ps []
theorem zB{K:PySem.W.Frag}{mg:Str→Option Value}{h:Heap}{x:Str}{st:Stmt}{f:Addr}{ps:List Str}{oc:Value}{od an:Option Addr}{osl:Array (Option Value)}{kV doc pm cdv ct:Value}(X:K.In h)(G:h.Ns mainGlobals mg)(a:PySem.W.nsIn K mainGlobals x=some (some (.ref f)))
    (l:K.lookup f=some ⟨oc,od,.func (PySem.W.fnOf x x (dk st) (cq st) (aj st) .none kV doc pm an cdv ct),osl⟩)(c:PySem.W.codeIn K cdv x=true)(k:PySem.W.keepIn K (.ref f)=true)
    (hb:∀(kV doc pm:Value) (an:Option Addr) (cdv ct:Value) (us:List Value),us.length=ps.length→bindArgs (PySem.W.fnOf x x (dk st) (cq st) (aj st) .none kV doc pm an cdv ct) ⟨us,[]⟩=pure (ps.zip us)):
    a_ K mg x st f (PySem.W.fnOf x x (dk st) (cq st) (aj st) .none kV doc pm an cdv ct) ps:=⟨uD l c k,PySem.W.mg_of X G a,(uD l c k).binds hb⟩
theorem Dn{X:Cx}{x:Str}{st:Stmt}{f:Addr}{fd:FuncData}{ps:List Str}{k:Nat}{sp:Sp}{e:Expr}{es:List Expr}{t:TA}{p pos:Pos}(h:a_ X.K X.mg x st f fd ps)(G:aF X.prog X.w X.K X.mg X.base bM k f fd ps sp)(hr:cO k X.A)(ha:PA X (e::es) t)
    (hg:Gl X x:=by rfl)(hdb:(x==("__debug__":Str))=false:=by decide)(he:starEach (e::es) X.env=(false,eval e X.env)::starEach es X.env:=by rfl)(hpl:(backTo pos (starEach es X.env)).any (·.1)=false:=by rfl):
    PE X (.Call (.Name x p) (e::es) [] pos) (su sp [] E0 t):=rT G hr hg h.m h.F.kp h.b .nil yU ha hdb he hpl
theorem aA.new{H:Hp}{p:Addr}{o:HO}(h:H p=none):aA H (cu H p o):=fun b u e=>by
  rw [aN (dN e h)];exact e
theorem aA.tup{K:PySem.W.Frag}{H H':Hp}{a:Addr}{xs:List V}(e:aA H H')(h:dY K H a xs):dY K H' a xs:=e.ts.tup h
end L2
namespace L2
open PySem PySem.Spec PyProof.Rows
def cF(t b:Int):Int × Int:=if b < 0 then(t.fdiv (-(Int.gcd t b:Int)),b.fdiv (-(Int.gcd t b:Int))) else(t.fdiv (Int.gcd t b:Int),b.fdiv (Int.gcd t b:Int))
theorem pS(x y:Int):Int.gcd y (x.fmod y)=Int.gcd x y:=by
  rw [Int.fmod_def,Int.gcd_sub_mul_left_right,Int.gcd_comm]
theorem fV(x:Int){y:Int}(h:y≠0):(x.fmod y).natAbs < y.natAbs:=by
  rcases Int.lt_or_gt_of_ne h with h | h
  · have h1:x.fmod y= -((-x).fmod (-y)):=by
      have:=Int.neg_fmod_neg x y
      lia
    have h2:=Int.fmod_nonneg_of_pos (-x) (b:= -y) (by lia)
    have h3:=Int.fmod_lt_of_pos (-x) (b:= -y) (by lia)
    lia
  · have h2:=Int.fmod_nonneg_of_pos x h
    have h3:=Int.fmod_lt_of_pos x h
    lia
theorem oS{t b:Int}(h:b≠0):(0:Int) < Int.gcd t b:=by
  have:=Int.gcd_pos_of_ne_zero_right t h
  lia
theorem nU{t b:Int}(h:b≠0):∃d:Int,d.natAbs=Int.gcd t b∧d≠0∧(cF t b).1*d=t∧(cF t b).2*d=b∧0 < (cF t b).2:=by
  have hg:=oS (t:=t) h
  have d1:(Int.gcd t b:Int) ∣ t:=Int.gcd_dvd_left ..
  have d2:(Int.gcd t b:Int) ∣ b:=Int.gcd_dvd_right ..
  unfold cF
  split
  · rename_i hb
    have e1:t.fdiv (-(Int.gcd t b:Int))*(-(Int.gcd t b:Int))=t:=Int.fdiv_mul_cancel (Int.neg_dvd.mpr d1)
    have e2:b.fdiv (-(Int.gcd t b:Int))*(-(Int.gcd t b:Int))=b:=Int.fdiv_mul_cancel (Int.neg_dvd.mpr d2)
    refine⟨-(Int.gcd t b:Int),by lia,by lia,e1,e2,?_⟩
    show 0 < b.fdiv (-(Int.gcd t b:Int))
    have h3:b.fdiv (-(Int.gcd t b:Int))*(Int.gcd t b:Int)= -b:=by rw [Int.mul_neg] at e2;lia
    exact Int.pos_of_mul_pos_left (by lia) (by lia) (b:=(Int.gcd t b:Int))
  · rename_i hb
    have e1:t.fdiv (Int.gcd t b:Int)*(Int.gcd t b:Int)=t:=Int.fdiv_mul_cancel d1
    have e2:b.fdiv (Int.gcd t b:Int)*(Int.gcd t b:Int)=b:=Int.fdiv_mul_cancel d2
    refine⟨(Int.gcd t b:Int),by lia,by lia,e1,e2,?_⟩
    show 0 < b.fdiv (Int.gcd t b:Int)
    exact Int.pos_of_mul_pos_left (by lia) (by lia) (b:=(Int.gcd t b:Int))
theorem pV{t b:Int}(h:b≠0):Int.gcd (cF t b).1 (cF t b).2=1:=by
  obtain⟨d,h1,h2,h3,h4,h5⟩:=nU (t:=t) h
  have e:Int.gcd ((cF t b).1*d) ((cF t b).2*d)=Int.gcd (cF t b).1 (cF t b).2*d.natAbs:=Int.gcd_mul_right ..
  rw [h3,h4,←h1] at e
  have hd:0 < d.natAbs:=by lia
  exact(Nat.eq_of_mul_eq_mul_right hd (by rw [Nat.one_mul];exact e)).symm
theorem uL{t b:Int}(h:b≠0){n:Nat}(hb:Bt n b):Bt n (Int.gcd t b:Int):=by
  refine hb.of_le ?_
  have h1:=Nat.le_of_dvd (show 0 < b.natAbs by lia) (Int.ofNat_dvd.mp (by rw [Int.dvd_natAbs];exact Int.gcd_dvd_right t b))
  lia
mutual
def cnt:PyData→Nat
  | .tuple ds=>1+jj ds
  | .str _=>0
  | _=>1
def jj:List PyData→Nat
  | []=>0
  | d::ds=>cnt d+jj ds
end
mutual
def mh:PyData→Bool
  | .tuple ds=>gD ds
  | .str _=>false
  | .list _=>false
  | .dict _=>false
  | _=>true
def gD:List PyData→Bool
  | []=>true
  | d::ds=>mh d&&gD ds
end
theorem ng{a:Int}(h:a.natAbs.log2 < 1920):(Str.ofString (toString a)).length≤1921:=by
  have e:=int_text_length_le (k:=1920) (by decide) h
  rw [PySem.ofString_length];lia
theorem jr(x:Str)(r:List Str):piled (x::r)=x.length+2+piled r:=by
  simp [piled]
theorem ov(ts:List Str):(tupleText ts).length≤piled ts+3:=by
  unfold tupleText
  rw [strLen_append,strLen_append]
  have h1:(("(":Str)).length=1:=by decide
  have h2:(Str.ofString (if (ts.length==1)=true then ",)" else ")")).length≤2:=by split<;>decide
  have h3:(Str.join ", " ts).length≤piled ts:=by
    cases ts with
    | nil=>show(Str.join ", " []).length≤0;decide
    | cons x r=>have:=join_length_add (x::r) (by simp);lia
  lia
mutual
theorem oj:∀{d:PyData},mh d=true→d.showable=true→d.shown.length+2≤2000*cnt d
  | .none,_,_=>by show(Str.ofString "None").length+2≤2000*1;decide
  | .bool b,_,_=>by
    cases b
    · show(Str.ofString "False").length+2≤2000*1;decide
    · show(Str.ofString "True").length+2≤2000*1;decide
  | .int i,_,hs=>by
    simp only [PyData.showable,decide_eq_true_eq] at hs
    have:=ng hs
    show(Str.ofString (toString i)).length+2≤2000*1
    lia
  | .tuple ds,hn,hs=>by
    simp only [PyData.showable] at hs
    simp only [mh] at hn
    have h1:=j7 hn hs
    have h2:=ov (PyData.shownAll ds)
    simp only [PyData.shown,cnt]
    lia
  | .str _,hn,_=>by simp [mh] at hn
  | .list _,hn,_=>by simp [mh] at hn
  | .dict _,hn,_=>by simp [mh] at hn
theorem j7:∀{ds:List PyData},gD ds=true→PyData.showableAll ds=true→piled (PyData.shownAll ds)≤2000*jj ds
  | [],_,_=>by simp [PyData.shownAll,piled]
  | d::ds,hn,hs=>by
    simp only [gD,Bool.and_eq_true] at hn
    simp only [PyData.showableAll,Bool.and_eq_true] at hs
    have h1:=oj hn.1 hs.1
    have h2:=j7 hn.2 hs.2
    simp only [PyData.shownAll,jj,jr]
    lia
end
end L2
namespace L2
open PySem PySem.Spec PyProof.Rows
def ke(env:Env):List (Str × NameKind)→List (Str × Addr)→List (Str × Addr)
  | [],cs=>cs
  | (n,k)::r,cs=>ke env r (if k==.free then(n,(env.cells.lookup n).getD 0)::cs else cs)
theorem jD{env:Env}:∀(names:List (Str × NameKind)) (cs:List (Str × Addr)),(∀y∈names,y.2=.free→∃c,env.cells.lookup y.1=some c)→
    (forIn names cs (fun(x:Str × NameKind) (r:List (Str × Addr))=>(if (x.2==NameKind.free)=true then do let a ←cellOf env x.1;pure (ForInStep.yield ((x.1,a)::r)) else pure (ForInStep.yield r):Sem (ForInStep (List (Str × Addr))))):Sem (List (Str × Addr)))=pure (ke env names cs)
  | [],cs,_=>rfl
  | (n,k)::r,cs,h=>by
    rw [List.forIn_cons]
    have ih:=fun cs'=>jD (env:=env) r cs' (fun y hy=>h y (List.mem_cons_of_mem _ hy))
    by_cases hk:(k==NameKind.free)=true
    · have hk':k=.free:=by simpa using hk
      obtain⟨c,hc⟩:=h (n,k) List.mem_cons_self hk'
      have e:cellOf env n=pure c:=by unfold cellOf;rw [hc]
      simp only [hk,if_true,e,pure_bind,ke,hc,Option.getD_some]
      exact ih _
    · have hk':(k==NameKind.free)=false:=by simpa using hk
      simp only [hk',Bool.false_eq_true,if_false,pure_bind,ke]
      exact ih _
theorem qG{scope:Scope}{env:Env}(h:∀y∈scope.names,y.2=.free→∃c,env.cells.lookup y.1=some c):closureFor scope env=pure (ke env scope.names []):=by
  have e:=jD (env:=env) scope.names [] h
  unfold closureFor
  simp only [pure_bind,bind_pure] at e ⊢
  exact e
theorem lG{env:Env}:∀(names:List (Str × NameKind)) (cs:List (Str × Addr)) (x:Str) (c:Addr),(∀y∈names,y.2=.free→∃c,env.cells.lookup y.1=some c)→(∀x c,cs.lookup x=some c→env.cells.lookup x=some c)→(ke env names cs).lookup x=some c→env.cells.lookup x=some c
  | [],cs,x,c,_,hs,h=>hs x c h
  | (n,k)::r,cs,x,c,hn,hs,h=>by
    refine lG r _ x c (fun y hy=>hn y (List.mem_cons_of_mem _ hy)) (fun x' c' e=>?_) h
    by_cases hk:(k==NameKind.free)=true
    · rw [if_pos hk] at e
      obtain⟨c0,hc⟩:=hn (n,k) List.mem_cons_self (by simpa using hk)
      rw [List.lookup_cons] at e
      cases hx:x'==n with
      | true=>
        rw [hx] at e
        have e1:x'=n:=by simpa using hx
        subst e1
        simp only [hc,Option.getD_some,Option.some.injEq] at e
        rw [←e];exact hc
      | false=>rw [hx] at e;exact hs x' c' e
    · rw [if_neg hk] at e
      exact hs x' c' e
theorem pO{env:Env}:∀(names:List (Str × NameKind)) (cs:List (Str × Addr)) (x:Str),((∃y∈names,y.1=x∧y.2=.free)∨∃c,cs.lookup x=some c)→∃c,(ke env names cs).lookup x=some c
  | [],cs,x,h=>by
    rcases h with ⟨y,hy,_⟩ | h
    · cases hy
    · exact h
  | (n,k)::r,cs,x,h=>by
    refine pO r _ x ?_
    by_cases hk:(k==NameKind.free)=true
    · rw [if_pos hk,List.lookup_cons]
      cases hx:x==n with
      | true=>exact .inr ⟨_,rfl⟩
      | false=>
        rcases h with ⟨y,hy,e1,e2⟩ | h
        · rcases List.mem_cons.mp hy with z | z
          · subst z;subst e1;simp at hx
          · exact .inl ⟨y,z,e1,e2⟩
        · exact .inr h
    · rw [if_neg hk]
      rcases h with ⟨y,hy,e1,e2⟩ | h
      · rcases List.mem_cons.mp hy with z | z
        · subst z;exact absurd (by simpa using e2) hk
        · exact .inl ⟨y,z,e1,e2⟩
      · exact .inr h
theorem hJ{env:Env}:∀{names:List (Str × NameKind)} {x:Str},(∀y∈names,y.2≠.cell)→(names.map fun(n,k)=>if (k==NameKind.free&&env.scope.kind==.function&&env.kindOf n==some .cell) then(n,NameKind.cell) else(n,k)).lookup x=some .cell∨
    (names.map fun(n,k)=>if (k==NameKind.free&&env.scope.kind==.function&&env.kindOf n==some .cell) then(n,NameKind.cell) else(n,k)).lookup x=some .free→∃y∈names,y.1=x∧y.2=.free
  | [],x,_,h=>by simp at h
  | (n,k)::r,x,hc,h=>by
    have ih:=@hJ env r x (fun y hy=>hc y (List.mem_cons_of_mem _ hy))
    have nc:k≠.cell:=hc (n,k) List.mem_cons_self
    rw [List.map_cons] at h
    cases hx:x==n with
    | true=>
      have e1:x=n:=by simpa using hx
      subst e1
      refine⟨(x,k),List.mem_cons_self,rfl,?_⟩
      by_cases q:(k==NameKind.free&&env.scope.kind==.function&&env.kindOf x==some .cell)=true
      · simp only [Bool.and_eq_true,beq_iff_eq] at q;exact q.1.1
      · simp only [q,Bool.false_eq_true,if_false,List.lookup_cons,beq_self_eq_true,Option.some.injEq] at h
        rcases h with h | h
        · exact absurd h nc
        · exact h
    | false=>
      have e2:∀(l:List (Str × NameKind)),((if (k==NameKind.free&&env.scope.kind==.function&&env.kindOf n==some .cell)=true then(n,NameKind.cell) else(n,k))::l).lookup x=l.lookup x:=fun l=>by
        split<;>simp [List.lookup_cons,hx]
      simp only [e2] at h
      obtain⟨y,hy,z⟩:=ih h
      exact⟨y,List.mem_cons_of_mem _ hy,z⟩
theorem io{env:Env}:∀{names:List (Str × NameKind)} {x:Str},names.lookup x=some .free→
    (names.map fun(n,k)=>if (k==NameKind.free&&env.scope.kind==.function&&env.kindOf n==some .cell) then(n,NameKind.cell) else(n,k)).lookup x≠some .local
  | [],x,h=>by simp at h
  | (n,k)::r,x,h=>by
    rw [List.map_cons]
    cases hx:x==n with
    | true=>
      simp only [hx,List.lookup_cons] at h
      cases h
      show List.lookup x ((if (NameKind.free==NameKind.free&&env.scope.kind==.function&&env.kindOf n==some .cell)=true then(n,NameKind.cell) else(n,NameKind.free))::_)≠_
      split<;>simp [List.lookup_cons,hx]
    | false=>
      simp only [hx,List.lookup_cons] at h
      have ih:=@io env r x h
      have e2:∀(l:List (Str × NameKind)),((if (k==NameKind.free&&env.scope.kind==.function&&env.kindOf n==some .cell)=true then(n,NameKind.cell) else(n,k))::l).lookup x=l.lookup x:=fun l=>by
        split<;>simp [List.lookup_cons,hx]
      simp only [e2]
      exact ih
def cC(X:Cx)(scope:Scope)(cp:List (Nat × Str))(tgN:List Str)(C:Addr)(s0:Shared)(H0:Hp)(fp:List Addr):Cx where
  prog:=X.prog
  w:=X.w
  K:=X.K
  mg:=X.mg
  base:=X.base
  A:=X.A
  N:=cp.map (·.2)++tgN
  s₀:=s0
  H₀:=H0
  env:=compEnvC scope (ke X.env scope.names []) C X.env
  outer:=X.stack
  stack:=X.stack
  ex:=fp
  fn:=fun x=>scope.names.lookup x==some .local
  calm:=X.calm
  pn:=[]
  xe:=fun _ _=>False
def wG(X:Cx)(ifs:List Expr)(t:TT):Prop:=
  ∀(pins:List (Addr × Obj)) (s:Shared) (σ:L2.St) (H:Hp) (Q:Bool→Hp→Prop),aJ X pins σ H s→t σ H Q→
    wpAny (model X.prog X.w) X.A (forIn ifs true fun c r=>if r=true then do let ok ←isTrue c X.env (eval c X.env);pure (ForInStep.yield ok) else pure (ForInStep.yield r)) (TP X pins σ Q) X.xe s
theorem xV{X:Cx}:wG X [] (fun _ H Q=>Q true H):=fun _ _ _ H _ I h=>wpAny_tests_nil ⟨H,I,h⟩
theorem xW{X:Cx}{c:Expr}{t:TT}(h:PT X c t):wG X [c] t:=fun pins s σ H Q I q=>wpAny_tests_one (h pins s σ H Q I q)
abbrev Bf:Value→Shared→Prop:=fun _ _=>False
def zt(prog:Program)(w:World)(A:Around)(elt tg:Expr)(ifs:List Expr)(env:Env)(it acc:Value)(onward:Shared→Prop)(v:Value)(u:Shared):Prop:=
  wpAny (model prog w) A (letOwnedTupleGo tg it v) (fun _ u1=>wpAny (model prog w) A (assign tg env v) (fun _ u2=>wpAny (model prog w) A
    (forIn ifs true fun c r=>if r=true then do let ok ←isTrue c env (eval c env);pure (ForInStep.yield ok) else pure (ForInStep.yield r)) (fun ok u3=>if ok=true then wpAny (model prog w) A (eval elt env) (fun x u4=>wpAny (model prog w) A (call (.builtin "list.append") [acc,x]) (fun _ u5=>onward u5) Bf u4) Bf u3 else onward u3) Bf u2) Bf u1) Bf u
theorem oM{prog:Program}{w:World}{A:Around}{R:Result→Shared→Prop}{elt tg iter:Expr}{ifs:List Expr}{scope:Scope}{pos:Pos}{it acc:Value}{env:Env}(J:Nat→Shared→Prop)
    (turn:∀n u,J n u→wpAny (model prog w) A (pyNext it) (fun r u1=>(r=none→R (.ok .next) u1)∧∀v,r=some v→zt prog w A elt tg ifs env it acc (fun u2=>∃m,m < n∧J m u2) v u1) Bf u){n0:Nat}{u0:Shared}(fJ:J n0 u0):
    codeAny (model prog w) A (.compLoop (.ListComp elt [⟨tg,iter,ifs,0⟩] scope pos) 0 it acc env) R u0:=by
  refine codeAny_loop rfl J (fun n u ju=>?_) n0 fJ
  show wpAny _ A ((compTurn (.ListComp elt [⟨tg,iter,ifs,0⟩] scope pos) 0 it acc env).onRaise _) _ _ u;refine wpAny_noted ?_;rw [compTurn_list]
  refine wpAny_bind (wpAny_standAt (wpAny_bind (wpAny_mono (turn n u ju) (fun r u1 k1=>?_) fun _ _ z=>z.elim)))
  cases r with
  | none=>exact wpAny_pure (k1.1 rfl)
  | some v=>
    refine wpAny_bind (wpAny_mono (k1.2 v rfl) (fun _ u2 k2=>wpAny_bind (wpAny_mono k2 (fun _ u3 k3=>wpAny_bind (wpAny_mono k3 (fun ok u4 k4=>?_) fun _ _ z=>z.elim)) fun _ _ z=>z.elim)) fun _ _ z=>z.elim)
    cases ok with
    | false=>rw [if_neg Bool.false_ne_true] at k4;exact wpAny_pure ⟨rfl,k4⟩
    | true=>
      rw [if_pos rfl] at k4
      refine wpAny_bind (wpAny_bind (wpAny_mono k4 (fun x u5 k5=>wpAny_bind (wpAny_mono k5 (fun _ u6 k6=>?_) fun _ _ z=>z.elim)) fun _ _ z=>z.elim));exact wpAny_pure (wpAny_pure ⟨rfl,k6⟩)
def iP(cp:List (Nat × Str))(nT:Nat)(σ:L2.St):L2.St:=cp.map (fun p=>(σ[p.1]?).join)++List.replicate nT none
structure y9 (cp:List (Nat × Str)) (nT:Nat) (wi:TI) (g:TG) (tc:TT) (te:TE) (σ:L2.St) (H:Hp) (Q:VK):Prop where
  go:wi σ H fun J H1=>∀l,H1 l=none→
  ∃W:Nat→Nat→L2.St→Hp→Prop,(∃m,W 0 m (iP cp nT σ) (cu H1 l (.lst [])))∧∀i m σ' H',W i m σ' H'→
    (J.stop i H'∧Q (.ref l) H')∨(J.go i H'∧∃N:L2.St→Hp→Prop,(∀σ2 H2,N σ2 H2→∃m',m' < m∧W (i+1) m' σ2 H2)∧
      ∀x H2,J.yld i H' x H2→g x σ' H2 fun σ2 H3=>tc σ2 H3 fun b H4=>if b=true then te σ2 H4 fun v H5=>∃ys,H5 l=some (.lst ys)∧ys.length < sizeLine∧N σ2 (cu H5 l (.lst (ys++[v]))) else N σ2 H4)
theorem xJ{X:Cx}{elt iter tg:Expr}{ifs:List Expr}{scope:Scope}{pos:Pos}{wi:TI}{g:TG}{tc:TT}{te:TE}(sc0:Scope)(N0:List Str)(cp:List (Nat × Str))(tgN:List Str)
    (hc:X.calm=true)(hsc:X.env.scope=sc0)(hN0:X.N=N0)(hi:PI X tg iter wi)
    (hg:∀C s0 H0 fp,PG (cC X scope cp tgN C s0 H0 fp) tg g)
    (ht:∀C s0 H0 fp,wG (cC X scope cp tgN C s0 H0 fp) ifs tc)
    (he:∀C s0 H0 fp,PE (cC X scope cp tgN C s0 H0 fp) elt te)
    (hk:scope.kind=.function)(hcell:∀y∈scope.names,y.2≠.cell)(hnames:∀y∈scope.names,y.2=.local→scope.names.lookup y.1=some .local)
    (hfr:∀y∈scope.names,y.2=.free→scope.names.lookup y.1=some .free∧sc0.names.lookup y.1=some .cell)
    (hcp:∀p∈cp,N0[p.1]?=some p.2)(hcq:∀p∈cp,sc0.names.lookup p.2=some .cell∧scope.names.lookup p.2=some .free)
    (hs:∀x,foldedSetIterable iter X.env x=pure x:=by intro _;rfl):
    PE X (.ListComp elt [⟨tg,iter,ifs,0⟩] scope pos) (y9 cp tgN.length wi g tc te):=by
  intro pins s σ H Q I h
  have hkind:∀x,X.env.kindOf x=sc0.names.lookup x:=fun x=>by unfold Env.kindOf;rw [hsc]
  have hfree:∀y∈scope.names,y.2=.free→∃c,X.env.cells.lookup y.1=some c:=fun y hy e=>I.ok.has y.1 (.inl (by rw [hkind];exact(hfr y hy e).2))
  rw [eval_ListComp]
  refine wpAny_comprehension_free (use:=none) rfl hs (qG hfree) hk hnames (wpAny_mono (hi pins s σ H _ I h.go) (fun xv s₁ h₁=>wpAny_mono h₁ (fun itv s₂ h₂=>?_) fun _ _ e=>e) fun _ _ e=>e)
  obtain⟨it,fp,tn,J,H2,rfl,I2,T,st2,f2,hq⟩:=h₂
  refine wpAny_newObj_type ?_
  have hlF:H2 s₂.heap.objs.size=none:=I2.hok.fresh (Nat.le_refl _)
  have I3:aJ X pins σ (cu H2 s₂.heap.objs.size (.lst [])) {s₂ with heap:=s₂.heap.push {cls:=.type "list",data:=.seq ([]:List Value).toArray}}:=I2.lnew (t':=s₂.toks) .nil (Nat.zero_le _)
  obtain⟨W,⟨m0,w0⟩,turn⟩:=hq _ hlF
  have f3:∀b∈fp,pE X pins (cu H2 s₂.heap.objs.size (.lst [])) b:=fun b hb=>by
    obtain⟨f0,fr⟩:=f2 b hb
    obtain⟨o,ho,_⟩:=T.obj _ _ st2 b hb
    exact⟨by rw [aN (Nat.ne_of_lt (Heap.lt_size ho))];exact f0,fr⟩
  have st3:tn 0 (s₂.heap.push {cls:=.type "list",data:=.seq ([]:List Value).toArray}):=T.keep _ _ _ st2 fun b _ o e=>Heap.get?_push_of_some _ e
  generalize hD:s₂.heap.objs.size=D at*
  generalize hs3:({s₂ with heap:=s₂.heap.push {cls:=.type "list",data:=.seq ([]:List Value).toArray}}:Shared)=s₃ at*
  have hst3:tn 0 s₃.heap:=by rw [←hs3];exact st3
  refine wpAny_newFunctionEnv hcell (by intro y hy;simp at hy) (fun h₁ hns₁ hsb₁=>?_) hk
  generalize hC:s₃.heap.objs.size=C at*
  have old:∀b o,s₃.heap.get? b=some o→h₁.get? b=some o:=fun b o e=>hsb₁.extBut b o (by rw [←hC];exact Nat.ne_of_lt (Heap.lt_size e)) (Heap.get?_push_of_some _ e)
  have nC:∀b o,s₃.heap.get? b=some o→b≠C:=fun b o e=>by rw [←hC];exact Nat.ne_of_lt (Heap.lt_size e)
  have hHC:(cu H2 D (.lst [])) C=none:=I3.hok.fresh (by rw [hC];exact Nat.le_refl _)
  have clS:∀x c,(ke X.env scope.names []).lookup x=some c→X.env.cells.lookup x=some c:=fun x c e=>lG _ _ x c hfree (fun _ _ z=>by simp at z) e
  have clH:∀x,(∃y∈scope.names,y.1=x∧y.2=.free)→∃c,(ke X.env scope.names []).lookup x=some c:=fun x e=>pO _ _ x (.inl e)
  have ok':(cC X scope cp tgN C s₃ (cu H2 D (.lst [])) fp).Ok:=by
    refine⟨I.ok.mod,hk,I.ok.glob,I.ok.blt,by rw [←hC];exact Nat.le_refl _,fun x y c e1 e2=>I.ok.inj x y c (clS _ _ e1) (clS _ _ e2),fun x e=>clH x (hJ hcell e),fun x c e1 e2=>?_,I.ok.hd,I.ok.frames,.inl rfl,fun b hb=>?_,fun b o e=>I3.bs b o e,?_,fun b o e hb=>?_,fun b hb z=>?_,I3.stack,fun b hb=>I3.stkFree b hb⟩
    · exfalso
      have e1':scope.names.lookup x=some .local:=by simpa [cC] using e1
      have e2':=clS x c e2
      obtain⟨c',hc'⟩:∃y∈scope.names,y.1=x∧y.2=.free:=by
        by_cases q:∃y∈scope.names,y.1=x∧y.2=.free
        · exact q
        · exfalso
          have:∀(names:List (Str × NameKind)) (cs:List (Str × Addr)),(¬∃y∈names,y.1=x∧y.2=.free)→cs.lookup x=none→(ke X.env names cs).lookup x=none:=by
            intro names
            induction names with
            | nil=>intro cs _ h;exact h
            | cons y r ih=>
              intro cs hn hcs
              obtain⟨n,k⟩:=y
              refine ih _ (fun⟨y,hy,z⟩=>hn ⟨y,List.mem_cons_of_mem _ hy,z⟩) ?_
              by_cases hk:(k==NameKind.free)=true
              · rw [if_pos hk,List.lookup_cons]
                cases hx:x==n with
                | true=>exact absurd ⟨(n,k),List.mem_cons_self,(by simpa using hx:x=n).symm,by simpa using hk⟩ hn
                | false=>exact hcs
              · rw [if_neg hk];exact hcs
          have z:=this scope.names [] q rfl
          have e2'':(ke X.env scope.names []).lookup x=some c:=e2
          rw [z] at e2'';cases e2''
      have z:=(hfr c' hc'.1 hc'.2.2).1
      rw [hc'.2.1,e1'] at z;cases z
    · obtain⟨f0,f1,f4,f5,f6,f7⟩:=f3 b hb
      obtain⟨o,ho,_⟩:=T.obj _ _ hst3 b hb
      exact⟨nC b o ho,fun x c e=>f6 x c (clS x c e)⟩
    · exact Nat.le_trans I.ok.bsz I3.sz
    · obtain⟨f0,f1,f4,f5,f6,f7⟩:=f3 b hb
      rcases f5 with z | z
      · exact I.ok.noex b o e z
      · have:=(I.ok.bs b o e).1
        exact absurd (Nat.lt_of_lt_of_le (Heap.lt_size this) z) (Nat.lt_irrefl _)
    · obtain⟨f0,f1,f4,f5,f6,f7⟩:=f3 b hb
      rcases List.mem_cons.mp (I3.stkSub b z) with z | z
      · exact f1 z
      · exact f4 z
  have I4:aJ (cC X scope cp tgN C s₃ (cu H2 D (.lst [])) fp) [] (iP cp tgN.length σ) (cu H2 D (.lst [])) {s₃ with heap:=h₁,toks:=s₃.toks+([]:List (Str × Value)).length}:=by
    refine⟨ok',rfl,I3.bare,Un.kept old,⟨_,hns₁,fun i x v e1 e2 e3=>?_⟩,fun x c e=>?_,hHC,fun x c e=>I3.freeC x c (clS x c e),fun p hp=>by simp [cC] at hp,I3.hok.kept old,by simp [iP,cC]⟩
    · have hlt:i < cp.length:=by
        by_cases q:i < cp.length
        · exact q
        · exfalso
          unfold iP at e2
          rw [List.getElem?_append_right (by simp;lia)] at e2
          rw [List.getElem?_replicate] at e2
          split at e2<;>cases e2
      have e1':(cp.map (·.2))[i]?=some x:=by
        have e1'':(cp.map (·.2)++tgN)[i]?=some x:=e1
        rwa [List.getElem?_append_left (by simp;exact hlt)] at e1''
      have e2':(cp.map (fun p=>(σ[p.1]?).join))[i]?=some (some v):=by
        unfold iP at e2
        rwa [List.getElem?_append_left (by simp;exact hlt)] at e2
      rw [List.getElem?_map,List.getElem?_eq_getElem hlt] at e1' e2'
      have ex:(cp[i]).2=x:=by simpa using e1'
      have ev:(σ[(cp[i]).1]?).join=some v:=by simpa using e2'
      have ev':σ[(cp[i]).1]?=some (some v):=by
        cases q:σ[(cp[i]).1]? with
        | none=>rw [q] at ev;cases ev
        | some z=>rw [q] at ev;simp only [Option.join_some] at ev;rw [ev]
      have hN:=hcp cp[i] (List.getElem_mem hlt)
      rw [←hN0] at hN
      obtain⟨hcl,hcf⟩:=hcq cp[i] (List.getElem_mem hlt)
      rw [ex] at hN hcl hcf
      obtain⟨m,hn,hl⟩:=I3.loc
      obtain⟨u,r,l⟩:=hl _ x v hN ev' (.inr (.inl (by rw [hsc];exact hcl)))
      refine⟨u,r,.inr ?_⟩
      rcases l with ⟨k1,_⟩ | ⟨k1,c,hcc,o,ho,hd⟩
      · rw [hkind,hcl] at k1;cases k1
      · have e3':(relabel scope X.env).names.lookup x=some .local∨(relabel scope X.env).names.lookup x=some .cell∨(relabel scope X.env).names.lookup x=some .free:=e3
        have nl:(relabel scope X.env).names.lookup x=some .cell∨(relabel scope X.env).names.lookup x=some .free:=by
          rcases e3' with z | z | z
          · exact absurd z (io hcf)
          · exact .inl z
          · exact .inr z
        obtain⟨c',hc'⟩:=clH x (hJ hcell nl)
        have:=clS x c' hc'
        rw [hcc] at this;cases this
        exact⟨nl,c,hc',o,old c o ho,hd⟩
    · obtain⟨v,o,ho,hd⟩:=I3.cell x c (clS x c e)
      exact⟨v,o,old c o ho,hd⟩
  have hst4:tn 0 h₁:=T.keep _ _ _ hst3 fun b _ o e=>old b o e
  have loop:codeAny (model X.prog X.w) X.A (.compLoop (.ListComp elt [⟨tg,iter,ifs,0⟩] scope pos) 0 (.ref it) (.ref D) (compEnvC scope (ke X.env scope.names []) C X.env))
      (compPost (model X.prog X.w) X.A X.xe none (EP X pins σ Q) (.ref D) C) {s₃ with heap:=h₁,toks:=s₃.toks+([]:List (Str × Value)).length}:=by
    refine oM (fun n s'=>∃i σ' H',aJ (cC X scope cp tgN C s₃ (cu H2 D (.lst [])) fp) [] σ' H' s'∧tn i s'.heap∧(∀b∈fp,H' b=none)∧W i n σ' H') ?_ (n0:=m0) ⟨0,_,_,I4,hst4,fun b hb=>(f3 b hb).1,w0⟩
    rintro n s5 ⟨i,σ5,H5,I5,st5,fr5,w5⟩
    have stat:∀{H':Hp},(∀b∈fp,H' b=none)→∀b∈fp,pE (cC X scope cp tgN C s₃ (cu H2 D (.lst [])) fp) [] H' b:=fun hn b hb=>
      ⟨hn b hb,(ok'.exf b hb).1,ok'.exfs b hb,.inl hb,(ok'.exf b hb).2,fun p hp=>by simp [cC] at hp⟩
    rcases turn i n σ5 H5 w5 with ⟨stop,qn⟩ | ⟨go,N,hN,step⟩
    · refine cN (T.done (cC X scope cp tgN C s₃ (cu H2 D (.lst [])) fp) rfl rfl rfl hc i [] s5 σ5 H5 (fun _ _=>False) I5 (stat fr5) st5 stop) fun r s6 ⟨hr,I6⟩=>?_
      subst hr
      refine⟨fun _=>?_,fun v z=>by cases z⟩
      obtain⟨m,hn,_⟩:=I6.loc
      refine⟨m,hn,fun h' sb=>⟨.ref D,H5,?_,rfl,qn⟩⟩
      have ub:=I6.base
      have kp:∀b u,b≠C→s6.heap.get? b=some u→h'.get? b=some u:=fun b u ne e=>sb.extBut b u ne e
      have nit:∀b u,H5 b=some u→b≠C:=fun b u e z=>by
        have:=I6.free
        rw [z] at e
        rw [show H5 C=none from this] at e;cases e
      refine I3.call' (s':={s6 with heap:=h'}) (ch:=fp) I6.os ⟨fun b o e n hb hx=>kp b o (nC b o e) (ub.keep b o e n hb hx),fun b o e n hb hx=>?_,ub.free,fun b o e hx=>?_,ub.tups,ub.frzs,ub.tbls⟩ (fun b u e=>?_) I6.bare (fun b hb=>?_)
      · obtain⟨sl,q⟩:=ub.slot b o e n hb hx
        exact⟨sl,kp b _ (nC b o e) q⟩
      · obtain⟨o',q⟩:=ub.there b o e hx
        exact⟨o',kp b _ (nC b o e) q⟩
      · refine(I6.hok b u e).stay (fun c v hc q=>kp c v ?_ q) (fun _ q=>q) fun _ _ q=>q
        rcases hc with z | z
        · rw [z];exact nit b u e
        · exact nit c _ z
      · obtain⟨f0,f1,f4,f5,f6,f7⟩:=f3 b hb
        exact⟨f5,f1,f6,f7⟩
    · refine cN (T.item (cC X scope cp tgN C s₃ (cu H2 D (.lst [])) fp) rfl rfl rfl hc i [] s5 σ5 H5 (fun _ _=>False) I5 (stat fr5) st5 go) fun r s6 ⟨u,hr,h6⟩=>?_
      subst hr
      refine⟨fun z=>(by cases z),fun v z=>?_⟩
      cases z
      refine cN h6 fun _ s7 ⟨x,H7,I7,r7,y7,st7,fr7⟩=>?_
      have I7':=I7.pinned (stat fr7) (T.obj _ _ st7)
      have again:∀{σ8:L2.St} {H8:Hp} {s8:Shared},aJ (cC X scope cp tgN C s₃ (cu H2 D (.lst [])) fp) ([]++mw fp s7.heap) σ8 H8 s8→N σ8 H8→∃m,m < n∧∃i σ' H',aJ (cC X scope cp tgN C s₃ (cu H2 D (.lst [])) fp) [] σ' H' s8∧tn i s8.heap∧(∀b∈fp,H' b=none)∧W i m σ' H':=fun{σ8 H8 s8} I8 n8=>by
        obtain⟨m',hm,w8⟩:=hN σ8 H8 n8
        refine⟨m',hm,i+1,σ8,H8,I8.unpinned,T.keep _ _ _ st7 fun b hb o e=>(I8.pin (b,o) (List.mem_append_right _ (List.mem_append_right _ (gZ hb e)))).1,fun b hb=>?_,w8⟩
        obtain⟨o,e,d⟩:=T.obj _ _ st7 b hb
        exact(I8.pin (b,o) (List.mem_append_right _ (List.mem_append_right _ (gZ hb e)))).2.1
      refine cN (hg C s₃ (cu H2 D (.lst [])) fp _ s7 σ5 H7 x u _ I7' r7 (step x H7 y7)) fun _ s8 ⟨σ8,H8,I8,q8⟩=>?_
      refine cN (ht C s₃ (cu H2 D (.lst [])) fp _ s8 σ8 H8 _ I8 q8) fun ok s9 ⟨H9,I9,q9⟩=>?_
      cases ok with
      | false=>
        rw [if_neg Bool.false_ne_true] at q9 ⊢
        exact again I9 q9
      | true=>
        rw [if_pos rfl] at q9 ⊢
        refine cN (he C s₃ (cu H2 D (.lst [])) fp _ s9 σ8 H9 _ I9 q9) fun v s10 ⟨xv,H10,I10,r10,ys,hl,hz,n10⟩=>?_
        refine cN (nW _ s10 σ8 H10 (.ref D) [xv] (.ref D) [v] (fun _ H=>N σ8 H) I10 rfl (.cons r10 .nil) ⟨D,ys,xv,rfl,rfl,hl,hz,n10⟩) fun _ s11 ⟨_,H11,I11,_,q11⟩=>?_
        exact again I11 q11
  exact codeAny_compStart_list loop (T.self X.A 0 _ _ _ hst4 loop)
end L2
namespace L2
open PySem PySem.Spec PyProof.Rows
section
variable{X:Cx}
def vI(K:PySem.W.Frag):R2:=fun x y H Q=>∃a b xs ys,x=.ref a∧y=.ref b∧dY K H a xs∧dY K H b ys∧xs.length+ys.length≤sizeLine∧∀p H',aA H H'→dY K H' p (xs++ys)→Q (.ref p) H'
theorem xB:eR X (binaryOp .Add) (vI X.K):=by
  intro pins s σ H x y v u Q I rx ry h
  obtain⟨a,b,xs,ys,rfl,rfl,ha,hb,hz,q⟩:=h
  cases rx;cases ry
  by_cases hx:xs=[]
  · obtain⟨i1,r1,p1,_⟩:=I.tuple ha
    obtain⟨i2,r2,p2,_⟩:=I.tuple hb
    obtain⟨m,F⟩:=I.fr
    have e1:i1=[]:=by subst hx;cases r1;rfl
    refine add_tuples F (va (g:=X.base)) p1 p2 (fun _=>?_) (fun z1 _=>absurd e1 z1) (fun z1 _ _ _ _=>absurd e1 z1) (by rw [←r1.length,←r2.length];exact hz)
    exact⟨.ref b,H,I,rfl,q b H (aA.refl H) (by rw [hx];exact hb)⟩
  · exact xC pins s σ H (.ref a) (.ref b) _ _ Q I rfl rfl ⟨a,b,xs,ys,rfl,rfl,ha,hb,hx,hz,fun z=>q a H (aA.refl H) (by rw [z,List.append_nil];exact ha),fun _ p hp=>q p _ (aA.new hp) (dY.of aH)⟩
theorem qX{x:V}{us:List Value}(r:aU [x] us):∃u,us=[u]∧bz x u:=by
  cases r with
  | cons p p'=>cases p';exact⟨_,rfl,p⟩
theorem pP{prog:Program}{w:World}{A:Around}{E:Value→Shared→Prop}{s:Shared}{t:Addr}{vs:List Value}{Q:List Value→Shared→Prop}(ht:IsTup s.heap t vs.toArray)
    (h:Q vs {s with heap:=(s.heap.push (seqObj "list" #[] 0)).update s.heap.objs.size (Obj.mapSeq (· ++vs.toArray))})(hsz:vs.length≤sizeLine):wpAny (model prog w) A (collect (.ref t)) Q E s:=by
  obtain⟨o,ho,hc,n,hd⟩:=id ht;unfold collect;refine wpAny_bind (wpAny_runValue (codeAny_builtin entry_proto_collect' ?_))
  show wpAny _ _ (do again (.builtin "list.__iadd__" ⟨[←newList [],.ref t],[]⟩)) _ _ s
  refine wpAny_bind (wpAny_newList (wpAny_pure ⟨Code.quiet_builtin _ (by decide+kernel),?_⟩));refine codeAny_builtin entry_list_iadd' ?_
  show wpAny _ _ (Builtin.List.listExtendWith (.ref s.heap.objs.size) (.ref t) (.ref s.heap.objs.size)) _ _ {s with heap:=s.heap.push (seqObj "list" #[] 0)}
  unfold Builtin.List.listExtendWith;have ho':(s.heap.push (seqObj "list" #[] 0)).get? t=some o:=Heap.get?_push_of_some _ ho
  refine wpAny_bind (wpAny_typeOf (T:="tuple") ⟨o,ho',hc⟩ ?_)
  rw [if_pos (by rw [show(Value.type "tuple"==Value.type "tuple")=true from rfl,Bool.or_true])]
  refine wpAny_bind (listItems_at ho' hd ?_);refine wpAny_bind (listItems_at (xs:=#[]) (n:=0) (Heap.get?_push_size _ rfl) rfl ?_)
  rw [if_neg (by simp)];refine wpAny_bind (listUpdate_at (xs:=#[]) (n:=0) (Heap.get?_push_size _ rfl) rfl ?_ (Nat.zero_le _) (by show(#[]++vs.toArray).size≤sizeLine+1;simp only [Array.size_append,List.size_toArray,List.length_nil];lia))
  refine wpAny_pure ?_
  show wpAny (model prog w) A (load s.heap.objs.size >>= fun o=>match o.data with | .seq xs _=>pure xs.toList | _=>unsupported "internal:collect") Q E {s with heap:=(s.heap.push (seqObj "list" #[] 0)).update s.heap.objs.size (Obj.mapSeq (· ++vs.toArray))}
  refine wpAny_bind (wpAny_load (get?_update_seq (Heap.get?_push_size _ rfl) _) ?_);show wpAny _ _ (pure ((#[]:Array Value)++vs.toArray).toList) Q E _;rw [show((#[]:Array Value)++vs.toArray).toList=vs by simp];exact wpAny_pure h
theorem rh{prog:Program}{w:World}{A:Around}{E:Value→Shared→Prop}{s:Shared}{t:Addr}{vs:List Value}{ns:List Int}{Q:Value→Shared→Prop}(ht:IsTup s.heap t vs.toArray)(hI:IntsAre vs ns)(h64:vs.length < 64)
    (h:∀(out:Array Value) (ns':List Int),IntsAre out.toList ns'→ns'.Perm ns→ns'.Pairwise (· ≤·)→Q (.ref (s.heap.objs.size+1)) {s with heap:=sortedAll s.heap vs out}):wpAny (model prog w) A (call (.builtin "sorted") [.ref t]) Q E s:=by
  refine Calls.call_function_entry kind_sorted plain_sorted entry_sorted (args_sorted1 _) ?_;unfold Builtin.«sorted»
  refine wpAny_bind (m:=checkCount "sorted" 1 1 _) (wpAny_pure ?_);refine wpAny_bind (pP ht ?_ (Nat.le_trans (Nat.le_of_lt h64) (by decide)))
  have z:((s.heap.push (seqObj "list" #[] 0)).update s.heap.objs.size (Obj.mapSeq (· ++vs.toArray))).objs.size=s.heap.objs.size+1:=by rw [Heap.size_update,size_push']
  have o:(((s.heap.push (seqObj "list" #[] 0)).update s.heap.objs.size (Obj.mapSeq (· ++vs.toArray))).push (seqObj "list" vs.toArray 0)).get? (s.heap.objs.size+1)=some (seqObj "list" vs.toArray 0):=by rw [←z];exact Heap.get?_push_size _ rfl
  refine wpAny_bind (wpAny_newList ?_);show wpAny _ _ _ _ _ {s with heap:=((s.heap.push (seqObj "list" #[] 0)).update s.heap.objs.size (Obj.mapSeq (· ++vs.toArray))).push (seqObj "list" vs.toArray 0)}
  rw [z];refine wpAny_bind (wpAny_holding (wpAny_call_entry slot_list_sort ⟨_,o,rfl⟩ entry_list_sort (list_sort_tree o hI h64 fun out ns' b1 b2 b3=>⟨_,rfl,?_⟩) (args_list_sort _)))
  exact wpAny_pure ⟨_,rfl,h out ns' b1 b2 b3⟩
theorem pL:de X (.builtin "sorted") (fun xs H Q=>∃(a:Addr) (ns:List Int),xs=[.ref a]∧dY X.K H a (ns.map V.int)∧ns.length < 64∧∀(l:Addr) (ns':List Int) (H':Hp),aA H H'→H l=none→H' l=some (.lst (ns'.map V.int))→ns'.Perm ns→ns'.Pairwise (· ≤·)→Q (.ref l) H'):=by
  intro pins s σ H xs us Q I r h
  obtain⟨a,ns,rfl,hs,h64,q⟩:=h
  obtain⟨u,rfl,ru⟩:=qX r
  cases ru
  obtain⟨its,rv,p,hz⟩:=I.tuple hs
  have hl:=rv.length
  rw [List.length_map] at hl
  refine rh p (qL rv) (by lia) fun out ns' a1 a2 a3=>?_
  obtain⟨e,he⟩:=sortedAll_at s.heap its out
  have hf:H (s.heap.objs.size+1)=none:=I.hok.fresh (Nat.le_succ _)
  refine⟨.ref (s.heap.objs.size+1),cu H (s.heap.objs.size+1) (.lst (ns'.map V.int)),I.laid (t':=s.toks) (fun _ _=>sortedAll_old) (Nat.le_succ _) ⟨?_,out.toList,e,kz a1,?_⟩,rfl,q _ ns' _ (aA.new hf) hf aH a2 a3⟩
  · rw [List.length_map,a2.length_eq]
    exact Nat.le_trans (Nat.le_of_lt h64) (by decide)
  · simpa [seqObj] using he
end
end L2
namespace L2
open PySem PySem.Spec PyProof.Rows
section
variable{X:Cx}
end
theorem tT{e:Expr}{es:List Expr}{env:Env}(h:PySem.W.isStarred e=false):starEach (e::es) env=(false,eval e env)::starEach es env:=by
  cases e<;>first | rfl | cases h
theorem Dm{X:Cx}{e:Expr}{es:List Expr}{te:TE}{t:TA}(ha:PE X e te)(hr:PA X es t)(h:PySem.W.isStarred e=false:=by rfl):PA X (e::es) (j8 te t):=bu ha hr (tT h)
def sx:List (Int × Int)→TA
  | []=>wb
  | p::r=>j8 (Cs (j8 (tC (.int p.1)) (j8 (tC (.int p.2)) wb))) (sx r)
@[irreducible] def Dy(ps:List (Int × Int)):TA:=sx ps
structure j9 where
  one:Int
  other:Int
  top:Int
  bot:Int
  worth:Int
structure aP where
  things:Int
  ties:List j9
  pat:List Int
  asks:Int
structure j9.Ok (n:Int) (t:j9):Prop where
  o0:0≤t.one
  o1:t.one < t.other
  o2:t.other < n
  c0:0≤t.top
  c1:t.top≤t.bot
  b0:1≤t.bot
  b1:t.bot≤100
  w0:0≤t.worth
  w1:t.worth≤1000
  cop:Int.gcd t.top t.bot=1
structure aP.Ok (w:aP):Prop where
  t0:0≤w.things
  t1:w.things≤12
  ties:∀t∈w.ties,t.Ok w.things
  len:w.ties.length≤16
  pl:(w.pat.length:Int)=w.things
  pat:∀p∈w.pat,0≤p∧p≤20
  a0:0≤w.asks
  a1:w.asks≤40
def Bl(K:PySem.W.Frag)(H:Hp)(v:V)(t:j9):Prop:=∃p q,v=.ref p∧dY K H p [.int t.one,.int t.other,.ref q,.int t.worth]∧dY K H q [.int t.top,.int t.bot]
inductive oD (K:PySem.W.Frag) (H:Hp):List V→List j9→Prop
  | nil:oD K H [] []
  | cons {v vs t ts}:Bl K H v t→oD K H vs ts→oD K H (v::vs) (t::ts)
structure DN (K:PySem.W.Frag) (H:Hp) (v:V) (w:aP):Prop where
  ex:∃a b c ts,v=.ref a∧dY K H a [.int w.things,.ref b,.ref c,.int w.asks]∧dY K H b ts∧oD K H ts w.ties∧dY K H c (w.pat.map V.int)
section
variable{K:PySem.W.Frag}{H H':Hp}
end
theorem qP{t b:Int}(hb:0 < b)(h0:0≤t)(h1:t≤b)(h2:b≤100):0≤(cF t b).1∧(cF t b).1≤(cF t b).2∧1≤(cF t b).2∧(cF t b).2≤100:=by
  obtain⟨d,e1,e2,e3,e4,e5⟩:=nU (t:=t) (b:=b) (by lia)
  generalize (cF t b).1=x at*
  generalize (cF t b).2=y at*
  have dp:0 < d:=by
    rcases Int.lt_or_gt_of_ne e2 with z | z
    · exfalso
      have:y*d < 0:=Int.mul_neg_of_pos_of_neg e5 z
      lia
    · exact z
  have x0:0≤x:=by
    rcases Int.lt_or_le x 0 with z | z
    · have:x*d < 0:=Int.mul_neg_of_neg_of_pos z dp
      lia
    · exact z
  have xy:x≤y:=by
    rcases Int.lt_or_le y x with z | z
    · have:y*d < x*d:=Int.mul_lt_mul_of_pos_right z dp
      lia
    · exact z
  have yb:y≤y*d:=by
    have:=Int.mul_le_mul_of_nonneg_left (show(1:Int)≤d by lia) (show 0≤y by lia)
    lia
  exact⟨x0,xy,by lia,by lia⟩
end L2
namespace L2
open PySem PySem.Spec PyProof.Rows
inductive m6 {α β:Type} (R:α→β→Prop):List α→List β→Prop
  | nil:m6 R [] []
  | cons {a b as bs}:R a b→m6 R as bs→m6 R (a::as) (b::bs)
namespace m6
variable{α β:Type}{R S:α→β→Prop}
theorem mono(h:∀a b,R a b→S a b):∀{as:List α} {bs:List β},m6 R as bs→m6 S as bs
  | _,_,.nil=>.nil
  | _,_,.cons x r=>.cons (h _ _ x) (mono h r)
theorem len:∀{as:List α} {bs:List β},m6 R as bs→as.length=bs.length
  | _,_,.nil=>rfl
  | _,_,.cons _ r=>by simp [len r]
theorem get:∀{as:List α} {bs:List β} {i:Nat} {b:β},m6 R as bs→bs[i]?=some b→∃a,as[i]?=some a∧R a b
  | _,_,_,_,.nil,e=>by simp at e
  | _,_,0,_,.cons x _,e=>by simp at e;subst e;exact⟨_,rfl,x⟩
  | _,_,i+1,b,.cons _ r,e=>by
    obtain⟨v,h1,h2⟩:=get (i:=i) (b:=b) r (by simpa using e)
    exact⟨v,by simpa using h1,h2⟩
end m6
section
variable{K:PySem.W.Frag}{a l:Addr}{xs:List V}{g:TG}{tc:TT}{te:TE}{Q:VK}{σ:L2.St}{H:Hp}{α β:Type}{us:List α}{cp:List (Nat × Str)}{nT:Nat}
def CC(bi:Hp→V→β→Prop)(SI:L2.St→Prop)(us:List α)(f:α→Option β)(H:Hp)(l:Addr)(i:Nat)(σ:L2.St)(H':Hp):Prop:=SI σ∧aA H H'∧∃vs,H' l=some (.lst vs)∧vs.length≤i∧m6 (bi H') vs ((us.take i).filterMap f)
end
theorem kW:∀{a b:List Int},a.Perm b→a.Pairwise (· ≤·)→b.Pairwise (· ≤·)→a=b
  | [],b,p,_,_=>by
    have:=p.length_eq
    exact(List.length_eq_zero_iff.mp this.symm).symm
  | x::a,b,p,h1,h2=>by
    cases b with
    | nil=>have:=p.length_eq;simp at this
    | cons y b=>
      have h1':=List.pairwise_cons.mp h1
      have h2':=List.pairwise_cons.mp h2
      have e:x=y:=by
        have m1:y∈x::a:=p.mem_iff.mpr (by simp)
        have m2:x∈y::b:=p.mem_iff.mp (by simp)
        rcases List.mem_cons.mp m1 with z | z
        · exact z.symm
        · rcases List.mem_cons.mp m2 with z2 | z2
          · exact z2
          · have:=h1'.1 y z
            have:=h2'.1 x z2
            lia
      subst e
      rw [kW ((List.perm_cons x).mp p) h1'.2 h2'.2]
def fX(ns:List Int):List Int:=ns.mergeSort
theorem qg{ns ns':List Int}(p:ns'.Perm ns)(h:ns'.Pairwise (· ≤·)):ns'=fX ns:=by
  refine kW (p.trans (List.mergeSort_perm ns _).symm) h ?_
  have:=List.pairwise_mergeSort (le:=fun a b:Int=>decide (a≤b)) (fun a b c h1 h2=>by simp at*;lia) (fun a b=>by simp;lia) ns
  exact this.imp fun h=>by simpa using h
theorem hV(ns:List Int):(fX ns).Perm ns:=List.mergeSort_perm ns _
theorem ku{ns:List Int}{x:Int}:x∈fX ns↔ x∈ns:=(hV ns).mem_iff
theorem om(ns:List Int):(fX ns).length=ns.length:=(hV ns).length_eq
section
variable{X:Cx}{K:PySem.W.Frag}{pos:Pos}
theorem xM{es:List Expr}{k:Nat}{t:wq}{n:Nat}(hK:X.K=K)(hc:X.calm=true)(h:ua X es t)(hn:(assignEach es X.env).length=n:=by rfl)(hst:(assignEach es X.env).findIdx? (·.1)=none:=by rfl):PG X (.Tuple es k pos) (Bu K n t):=hK ▸ Ai hc h hn hst
theorem xP{tg l:Expr}{tl:TE}(h:X.K=K)(hl:PE X l tl):PI X tg l (Bw K tl):=h ▸ Aj hl
theorem vx{tg l:Expr}{tl:TE}(h:X.K=K)(hl:PE X l tl):PI X tg l (yJ K tl):=h ▸ xO hl
end
instance:Inhabited j9:=⟨⟨0,1,1,1,0⟩⟩
def aP.tie(W:aP)(k:Int):j9:=W.ties.getD k.toNat default
def aP.has(W:aP)(k thing:Int):Bool:=(W.tie k).one==thing || (W.tie k).other==thing
def aP.many(W:aP)(asked:List Int)(thing:Int):Int:=((asked.filter fun k=>W.has k thing).length:Nat)
def aP.bears(W:aP)(asked taken:List Int)(thing:Int):Bool:= !taken.contains thing&&decide (W.many asked thing < W.pat.getD thing.toNat 0)
def aP.may(W:aP)(asked taken:List Int)(k:Int):Bool:= !(asked.contains k || decide (W.asks≤(asked.length:Int)))&&(W.bears asked taken (W.tie k).one&&W.bears asked taken (W.tie k).other)
def aP.askd(asked:List Int)(k:Int):List Int:=fX (asked++[k])
def aP.took(W:aP)(taken:List Int)(k:Int)(truth:Bool):List Int:=if truth then fX (taken++[(W.tie k).one,(W.tie k).other]) else taken
def aP.rng(W:aP):List Int:=(List.range W.ties.length).map Int.ofNat
def fZ(W:aP)(k:Int):Prop:=0≤k∧k < (W.ties.length:Int)
theorem fZ.get{W:aP}{k:Int}(h:fZ W k):W.ties[k.toNat]?=some (W.tie k):=by
  have hk:k.toNat < W.ties.length:=by have:=h.1;have:=h.2;lia
  unfold aP.tie
  rw [List.getD_eq_getElem?_getD,List.getElem?_eq_getElem hk];rfl
theorem fZ.ok{W:aP}{k:Int}(h:fZ W k)(o:W.Ok):(W.tie k).Ok W.things:=o.ties _ (List.mem_of_getElem? h.get)
theorem CN{W:aP}{k:Int}:k∈W.rng↔ fZ W k:=by
  unfold aP.rng fZ
  rw [List.mem_map]
  constructor
  · rintro⟨n,hn,rfl⟩
    have:=List.mem_range.mp hn
    exact⟨Int.natCast_nonneg n,by simp;lia⟩
  · rintro⟨h0,h1⟩
    exact⟨k.toNat,List.mem_range.mpr (by lia),by simp;lia⟩
def zg(K:PySem.W.Frag)(H:Hp)(v:V)(asked taken:List Int):Prop:=∃a b c,v=.ref a∧dY K H a [.ref b,.ref c]∧dY K H b (asked.map V.int)∧dY K H c (taken.map V.int)
theorem zg.ts{K:PySem.W.Frag}{H H':Hp}(s:kD H H'){v:V}{asked taken:List Int}(h:zg K H v asked taken):zg K H' v asked taken:=by
  obtain⟨a,b,c,e,h1,h2,h3⟩:=h
  exact⟨a,b,c,e,s.tup h1,s.tup h2,s.tup h3⟩
section
variable{K:PySem.W.Frag}{σ:L2.St}{H:Hp}{Q:VK}{i j:Nat}{vW:V}{W:aP}{k:Int}
end
def small(k:Int):Prop:= -1000000≤k∧k≤1000000
def Dk(n dep:Nat)(d:PyData):Prop:=d.showable=true∧mh d=true∧L2.cnt d≤n∧d.depth≤dep
theorem Dk.mono{n m dep e:Nat}{d:PyData}(h:Dk n dep d)(h1:n≤m)(h2:dep≤e):Dk m e d:=⟨h.1,h.2.1,Nat.le_trans h.2.2.1 h1,Nat.le_trans h.2.2.2 h2⟩
theorem Dk.int{k:Int}(h:small k):Dk 1 2 (.int k):=by
  refine⟨?_,rfl,Nat.le_refl _,by simp [PyData.depth]⟩
  show decide (k.natAbs.log2 < 1920)=true
  rw [decide_eq_true_eq]
  exact Nat.lt_trans ((show Bt 64 k by have:=h.1;have:=h.2;unfold Bt;lia).log (by decide)) (by decide)
theorem Dk.bool(b:Bool):Dk 1 2 (.bool b):=⟨rfl,rfl,Nat.le_refl _,by simp [PyData.depth]⟩
theorem Dk.none:Dk 1 2 .none:=⟨rfl,rfl,Nat.le_refl _,by simp [PyData.depth]⟩
theorem Dk.all{n dep:Nat}:∀{ds:List PyData},(∀d∈ds,Dk n dep d)→PyData.showableAll ds=true∧gD ds=true∧jj ds≤ds.length*n∧PyData.depthAll ds≤dep
  | [],_=>⟨rfl,rfl,by simp [jj],by simp [PyData.depthAll]⟩
  | d::r,h=>by
    obtain⟨a1,a2,a3,a4⟩:=h d (by simp)
    obtain⟨b1,b2,b3,b4⟩:=Dk.all (ds:=r) fun x hx=>h x (by simp [hx])
    refine⟨?_,?_,?_,?_⟩
    · simp only [PyData.showableAll,a1,b1,Bool.and_self]
    · simp only [gD,a2,b2,Bool.and_self]
    · simp only [jj,List.length_cons,Nat.succ_mul]
      lia
    · simp only [PyData.depthAll];lia
theorem Dk.tup{n dep m:Nat}{ds:List PyData}(h:∀d∈ds,Dk n dep d)(hl:ds.length≤m):Dk (1+m*n) (dep+2) (.tuple ds):=by
  obtain⟨b1,b2,b3,b4⟩:=Dk.all h
  refine⟨b1,b2,?_,?_⟩
  · simp only [L2.cnt]
    have:=Nat.mul_le_mul_right n hl
    lia
  · simp only [PyData.depth];lia
theorem Dk.ok{n dep:Nat}{d:PyData}(h:Dk n dep d)(h1:n≤8000)(h2:dep≤60):d.showable=true∧d.depth≤60∧d.shown.length≤sizeLine:=by
  have:=oj h.2.1 h.1
  have sl:sizeLine=16777216:=sizeLine_eq
  have:=h.2.2.1
  exact⟨h.1,Nat.le_trans h.2.2.2 h2,by lia⟩
theorem Dk.ints{ns:List Int}{m:Nat}(hl:ns.length≤m)(h:∀r∈ns,small r):Dk (1+m) 4 (.tuple (ns.map .int)):=by
  have:=Dk.tup (n:=1) (dep:=2) (m:=m) (ds:=ns.map PyData.int) (fun d hd=>by
    obtain⟨x,hx,rfl⟩:=List.mem_map.mp hd
    exact Dk.int (h x hx)) (by rw [List.length_map];exact hl)
  simpa using this
section
variable{K:PySem.W.Frag}{H:Hp}
theorem Dk.bools{ns:List Bool}{m:Nat}(hl:ns.length≤m):Dk (1+m) 4 (.tuple (ns.map .bool)):=by
  have:=Dk.tup (n:=1) (dep:=2) (m:=m) (ds:=ns.map PyData.bool) (fun d hd=>by
    obtain⟨x,hx,rfl⟩:=List.mem_map.mp hd
    exact Dk.bool x) (by rw [List.length_map];exact hl)
  simpa using this
def aG(t:j9):PyData:=.tuple [.int t.one,.int t.other,.tuple [.int t.top,.int t.bot],.int t.worth]
def ao(W:aP):PyData:=.tuple [.int W.things,.tuple (W.ties.map aG),.tuple (W.pat.map .int),.int W.asks]
def m_(asked taken:List Int):PyData:=.tuple [.tuple (asked.map .int),.tuple (taken.map .int)]
end
end L2
namespace L2
open PySem PySem.Spec PyProof.Rows
theorem um:∀{bs:List Bool} {us:List Value} {i:Nat} {v:Value},aU (bs.map V.bl) us→us[i]?=some v→∃b,bs[i]?=some b∧v=.bool b
  | [],us,i,v,r,e=>by cases r;simp at e
  | b::bs,us,i,v,r,e=>by
    cases r with
    | cons p q=>
      cases i with
      | zero=>simp at e;subst e;cases p;exact⟨b,rfl,rfl⟩
      | succ i=>
        obtain⟨c,h1,h2⟩:=um (bs:=bs) (i:=i) (v:=v) q (by simpa using e)
        exact⟨c,by simpa using h1,h2⟩
theorem yc(bs:List Bool):((List.range bs.length).all fun i=>(bs[i]?).getD true)=bs.all id:=by
  rw [Bool.eq_iff_iff,List.all_eq_true,List.all_eq_true]
  constructor
  · intro h b hb
    obtain⟨i,hi,rfl⟩:=List.getElem_of_mem hb
    have:=h i (List.mem_range.mpr hi)
    rw [List.getElem?_eq_getElem hi] at this
    exact this
  · intro h i hi
    have hi':=List.mem_range.mp hi
    rw [List.getElem?_eq_getElem hi']
    exact h _ (List.getElem_mem hi')
section
variable{X:Cx}
theorem ut{k:Nat}{K:PySem.W.Frag}(hr:cO k X.A)(hK:X.K=K):de X (.builtin "all") (fun xs H Q=>∃(l:Addr) (bs:List Bool),xs=[.ref l]∧gL K H l (bs.map V.bl)∧Q (.bl (bs.all id)) H):=by
  intro pins s σ H xs us Q I r h
  subst hK
  obtain⟨l,bs,rfl,hs,q⟩:=h
  obtain⟨u,rfl,ru⟩:=qX r
  cases ru
  obtain⟨its,rv,p,hz⟩:=I.list hs
  have hl:=p.isList
  have lt:l < s.heap.objs.size:=by obtain⟨_,e,_⟩:=hl;exact Heap.lt_size e
  refine PySem.call_all_walk (wpAny_pyIter_list hl ?_)
  refine⟨s.heap.objs.size,[s.heap.objs.size,l],[s.heap.objs.size],its.toArray.size,_,_,fun i=>(bs[i]?).getD true,rfl,Walks.list (A:=X.A.in1) hr.hd _ l (Nat.ne_of_lt lt) its.toArray,⟨⟨_,Heap.get?_push_size _ rfl,rfl,rfl⟩,hl.push _⟩,fun i v s' Q' E' hP hQ=>?_,fun h' tk hk=>?_⟩
  · obtain⟨b,e,rfl⟩:=um rv (by simpa using hP)
    simp only [e,Option.getD_some] at hQ
    exact wpAny_truthy_bool hQ
  · have e:its.toArray.size=bs.length:=by have:=rv.length;rw [List.length_map] at this;simpa using this.symm
    rw [e,yc]
    refine⟨.bl (bs.all id),H,I.kept fun b x e=>hk b x (fun hm=>?_) (Heap.get?_push_of_some _ e),rfl,q⟩
    rw [List.mem_singleton.mp hm] at e
    exact Nat.lt_irrefl _ (Heap.lt_size e)
end
end L2
namespace L2
theorem uo:PySem.bootBuiltins "all"=some (.builtin "all"):=by decide+kernel
end L2
namespace L2
open PySem PySem.Spec PyProof.Rows
section
variable{prog:Program}{w:World}{A:Around}{E:Value→Shared→Prop}{s:Shared}
end
structure Sc (prog:Program) (w:World) (it l:Addr) (St:Nat→Heap→Prop) (Sq:Heap→Array Value→Prop):Prop where
  stay:∀{k h h'},St k h→(∀o,h.get? it=some o→h'.get? it=some o)→St k h'
  live:∀{k h},St k h→∃o,h.get? it=some o∧∀v,o.data≠.cell v
  row:∀{h h' xs},Sq h xs→(∀o,h.get? l=some o→h'.get? l=some o)→Sq h' xs
  next:∀{A:Around} {s:Shared} {E:Value→Shared→Prop} {Q:Value→Shared→Prop} {k:Nat} {xs:Array Value} {x:Value},St k s.heap→Sq s.heap xs→xs[k]?=some x→(∀g,St (k+1) g→Heap.SameBut it s.heap g→Q x {s with heap:=g})→wpAny (model prog w) A (Builtin.SmallTypes.nextOf (.ref it)) Q E s
  last:∀{A:Around} {s:Shared} {E:Value→Shared→Prop} {Q:Value→Shared→Prop} {k:Nat} {xs:Array Value},A.handled=none→St k s.heap→Sq s.heap xs→xs[k]?=none→(∀g e,Heap.ExtBut it s.heap g→(∃o,g.get? e=some o∧o.cls=.type "StopIteration")→E (.ref e) {s with heap:=g})→wpAny (model prog w) A (Builtin.SmallTypes.nextOf (.ref it)) Q E s
structure DE (z TI TO i1 i2 l1 l2:Addr):Prop where
  a1:TO≠z
  a2:i1≠z
  a3:i2≠z
  a4:TO≠i1
  a5:TO≠i2
  a6:i1≠i2
  b1:l1≠z
  b2:l1≠TO
  b3:l1≠i1
  b4:l1≠i2
  c1:l2≠z
  c2:l2≠TO
  c3:l2≠i1
  c4:l2≠i2
section
variable{prog:Program}{w:World}{A:Around}{E:Value→Shared→Prop}{s:Shared}{z TI TO i1 i2 l1 l2:Addr}{k:Nat}{xs ys:Array Value}{a b:Value}{S1 S2:Nat→Heap→Prop}{R1 R2:Heap→Array Value→Prop}
end
end L2
namespace L2
open PySem PySem.Spec PyProof.Rows
section
variable{X:Cx}{pins:List (Addr × Obj)}{σ:L2.St}{H:Hp}{s:Shared}{h':Heap}
end
section
variable{prog:Program}{w:World}{A:Around}{E:Value→Shared→Prop}{s:Shared}
end
end L2
namespace L2
open PySem PySem.Spec PyProof.Rows
def zc(h:Heap)(z TI TO:Addr)(a:Addr)(f:Bool):Prop:=h.get? z=some {cls:=.type "zip",data:=.fields #[rawInt a,.bool f,.bool false,.ref TI,.ref TO]}
section
variable{prog:Program}{w:World}{A:Around}{E:Value→Shared→Prop}{s:Shared}{z TI TO i1 i2 l1 l2:Addr}{k:Nat}{xs ys:Array Value}{a:Addr}{f:Bool}{S1 S2:Nat→Heap→Prop}{R1 R2:Heap→Array Value→Prop}
end
end L2
namespace L2
open PySem PySem.Spec PyProof.Rows
structure ZL (S z TI TO i1 i2 l1 l2:Addr) (xs ys:Array Value) (i:Nat) (h:Heap):Prop where
  pr:IsPair h TI (.ref i1) (.ref i2)
  t1:h.IsTupleIter i1 l1 i
  t2:h.IsTupleIter i2 l2 i
  s1:h.IsTuple l1 xs
  s2:h.IsTuple l2 ys
  ot:∃o,h.get? TO=some o
  zs:(IsZip h z TI TO .none∧∃a b,IsPair h TO a b)∨∃a f oa,zc h z TI TO a f∧h.get? a=some oa∧a≠S∧a≠z∧a≠i1∧a≠i2
structure DC (S z TO i1 i2:Addr) (xs ys:Array Value) (h:Heap) (acc:Array Value) (i:Nat):Prop where
  sz:acc.size=i
  at_:∀(j:Nat) (v:Value),acc[j]?=some v→∃(p:Addr) (x y:Value),v=.ref p∧xs[j]?=some x∧ys[j]?=some y∧IsPair h p x y∧p≠S∧p≠z∧p≠TO∧p≠i1∧p≠i2
  lo:∀(j:Nat) (p:Addr),acc[j]?=some (.ref p)→S < p
  D_:∀(i j:Nat) (p q:Addr),i < j→acc[i]?=some (.ref p)→acc[j]?=some (.ref q)→p < q
section
variable{prog:Program}{w:World}{A:Around}{R:Result→Shared→Prop}{S z TI TO i1 i2 l1 l2:Addr}{xs ys:Array Value}{n:Nat}
end
end L2
namespace L2
open PySem PySem.Spec PyProof.Rows
section
variable{X:Cx}{pins:List (Addr × Obj)}{σ:L2.St}{H H':Hp}{s:Shared}{h':Heap}
end
end L2
namespace L2
open PySem PySem.Spec PyProof.Rows
section
variable{prog:Program}{w:World}{A:Around}{E:Value→Shared→Prop}{s:Shared}{e it l:Addr}{k:Nat}{xs:Array Value}{S:Nat→Heap→Prop}{R:Heap→Array Value→Prop}
end
section
variable{X:Cx}{pins:List (Addr × Obj)}{σ:L2.St}{H:Hp}{s:Shared}
end
end L2
namespace L2
open PySem PySem.Spec PyProof.Rows
theorem sE:∀(us:List Value) (f:Nat→Int),(∀(j:Nat) (v:Value),us[j]?=some v→∃t,v=Value.int (f j) t)→aU ((List.range us.length).map fun j=>V.int (f j)) us
  | [],_,_=>.nil
  | u::us,f,h=>by
    rw [List.length_cons,List.range_succ_eq_map,List.map_cons,List.map_map]
    refine .cons (h 0 u rfl) (sE us (fun j=>f (j+1)) fun j v e=>h (j+1) v (by simpa using e))
def ir(n:Nat):List Int:=(List.range n).map Int.ofNat
theorem p8(n:Nat):(ir n).length=n:=by simp [ir]
section
variable{X:Cx}{a:Expr}{ta:TA}{p p2 pos pos2:Pos}
theorem uB(hg:Gl X "range")(hm:X.mg "range"=none)(ha:PA X [a] ta)(hs:starEach [a] X.env=[(false,eval a X.env)]){pins:List (Addr × Obj)}{s:Shared}{σ:L2.St}{H:Hp}{R:Int→Hp→Prop}(I:aJ X pins σ H s)(h:ta σ H fun vs H1=>∃j:Int,vs=[.int j]∧R j H1):
    wpAny (model X.prog X.w) X.A (eval (.Call (.Name "range" p) [a] [] pos) X.env) (fun v s1=>∃(r:Addr) (j:Int) (H1:Hp) (t u w:Tok),v=.ref r∧IsRange s1.heap r 0 j 1 t u w∧r < s1.heap.objs.size∧aJ X pins σ H1 s1∧R j H1) X.xe s:=by
  refine Call_ (ki I hg hm boot_range (PyProof.Rows.callWith_type1 (cN (ha pos pins s σ H _ I h) fun us s1 ⟨vs,H1,I1,r1,q1⟩=>?_) hs rfl))
  obtain⟨j,e,q⟩:=q1
  subst e
  cases r1 with
  | cons r rr=>
    cases rr
    obtain⟨t,rfl⟩:=r
    exact call_range_1 ⟨_,j,H1,_,_,_,rfl,IsRange.new ..,by simp [Heap.size_push],I1.kept fun b o e=>Heap.get?_push_of_some _ e,q⟩
def Ee(ta:TA):TE:=fun σ H Q=>ta σ H fun vs H1=>∃j:Int,vs=[.int j]∧(0≤j∧j≤100000∧∀l,H1 l=none→Q (.ref l) (cu H1 l (.lst ((ir j.toNat).map V.int))))
theorem pe(hc:X.calm=true)(hgl:Gl X "list")(hml:X.mg "list"=none)(hg:Gl X "range")(hm:X.mg "range"=none)(ha:PA X [a] ta)(hs:starEach [a] X.env=[(false,eval a X.env)]:=by rfl)
    (he:starEach [.Call (.Name "range" p) [a] [] pos] X.env=(false,eval (.Call (.Name "range" p) [a] [] pos) X.env)::starEach [] X.env:=by rfl):PE X (.Call (.Name "list" p2) [.Call (.Name "range" p) [a] [] pos] [] pos2) (Ee ta):=by
  intro pins s σ H Q I h
  refine wpAny_Call_Name_kw (ki I hgl hml PyProof.Rows.boot_list ?_ (by decide) (by decide))
  refine PyProof.Rows.callWith_type1 ?_ he rfl
  rw [he]
  refine Calls.spliced_cons (cN (uB hg hm ha hs I h) fun u s1 ⟨r,j,H1,t,u1,w,e,hr,lt,I1,j0,j1,q⟩=>?_)
  subst e
  refine wpAny_pure ?_
  have hsm:Builtin.Range.small 0 j 1=true:=small_one (by decide) (by decide) (by lia) (by lia)
  refine call_list_range (n:=j.toNat) (I1.ok.hd hc) hr hsm (by rw [rangeSize_one];split<;>lia) (Nat.le_trans (show j.toNat≤100000 by lia) (by decide)) fun h' tk acc c hk hD hI=>?_
  have hf:H1 s1.heap.objs.size=none:=I1.hok.fresh (Nat.le_refl _)
  have vv:aU ((ir j.toNat).map V.int) acc.toList:=by
    have z:=sE acc.toList (fun k=>(k:Int)) fun k v e=>by
      obtain⟨t,ht⟩:=hI.2 k v (by simpa using e)
      exact⟨t,by rw [ht];simp⟩
    rw [Array.length_toList,hI.1] at z
    rw [ir,List.map_map]
    exact z
  refine⟨.ref s1.heap.objs.size,_,I1.laid (o:=.lst ((ir j.toNat).map V.int)) hk (Nat.le_refl _) ⟨?_,acc.toList,c,vv,by simpa using hD⟩,rfl,q _ hf⟩
  rw [List.length_map,p8,sizeLine_eq];lia
end
end L2
namespace L2
open PySem PySem.Spec PyProof.Rows
theorem tj:fillsNumberSlot (.type "tuple") "mul"=pure false:=
  PySem.fillsNumberSlot_seq (id:="tuple.__mul__") (r:=some (.builtin "tuple.__rmul__")) F.slot_tuple_mul.lookup (by decide+kernel) F.slot_tuple_rmul.lookup (by decide+kernel)
theorem AB:seqRepeat? (.type "tuple")=pure (some (.builtin "tuple.__mul__")):=by
  unfold seqRepeat?;rw [PySem.seqSlot_of (T:="tuple") (name:="__mul__") (id:="tuple.__mul__") F.slot_tuple_mul.lookup (by decide+kernel),PySem.seqSlot_of (T:="tuple") (name:="__rmul__") (id:="tuple.__rmul__") F.slot_tuple_rmul.lookup (by decide+kernel)];rfl
theorem ya(a:Int)(t:Tok)(l:Addr)(items:Array Value)(n:Nat)(dd:Option Addr)(sl:Array (Option Value)):
    Meets (Builtin.«int.__rmul__» ⟨[.int a t,.ref l],[]⟩) (fun _ R s=>s.heap.get? l=some {cls:=.type "tuple",dict:=dd,data:=.seq items n,slots:=sl}∧R (.ok (.ret Value.notImplemented)) s):=
  .of_wp fun prog w A R s h=>by obtain⟨hp,g,d,tk,os⟩:=s;obtain⟨hl,h⟩:=h;wp_walk;exact⟨_,rfl,h⟩
theorem zO(l:Addr)(x:Value)(n:Nat)(k:Int)(u:Tok)(dd:Option Addr)(sl:Array (Option Value))(h0:2≤k)(h1:k≤100000):
    Meets (Builtin.«tuple.__mul__» ⟨[.ref l,.int k u],[]⟩) (fun _ R s=>s.heap.get? l=some {cls:=.type "tuple",dict:=dd,data:=.seq #[x] n,slots:=sl}∧
      R (.ok (.ret (.ref s.heap.objs.size))) {s with heap:=s.heap.push {cls:=.type "tuple",data:=.seq (List.replicate k.toNat x).toArray}}):=
  .of_wp fun prog w A R s h=>by
    obtain⟨hp,g,d,tk,os⟩:=s;obtain⟨hl,h⟩:=h
    have f1:=AutoSeq1.idx_int
    have c1:¬(decide (k < -(2 ^ 63)) || decide (k≥2 ^ 63))=true:=by simp;lia
    have c2:¬((#[x]:Array Value).isEmpty || k==1)=true:=by simp;lia
    have c3:¬(decide (k≤0) || (#[x]:Array Value).isEmpty)=true:=by simp;lia
    have c4:¬(((#[x]:Array Value).size:Int)*k > (2 ^ 63 - 1) / 8):=by simp;lia
    have c5:¬Builtin.Tuple.tupleTooMany (((#[x]:Array Value).size:Int)*k)=true:=by
      unfold Builtin.Tuple.tupleTooMany;rw [sizeLine_eq];simp;lia
    wp_walk using wpAny_loadPart' hl
    rw [if_neg c1]
    wp_walk using wpAny_loadPart' hl
    rw [if_neg c2]
    wp_walk using wpAny_loadPart' hl
    rw [if_neg c3]
    wp_walk using wpAny_loadPart' hl
    rw [if_neg c4]
    show wpAny _ _ (if Builtin.Tuple.tupleTooMany (((#[x]:Array Value).size:Int)*k)=true then _ else _) _ _ _
    rw [if_neg c5]
    have f0:∀(m:Nat) (acc:Array Value),List.foldl (fun x1 x2=>x1++x2) acc (List.replicate m #[x])=acc++(List.replicate m x).toArray:=by
      intro m
      induction m with
      | zero=>intro acc;simp
      | succ m ih=>intro acc;rw [List.replicate_succ,List.foldl_cons,ih,List.replicate_succ];apply Array.toList_inj.mp;simp
    have e:List.foldl (fun x1 x2=>x1++x2) #[] (List.replicate k.toNat #[x])=(List.replicate k.toNat x).toArray:=by rw [f0];simp
    show wpAny _ _ (Builtin.Tuple.tupleExact (List.foldl (fun x1 x2=>x1++x2) #[] (List.replicate k.toNat #[x])) >>= fun v=>ret v) _ _ _
    rw [e]
    unfold Builtin.Tuple.tupleExact
    refine wpAny_bind (wpAny_newObj_type ?_ (by show(List.replicate k.toNat x).toArray.size≤sizeLine;rw [List.size_toArray,List.length_replicate,sizeLine_eq];lia))
    exact wpAny_pure ⟨_,rfl,h⟩
theorem xl(l:Addr)(x:Value)(n:Nat)(u:Tok)(dd:Option Addr)(sl:Array (Option Value)):
    Meets (Builtin.«tuple.__mul__» ⟨[.ref l,.int 0 u],[]⟩) (fun _ R s=>s.heap.get? l=some {cls:=.type "tuple",dict:=dd,data:=.seq #[x] n,slots:=sl}∧R (.ok (.ret (.ref s.heap.objs.size))) {s with heap:=s.heap.push {cls:=.type "tuple",data:=.seq #[]}}):=
  .of_wp fun prog w A R s h=>by
    obtain⟨hp,g,d,tk,os⟩:=s;obtain⟨hl,h⟩:=h;have f1:=AutoSeq1.idx_int
    have c2:¬((#[x]:Array Value).isEmpty || (0:Int)==1)=true:=by simp
    wp_walk using wpAny_loadPart' hl
    first | rw [if_neg c2] | skip
    wp_walk using wpAny_loadPart' hl
    exact⟨_,rfl,h⟩
theorem xm(l:Addr)(x:Value)(n:Nat)(u:Tok)(dd:Option Addr)(sl:Array (Option Value)):
    Meets (Builtin.«tuple.__mul__» ⟨[.ref l,.int 1 u],[]⟩) (fun _ R s=>s.heap.get? l=some {cls:=.type "tuple",dict:=dd,data:=.seq #[x] n,slots:=sl}∧R (.ok (.ret (.ref l))) s):=
  .of_wp fun prog w A R s h=>by
    obtain⟨hp,g,d,tk,os⟩:=s;obtain⟨hl,h⟩:=h;have f1:=AutoSeq1.idx_int
    wp_walk using wpAny_loadPart' hl
    exact⟨_,rfl,h⟩
section
variable{X:Cx}
def vK(K:PySem.W.Frag):R2:=fun x y H Q=>∃a k v,x=.ref a∧y=.int k∧dY K H a [v]∧0≤k∧k≤100000∧∀p H',aA H H'→dY K H' p (List.replicate k.toNat v)→Q (.ref p) H'
theorem xI:eR X (binaryOp .Mult) (vK X.K):=by
  intro pins s σ H x y v u Q I rx ry h
  obtain⟨a,k,z,rfl,rfl,ha,k0,k1,q⟩:=h
  cases rx
  obtain⟨t,rfl⟩:=ry
  obtain⟨its,r,p,hz⟩:=I.tuple ha
  obtain⟨uz,rfl,rz⟩:=qX r
  obtain⟨⟨cls,dd,data,sl⟩,ho,hc,n,hd⟩:=id p
  simp only at hc hd
  subst hc hd
  refine wpAny_binaryOp_repeat_ref (T:="tuple") (U:="int") (by decide) ⟨_,ho,rfl⟩ (fun s'=>PySem.typeIs_int s' k t) tj F.fills_int_mul F.slot_int_rmul AB F.slot_int_index.lookup (call_meets F.slot_int_rmul (PySem.typeIs_int s k t) F.entry_int_rmul (F.args_int_rmul_2 _ _) (ya k t a #[uz] n dd sl) ⟨ho,rfl,⟨_,ho,rfl⟩,?_⟩)
  have new:∀m:Nat,m=k.toNat→EP X pins σ Q (.ref s.heap.objs.size) {s with heap:=s.heap.push {cls:=.type "tuple",data:=.seq (List.replicate m uz).toArray},toks:=s.toks}:=fun m hm=>by
    have hf:H s.heap.objs.size=none:=I.hok.fresh (Nat.le_refl _)
    have vv:∀j:Nat,aU (List.replicate j z) (List.replicate j uz):=fun j=>by
      induction j with
      | zero=>exact .nil
      | succ j ih=>exact .cons rz ih
    refine⟨.ref s.heap.objs.size,_,I.laid (t':=s.toks) (o:=.tup (List.replicate m z)) (fun b ob q=>Heap.get?_push_of_some _ q) (Nat.le_refl _) ⟨by rw [List.length_replicate,sizeLine_eq];lia,_,vv m,oz.new _ _⟩,rfl,q _ _ (aA.new hf) (dY.of (by rw [aH,hm]))⟩
  rcases(by lia:k=0∨k=1∨2≤k) with e | e | e
  · subst e
    exact call_meets F.slot_tuple_mul ⟨_,ho,rfl⟩ F.entry_tuple_mul (F.args_tuple_mul_2 _ _) (xl a uz n t dd sl) ⟨ho,new 0 rfl⟩
  · subst e
    exact call_meets F.slot_tuple_mul ⟨_,ho,rfl⟩ F.entry_tuple_mul (F.args_tuple_mul_2 _ _) (xm a uz n t dd sl) ⟨ho,⟨.ref a,H,I,rfl,q a H (aA.refl H) ha⟩⟩
  · exact call_meets F.slot_tuple_mul ⟨_,ho,rfl⟩ F.entry_tuple_mul (F.args_tuple_mul_2 _ _) (zO a uz n k t dd sl e k1) ⟨ho,new _ rfl⟩
end
end L2
namespace L2
open PySem PySem.Spec PyProof.Rows
section
variable{prog:Program}{w:World}{A:Around}{E:Value→Shared→Prop}{s:Shared}
end
section
variable{X:Cx}{a:Expr}{ta:TA}{p p2 p3 pos pos2 pos3:Pos}
end
end L2
namespace L2
open PySem PySem.Spec PyProof.Rows
section
variable{prog:Program}{w:World}{A:Around}{E:Value→Shared→Prop}{s:Shared}
end
section
variable{X:Cx}{K:PySem.W.Frag}{es:List Expr}{k0:Nat}{tp:Pos}{a:Expr}{ta:TA}{p pos:Pos}
end
end L2
namespace L2
open PySem PySem.Spec PyProof.Rows
theorem tL{X:Cx}:eR X (compareOp .IsNot) (fun x y H Q=>∃b c,x=.bl b∧y=.bl c∧Q (.bl (!(b==c))) H):=by
  intro pins s σ H x y v u Q I rx ry h
  obtain⟨b,c,rfl,rfl,q⟩:=h
  cases rx;cases ry
  refine wpAny_isNot_plain (by cases b<;>cases c<;>rfl) ⟨.bl (!(b==c)),H,I,?_,q⟩
  show Value.bool _=Value.bool _
  cases b<;>cases c<;>rfl
section
variable{prog:Program}{w:World}{A:Around}{E:Value→Shared→Prop}{s:Shared}
end
section
variable{prog:Program}{w:World}{A:Around}{E:Value→Shared→Prop}{s:Shared}
end
section
variable{prog:Program}{w:World}{A:Around}{E:Value→Shared→Prop}{s:Shared}
end
end L2
namespace L2
open PySem PySem.Spec PyProof.Rows
end L2
namespace L2
open PySem PySem.Spec PyProof.Rows
inductive ue where
  | vi (k:Int)
  | vb (x:Bool)
  | vn
def ue.toV:ue→V
  | .vi k=>.int k
  | .vb x=>.bl x
  | .vn=>.non
def ue.toD:ue→PyData
  | .vi k=>.int k
  | .vb x=>.bool x
  | .vn=>.none
mutual
def DA(K:PySem.W.Frag)(F:Hp):PyData→V→Prop
  | .none,v=>v=.non
  | .bool b,v=>v=.bl b
  | .int i,v=>v=.int i
  | .str x,v=>v=.str x
  | .tuple ds,v=>∃a xs,v=.ref a∧dY K F a xs∧aO K F ds xs
  | .list ds,v=>∃a xs,v=.ref a∧gL K F a xs∧aO K F ds xs
  | .dict kvs,v=>∃(a:Addr) (m:List (Int × ue)),v=.ref a∧F a=some (.dK (m.map fun p=>(Sum.inl p.1,p.2.toV)))∧kvs=m.map fun p=>(PyData.int p.1,p.2.toD)
def aO(K:PySem.W.Frag)(F:Hp):List PyData→List V→Prop
  | [],xs=>xs=[]
  | d::ds,xs=>∃x r,xs=x::r∧DA K F d x∧aO K F ds r
end
mutual
theorem DA.mono{K:PySem.W.Frag}{F F':Hp}(h:aA F F'):∀{d:PyData} {v:V},DA K F d v→DA K F' d v
  | .none,_,q=>by simp only [DA] at q ⊢;exact q
  | .bool b,_,q=>by simp only [DA] at q ⊢;exact q
  | .int i,_,q=>by simp only [DA] at q ⊢;exact q
  | .str x,_,q=>by simp only [DA] at q ⊢;exact q
  | .tuple ds,_,q=>by
    simp only [DA] at q ⊢
    obtain⟨a,xs,e,s,r⟩:=q
    exact⟨a,xs,e,h.tup s,aO.mono h r⟩
  | .list ds,_,q=>by
    simp only [DA] at q ⊢
    obtain⟨a,xs,e,s,r⟩:=q
    exact⟨a,xs,e,h.seq s,aO.mono h r⟩
  | .dict _,_,q=>by
    simp only [DA] at q ⊢
    obtain⟨a,m,e,s,k⟩:=q
    exact⟨a,m,e,h _ _ s,k⟩
theorem aO.mono{K:PySem.W.Frag}{F F':Hp}(h:aA F F'):∀{ds:List PyData} {xs:List V},aO K F ds xs→aO K F' ds xs
  | [],_,q=>by simp only [aO] at q ⊢;exact q
  | d::ds,_,q=>by
    simp only [aO] at q ⊢
    obtain⟨x,r,e,a,b⟩:=q
    exact⟨x,r,e,DA.mono h a,aO.mono h b⟩
end
section
variable{K:PySem.W.Frag}{F:Hp}
theorem aO.len:∀{ds:List PyData} {xs:List V},aO K F ds xs→ds.length=xs.length
  | [],_,q=>by simp only [aO] at q;subst q;rfl
  | d::ds,_,q=>by
    simp only [aO] at q
    obtain⟨x,r,e,a,b⟩:=q
    subst e
    simp [aO.len b]
theorem aO.get:∀{ds:List PyData} {xs:List V} {i:Nat} {d:PyData},aO K F ds xs→ds[i]?=some d→∃v,xs[i]?=some v∧DA K F d v
  | [],_,_,_,_,h=>by simp at h
  | d::ds,_,i,d',q,h=>by
    simp only [aO] at q
    obtain⟨x,r,e,a,b⟩:=q
    subst e
    cases i with
    | zero=>simp at h;subst h;exact⟨x,rfl,a⟩
    | succ i=>
      obtain⟨v,h1,h2⟩:=aO.get (i:=i) b (by simpa using h)
      exact⟨v,by simpa using h1,h2⟩
theorem aO.append:∀{ds es:List PyData} {xs ys:List V},aO K F ds xs→aO K F es ys→aO K F (ds++es) (xs++ys)
  | [],_,_,_,q,s=>by simp only [aO] at q;subst q;simpa using s
  | d::ds,es,_,ys,q,s=>by
    simp only [aO] at q
    obtain⟨x,r,e,a,b⟩:=q
    subst e
    simp only [List.cons_append,aO]
    exact⟨x,_,rfl,a,aO.append b s⟩
theorem aO.one{d:PyData}{v:V}(h:DA K F d v):aO K F [d] [v]:=by simp only [aO];exact⟨_,_,rfl,h,rfl⟩
theorem aO.nil:aO K F [] []:=by simp only [aO]
theorem aO.cons{d:PyData}{v:V}{ds:List PyData}{vs:List V}(h:DA K F d v)(r:aO K F ds vs):aO K F (d::ds) (v::vs):=by simp only [aO];exact⟨_,_,rfl,h,r⟩
theorem aO.drop:∀{ds:List PyData} {xs:List V} (n:Nat),aO K F ds xs→aO K F (ds.drop n) (xs.drop n)
  | _,_,0,q=>q
  | [],_,n+1,q=>by simp only [aO] at q;subst q;exact aO.nil
  | d::ds,_,n+1,q=>by
    simp only [aO] at q
    obtain⟨x,r,e,a,b⟩:=q
    subst e
    simpa using aO.drop n b
theorem aO.take:∀{ds:List PyData} {xs:List V} (n:Nat),aO K F ds xs→aO K F (ds.take n) (xs.take n)
  | _,_,0,q=>by simpa using aO.nil
  | [],_,n+1,q=>by simp only [aO] at q;subst q;exact aO.nil
  | d::ds,_,n+1,q=>by
    simp only [aO] at q
    obtain⟨x,r,e,a,b⟩:=q
    subst e
    simpa using aO.cons a (aO.take n b)
theorem aO.erase:∀{ds:List PyData} {xs:List V} (n:Nat),aO K F ds xs→aO K F (ds.eraseIdx n) (xs.eraseIdx n)
  | [],_,_,q=>by simp only [aO] at q;subst q;exact aO.nil
  | e::ds,_,n,q=>by
    simp only [aO] at q
    obtain⟨x,r,e,a,b⟩:=q
    subst e
    cases n with
    | zero=>exact b
    | succ n=>exact aO.cons a (aO.erase n b)
theorem aO.ints:∀{ns:List Int} {xs:List V},aO K F (ns.map .int) xs↔ xs=ns.map V.int
  | [],xs=>by simp [aO]
  | n::ns,xs=>by
    simp only [List.map_cons,aO,DA]
    constructor
    · rintro⟨x,r,e,rfl,q⟩;rw [e,aO.ints.mp q]
    · rintro rfl;exact⟨_,_,rfl,rfl,aO.ints.mpr rfl⟩
theorem aO.bools:∀{ns:List Bool} {xs:List V},aO K F (ns.map .bool) xs↔ xs=ns.map V.bl
  | [],xs=>by simp [aO]
  | n::ns,xs=>by
    simp only [List.map_cons,aO,DA]
    constructor
    · rintro⟨x,r,e,rfl,q⟩;rw [e,aO.bools.mp q]
    · rintro rfl;exact⟨_,_,rfl,rfl,aO.bools.mpr rfl⟩
theorem bK{i:Int}{v:V}:DA K F (.int i) v↔ v=.int i:=by simp only [DA]
theorem cE{b:Bool}{v:V}:DA K F (.bool b) v↔ v=.bl b:=by simp only [DA]
theorem jE{v:V}:DA K F .none v↔ v=.non:=by simp only [DA]
theorem qH{x:Str}{v:V}:DA K F (.str x) v↔ v=.str x:=by simp only [DA]
theorem dj{ds:List PyData}{v:V}:DA K F (.tuple ds) v↔ ∃a xs,v=.ref a∧dY K F a xs∧aO K F ds xs:=by simp only [DA]
theorem cW{ds:List PyData}{v:V}:DA K F (.list ds) v↔ ∃a xs,v=.ref a∧gL K F a xs∧aO K F ds xs:=by simp only [DA]
end
inductive Sv where
  | d (x:PyData)
  | l (xs:List PyData)
  /-- a list of lists that nobody else holds -/
  | n (xss:List (List PyData))
abbrev En:=List (Option Sv)
inductive Rv where
  | d (x:PyData)
  | l (xs:List PyData)
  | s (i:Nat)
def Fp(σ:L2.St)(e:En)(H:Hp)(i:Nat)(a:Addr):Prop:=(∃xs:List PyData,e[i]?=some (some (Sv.l xs))∧σ[i]?=some (some (.ref a)))∨
  ∃(xss:List (List PyData)) (l:Addr) (bs:List Addr),e[i]?=some (some (Sv.n xss))∧σ[i]?=some (some (.ref l))∧H l=some (.lst (bs.map V.ref))∧(a=l∨a∈bs)
def cP(σ:L2.St)(e:En)(H:Hp)(a:Addr):Prop:=∃i,Fp σ e H i a
structure bi (K:PySem.W.Frag) (F H:Hp) (σ:L2.St) (e:En):Prop where
  sm:aA F H
  len:σ.length=e.length
  dat:∀(i:Nat) (x:PyData),e[i]?=some (some (.d x))→∃v,σ[i]?=some (some v)∧DA K F x v
  own:∀(i:Nat) (xs:List PyData),e[i]?=some (some (.l xs))→∃l vs,σ[i]?=some (some (.ref l))∧F l=none∧H l=some (.lst vs)∧aO K F xs vs
  nst:∀(i:Nat) (xss:List (List PyData)),e[i]?=some (some (.n xss))→∃(l:Addr) (bs:List Addr),σ[i]?=some (some (.ref l))∧F l=none∧H l=some (.lst (bs.map V.ref))∧bs.length=xss.length∧bs.Nodup∧l∉bs∧
    ∀(k:Nat) (b:Addr) (ys:List PyData),bs[k]?=some b→xss[k]?=some ys→F b=none∧∃us,H b=some (.lst us)∧aO K F ys us
  fp:∀(i j:Nat) (a:Addr),Fp σ e H i a→Fp σ e H j a→i=j
theorem bi.inj{K:PySem.W.Frag}{F H:Hp}{σ:L2.St}{e:En}(R:bi K F H σ e)(i j:Nat)(xs ys:List PyData)(l:Addr)(h1:e[i]?=some (some (.l xs)))(h2:e[j]?=some (some (.l ys)))(h3:σ[i]?=some (some (.ref l)))(h4:σ[j]?=some (some (.ref l))):i=j:=R.fp i j l (.inl ⟨xs,h1,h3⟩) (.inl ⟨ys,h2,h4⟩)
theorem bi.fpAt{K:PySem.W.Frag}{F H:Hp}{σ:L2.St}{e:En}(R:bi K F H σ e){i:Nat}{a:Addr}(h:Fp σ e H i a):F a=none∧∃vs,H a=some (.lst vs):=by
  rcases h with ⟨xs,h1,h2⟩ | ⟨xss,l,bs,h1,h2,h3,h4⟩
  · obtain⟨l,vs,g1,g2,g3,_⟩:=R.own i xs h1
    rw [h2] at g1;cases g1
    exact⟨g2,vs,g3⟩
  · obtain⟨l',bs',g1,g2,g3,g4,g5,g6,g7⟩:=R.nst i xss h1
    rw [h2] at g1;cases g1
    rw [h3] at g3
    have e1:bs=bs':=by
      have:=HO.lst.inj (Option.some.inj g3)
      exact List.map_inj_right (fun _ _ z=>V.ref.inj z) |>.mp this
    subst e1
    rcases h4 with rfl | h4
    · exact⟨g2,_,h3⟩
    · obtain⟨k,hk⟩:=List.getElem?_of_mem h4
      have hk2:k < xss.length:=by rw [←g4];exact(List.getElem?_eq_some_iff.mp hk).1
      obtain⟨c1,us,c2,_⟩:=g7 k a xss[k] hk (List.getElem?_eq_getElem hk2)
      exact⟨c1,us,c2⟩
structure dX (σ:L2.St) (F H:Hp) (e:En) (F' H':Hp) (e':En):Prop where
  sf:aA F F'
  dom:∀a,H' a=none→H a=none
  fr:∀a vs,F a=none→H a=some (.lst vs)→¬cP σ e H a→F' a=none
  lst:∀a vs,H a=some (.lst vs)→∃vs',H' a=some (.lst vs')
  tmp:∀a o,H a=some o→¬cP σ e H a→H' a=some o
  shp:∀i:Nat,(∃xs,e'[i]?=some (some (.l xs)))↔ (∃xs,e[i]?=some (some (.l xs)))
  ow:∀a,cP σ e' H' a→cP σ e H a∨H a=none
  fd:∀a m,F a=none→H a=some (.dK m)→¬cP σ e H a→F' a=none
theorem dX.refl(σ:L2.St)(F H:Hp)(e:En):dX σ F H e F H e:=⟨aA.refl _,fun _ h=>h,fun _ _ h _ _=>h,fun _ vs h=>⟨vs,h⟩,fun _ _ h _=>h,fun _=>Iff.rfl,fun _ h=>.inl h,fun _ _ h _ _=>h⟩
theorem dX.trans{σ:L2.St}{F H F1 H1 F2 H2:Hp}{e e1 e2:En}(x:dX σ F H e F1 H1 e1)(y:dX σ F1 H1 e1 F2 H2 e2):dX σ F H e F2 H2 e2:=
  ⟨x.sf.trans y.sf,fun a h=>x.dom a (y.dom a h),fun a vs h n no=>let ⟨vs',q⟩:=x.lst a vs n;y.fr a vs' (x.fr a vs h n no) q (fun z=>(x.ow a z).elim no fun z=>by rw [n] at z;cases z),fun a vs h=>let ⟨vs',q⟩:=x.lst a vs h;y.lst a vs' q,
    fun a o h n=>y.tmp a o (x.tmp a o h n) (fun z=>(x.ow a z).elim n fun z=>by rw [h] at z;cases z),fun i=>(y.shp i).trans (x.shp i),fun a h=>(y.ow a h).elim (x.ow a) fun z=>.inr (x.dom a z),fun a m h n no=>y.fd a m (x.fd a m h n no) (x.tmp a _ n no) (fun z=>(x.ow a z).elim no fun z=>by rw [n] at z;cases z)⟩
def cG(K:PySem.W.Frag)(σ:L2.St)(H0 F H:Hp)(e:En):Rv→V→Prop
  | .d x,v=>DA K F x v
  | .l xs,v=>∃l vs,v=.ref l∧H0 l=none∧F l=none∧H l=some (.lst vs)∧aO K F xs vs∧¬cP σ e H l
  | .s i,v=>σ[i]?=some (some v)∧∃xs,e[i]?=some (some (.l xs))
section
variable{K:PySem.W.Frag}{σ:L2.St}{H0 F H F' H':Hp}{e e':En}{r:Rv}{v:V}
theorem cG.ext(h:cG K σ H0 F H e r v)(x:dX σ F H e F' H' e'):cG K σ H0 F' H' e' r v:=by
  cases r with
  | d y=>exact DA.mono x.sf h
  | l xs=>
    obtain⟨l,vs,e1,h1,h2,h3,h4,h5⟩:=h
    exact⟨l,vs,e1,h1,x.fr l _ h2 h3 h5,x.tmp l _ h3 h5,aO.mono x.sf h4,fun z=>(x.ow l z).elim h5 fun z=>by rw [h3] at z;cases z⟩
  | s i=>exact⟨h.1,(x.shp i).mpr h.2⟩
theorem cG.weak{H1:Hp}(h:cG K σ H1 F H e r v)(d:∀a,H1 a=none→H0 a=none):cG K σ H0 F H e r v:=by
  cases r with
  | d y=>exact h
  | l xs=>
    obtain⟨l,vs,e1,h1,r⟩:=h
    exact⟨l,vs,e1,d l h1,r⟩
  | s i=>exact h
theorem bi.ownH(R:bi K F H σ e)(a:Addr)(h:cP σ e H a):H a≠none:=by
  obtain⟨i,h⟩:=h
  obtain⟨_,vs,h2⟩:=R.fpAt h
  rw [h2];simp
theorem bi.freeF(R:bi K F H σ e){p:Addr}(hp:H p=none):F p=none:=R.sm.free hp
theorem wW(R:bi K F H σ e)(h:∀l bs,H l=some (.lst bs)→cP σ e H l→H' l=some (.lst bs)){i:Nat}{a:Addr}:Fp σ e H' i a↔ Fp σ e H i a:=by
  have key:∀xss l,e[i]?=some (some (.n xss))→σ[i]?=some (some (.ref l))→H' l=H l:=fun xss l h1 h2=>by
    obtain⟨l',bs,g1,g2,g3,_⟩:=R.nst i xss h1
    rw [h2] at g1;cases g1
    rw [g3]
    exact h l _ g3 ⟨i,.inr ⟨xss,l,bs,h1,h2,g3,.inl rfl⟩⟩
  constructor
  · rintro(h1 | ⟨xss,l,bs,h1,h2,h3,h4⟩)
    · exact .inl h1
    · exact .inr ⟨xss,l,bs,h1,h2,by rw [←key xss l h1 h2];exact h3,h4⟩
  · rintro(h1 | ⟨xss,l,bs,h1,h2,h3,h4⟩)
    · exact .inl h1
    · exact .inr ⟨xss,l,bs,h1,h2,by rw [key xss l h1 h2];exact h3,h4⟩
theorem bi.keep(R:bi K F H σ e)(sF:aA F F')(sm:aA F' H')(hf:∀a,cP σ e H a→F' a=none)(hh:∀a o,cP σ e H a→H a=some o→H' a=some o):bi K F' H' σ e∧∀a,cP σ e H' a↔ cP σ e H a:=by
  have fs:∀{i a},Fp σ e H' i a↔ Fp σ e H i a:=fun{i a}=>wW R fun l bs h1 h2=>hh l _ h2 h1
  refine⟨⟨sm,R.len,fun i x h=>let ⟨v,h1,h2⟩:=R.dat i x h;⟨v,h1,DA.mono sF h2⟩,fun i xs h=>?_,fun i xss h=>?_,fun i j a h1 h2=>R.fp i j a (fs.mp h1) (fs.mp h2)⟩,fun a=>⟨fun⟨i,h⟩=>⟨i,fs.mp h⟩,fun⟨i,h⟩=>⟨i,fs.mpr h⟩⟩⟩
  · obtain⟨l,vs,h1,h2,h3,h4⟩:=R.own i xs h
    have o:cP σ e H l:=⟨i,.inl ⟨xs,h,h1⟩⟩
    exact⟨l,vs,h1,hf l o,hh l _ o h3,h4.mono sF⟩
  · obtain⟨l,bs,h1,h2,h3,h4,h5,h6,h7⟩:=R.nst i xss h
    have o:cP σ e H l:=⟨i,.inr ⟨xss,l,bs,h,h1,h3,.inl rfl⟩⟩
    refine⟨l,bs,h1,hf l o,hh l _ o h3,h4,h5,h6,fun k b ys g1 g2=>?_⟩
    obtain⟨c1,us,c2,c3⟩:=h7 k b ys g1 g2
    have ob:cP σ e H b:=⟨i,.inr ⟨xss,l,bs,h,h1,h3,.inr (List.mem_of_getElem? g1)⟩⟩
    exact⟨hf b ob,us,hh b _ ob c2,c3.mono sF⟩
theorem bi.same(R:bi K F H σ e)(s:aA H H'):bi K F H' σ e∧dX σ F H e F H' e:=by
  obtain⟨R',o'⟩:=R.keep (aA.refl F) (R.sm.trans s) (fun a ⟨i,h⟩=>(R.fpAt h).1) fun a o _ h=>s a o h
  exact⟨R',⟨aA.refl _,fun a h=>s.free h,fun _ _ h _ _=>h,fun a vs h=>⟨vs,s _ _ h⟩,fun a o h _=>s a o h,fun _=>Iff.rfl,fun a h=>.inl ((o' a).mp h),fun _ _ h _ _=>h⟩⟩
theorem bi.freeze(R:bi K F H σ e){p:Addr}{o:HO}(hF:F p=none)(hp:H p=some o)(hn:¬cP σ e H p):bi K (cu F p o) H σ e∧aA F (cu F p o):=by
  have sF:aA F (cu F p o):=aA.new hF
  refine⟨(R.keep sF (fun b u q=>?_) (fun a ha=>?_) fun _ _ _ h=>h).1,sF⟩
  · by_cases z:b=p
    · subst z;rw [aH] at q;cases q;exact hp
    · rw [aN z] at q;exact R.sm _ _ q
  · obtain⟨i,hi⟩:=ha
    have z:a≠p:=fun z=>hn ⟨i,by rw [←z];exact hi⟩
    rw [aN z];exact(R.fpAt hi).1
theorem bi.notOwn(R:bi K F H σ e){p:Addr}{o:HO}(hp:H p=some o)(hl:∀vs,o≠.lst vs):¬cP σ e H p:=fun⟨i,h⟩=>by
  obtain⟨_,vs,g⟩:=R.fpAt h
  rw [hp] at g;cases g
  exact hl _ rfl
theorem bi.newT(R:bi K F H σ e){p:Addr}{vs:List V}(hp:H p=none):bi K (cu F p (.tup vs)) (cu H p (.tup vs)) σ e∧dX σ F H e (cu F p (.tup vs)) (cu H p (.tup vs)) e:=by
  have hF:=R.freeF hp
  obtain⟨R1,X1⟩:=R.same (aA.new hp (o:=.tup vs))
  obtain⟨R2,s2⟩:=R1.freeze (p:=p) hF aH (R1.notOwn aH (fun _ z=>nomatch z))
  refine⟨R2,⟨s2,X1.dom,fun a ws h n _=>?_,X1.lst,X1.tmp,X1.shp,X1.ow,fun a ws h n _=>?_⟩⟩
  all_goals
    have z:a≠p:=fun z=>by rw [z,hp] at n;cases n
    rw [aN z];exact h
theorem bi.sameOwn(R:bi K F H σ e)(s:aA H H')(a:Addr):cP σ e H' a↔ cP σ e H a:=(R.keep (aA.refl F) (R.sm.trans s) (fun a ⟨i,h⟩=>(R.fpAt h).1) fun a o _ h=>s a o h).2 a
theorem bi.newL(R:bi K F H σ e){p:Addr}{vs:List V}(hp:H p=none):bi K F (cu H p (.lst vs)) σ e∧dX σ F H e F (cu H p (.lst vs)) e∧F p=none∧¬cP σ e (cu H p (.lst vs)) p:=
  ⟨(R.same (aA.new hp)).1,(R.same (aA.new hp)).2,R.freeF hp,fun z=>R.ownH p ((R.sameOwn (aA.new hp) p).mp z) hp⟩
theorem bi.growT(R:bi K F H σ e){p:Addr}{xs:List V}(s:aA H H')(hp:dY K H' p xs):∃F',bi K F' H' σ e∧dX σ F H e F' H' e∧dY K F' p xs:=by
  obtain⟨R1,X1⟩:=R.same s
  rcases hp with hp | hp
  · have key:∀o,H' p=some o→(∀vs,o≠.lst vs)→(∀m,o≠.dK m)→(∀G:Hp,G p=some o→Rd G p (.tup xs))→∃F',bi K F' H' σ e∧dX σ F H e F' H' e∧dY K F' p xs:=by
      intro o ho hl hm hr
      cases q:F p with
      | some u=>
        have:=R1.sm _ _ q
        rw [ho] at this;cases this
        exact⟨F,R1,X1,.inl (hr F q)⟩
      | none=>
        obtain⟨R2,s2⟩:=R1.freeze q ho (R1.notOwn ho hl)
        refine⟨_,R2,⟨s2,X1.dom,fun a ws h n _=>?_,X1.lst,X1.tmp,X1.shp,X1.ow,fun a ws h n _=>?_⟩,.inl (hr _ aH)⟩
        · have z:a≠p:=fun z=>by rw [z] at n;rw [s _ _ n] at ho;cases ho;exact hl _ rfl
          rw [aN z];exact h
        · have z:a≠p:=fun z=>by rw [z] at n;rw [s _ _ n] at ho;cases ho;exact hm _ rfl
          rw [aN z];exact h
    rcases hp with hp | ⟨ob,hp⟩
    · exact key _ hp (fun _ z=>nomatch z) (fun _ z=>nomatch z) fun G g=>.inl g
    · exact key _ hp (fun _ z=>nomatch z) (fun _ z=>nomatch z) fun G g=>.inr ⟨ob,g⟩
  · exact⟨F,R1,X1,.inr hp⟩
theorem cG.frozen(R:bi K F H σ e){xs:List PyData}(h:cG K σ H0 F H e (.l xs) v):∃F',bi K F' H σ e∧aA F F'∧DA K F' (.list xs) v∧(∀a,F a=none→H0 a≠none→F' a=none):=by
  obtain⟨l,vs,rfl,h1,h2,h3,h4,h5⟩:=h
  obtain⟨R2,s2⟩:=R.freeze h2 h3 h5
  refine⟨_,R2,s2,?_,fun a ha hn=>?_⟩
  · rw [cW]
    exact⟨l,vs,rfl,.inl (.inl aH),aO.mono s2 h4⟩
  · have z:a≠l:=fun z=>hn (by rw [z];exact h1)
    rw [aN z];exact ha
def fF(e:En):Rv→Option (Bool × List PyData)
  | .d (.tuple xs)=>some (false,xs)
  | .d (.list xs)=>some (true,xs)
  | .l xs=>some (true,xs)
  | .s i=>match e[i]? with
    | some (some (.l xs))=>some (true,xs)
    | _=>none
  | _=>none
theorem dz(R:bi K F H σ e)(h:cG K σ H0 F H e r v){b:Bool}{xs:List PyData}(q:fF e r=some (b,xs)):
    ∃p vs,v=.ref p∧aO K F xs vs∧(if b=true then gL K H p vs else dY K H p vs):=by
  cases r with
  | d x=>
    cases x with
    | tuple ds=>
      cases q
      obtain⟨a,ys,e1,e2,e3⟩:=dj.mp h
      exact⟨a,ys,e1,e3,R.sm.tup e2⟩
    | list ds=>
      cases q
      obtain⟨a,ys,e1,e2,e3⟩:=cW.mp h
      exact⟨a,ys,e1,e3,R.sm.seq e2⟩
    | _=>cases q
  | l ys=>
    cases q
    obtain⟨l,vs,e1,h1,h2,h3,h4,_⟩:=h
    exact⟨l,vs,e1,h4,.inl (.inl h3)⟩
  | s i=>
    obtain⟨h1,ys,h2⟩:=h
    simp only [fF,h2] at q
    cases q
    obtain⟨l,vs,e1,e2,e3,e4⟩:=R.own i _ h2
    rw [h1] at e1;cases e1
    exact⟨l,vs,rfl,e4,.inl (.inl e3)⟩
end
end L2
namespace L2
open PySem PySem.Spec PyProof.Rows
abbrev FE:=En→Option (Rv × En)
abbrev FT:=En→Option (Bool × En)
abbrev FA:=En→Option (List Rv × En)
def dB(K:PySem.W.Frag)(σ:L2.St)(H0 F H:Hp)(e:En):List Rv→List V→Prop
  | [],vs=>vs=[]
  | r::rs,vs=>∃v ws,vs=v::ws∧cG K σ H0 F H e r v∧dB K σ H0 F H e rs ws
def fE(K:PySem.W.Frag)(f:FE):TE:=fun σ H Q=>∃F e r e',bi K F H σ e∧f e=some (r,e')∧∀F' H' v,dX σ F H e F' H' e'→bi K F' H' σ e'→cG K σ H F' H' e' r v→Q v H'
def fT(K:PySem.W.Frag)(f:FT):TT:=fun σ H Q=>∃F e b e',bi K F H σ e∧f e=some (b,e')∧∀F' H',dX σ F H e F' H' e'→bi K F' H' σ e'→Q b H'
def fA(K:PySem.W.Frag)(f:FA):TA:=fun σ H Q=>∃F e rs e',bi K F H σ e∧f e=some (rs,e')∧∀F' H' vs,dX σ F H e F' H' e'→bi K F' H' σ e'→dB K σ H F' H' e' rs vs→Q vs H'
theorem PE.mono{X:Cx}{e:Expr}{t t':TE}(h:PE X e t)(m:∀σ H Q,t' σ H Q→t σ H Q):PE X e t':=fun pins s σ H Q I q=>h pins s σ H Q I (m σ H Q q)
theorem PT.mono{X:Cx}{e:Expr}{t t':TT}(h:PT X e t)(m:∀σ H Q,t' σ H Q→t σ H Q):PT X e t':=fun pins s σ H Q I q=>h pins s σ H Q I (m σ H Q q)
theorem PW.mono{X:Cx}{e:Expr}{t t':TT}(h:PW X e t)(m:∀σ H Q,t' σ H Q→t σ H Q):PW X e t':=fun wh pins s σ H Q I q=>h wh pins s σ H Q I (m σ H Q q)
theorem PA.mono{X:Cx}{es:List Expr}{t t':TA}(h:PA X es t)(m:∀σ H Q,t' σ H Q→t σ H Q):PA X es t':=fun pos pins s σ H Q I q=>h pos pins s σ H Q I (m σ H Q q)
section
variable{K:PySem.W.Frag}{σ:L2.St}{H0 F H F' H':Hp}{e e':En}
theorem dB.weak{H1:Hp}(d:∀a,H1 a=none→H0 a=none):∀{rs:List Rv} {vs:List V},dB K σ H1 F H e rs vs→dB K σ H0 F H e rs vs
  | [],_,h=>h
  | r::rs,_,h=>by
    obtain⟨v,ws,rfl,h1,h2⟩:=h
    exact⟨v,ws,rfl,h1.weak d,dB.weak d h2⟩
theorem dX.frz{F'':Hp}(x:dX σ F H e F' H' e')(s:aA F' F'')(h:∀a,F' a=none→H a≠none→F'' a=none):dX σ F H e F'' H' e':=
  ⟨x.sf.trans s,x.dom,fun a vs h1 h2 h3=>h a (x.fr a vs h1 h2 h3) (by rw [h2];simp),x.lst,x.tmp,x.shp,x.ow,fun a m h1 h2 h3=>h a (x.fd a m h1 h2 h3) (by rw [h2];simp)⟩
def fQ:List Rv→Option (List PyData)
  | []=>some []
  | .d x::rs=>(fQ rs).map (x::·)
  | .l xs::rs=>(fQ rs).map (.list xs::·)
  | .s _::_=>none
theorem dB.frozen:∀{rs:List Rv} {vs:List V} {ds:List PyData} {F:Hp},bi K F H σ e→dB K σ H0 F H e rs vs→fQ rs=some ds→
    ∃F',bi K F' H σ e∧aA F F'∧aO K F' ds vs∧(∀a,F a=none→H0 a≠none→F' a=none)
  | [],_,_,F,R,h,q=>by
    cases q
    have h':_=[]:=h
    subst h'
    exact⟨F,R,aA.refl _,aO.nil,fun _ h _=>h⟩
  | .d x::rs,_,ds,F,R,h,q=>by
    obtain⟨v,ws,rfl,h1,h2⟩:=h
    obtain⟨ds',q1,rfl⟩:=Option.map_eq_some_iff.mp q
    obtain⟨F',R',s',d',f'⟩:=dB.frozen R h2 q1
    exact⟨F',R',s',.cons (DA.mono s' h1) d',f'⟩
  | .l xs::rs,_,ds,F,R,h,q=>by
    obtain⟨v,ws,rfl,h1,h2⟩:=h
    obtain⟨ds',q1,rfl⟩:=Option.map_eq_some_iff.mp q
    obtain⟨F',R',s',d',f'⟩:=dB.frozen R h2 q1
    obtain⟨l,us,rfl,g1,g2,g3,g4,g5⟩:=h1
    cases hl:F' l with
    | none=>
      have h1':cG K σ H0 F' H e (.l xs) (.ref l):=⟨l,us,rfl,g1,hl,g3,aO.mono s' g4,g5⟩
      obtain⟨F2,R2,s2,d2,f2⟩:=h1'.frozen R'
      exact⟨F2,R2,s'.trans s2,.cons d2 (aO.mono s2 d'),fun a ha hn=>f2 a (f' a ha hn) hn⟩
    | some o=>
      have:=R'.sm _ _ hl
      rw [g3] at this;cases this
      exact⟨F',R',s',.cons (cW.mpr ⟨l,us,rfl,.inl (.inl hl),aO.mono s' g4⟩) d',f'⟩
end
section
variable{X:Cx}{K:PySem.W.Frag}{a b c:Expr}{fa fb:FE}{ft fu:FT}{pos:Pos}{es:List Expr}{fs:FA}
def ac(i:Nat):FE:=fun e=>match e[i]? with
  | some (some (.d x))=>some (.d x,e)
  | some (some (.l _))=>some (.s i,e)
  | _=>none
def vC(x:PyData):FE:=fun e=>some (.d x,e)
theorem yq{i:Nat}{σ:L2.St}{H:Hp}{Q:VK}(h:fE K (ac i) σ H Q):tX i σ H Q:=by
  obtain⟨F,e,r,e',R,hf,q⟩:=h
  unfold ac at hf
  match h1:e[i]?,hf with
  | some (some (.d x)),hf=>
    cases hf
    obtain⟨v,h2,h3⟩:=R.dat i x h1
    exact⟨v,h2,q F H v (dX.refl _ _ _ _) R h3⟩
  | some (some (.n _)),hf=>cases hf
  | some (some (.l xs)),hf=>
    cases hf
    obtain⟨l,vs,h2,h3⟩:=R.own i xs h1
    exact⟨_,h2,q F H _ (dX.refl _ _ _ _) R ⟨h2,xs,h1⟩⟩
  | some none,hf=>cases hf
  | none,hf=>cases hf
theorem qv(i:Nat){x:Str}{pos:Pos}(hN:X.N[i]?=some x)(hv:Bb X.env.scope x)(hd:(x==("__debug__":Str))=false)(hcd:(x==("__classdict__":Str))=false):PE X (.Name x pos) (fE K (ac i)):=(qZ hN hv hd hcd).mono fun _ _ _ h=>yq h
theorem wj{x:PyData}{v:V}{σ:L2.St}{H:Hp}{Q:VK}(hx:∀F,DA K F x v)(h:fE K (vC x) σ H Q):tC v σ H Q:=by
  obtain⟨F,e,r,e',R,hf,q⟩:=h
  cases hf
  exact q F H v (dX.refl _ _ _ _) R (hx F)
theorem af{i j pos}:PE X (.Constant (.int i) j pos) (fE K (vC (.int i))):=Ac.mono fun _ _ _ h=>wj (fun _=>bK.mpr rfl) h
theorem dr{b j pos}:PE X (.Constant (.bool b) j pos) (fE K (vC (.bool b))):=ms.mono fun _ _ _ h=>wj (fun _=>cE.mpr rfl) h
theorem i3{x:Str}{v:V}{u:Value}{pos:Pos}{y:PyData}(hg:Gl X x)(hm:X.mg x=some u)(r:bz v u)(hy:∀F,DA K F y v)(hd:(x==("__debug__":Str))=false):PE X (.Name x pos) (fE K (vC y)):=(i0 hg hm r hd).mono fun _ _ _ h=>wj hy h
def eQ(K:PySem.W.Frag)(r:R2)(g:En→Rv→Rv→Option Rv):Prop:=
  ∀(σ:L2.St) (H0 F H:Hp) (e:En) (x y z:Rv) (v u:V) (Q:VK),bi K F H σ e→cG K σ H0 F H e x v→cG K σ H0 F H e y u→g e x y=some z→
    (∀F' H' w,dX σ F H e F' H' e→bi K F' H' σ e→cG K σ H F' H' e z w→Q w H')→r v u H Q
def ar(g:En→Rv→Rv→Option Rv)(fa fb:FE):FE:=fun e=>(fa e).bind fun p=>(fb p.2).bind fun q=>(g q.2 p.1 q.1).map fun z=>(z,q.2)
theorem pB{r:R2}{g:En→Rv→Rv→Option Rv}(ho:eQ K r g){σ:L2.St}{H:Hp}{Q:VK}(h:fE K (ar g fa fb) σ H Q):AN r (fE K fa) (fE K fb) σ H Q:=by
  obtain⟨F,e,z,e2,R,hf,q⟩:=h
  unfold ar at hf
  obtain⟨⟨x,e1⟩,h1,hf⟩:=Option.bind_eq_some_iff.mp hf
  obtain⟨⟨y,e2'⟩,h2,hf⟩:=Option.bind_eq_some_iff.mp hf
  obtain⟨z',h3,hf⟩:=Option.map_eq_some_iff.mp hf
  cases hf
  refine⟨F,e,x,e1,R,h1,fun F1 H1 v X1 R1 A1=>⟨F1,e1,y,_,R1,h2,fun F2 H2 u X2 R2 A2=>?_⟩⟩
  have X12:=X1.trans X2
  refine ho σ H F2 H2 _ x y _ v u Q R2 (A1.ext X2) (A2.weak X1.dom) h3 fun F3 H3 w X3 R3 A3=>?_
  exact q F3 H3 w (X12.trans X3) R3 (A3.weak X12.dom)
theorem mC{op:Operator}{r:R2}{g:En→Rv→Rv→Option Rv}(hr:eR X (binaryOp op) r)(ho:eQ K r g)(ha:PE X a (fE K fa))(hb:PE X b (fE K fb)):PE X (.BinOp a op b pos) (fE K (ar g fa fb)):=(yV hr ha hb).mono fun _ _ _ h=>pB ho h
theorem As{op:CmpOp}{r:R2}{g:En→Rv→Rv→Option Rv}(hr:eR X (compareOp op) r)(ho:eQ K r g)(ha:PE X a (fE K fa))(hb:PE X b (fE K fb))(hm:behindInMarks op b=false):PE X (.Compare a [op] [b] pos) (fE K (ar g fa fb)):=(rV hr ha hb hm).mono fun _ _ _ h=>pB ho h
theorem B0{r:R2}{g:En→Rv→Rv→Option Rv}(hr:wF X r)(ho:eQ K r g)(ha:PE X a (fE K fa))(hb:PE X b (fE K fb))(hs:oC b):PE X (.Subscript a b pos) (fE K (ar g fa fb)):=(BU hr ha hb hs).mono fun _ _ _ h=>pB ho h
def qr(g:En→Rv→Option Rv)(fa:FE):FE:=fun e=>(fa e).bind fun p=>(g p.2 p.1).map fun z=>(z,p.2)
def Bm(K:PySem.W.Frag)(r:V→Hp→VK→Prop)(g:En→Rv→Option Rv):Prop:=
  ∀(σ:L2.St) (H0 F H:Hp) (e:En) (x z:Rv) (v:V) (Q:VK),bi K F H σ e→cG K σ H0 F H e x v→g e x=some z→
    (∀F' H' w,dX σ F H e F' H' e→bi K F' H' σ e→cG K σ H F' H' e z w→Q w H')→r v H Q
theorem wo{r:V→Hp→VK→Prop}{g:En→Rv→Option Rv}(ho:Bm K r g){σ:L2.St}{H:Hp}{Q:VK}(h:fE K (qr g fa) σ H Q):DT r (fE K fa) σ H Q:=by
  obtain⟨F,e,z,e2,R,hf,q⟩:=h
  unfold qr at hf
  obtain⟨⟨x,e1⟩,h1,hf⟩:=Option.bind_eq_some_iff.mp hf
  obtain⟨z',h3,hf⟩:=Option.map_eq_some_iff.mp hf
  cases hf
  refine⟨F,e,x,_,R,h1,fun F1 H1 v X1 R1 A1=>?_⟩
  refine ho σ H F1 H1 _ x _ v Q R1 A1 h3 fun F3 H3 w X3 R3 A3=>?_
  exact q F3 H3 w (X1.trans X3) R3 (A3.weak X1.dom)
theorem B1{op:UnaryOp}{r:V→Hp→VK→Prop}{g:En→Rv→Option Rv}(hr:CG X (unaryOp op) r)(ho:Bm K r g)(ha:PE X a (fE K fa)):PE X (.UnaryOp op a pos) (fE K (qr g fa)):=(BV hr ha).mono fun _ _ _ h=>wo ho h
def cz:Rv→Option Bool
  | .d (.bool b)=>some b
  | _=>none
theorem c8{σ:L2.St}{H0 F H:Hp}{e:En}{r:Rv}{v:V}{b:Bool}(h:cG K σ H0 F H e r v)(q:cz r=some b):v=.bl b:=by
  unfold cz at q
  split at q
  · cases q;exact cE.mp (show DA K F (.bool _) v from h)
  · cases q
theorem cU{σ:L2.St}{H0 F H:Hp}{e:En}{b:Bool}:cG K σ H0 F H e (.d (.bool b)) (.bl b):=(cE (K:=K) (F:=F)).mpr rfl
def ax(f:FE):FT:=fun e=>(f e).bind fun p=>(cz p.1).map fun b=>(b,p.2)
theorem qq{σ:L2.St}{H:Hp}{Q:Bool→Hp→Prop}(h:fT K (ax fa) σ H Q):fE K fa σ H fun x H'=>∃k,x=.bl k∧Q k H':=by
  obtain⟨F,e,b,e1,R,hf,q⟩:=h
  unfold ax at hf
  obtain⟨⟨x,e1'⟩,h1,hf⟩:=Option.bind_eq_some_iff.mp hf
  obtain⟨b',h3,hf⟩:=Option.map_eq_some_iff.mp hf
  cases hf
  exact⟨F,e,x,_,R,h1,fun F1 H1 v X1 R1 A1=>⟨_,c8 A1 h3,q F1 H1 X1 R1⟩⟩
theorem Av{op:CmpOp}{r:R2}{g:En→Rv→Rv→Option Rv}(hr:eR X (compareOp op) r)(ho:eQ K r g)(ha:PE X a (fE K fa))(hb:PE X b (fE K fb))(hm:behindInMarks op b=false):PT X (.Compare a [op] [b] pos) (fT K (ax (ar g fa fb))):=
  (xU hr ha hb hm).mono fun σ H Q h=>by
    obtain⟨F,e,z,e2,R,hf,q⟩:=qq h
    exact pB ho ⟨F,e,z,e2,R,hf,q⟩
theorem b_{e:Expr}(h:PE X e (fE K fa))(he:∀whole,isTrue e X.env whole=(do let v ←whole;standAt e.pos;holding [v] (truthy v))):PT X e (fT K (ax fa)):=(Ao h he).mono fun _ _ _ h=>qq h
def m5(f g:FT):FT:=fun e=>(f e).bind fun p=>if p.1=true then g p.2 else some (false,p.2)
def lu(f g:FT):FT:=fun e=>(f e).bind fun p=>if p.1=true then some (true,p.2) else g p.2
def c7(f:FT):FT:=fun e=>(f e).map fun p=>(!p.1,p.2)
theorem yo{σ:L2.St}{H:Hp}{Q:Bool→Hp→Prop}(h:fT K (m5 ft fu) σ H Q):Ci (fT K ft) (fT K fu) σ H Q:=by
  obtain⟨F,e,b,e1,R,hf,q⟩:=h
  unfold m5 at hf
  obtain⟨⟨x,e1'⟩,h1,hf⟩:=Option.bind_eq_some_iff.mp hf
  refine⟨F,e,x,e1',R,h1,fun F1 H1 X1 R1=>?_⟩
  cases x with
  | true=>exact⟨F1,e1',b,e1,R1,hf,fun F2 H2 X2 R2=>q F2 H2 (X1.trans X2) R2⟩
  | false=>cases hf;exact q F1 H1 X1 R1
theorem A0{σ:L2.St}{H:Hp}{Q:Bool→Hp→Prop}(h:fT K (lu ft fu) σ H Q):DS (fT K ft) (fT K fu) σ H Q:=by
  obtain⟨F,e,b,e1,R,hf,q⟩:=h
  unfold lu at hf
  obtain⟨⟨x,e1'⟩,h1,hf⟩:=Option.bind_eq_some_iff.mp hf
  refine⟨F,e,x,e1',R,h1,fun F1 H1 X1 R1=>?_⟩
  cases x with
  | false=>exact⟨F1,e1',b,e1,R1,hf,fun F2 H2 X2 R2=>q F2 H2 (X1.trans X2) R2⟩
  | true=>cases hf;exact q F1 H1 X1 R1
theorem yp{σ:L2.St}{H:Hp}{Q:Bool→Hp→Prop}(h:fT K (c7 ft) σ H Q):Cn (fT K ft) σ H Q:=by
  obtain⟨F,e,b,e1,R,hf,q⟩:=h
  unfold c7 at hf
  obtain⟨⟨x,e1'⟩,h1,hf⟩:=Option.map_eq_some_iff.mp hf
  cases hf
  exact⟨F,e,x,_,R,h1,fun F1 H1 X1 R1=>q F1 H1 X1 R1⟩
variable{dc:List Expr}
theorem x5(ha:PT X a (fT K ft)):PW X (.BoolOp .And [a] pos) (fT K ft):=xX ha
theorem hE(ha:PT X a (fT K ft)):PW X (.BoolOp .Or [a] pos) (fT K ft):=Ar ha
theorem Aw(ha:PT X a (fT K ft))(hb:PW X (.BoolOp .And (b::dc) pos) (fT K fu)):PW X (.BoolOp .And (a::b::dc) pos) (fT K (m5 ft fu)):=(Aq ha hb).mono fun _ _ _ h=>yo h
theorem iI(ha:PT X a (fT K ft))(hb:PW X (.BoolOp .Or (b::dc) pos) (fT K fu)):PW X (.BoolOp .Or (a::b::dc) pos) (fT K (lu ft fu)):=(BX ha hb).mono fun _ _ _ h=>A0 h
theorem cD(ha:PT X a (fT K ft)):PT X (.UnaryOp .Not a pos) (fT K (c7 ft)):=(An ha).mono fun _ _ _ h=>yp h
theorem nj{e:Expr}(h:PW X e (fT K ft)):PT X e (fT K ft):=h.pt
def fY(f g:FE):FE:=fun e=>(f e).bind fun p=>(cz p.1).bind fun b=>if b=true then g p.2 else some (.d (.bool false),p.2)
def ro(f g:FE):FE:=fun e=>(f e).bind fun p=>(cz p.1).bind fun b=>if b=true then some (.d (.bool true),p.2) else g p.2
def jd(f:FE):FE:=fun e=>(f e).bind fun p=>(cz p.1).map fun b=>(.d (.bool (!b)),p.2)
theorem my(ha:PE X a (fE K fa))(hb:PE X (.BoolOp .And (b::dc) pos) (fE K fb)):PE X (.BoolOp .And (a::b::dc) pos) (fE K (fY fa fb)):=(Ab ha hb).mono fun σ H Q h=>by
  obtain⟨F,e,z,e2,R,hf,q⟩:=h
  unfold fY at hf
  obtain⟨⟨x,e1⟩,h1,hf⟩:=Option.bind_eq_some_iff.mp hf
  obtain⟨b,h2,hf⟩:=Option.bind_eq_some_iff.mp hf
  refine⟨F,e,x,e1,R,h1,fun F1 H1 v X1 R1 A1=>⟨b,c8 A1 h2,?_⟩⟩
  cases b with
  | true=>exact⟨F1,e1,z,e2,R1,hf,fun F2 H2 w X2 R2 A2=>q F2 H2 w (X1.trans X2) R2 (A2.weak X1.dom)⟩
  | false=>cases hf;exact q F1 H1 _ X1 R1 cU
theorem mz{op}(h:PE X a (fE K fa)):PE X (.BoolOp op [a] pos) (fE K fa):=Af h
theorem Au(ha:PE X a (fE K fa)):PE X (.UnaryOp .Not a pos) (fE K (jd fa)):=(Ae ha).mono fun σ H Q h=>by
  obtain⟨F,e,z,e2,R,hf,q⟩:=h
  unfold jd at hf
  obtain⟨⟨x,e1⟩,h1,hf⟩:=Option.bind_eq_some_iff.mp hf
  obtain⟨b,h2,hf⟩:=Option.map_eq_some_iff.mp hf
  cases hf
  exact⟨F,e,x,_,R,h1,fun F1 H1 v X1 R1 A1=>⟨b,c8 A1 h2,q F1 H1 _ X1 R1 cU⟩⟩
def AZ(t:FT)(f g:FE):FE:=fun e=>(t e).bind fun p=>if p.1=true then f p.2 else g p.2
def iS(g g':En→Rv→Rv→Option Rv)(fa fb fc:FE):FE:=fun e=>(fa e).bind fun p=>(fb p.2).bind fun q=>(g q.2 p.1 q.1).bind fun z=>(cz z).bind fun k=>if k=true then(fc q.2).bind fun w=>(g' w.2 q.1 w.1).map fun z'=>(z',w.2) else some (.d (.bool false),q.2)
theorem t_{r r':R2}{g g':En→Rv→Rv→Option Rv}{fc:FE}(ho:eQ K r g)(ho':eQ K r' g'){σ:L2.St}{H:Hp}{Q:VK}(h:fE K (iS g g' fa fb fc) σ H Q):wa r r' (fE K fa) (fE K fb) (fE K fc) σ H Q:=by
  obtain⟨F,e,z,e4,R,hf,q⟩:=h
  unfold iS at hf
  obtain⟨⟨x,e1⟩,h1,hf⟩:=Option.bind_eq_some_iff.mp hf
  obtain⟨⟨y,e2⟩,h2,hf⟩:=Option.bind_eq_some_iff.mp hf
  obtain⟨z',h3,hf⟩:=Option.bind_eq_some_iff.mp hf
  obtain⟨k,h4,hf⟩:=Option.bind_eq_some_iff.mp hf
  refine⟨F,e,x,e1,R,h1,fun F1 H1 v X1 R1 A1=>⟨F1,e1,y,e2,R1,h2,fun F2 H2 u X2 R2 A2=>?_⟩⟩
  have X12:=X1.trans X2
  refine ho σ H F2 H2 e2 x y z' v u _ R2 (A1.ext X2) (A2.weak X1.dom) h3 fun F3 H3 w X3 R3 A3=>⟨k,c8 A3 h4,?_⟩
  have X13:=X12.trans X3
  cases k with
  | false=>
    cases hf
    exact q F3 H3 _ X13 R3 cU
  | true=>
    obtain⟨⟨w',e3⟩,h5,hf⟩:=Option.bind_eq_some_iff.mp hf
    obtain⟨z2,h6,hf⟩:=Option.map_eq_some_iff.mp hf
    cases hf
    refine⟨F3,_,w',_,R3,h5,fun F4 H4 u4 X4 R4 A4=>?_⟩
    have X14:=X13.trans X4
    refine ho' σ H F4 H4 _ y w' _ u u4 Q R4 (((A2.weak X1.dom).ext X3).ext X4) (A4.weak X13.dom) h6 fun F5 H5 w5 X5 R5 A5=>?_
    exact q F5 H5 w5 (X14.trans X5) R5 (A5.weak X14.dom)
theorem vG{op op':CmpOp}{r r':R2}{g g':En→Rv→Rv→Option Rv}{fc:FE}(hr:eR X (compareOp op) r)(ho:eQ K r g)(hr':eR X (compareOp op') r')(ho':eQ K r' g')(ha:PE X a (fE K fa))(hb:PE X b (fE K fb))(hc:PE X c (fE K fc))
    (hm:lastMarks [op,op'] [b,c]=false):PE X (.Compare a [op,op'] [b,c] pos) (fE K (iS g g' fa fb fc)):=(vq hr hr' ha hb hc hm).mono fun _ _ _ h=>t_ ho ho' h
def ai:FA:=fun e=>some ([],e)
def aa(fa:FE)(fs:FA):FA:=fun e=>(fa e).bind fun p=>(fs p.2).map fun q=>(p.1::q.1,q.2)
theorem ae:PA X [] (fA K ai):=g9.mono fun σ H Q h=>by
  obtain⟨F,e,r,e',R,hf,q⟩:=h
  cases hf
  exact q F H [] (dX.refl _ _ _ _) R rfl
theorem Dp(ha:PE X a (fE K fa))(hr:PA X es (fA K fs))(h:PySem.W.isStarred a=false):PA X (a::es) (fA K (aa fa fs)):=(Dm ha hr h).mono fun σ H Q h=>by
  obtain⟨F,e,z,e2,R,hf,q⟩:=h
  unfold aa at hf
  obtain⟨⟨x,e1⟩,h1,hf⟩:=Option.bind_eq_some_iff.mp hf
  obtain⟨⟨xs,e2'⟩,h2,hf⟩:=Option.map_eq_some_iff.mp hf
  cases hf
  refine⟨F,e,x,e1,R,h1,fun F1 H1 v X1 R1 A1=>⟨F1,e1,xs,_,R1,h2,fun F2 H2 vs X2 R2 A2=>?_⟩⟩
  exact q F2 H2 (v::vs) (X1.trans X2) R2 ⟨v,vs,rfl,A1.ext X2,A2.weak X1.dom⟩
def bU(fs:FA):FE:=fun e=>(fs e).bind fun p=>(fQ p.1).bind fun ds=>if ds.length≤1000 then some (.d (.tuple ds),p.2) else none
def eF(fs:FA):FE:=fun e=>(fs e).bind fun p=>(fQ p.1).bind fun ds=>if ds.length≤1000 then some (.l ds,p.2) else none
theorem bf{x1}(h:PA X es (fA K fs)):PE X (.Tuple es x1 pos) (fE K (bU fs)):=(Ah h).mono fun σ H Q h=>by
  obtain⟨F,e,z,e2,R,hf,q⟩:=h
  unfold bU at hf
  obtain⟨⟨rs,e1⟩,h1,hf⟩:=Option.bind_eq_some_iff.mp hf
  obtain⟨ds,h2,hf⟩:=Option.bind_eq_some_iff.mp hf
  split at hf
  case isFalse=>cases hf
  case isTrue hl=>
  cases hf
  refine⟨F,e,rs,_,R,h1,fun F1 H1 vs X1 R1 A1=>?_⟩
  obtain⟨F2,R2,s2,d2,f2⟩:=dB.frozen R1 A1 h2
  have hlen:=d2.len
  refine⟨Nat.le_of_lt (ol (by lia)),fun p hp=>?_⟩
  obtain⟨R3,X3⟩:=R2.newT (vs:=vs) hp
  exact q _ _ _ ((X1.frz s2 f2).trans X3) R3 (dj.mpr ⟨p,vs,rfl,.inl (.inl aH),aO.mono X3.sf d2⟩)
theorem dt(h:PA X es (fA K fs)):PE X (.List es pos) (fE K (eF fs)):=(ph h).mono fun σ H Q h=>by
  obtain⟨F,e,z,e2,R,hf,q⟩:=h
  unfold eF at hf
  obtain⟨⟨rs,e1⟩,h1,hf⟩:=Option.bind_eq_some_iff.mp hf
  obtain⟨ds,h2,hf⟩:=Option.bind_eq_some_iff.mp hf
  split at hf
  case isFalse=>cases hf
  case isTrue hl=>
  cases hf
  refine⟨F,e,rs,_,R,h1,fun F1 H1 vs X1 R1 A1=>?_⟩
  obtain⟨F2,R2,s2,d2,f2⟩:=dB.frozen R1 A1 h2
  have hlen:=d2.len
  refine⟨Nat.le_of_lt (ol (by lia)),fun p hp=>?_⟩
  obtain⟨R3,X3,hF,no⟩:=R2.newL (vs:=vs) hp
  exact q _ _ _ ((X1.frz s2 f2).trans X3) R3 ⟨p,vs,rfl,X1.dom p hp,hF,aH,d2,no⟩
def dA(K:PySem.W.Frag)(r:List V→Hp→VK→Prop)(g:En→List Rv→Option Rv):Prop:=
  ∀(σ:L2.St) (H0 F H:Hp) (e:En) (xs:List Rv) (z:Rv) (vs:List V) (Q:VK),bi K F H σ e→dB K σ H0 F H e xs vs→g e xs=some z→
    (∀F' H' w,dX σ F H e F' H' e→bi K F' H' σ e→cG K σ H F' H' e z w→Q w H')→r vs H Q
def aI(g:En→List Rv→Option Rv)(fs:FA):FE:=fun e=>(fs e).bind fun p=>(g p.2 p.1).map fun z=>(z,p.2)
theorem qo{r:List V→Hp→VK→Prop}{g:En→List Rv→Option Rv}(ho:dA K r g){σ:L2.St}{H:Hp}{Q:VK}(h:fE K (aI g fs) σ H Q):Du r (fA K fs) σ H Q:=by
  obtain⟨F,e,z,e2,R,hf,q⟩:=h
  unfold aI at hf
  obtain⟨⟨x,e1⟩,h1,hf⟩:=Option.bind_eq_some_iff.mp hf
  obtain⟨z',h3,hf⟩:=Option.map_eq_some_iff.mp hf
  cases hf
  refine⟨F,e,x,_,R,h1,fun F1 H1 vs X1 R1 A1=>?_⟩
  refine ho σ H F1 H1 _ x _ vs Q R1 A1 h3 fun F3 H3 w X3 R3 A3=>?_
  exact q F3 H3 w (X1.trans X3) R3 (A3.weak X1.dom)
theorem vF{x:Str}{p pos:Pos}{id:String}{r:List V→Hp→VK→Prop}{g:En→List Rv→Option Rv}(hc:de X (.builtin id) r)(ho:dA K r g)(hg:Gl X x)(hm:X.mg x=none)(hv:bootBuiltins x=some (.builtin id))(ha:PA X (a::es) (fA K fs))(hn:x≠"__name__")(hdb:(x==("__debug__":Str))=false)
    (he:starEach (a::es) X.env=(false,eval a X.env)::starEach es X.env)(hpl:(backTo pos (starEach es X.env)).any (·.1)=false):PE X (.Call (.Name x p) (a::es) [] pos) (fE K (aI g fs)):=(mv hc hg hm hv ha hn hdb he hpl).mono fun _ _ _ h=>qo ho h
theorem tR{x:Str}{p pos:Pos}{T:String}{r:List V→Hp→VK→Prop}{g:En→List Rv→Option Rv}(hc:de X (.type T) r)(ho:dA K r g)(hg:Gl X x)(hm:X.mg x=none)(hv:bootBuiltins x=some (.type T))(ha:PA X (a::es) (fA K fs))(hn:x≠"__name__")(hdb:(x==("__debug__":Str))=false)
    (he:starEach (a::es) X.env=(false,eval a X.env)::starEach es X.env)(hpl:(backTo pos (starEach es X.env)).any (·.1)=false):PE X (.Call (.Name x p) (a::es) [] pos) (fE K (aI g fs)):=(tM hc hg hm hv ha hn hdb he hpl).mono fun _ _ _ h=>qo ho h
end
end L2
namespace L2
open PySem PySem.Spec PyProof.Rows
mutual
theorem DA.reads{X:Cx}{pins:List (Addr × Obj)}{σ:L2.St}{H:Hp}{s:Shared}(I:aJ X pins σ H s):∀{d:PyData} {v:V} {u:Value},d.canLay0=true→DA X.K H d v→bz v u→∃as,Reads s.heap u d as
  | .none,_,_,_,q,r=>by
    simp only [DA] at q;subst q;cases r;exact⟨_,.none⟩
  | .bool b,_,_,_,q,r=>by
    simp only [DA] at q;subst q;cases r;exact⟨_,.bool b⟩
  | .int i,_,_,_,q,r=>by
    simp only [DA] at q;subst q;obtain⟨t,rfl⟩:=r;exact⟨_,.int i t⟩
  | .str x,_,_,_,q,r=>by
    simp only [DA] at q;subst q;obtain⟨t,rfl⟩:=r;exact⟨_,.str x t⟩
  | .tuple ds,_,_,c,q,r=>by
    simp only [DA] at q
    obtain⟨a,xs,e,hs,rr⟩:=q
    subst e;cases r
    obtain⟨its,rv,⟨o,ho,hc,n,hd⟩,hz⟩:=I.tuple hs
    obtain⟨as,q⟩:=aO.reads I (by simpa [PyData.canLay0] using c) rr rv
    exact⟨_,.tuple ho hc hd q⟩
  | .list ds,_,_,c,q,r=>by
    simp only [DA] at q
    obtain⟨a,xs,e,hs,rr⟩:=q
    subst e;cases r
    obtain⟨its,rv,ht,hz⟩:=I.list hs
    obtain⟨o,ho,hc,n,hd⟩:=ht.isList
    obtain⟨as,q⟩:=aO.reads I (by simpa [PyData.canLay0] using c) rr rv
    exact⟨_,.list ho hc hd q⟩
  | .dict _,_,_,c,_,_=>by simp [PyData.canLay0] at c
theorem aO.reads{X:Cx}{pins:List (Addr × Obj)}{σ:L2.St}{H:Hp}{s:Shared}(I:aJ X pins σ H s):∀{ds:List PyData} {xs:List V} {us:List Value},PyData.canLayAll0 ds=true→aO X.K H ds xs→aU xs us→∃as,ReadsAll s.heap us ds as
  | [],_,_,_,q,r=>by
    simp only [aO] at q;subst q;cases r;exact⟨_,.nil⟩
  | d::ds,_,_,c,q,r=>by
    simp only [aO] at q
    simp only [PyData.canLayAll0,Bool.and_eq_true] at c
    obtain⟨x,rr,e,a,b⟩:=q
    subst e
    cases r with
    | cons p p'=>
      obtain⟨as,q1⟩:=DA.reads I c.1 a p
      obtain⟨bs,q2⟩:=aO.reads I c.2 b p'
      exact⟨_,.cons q1 q2⟩
end
def ie(e:En):Rv→Option PyData
  | .d x=>some x
  | .l xs=>some (.list xs)
  | .s i=>match e[i]? with
    | some (some (.l xs))=>some (.list xs)
    | _=>none
theorem jF{K:PySem.W.Frag}{σ:L2.St}{H0 F H:Hp}{e:En}{r:Rv}{v:V}{d:PyData}(R:bi K F H σ e)(h:cG K σ H0 F H e r v)(q:ie e r=some d):DA K H d v:=by
  cases r with
  | d x=>cases q;exact DA.mono R.sm h
  | l xs=>
    cases q
    obtain⟨l,vs,rfl,h1,h2,h3,h4,_⟩:=h
    exact cW.mpr ⟨l,vs,rfl,.inl (.inl h3),aO.mono R.sm h4⟩
  | s i=>
    obtain⟨h1,ys,h2⟩:=h
    simp only [ie,h2] at q
    cases q
    obtain⟨l,vs,e1,e2,e3,e4⟩:=R.own i _ h2
    rw [h1] at e1;cases e1
    exact cW.mpr ⟨l,vs,rfl,.inl (.inl e3),aO.mono R.sm e4⟩
section
variable{X:Cx}{K:PySem.W.Frag}
def cv:Rv→Option Int
  | .d (.int i)=>some i
  | _=>none
theorem cH{σ:L2.St}{H0 F H:Hp}{e:En}{r:Rv}{v:V}{i:Int}(h:cG K σ H0 F H e r v)(q:cv r=some i):v=.int i:=by
  unfold cv at q
  split at q
  · cases q;exact bK.mp (show DA K F (.int _) v from h)
  · cases q
theorem mH{σ:L2.St}{H0 F H:Hp}{e:En}{i:Int}:cG K σ H0 F H e (.d (.int i)) (.int i):=(bK (K:=K) (F:=F)).mpr rfl
def gI(C:Int→Int→Bool)(f:Int→Int→PyData):En→Rv→Rv→Option Rv:=fun _ x y=>(cv x).bind fun i=>(cv y).bind fun j=>if C i j=true then some (.d (f i j)) else none
theorem nY{C:Int→Int→Prop}{c:Int→Int→Bool}{g:Int→Int→V}{f:Int→Int→PyData}(hc:∀i j,c i j=true→C i j)(hf:∀F i j,DA K F (f i j) (g i j)):eQ K (rI C g) (gI c f):=by
  intro σ H0 F H e x y z v u Q R A B hg q
  unfold gI at hg
  obtain⟨i,h1,hg⟩:=Option.bind_eq_some_iff.mp hg
  obtain⟨j,h2,hg⟩:=Option.bind_eq_some_iff.mp hg
  split at hg
  case isFalse=>cases hg
  case isTrue hh=>
  cases hg
  exact⟨i,j,cH A h1,cH B h2,hc i j hh,q F H _ (dX.refl _ _ _ _) R (hf F i j)⟩
theorem iF{g:Int→Int→V}{f:Int→Int→PyData}(hf:∀F i j,DA K F (f i j) (g i j)):eQ K (rg g) (gI (fun _ _=>true) f):=by
  intro σ H0 F H e x y z v u Q R A B hg q
  obtain⟨i,j,h1,h2,h3,h4⟩:=nY (K:=K) (C:=fun _ _=>True) (c:=fun _ _=>true) (g:=g) (f:=f) (fun _ _ _=>trivial) hf σ H0 F H e x y z v u Q R A B hg q
  exact⟨i,j,h1,h2,h4⟩
def w_(g g':En→Rv→Rv→Option Rv):En→Rv→Rv→Option Rv:=fun e x y=>(g e x y).or (g' e x y)
theorem eQ.or{r r':R2}{g g':En→Rv→Rv→Option Rv}(h:eQ K r g)(h':eQ K r' g'):eQ K (fun x y H Q=>r x y H Q∨r' x y H Q) (w_ g g'):=by
  intro σ H0 F H e x y z v u Q R A B hg q
  unfold w_ at hg
  cases e1:g e x y with
  | some w=>
    rw [e1] at hg
    cases hg
    exact .inl (h σ H0 F H e x y _ v u Q R A B e1 q)
  | none=>
    rw [e1] at hg
    exact .inr (h' σ H0 F H e x y _ v u Q R A B hg q)
def yG:=gI (fun _ _=>true) fun i j=>.int (i+j)
def iB:=gI (fun _ _=>true) fun i j=>.int (i - j)
def hU(i:Int):Bool:=decide (-(2 ^ 64) < i)&&decide (i < 2 ^ 64)
def Br(n:Nat)(i:Int):Bool:=decide (i.natAbs < 2 ^ n)
theorem jB{n:Nat}{i:Int}:Br n i=true↔ Bt n i:=by unfold Br Bt;exact decide_eq_true_iff
def kl(i j:Int):Bool:=hU i || hU j || (Br 4000 i&&Br 4000 j)
def uH:=gI kl fun i j=>.int (i*j)
def ed:=gI (fun _ j=>j != 0&&Br 8000 j) fun i j=>.int (i.fdiv j)
def a7:=gI (fun _ j=>j != 0) fun i j=>.int (i.fmod j)
def tQ(i j:Int):Bool:=decide (0≤j)&&decide (j≤1000000)&&hU i
def qJ:=gI tQ fun i j=>.int (i ^ j.toNat)
def xa:=gI tQ fun i j=>.int (i*2 ^ j.toNat)
theorem jw{i:Int}(h:hU i=true): -(2 ^ 64) < i∧i < 2 ^ 64:=by
  unfold hU at h
  rw [Bool.and_eq_true,decide_eq_true_iff,decide_eq_true_iff] at h
  exact h
theorem rX{i j:Int}(h:tQ i j=true):uf i j:=by
  unfold tQ at h
  rw [Bool.and_eq_true,Bool.and_eq_true,decide_eq_true_iff,decide_eq_true_iff] at h
  have:=jw h.2
  exact⟨h.1.1,h.1.2,by lia⟩
def rA(i j:Int):Prop:=wB i j∨yu i j
theorem xF:eR X (binaryOp .Mult) (rI rA fun i j=>.int (i*j)):=by
  intro pins s σ H x y v u Q I rx ry h
  obtain⟨i,j,e1,e2,h1,q⟩:=h
  rcases h1 with h1 | h1
  · exact z0 pins s σ H x y v u Q I rx ry ⟨i,j,e1,e2,h1,q⟩
  · exact xG pins s σ H x y v u Q I rx ry ⟨i,j,e1,e2,h1,q⟩
theorem xo{i j:Int}(h:kl i j=true):rA i j:=by
  unfold kl at h
  rw [Bool.or_eq_true,Bool.or_eq_true,Bool.and_eq_true] at h
  rcases h with (h | h) | h
  · exact .inl (.inl (jw h))
  · exact .inl (.inr (jw h))
  · exact .inr ⟨jB.mp h.1,jB.mp h.2⟩
theorem zN:eQ K (rI rA fun i j=>.int (i*j)) uH:=nY (fun _ _ h=>xo h) fun _ _ _=>bK.mpr rfl
theorem Cg:eQ K (rg fun i j=>.int (i - j)) iB:=iF fun _ _ _=>bK.mpr rfl
theorem zw:eQ K (rI yt fun i j=>.int (i.fdiv j)) ed:=nY (fun i j h=>by
  rw [Bool.and_eq_true] at h
  exact⟨by simpa using h.1,jB.mp h.2⟩) fun _ _ _=>bK.mpr rfl
theorem BJ:eQ K (rI (fun _ j=>j≠0) fun i j=>.int (i.fmod j)) a7:=nY (fun i j h=>by simpa using h) fun _ _ _=>bK.mpr rfl
theorem BW:eQ K (rI uf fun i j=>.int (i ^ j.toNat)) qJ:=nY (fun _ _ h=>rX h) fun _ _ _=>bK.mpr rfl
theorem Ce:eQ K (rI uf fun i j=>.int (i*2 ^ j.toNat)) xa:=nY (fun _ _ h=>rX h) fun _ _ _=>bK.mpr rfl
def rL:En→Rv→Rv→Option Rv:=fun e x y=>match fF e x,fF e y with
  | some (false,xs),some (false,ys)=>if xs.length+ys.length≤1000000 then some (.d (.tuple (xs++ys))) else none
  | _,_=>none
theorem zq:eQ K (vI K) rL:=by
  intro σ H0 F H e x y z v u Q R A B hg q
  unfold rL at hg
  match h1:fF e x,h2:fF e y,hg with
  | some (false,xs),some (false,ys),hg=>
    obtain⟨p,vs,rfl,d1,s1⟩:=dz R A h1
    obtain⟨p',us,rfl,d2,s2⟩:=dz R B h2
    dsimp only at hg
    split at hg
    case isFalse=>cases hg
    case isTrue hl=>
    cases hg
    have l1:=d1.len
    have l2:=d2.len
    have sl:sizeLine=16777216:=sizeLine_eq
    refine⟨p,p',vs,us,rfl,rfl,s1,s2,by lia,fun t H' sm hT=>?_⟩
    obtain⟨F',R',X',hF⟩:=R.growT sm hT
    exact q F' H' _ X' R' (dj.mpr ⟨t,_,rfl,hF,(d1.append d2).mono X'.sf⟩)
def uZ(e:En):Rv→Option (List PyData)
  | .l xs=>some xs
  | .s i=>match e[i]? with
    | some (some (.l xs))=>some xs
    | _=>none
  | _=>none
theorem oW{σ:L2.St}{H0 F H:Hp}{e:En}{r:Rv}{v:V}(R:bi K F H σ e)(h:cG K σ H0 F H e r v){xs:List PyData}(q:uZ e r=some xs):∃p vs,v=.ref p∧F p=none∧H p=some (.lst vs)∧aO K F xs vs:=by
  cases r with
  | d x=>cases q
  | l ys=>
    cases q
    obtain⟨l,vs,e1,h1,h2,h3,h4,_⟩:=h
    exact⟨l,vs,e1,h2,h3,h4⟩
  | s i=>
    obtain⟨h1,ys,h2⟩:=h
    simp only [uZ,h2] at q
    cases q
    obtain⟨l,vs,e1,e2,e3,e4⟩:=R.own i _ h2
    rw [h1] at e1;cases e1
    exact⟨l,vs,rfl,e2,e3,e4⟩
def uE:En→Rv→Rv→Option Rv:=fun e x y=>(uZ e x).bind fun xs=>(uZ e y).bind fun ys=>if xs.length+ys.length≤1000000 then some (.l (xs++ys)) else none
theorem zp:eQ K x6 uE:=by
  intro σ H0 F H e x y z v u Q R A B hg q
  unfold uE at hg
  obtain⟨xs,h1,hg⟩:=Option.bind_eq_some_iff.mp hg
  obtain⟨ys,h2,hg⟩:=Option.bind_eq_some_iff.mp hg
  split at hg
  case isFalse=>cases hg
  case isTrue hl=>
  cases hg
  obtain⟨p,vs,rfl,f1,s1,d1⟩:=oW R A h1
  obtain⟨p',us,rfl,f2,s2,d2⟩:=oW R B h2
  have l1:=d1.len
  have l2:=d2.len
  have sl:sizeLine=16777216:=sizeLine_eq
  refine⟨p,p',vs,us,rfl,rfl,s1,s2,by lia,fun t ht=>?_⟩
  obtain⟨R3,X3,hF,no⟩:=R.newL (vs:=vs++us) ht
  exact q _ _ _ X3 R3 ⟨t,_,rfl,ht,hF,aH,d1.append d2,no⟩
def ba:En→Rv→Rv→Option Rv:=w_ yG (w_ rL uE)
def yZ(K:PySem.W.Frag):R2:=fun x y H Q=>rg (fun i j=>.int (i+j)) x y H Q∨(vI K x y H Q∨x6 x y H Q)
theorem xA:eR X (binaryOp .Add) (yZ X.K):=zY.or (xB.or vk)
theorem Bo:eQ K (yZ K) ba:=eQ.or (iF fun _ _ _=>bK.mpr rfl) (eQ.or zq zp)
def uK:En→Rv→Rv→Option Rv:=fun e x y=>match fF e x,cv y with
  | some (false,[d]),some k=>if 0≤k∧k≤100000 then some (.d (.tuple (List.replicate k.toNat d))) else none
  | _,_=>none
theorem aO.rep{F:Hp}{d:PyData}{v:V}(h:DA K F d v):∀n,aO K F (List.replicate n d) (List.replicate n v)
  | 0=>aO.nil
  | n+1=>aO.cons h (aO.rep h n)
theorem Az:eQ K (vK K) uK:=by
  intro σ H0 F H e x y z v u Q R A B hg q
  unfold uK at hg
  match h1:fF e x,h2:cv y,hg with
  | some (false,[d]),some k,hg=>
    obtain⟨p,vs,rfl,d1,s1⟩:=dz R A h1
    dsimp only at hg
    split at hg
    case isFalse=>cases hg
    case isTrue hl=>
    cases hg
    have hd:=d1
    simp only [aO] at hd
    obtain⟨w,r,e1,hw,e2⟩:=hd
    subst e2 e1
    refine⟨p,k,w,rfl,cH B h2,s1,hl.1,hl.2,fun t H' sm hT=>?_⟩
    obtain⟨F',R',X',hF⟩:=R.growT sm hT
    exact q F' H' _ X' R' (dj.mpr ⟨t,_,rfl,hF,(aO.rep hw _).mono X'.sf⟩)
def uJ:En→Rv→Rv→Option Rv:=fun e x y=>(uZ e x).bind fun xs=>(cv y).bind fun k=>if -100000≤k∧k≤100000∧xs.length*k.toNat≤1000000 then some (.l (List.replicate k.toNat xs).flatten) else none
theorem aO.reps{F:Hp}{ds:List PyData}{vs:List V}(h:aO K F ds vs):∀n,aO K F (List.replicate n ds).flatten (List.replicate n vs).flatten
  | 0=>aO.nil
  | n+1=>by simpa [List.replicate_succ] using aO.append h (aO.reps h n)
theorem Ay:eQ K Ax uJ:=by
  intro σ H0 F H e x y z v u Q R A B hg q
  unfold uJ at hg
  obtain⟨xs,h1,hg⟩:=Option.bind_eq_some_iff.mp hg
  obtain⟨k,h2,hg⟩:=Option.bind_eq_some_iff.mp hg
  split at hg
  case isFalse=>cases hg
  case isTrue hl=>
  cases hg
  obtain⟨p,vs,rfl,f1,s1,d1⟩:=oW R A h1
  have l1:=d1.len
  have sl:sizeLine=16777216:=sizeLine_eq
  refine⟨p,k,vs,rfl,cH B h2,s1,by lia,by lia,by rw [←l1];lia,fun t ht=>?_⟩
  obtain⟨R3,X3,hF,no⟩:=R.newL (vs:=(List.replicate k.toNat vs).flatten) ht
  exact q _ _ _ X3 R3 ⟨t,_,rfl,ht,hF,aH,aO.reps d1 _,no⟩
def lZ:En→Rv→Rv→Option Rv:=w_ uH (w_ uK uJ)
def y0(K:PySem.W.Frag):R2:=fun x y H Q=>rI rA (fun i j=>.int (i*j)) x y H Q∨(vK K x y H Q∨Ax x y H Q)
theorem xE:eR X (binaryOp .Mult) (y0 X.K):=xF.or (xI.or z8)
theorem BK:eQ K (y0 K) lZ:=eQ.or zN (eQ.or Az Ay)
def ww:=gI (fun _ _=>true) fun i j=>.bool (decide (i < j))
def yH:=gI (fun _ _=>true) fun i j=>.bool (decide (i≤j))
def sU:=gI (fun _ _=>true) fun i j=>.bool (decide (j < i))
def zy:=gI (fun _ _=>true) fun i j=>.bool (decide (j≤i))
theorem Dl:eQ K (rg fun i j=>.bl (decide (i < j))) ww:=iF fun _ _ _=>cE.mpr rfl
theorem Dj:eQ K (rg fun i j=>.bl (decide (i≤j))) yH:=iF fun _ _ _=>cE.mpr rfl
theorem Da:eQ K (rg fun i j=>.bl (decide (j < i))) sU:=iF fun _ _ _=>cE.mpr rfl
theorem C_:eQ K (rg fun i j=>.bl (decide (j≤i))) zy:=iF fun _ _ _=>cE.mpr rfl
def x8(K:PySem.W.Frag)(neg:Bool):R2:=fun x y H Q=>∃a b,DA K H a x∧DA K H b y∧SeqAt.shaped a=true∧SeqAt.shaped b=true∧Q (.bl (if neg then !PyData.eqv a b else PyData.eqv a b)) H
theorem vm{k:Nat}(hr:cO k X.A):eR X (compareOp .Eq) (x8 X.K false):=by
  intro pins s σ H x y v u Q I rx ry h
  obtain⟨a,b,ha,hb,s1,s2,q⟩:=h
  obtain⟨as,ra⟩:=DA.reads I (SeqAt.canLay_of_shaped s1) ha rx
  obtain⟨bs,rb⟩:=DA.reads I (SeqAt.canLay_of_shaped s2) hb ry
  exact SeqAt.compareEq_shaped ra rb s1 s2 hr.units ⟨.bl _,H,I,rfl,q⟩
theorem z4{k:Nat}(hr:cO k X.A):eR X (compareOp .NotEq) (x8 X.K true):=by
  intro pins s σ H x y v u Q I rx ry h
  obtain⟨a,b,ha,hb,s1,s2,q⟩:=h
  obtain⟨as,ra⟩:=DA.reads I (SeqAt.canLay_of_shaped s1) ha rx
  obtain⟨bs,rb⟩:=DA.reads I (SeqAt.canLay_of_shaped s2) hb ry
  exact SeqAt.compareNe_shaped ra rb s1 s2 hr.units ⟨.bl _,H,I,rfl,q⟩
def cQ(neg:Bool):En→Rv→Rv→Option Rv:=fun e x y=>(ie e x).bind fun a=>(ie e y).bind fun b=>if (SeqAt.shaped a&&SeqAt.shaped b)=true then some (.d (.bool (if neg then !PyData.eqv a b else PyData.eqv a b))) else none
theorem yE{neg:Bool}:eQ K (x8 K neg) (cQ neg):=by
  intro σ H0 F H e x y z v u Q R A B hg q
  unfold cQ at hg
  obtain⟨a,h1,hg⟩:=Option.bind_eq_some_iff.mp hg
  obtain⟨b,h2,hg⟩:=Option.bind_eq_some_iff.mp hg
  split at hg
  case isFalse=>cases hg
  case isTrue hl=>
  cases hg
  rw [Bool.and_eq_true] at hl
  exact⟨a,b,jF R A h1,jF R B h2,hl.1,hl.2,q F H _ (dX.refl _ _ _ _) R cU⟩
def B3(K:PySem.W.Frag)(neg:Bool):R2:=fun x y H Q=>∃a xs,DA K H a x∧(DA K H (.list xs) y∨DA K H (.tuple xs) y)∧a.canLay0=true∧a.depth≤60∧PyData.canLayAll0 xs=true∧Q (.bl (if neg then !(xs.any fun y=>PyData.eqv y a) else xs.any fun y=>PyData.eqv y a)) H
theorem zZ{k:Nat}(hr:cO k X.A):eR X (compareOp .In) (B3 X.K false):=by
  intro pins s σ H x y v u Q I rx ry h
  obtain⟨a,xs,ha,hb,s1,s2,s3,q⟩:=h
  obtain⟨as,ra⟩:=DA.reads I s1 ha rx
  have hu:=hr.units
  rcases hb with hb | hb
  · obtain⟨bs,rb⟩:=DA.reads I (by simpa [PyData.canLay0] using s3) hb ry
    exact PySem.SeqAt.in_list_reads rb ra s3 s1 (by lia) ⟨.bl _,H,I,rfl,q⟩
  · obtain⟨bs,rb⟩:=DA.reads I (by simpa [PyData.canLay0] using s3) hb ry
    exact PySem.SeqAt.in_tuple_reads rb ra s3 s1 (by lia) ⟨.bl _,H,I,rfl,q⟩
def wY(neg:Bool):En→Rv→Rv→Option Rv:=fun e x y=>(ie e x).bind fun a=>(fF e y).bind fun p=>if (a.canLay0&&decide (a.depth≤60)&&PyData.canLayAll0 p.2)=true then some (.d (.bool (if neg then !(p.2.any fun y=>PyData.eqv y a) else p.2.any fun y=>PyData.eqv y a))) else none
theorem Dc{neg:Bool}:eQ K (B3 K neg) (wY neg):=by
  intro σ H0 F H e x y z v u Q R A B hg q
  unfold wY at hg
  obtain⟨a,h1,hg⟩:=Option.bind_eq_some_iff.mp hg
  obtain⟨⟨b,xs⟩,h2,hg⟩:=Option.bind_eq_some_iff.mp hg
  split at hg
  case isFalse=>cases hg
  case isTrue hl=>
  cases hg
  rw [Bool.and_eq_true,Bool.and_eq_true,decide_eq_true_iff] at hl
  obtain⟨p,vs,rfl,d1,s1⟩:=dz R B h2
  refine⟨a,xs,jF R A h1,?_,hl.1.1,hl.1.2,hl.2,q F H _ (dX.refl _ _ _ _) R cU⟩
  cases b with
  | true=>exact .inl (cW.mpr ⟨p,vs,rfl,s1,d1.mono R.sm⟩)
  | false=>exact .inr (dj.mpr ⟨p,vs,rfl,s1,d1.mono R.sm⟩)
def oV:PyData→Bool
  | .none=>true
  | _=>false
theorem sO{F:Hp}{d:PyData}{v:V}(h:DA K F d v):decide (v=.non)=oV d:=by
  cases d with
  | none=>rw [jE.mp h];rfl
  | bool b=>rw [cE.mp h];rfl
  | int b=>rw [bK.mp h];rfl
  | str b=>rw [qH.mp h];rfl
  | tuple b=>obtain⟨a,_,e,_⟩:=dj.mp h;rw [e];rfl
  | list b=>obtain⟨a,_,e,_⟩:=cW.mp h;rw [e];rfl
  | dict b=>simp only [DA] at h;obtain⟨a,m,rfl,_⟩:=h;rfl
def zA(neg:Bool):En→Rv→Rv→Option Rv:=fun e x y=>(ie e x).bind fun a=>match y with
  | .d .none=>some (.d (.bool (if neg then !oV a else oV a)))
  | _=>none
def zz(neg:Bool):En→Rv→Rv→Option Rv:=fun e x y=>(cz x).bind fun a=>(cz y).bind fun b=>some (.d (.bool (if neg then !(a==b) else a==b)))
theorem zP:eQ K (fun x y H Q=>y=.non∧Q (.bl (!decide (x=.non))) H) (zA true):=by
  intro σ H0 F H e x y z v u Q R A B hg q
  unfold zA at hg
  obtain⟨a,h1,hg⟩:=Option.bind_eq_some_iff.mp hg
  split at hg
  · cases hg
    refine⟨jE.mp (show DA K F .none u from B),?_⟩
    rw [sO (jF R A h1)]
    exact q F H _ (dX.refl _ _ _ _) R cU
  · cases hg
theorem uS:eQ K (fun x y H Q=>∃b c,x=.bl b∧y=.bl c∧Q (.bl (!(b==c))) H) (zz true):=by
  intro σ H0 F H e x y z v u Q R A B hg q
  unfold zz at hg
  obtain⟨a,h1,hg⟩:=Option.bind_eq_some_iff.mp hg
  obtain⟨b,h2,hg⟩:=Option.bind_eq_some_iff.mp hg
  cases hg
  exact⟨a,b,c8 A h1,c8 B h2,q F H _ (dX.refl _ _ _ _) R cU⟩
def lW:En→Rv→Rv→Option Rv:=w_ (zA true) (zz true)
def r_:R2:=fun x y H Q=>(y=.non∧Q (.bl (!decide (x=.non))) H)∨∃b c,x=.bl b∧y=.bl c∧Q (.bl (!(b==c))) H
theorem tK:eR X (compareOp .IsNot) r_:=xH.or tL
theorem xg:eQ K r_ lW:=eQ.or zP uS
def bR:En→Rv→Rv→Option Rv:=fun e x y=>(fF e x).bind fun p=>(cv y).bind fun i=>(atI p.2 i).map .d
def B4(K:PySem.W.Frag):R2:=fun x y H Q=>B5 K x y H Q∨B6 K x y H Q
theorem Dg:wF X (B4 X.K):=xi.or zD
theorem aO.atI{F:Hp}{ds:List PyData}{vs:List V}(h:aO K F ds vs){i:Int}{d:PyData}(q:atI ds i=some d):∃v,L2.atI vs i=some v∧DA K F d v:=by
  unfold L2.atI at q ⊢
  obtain⟨j,h1,h2⟩:=Option.bind_eq_some_iff.mp q
  obtain⟨v,h3,h4⟩:=h.get h2
  exact⟨v,by rw [←h.len,h1];exact h3,h4⟩
theorem Dh:eQ K (B4 K) bR:=by
  intro σ H0 F H e x y z v u Q R A B hg q
  unfold bR at hg
  obtain⟨⟨b,xs⟩,h1,hg⟩:=Option.bind_eq_some_iff.mp hg
  obtain⟨i,h2,hg⟩:=Option.bind_eq_some_iff.mp hg
  obtain⟨d,h3,hg⟩:=Option.map_eq_some_iff.mp hg
  cases hg
  obtain⟨p,vs,rfl,d1,s1⟩:=dz R A h1
  obtain⟨w,h4,h5⟩:=d1.atI h3
  have fin:=q F H w (dX.refl _ _ _ _) R h5
  cases b with
  | true=>exact .inl ⟨p,vs,i,w,rfl,cH B h2,s1,h4,fin⟩
  | false=>exact .inr ⟨p,vs,i,w,rfl,cH B h2,s1,h4,fin⟩
end
end L2
namespace HT
open PySem PySem.Spec PyProof.Rows
section
variable{prog:Program}{w:World}{A:Around}{E:Value→Shared→Prop}{s:Shared}
theorem getItem_tuple_all{t sl:Addr}{items:Array Value}{vl vu:Value}{lo hi:Option Int}{Q:Value→Shared→Prop}(ht:IsTup s.heap t items)(hs:s.heap.IsSliceOf sl vl vu .none)(pl:IsPart vl lo)(pu:IsPart vu hi)
    (hw:sIx items.size 0 lo=0∧sIx items.size items.size hi=items.size)
    (h:Q (.ref t) s):wpAny (model prog w) A (getItem (.ref t) (.ref sl)) Q E s:=by
  obtain⟨os,hos,hcs,hds⟩:=id hs
  have hTs:s.TypeIs (.ref sl) "slice":=⟨os,hos,hcs⟩
  unfold getItem
  try with_reducible refine wpAny_holding ?_
  first | refine wpAny_bind (wpAny_pure ?_) | skip
  refine wpAny_bind (wpAny_sequenceKey ht.typeIs (by decide) ?_)
  refine wpAny_bind (wpAny_callSpecial?_slot (name:=Str.ofString "__getitem__") ht.typeIs PyProof.Rows.slot_tuple_getitem
    (wpAny_call_entry PyProof.Rows.slot_tuple_getitem ht.typeIs entry_tuple_getitem ?_ (args_tuple_getitem _ _)))
  show wpAny _ _ (Builtin.Tuple.tupleItemsOf (.ref t) >>= _) _ _ s
  refine wpAny_bind (tupleItemsOf_ ht ?_)
  refine wpAny_bind (wpAny_typeOf hTs ?_)
  rw [if_pos (by decide)]
  refine wpAny_bind (gK hs pl pu ?_)
  have hno:(((sIx items.size 0 lo:Nat):Int)==0&&(1:Int)==1&&(sIx items.size items.size hi - sIx items.size 0 lo)==items.size)=true:=by
    rw [hw.1,hw.2];simp
  show wpAny _ _ (if (((sIx items.size 0 lo:Nat):Int)==0&&(1:Int)==1&&(sIx items.size items.size hi - sIx items.size 0 lo)==items.size)=true then _ else _) _ _ s
  rw [if_pos hno]
  unfold Builtin.Tuple.tupleIsExact
  refine wpAny_bind (wpAny_bind (wpAny_typeOf ht.typeIs (wpAny_pure ?_)))
  rw [if_pos (by decide)]
  exact wpAny_bind (wpAny_rule (wpAny_pure ⟨_,rfl,wpAny_pure h⟩))
end
end HT
namespace L2
open PySem PySem.Spec PyProof.Rows
section
variable{X:Cx}{K:PySem.W.Frag}{a:Expr}{fa:FE}{lo hi:Option Expr}{pos p2:Pos}
def m8(xs:List PyData)(lo hi:Option Int):List PyData:=(xs.drop (HT.sIx xs.length 0 lo)).take (HT.sIx xs.length xs.length hi - HT.sIx xs.length 0 lo)
def B9(K:PySem.W.Frag):V→Option Int→Option Int→Hp→VK→Prop:=fun x lo hi H Q=>∃a xs,x=.ref a∧dY K H a xs∧
  (HT.sIx xs.length 0 lo=0∧HT.sIx xs.length xs.length hi=xs.length)∧Q (.ref a) H
theorem ye:wH X (B9 X.K):=by
  intro pins s σ H x v vl vu lo hi sl Q I rx hs pl pu h
  obtain⟨a,xs,rfl,hx,hw,q⟩:=h
  cases rx
  obtain⟨its,r,ht,hz⟩:=I.tuple hx
  have hlen:its.toArray.size=xs.length:=by rw [List.size_toArray];exact r.length.symm
  refine⟨"tuple",_,PyProof.Rows.slot_tuple_getitem.lookup,ht.typeIs,?_⟩
  exact HT.getItem_tuple_all ht hs pl pu (by rw [hlen];exact hw) ⟨.ref a,H,I,rfl,q⟩
def Dq(K:PySem.W.Frag):V→Option Int→Option Int→Hp→VK→Prop:=fun x lo hi H Q=>B8 K x lo hi H Q∨(B9 K x lo hi H Q∨B7 K x lo hi H Q)
theorem Ds:wH X (Dq X.K):=AI.or (ye.or yd)
abbrev FO:=En→Option (Option Int × En)
def fO(K:PySem.W.Frag)(f:FO):TO:=fun σ H Q=>∃F e o e',bi K F H σ e∧f e=some (o,e')∧∀F' H',dX σ F H e F' H' e'→bi K F' H' σ e'→Q o H'
theorem PO.mono{e:Option Expr}{t t':TO}(h:PO X e t)(m:∀σ H Q,t' σ H Q→t σ H Q):PO X e t':=fun pins s σ H Q I q=>h pins s σ H Q I (m σ H Q q)
def fq:FO:=fun e=>some (none,e)
def er(f:FE):FO:=fun e=>(f e).bind fun p=>(cv p.1).map fun i=>(some i,p.2)
theorem jU:PO X none (fO K fq):=xQ.mono fun σ H Q h=>by
  obtain⟨F,e,o,e',R,hf,q⟩:=h
  cases hf
  exact q F H (dX.refl _ _ _ _) R
theorem jV(h:PE X a (fE K fa)):PO X (some a) (fO K (er fa)):=(xR h).mono fun σ H Q h=>by
  obtain⟨F,e,o,e',R,hf,q⟩:=h
  unfold er at hf
  obtain⟨⟨x,e1⟩,h1,hf⟩:=Option.bind_eq_some_iff.mp hf
  obtain⟨i,h2,hf⟩:=Option.map_eq_some_iff.mp hf
  cases hf
  exact⟨F,e,x,_,R,h1,fun F1 H1 v X1 R1 A1=>⟨i,cH A1 h2,q F1 H1 X1 R1⟩⟩
def CK(e:En)(x:Rv)(lo hi:Option Int):Option Rv:=(fF e x).map fun p=>if p.1=true then .l (m8 p.2 lo hi) else .d (.tuple (m8 p.2 lo hi))
def qp(fa:FE)(fl fh:FO):FE:=fun e=>(fa e).bind fun p=>(fl p.2).bind fun l=>(fh l.2).bind fun h=>(CK h.2 p.1 l.1 h.1).map fun z=>(z,h.2)
theorem uy{F:Hp}{ds:List PyData}{vs:List V}(h:aO K F ds vs)(lo hi:Option Int):aO K F (m8 ds lo hi) (m9 vs lo hi):=by
  unfold m8 m9
  rw [h.len]
  exact(h.drop _).take _
theorem wQ{α:Type}{xs:List α}{lo hi:Option Int}(h:HT.sIx xs.length 0 lo=0∧HT.sIx xs.length xs.length hi=xs.length):(xs.drop (HT.sIx xs.length 0 lo)).take (HT.sIx xs.length xs.length hi - HT.sIx xs.length 0 lo)=xs:=by
  rw [h.1,h.2];simp
theorem vH{fl fh:FO}(he:PE X a (fE X.K fa))(hl:PO X lo (fO X.K fl))(hh:PO X hi (fO X.K fh)):PE X (.Subscript a (.Slice lo hi none p2) pos) (fE X.K (qp fa fl fh)):=(vt Ds he hl hh).mono fun σ H Q h=>by
  obtain⟨F,e,z,e',R,hf,q⟩:=h
  unfold qp at hf
  obtain⟨⟨x,e1⟩,h1,hf⟩:=Option.bind_eq_some_iff.mp hf
  obtain⟨⟨l,e2⟩,h2,hf⟩:=Option.bind_eq_some_iff.mp hf
  obtain⟨⟨u,e3⟩,h3,hf⟩:=Option.bind_eq_some_iff.mp hf
  obtain⟨z',h4,hf⟩:=Option.map_eq_some_iff.mp hf
  cases hf
  refine⟨F,e,x,e1,R,h1,fun F1 H1 v X1 R1 A1=>⟨F1,e1,l,e2,R1,h2,fun F2 H2 X2 R2=>⟨F2,e2,u,_,R2,h3,fun F3 H3 X3 R3=>?_⟩⟩⟩
  have X12:=X1.trans X2
  have X13:=X12.trans X3
  have A3:=(A1.ext X2).ext X3
  unfold CK at h4
  obtain⟨⟨b,xs⟩,h5,h4⟩:=Option.map_eq_some_iff.mp h4
  obtain⟨p,vs,rfl,d1,s1⟩:=dz R3 A3 h5
  cases b with
  | true=>
    rw [if_pos rfl] at h4;cases h4
    refine .inr (.inr ⟨p,vs,rfl,s1,fun t ht=>?_⟩)
    obtain⟨R4,X4,hF,no⟩:=R3.newL (vs:=m9 vs l u) ht
    exact q _ _ _ (X13.trans X4) R4 ⟨t,_,rfl,X13.dom _ ht,hF,aH,uy d1 l u,no⟩
  | false=>
    rw [if_neg (by simp)] at h4;cases h4
    by_cases hw:HT.sIx vs.length 0 l=0∧HT.sIx vs.length vs.length u=vs.length
    · refine .inr (.inl ⟨p,vs,rfl,s1,hw,?_⟩)
      have e5:m8 xs l u=xs:=by unfold m8;exact wQ (by rw [d1.len];exact hw)
      rw [e5] at q
      obtain⟨F4,R4,X4,hF⟩:=R3.growT (aA.refl _) s1
      exact q _ _ _ (X13.trans X4) R4 (dj.mpr ⟨p,vs,rfl,hF,d1.mono X4.sf⟩)
    · refine .inl ⟨p,vs,rfl,s1,hw,fun t ht=>?_⟩
      obtain⟨R4,X4⟩:=R3.newT (vs:=m9 vs l u) ht
      exact q _ _ _ (X13.trans X4) R4 (dj.mpr ⟨t,_,rfl,.inl (.inl aH),(uy d1 l u).mono X4.sf⟩)
end
section
variable{X:Cx}{K:PySem.W.Frag}
theorem lp{σ:L2.St}{H0 F H:Hp}{e:En}{x:Rv}{vs:List V}(h:dB K σ H0 F H e [x] vs):∃v,vs=[v]∧cG K σ H0 F H e x v:=by
  obtain⟨v,ws,rfl,h1,h2⟩:=h
  have h2':ws=[]:=h2
  subst h2'
  exact⟨v,rfl,h1⟩
theorem se{σ:L2.St}{H0 F H:Hp}{e:En}{x y:Rv}{vs:List V}(h:dB K σ H0 F H e [x,y] vs):∃v u,vs=[v,u]∧cG K σ H0 F H e x v∧cG K σ H0 F H e y u:=by
  obtain⟨v,ws,rfl,h1,h2⟩:=h
  obtain⟨u,rfl,h3⟩:=lp h2
  exact⟨v,u,rfl,h1,h3⟩
def g1(g:En→Rv→Option Rv):En→List Rv→Option Rv:=fun e xs=>match xs with
  | [x]=>g e x
  | _=>none
def g2(g:En→Rv→Rv→Option Rv):En→List Rv→Option Rv:=fun e xs=>match xs with
  | [x,y]=>g e x y
  | _=>none
theorem fP{r:List V→Hp→VK→Prop}{g:En→Rv→Option Rv}(h:Bm K (fun v H Q=>r [v] H Q) g):dA K r (g1 g):=by
  intro σ H0 F H e xs z vs Q R A hg q
  unfold g1 at hg
  match xs,hg with
  | [x],hg=>
    obtain⟨v,rfl,h1⟩:=lp A
    exact h σ H0 F H e x z v Q R h1 hg q
theorem rJ{r:List V→Hp→VK→Prop}{g:En→Rv→Rv→Option Rv}(h:eQ K (fun v u H Q=>r [v,u] H Q) g):dA K r (g2 g):=by
  intro σ H0 F H e xs z vs Q R A hg q
  unfold g2 at hg
  match xs,hg with
  | [x,y],hg=>
    obtain⟨v,u,rfl,h1,h2⟩:=se A
    exact h σ H0 F H e x y z v u Q R h1 h2 hg q
def fL:En→Rv→Option Rv:=fun e x=>(fF e x).map fun p=>.d (.int p.2.length)
theorem BD:dA K (fun xs H Q=>∃p ys,xs=[.ref p]∧(gL K H p ys∨dY K H p ys)∧Q (.int ys.length) H) (g1 fL):=fP fun σ H0 F H e x z v Q R A hg q=>by
  obtain⟨⟨b,xs⟩,h5,h4⟩:=Option.map_eq_some_iff.mp hg
  obtain⟨p,vs,rfl,d1,s1⟩:=dz R A h5
  cases h4
  refine⟨p,vs,rfl,?_,?_⟩
  · cases b with
    | true=>exact .inl s1
    | false=>exact .inr s1
  · rw [←d1.len]
    exact q F H _ (dX.refl _ _ _ _) R mH
def qI:En→Rv→Option Rv:=fun _ x=>(cv x).map fun i=>.d (.int (if i < 0 then -i else i))
theorem Bn:dA K (fun xs H Q=>∃i,xs=[.int i]∧Q (.int (if i < 0 then -i else i)) H) (g1 qI):=fP fun σ H0 F H e x z v Q R A hg q=>by
  obtain⟨i,h5,h4⟩:=Option.map_eq_some_iff.mp hg
  cases h4
  exact⟨i,by rw [cH A h5],q F H _ (dX.refl _ _ _ _) R mH⟩
def sV:En→Rv→Option Rv:=fun _ x=>match x with
  | .d (.int i)=>some (.d (.int i))
  | .d (.bool k)=>some (.d (.int (if k then 1 else 0)))
  | _=>none
theorem By:dA K (fun xs H Q=>(∃i,xs=[.int i]∧Q (.int i) H)∨∃k,xs=[.bl k]∧Q (.int (if k then 1 else 0)) H) (g1 sV):=fP fun σ H0 F H e x z v Q R A hg q=>by
  unfold sV at hg
  split at hg
  · cases hg
    exact .inl ⟨_,by rw [bK.mp (show DA K F (.int _) v from A)],q F H _ (dX.refl _ _ _ _) R mH⟩
  · cases hg
    exact .inr ⟨_,by rw [cE.mp (show DA K F (.bool _) v from A)],q F H _ (dX.refl _ _ _ _) R mH⟩
  · cases hg
def oR:=gI (fun _ _=>true) fun i j=>.int (if j < i then j else i)
def sW:=gI (fun _ _=>true) fun i j=>.int (if j > i then j else i)
theorem BI:dA K (fun xs H Q=>∃i j,xs=[.int i,.int j]∧Q (.int (if j < i then j else i)) H) (g2 oR):=rJ fun σ H0 F H e x y z v u Q R A B hg q=>by
  obtain⟨i,j,h1,h2,h3⟩:=iF (K:=K) (g:=fun i j=>.int (if j < i then j else i)) (fun _ _ _=>bK.mpr rfl) σ H0 F H e x y z v u Q R A B hg q
  exact⟨i,j,by rw [h1,h2],h3⟩
theorem BF:dA K (fun xs H Q=>∃i j,xs=[.int i,.int j]∧Q (.int (if j > i then j else i)) H) (g2 sW):=rJ fun σ H0 F H e x y z v u Q R A B hg q=>by
  obtain⟨i,j,h1,h2,h3⟩:=iF (K:=K) (g:=fun i j=>.int (if j > i then j else i)) (fun _ _ _=>bK.mpr rfl) σ H0 F H e x y z v u Q R A B hg q
  exact⟨i,j,by rw [h1,h2],h3⟩
def bY:En→Rv→Option Rv:=fun e x=>(fF e x).map fun p=>.d (.tuple p.2)
theorem yl:dA K (fun xs H Q=>∃p ys,xs=[.ref p]∧((gL K H p ys∧∀l,H l=none→Q (.ref l) (cu H l (.tup ys)))∨(dY K H p ys∧Q (.ref p) H))) (g1 bY):=fP fun σ H0 F H e x z v Q R A hg q=>by
  obtain⟨⟨b,xs⟩,h5,h4⟩:=Option.map_eq_some_iff.mp hg
  obtain⟨p,vs,rfl,d1,s1⟩:=dz R A h5
  cases h4
  refine⟨p,vs,rfl,?_⟩
  cases b with
  | true=>
    refine .inl ⟨s1,fun t ht=>?_⟩
    obtain⟨R4,X4⟩:=R.newT (vs:=vs) ht
    exact q _ _ _ X4 R4 (dj.mpr ⟨t,_,rfl,.inl (.inl aH),d1.mono X4.sf⟩)
  | false=>
    obtain⟨F4,R4,X4,hF⟩:=R.growT (aA.refl _) s1
    exact .inr ⟨s1,q _ _ _ X4 R4 (dj.mpr ⟨p,vs,rfl,hF,d1.mono X4.sf⟩)⟩
def rO:En→Rv→Option Rv:=fun e x=>(fF e x).map fun p=>.l p.2
theorem zK:dA K (fun xs H Q=>∃p ys,xs=[.ref p]∧(gL K H p ys∨dY K H p ys)∧∀l,H l=none→Q (.ref l) (cu H l (.lst ys))) (g1 rO):=fP fun σ H0 F H e x z v Q R A hg q=>by
  obtain⟨⟨b,xs⟩,h5,h4⟩:=Option.map_eq_some_iff.mp hg
  obtain⟨p,vs,rfl,d1,s1⟩:=dz R A h5
  cases h4
  refine⟨p,vs,rfl,?_,fun t ht=>?_⟩
  · cases b with
    | true=>exact .inl s1
    | false=>exact .inr s1
  · obtain⟨R4,X4,hF,no⟩:=R.newL (vs:=vs) ht
    exact q _ _ _ X4 R4 ⟨t,_,rfl,ht,hF,aH,d1,no⟩
def pT:List PyData→Option (List Int)
  | []=>some []
  | .int i::r=>(pT r).map (i::·)
  | _=>none
theorem pU:∀{ds:List PyData} {ns:List Int},pT ds=some ns→ds=ns.map .int
  | [],_,h=>by cases h;rfl
  | .int i::r,_,h=>by
    obtain⟨ns,h1,rfl⟩:=Option.map_eq_some_iff.mp h
    rw [pU h1];rfl
theorem nR:∀(ns:List Int),pT (ns.map .int)=some ns
  | []=>rfl
  | i::r=>by simp [pT,nR r]
def lE:List PyData→Option (List Bool)
  | []=>some []
  | .bool i::r=>(lE r).map (i::·)
  | _=>none
theorem nJ:∀{ds:List PyData} {ns:List Bool},lE ds=some ns→ds=ns.map .bool
  | [],_,h=>by cases h;rfl
  | .bool i::r,_,h=>by
    obtain⟨ns,h1,rfl⟩:=Option.map_eq_some_iff.mp h
    rw [nJ h1];rfl
def kQ(g:List PyData→Option PyData):En→Rv→Option Rv:=fun e x=>match fF e x with
  | some (true,xs)=>(g xs).map .d
  | _=>none
theorem AG{r:List V→Hp→VK→Prop}{g:List PyData→Option PyData}(h:∀(F H:Hp) (p:Addr) (xs:List PyData) (vs:List V) (d:PyData) (Q:VK),aO K F xs vs→gL K H p vs→g xs=some d→(∀v,(∀F,DA K F d v)→Q v H)→r [.ref p] H Q):dA K r (g1 (kQ g)):=fP fun σ H0 F H e x z v Q R A hg q=>by
  unfold kQ at hg
  split at hg
  case h_2=>cases hg
  case h_1 xs h5=>
  obtain⟨p,vs,rfl,d1,s1⟩:=dz R A h5
  obtain⟨d,h6,hg⟩:=Option.map_eq_some_iff.mp hg
  cases hg
  exact h F H p xs vs d Q d1 s1 h6 fun v hv=>q F H v (dX.refl _ _ _ _) R (hv F)
def nQ:List PyData→Option PyData:=fun xs=>(lE xs).map fun ns=>.bool (ns.all id)
theorem Bp:dA K (fun xs H Q=>∃(l:Addr) (bs:List Bool),xs=[.ref l]∧gL K H l (bs.map V.bl)∧Q (.bl (bs.all id)) H) (g1 (kQ nQ)):=AG fun F H p xs vs d Q d1 s1 hg q=>by
  obtain⟨ns,h1,h2⟩:=Option.map_eq_some_iff.mp hg
  cases h2
  rw [nJ h1] at d1
  rw [aO.bools.mp d1] at s1
  exact⟨p,ns,rfl,s1,q _ fun _=>cE.mpr rfl⟩
def gX:En→Rv→Option Rv:=fun e x=>match fF e x with
  | some (false,xs)=>(pT xs).bind fun ns=>if ns.length < 64 then some (.l ((fX ns).map .int)) else none
  | _=>none
def vM(K:PySem.W.Frag):List V→Hp→VK→Prop:=fun xs H Q=>∃(a:Addr) (ns:List Int),xs=[.ref a]∧dY K H a (ns.map V.int)∧ns.length < 64∧∀(l:Addr) (H':Hp),aA H H'→H l=none→H' l=some (.lst ((fX ns).map V.int))→Q (.ref l) H'
theorem qF:de X (.builtin "sorted") (vM X.K):=by
  intro pins s σ H xs us Q I rv h
  obtain⟨a,ns,e1,e2,e3,q⟩:=h
  exact pL pins s σ H xs us Q I rv ⟨a,ns,e1,e2,e3,fun l ns' H' sm hn hl hp hs=>q l H' sm hn (by rw [←qg hp hs];exact hl)⟩
theorem yf:dA K (vM K) (g1 gX):=fP fun σ H0 F H e x z v Q R A hg q=>by
  unfold gX at hg
  split at hg
  case h_2=>cases hg
  case h_1 xs h5=>
  obtain⟨p,vs,rfl,d1,s1⟩:=dz R A h5
  obtain⟨ns,h6,hg⟩:=Option.bind_eq_some_iff.mp hg
  split at hg
  case isFalse=>cases hg
  case isTrue hl=>
  cases hg
  rw [pU h6] at d1
  have s1':dY K H p vs:=s1
  rw [aO.ints.mp d1] at s1'
  refine⟨p,ns,rfl,s1',hl,fun l H' sm hn hl'=>?_⟩
  obtain⟨R4,X4⟩:=R.same sm
  exact q F H' _ X4 R4 ⟨l,_,rfl,hn,R.freeF hn,hl',aO.ints.mpr rfl,fun z=>R.ownH l ((R.sameOwn sm l).mp z) hn⟩
mutual
def ig:PyData→Bool
  | .tuple ds=>iV ds
  | .list _=>false
  | .dict _=>false
  | _=>true
def iV:List PyData→Bool
  | []=>true
  | d::r=>ig d&&iV r
end
mutual
def jq:PyData→Bool
  | .list _=>false
  | .tuple ds=>jP ds
  | _=>true
def jP:List PyData→Bool
  | []=>true
  | d::r=>jq d&&jP r
end
theorem mF{h:Heap}:∀{m:List (Int × ue)} {es:List DictEntry} {vs:List (kB × Value)} {P:Program} {w:World},KV (m.map fun p=>((Sum.inl p.1:kB),p.2.toV)) vs→Pairs (oZ P w) es vs→
    ReadsAll h (es.map (·.key)) (m.map fun p=>PyData.int p.1) []∧ReadsAll h (es.map (·.val)) (m.map fun p=>p.2.toD) []
  | [],es,vs,P,w,r,q=>by
    cases r
    cases q
    exact⟨.nil,.nil⟩
  | p::m,es,vs,P,w,r,q=>by
    rw [List.map_cons] at r
    cases r with
    | @cons a b as bs h1 t=>
      cases q with
      | @cons e kv es' kvs' h2 h3 h4=>
        obtain⟨z1,z2⟩:=h1
        obtain⟨c1,c2⟩:=mF t h4
        have k1:uU (Sum.inl p.1) e.key=true:=by
          have:b.1=Sum.inl p.1:=z1.symm
          rw [←this];exact h2
        rcases bD k1 with ⟨i,t',e1,e2⟩ | ⟨x,t',e1,e2⟩
        · cases e1
          refine⟨?_,?_⟩
          · simp only [List.map_cons,e2]
            exact ReadsAll.cons (as:=[]) (bs:=[]) (.int p.1 t') c1
          · simp only [List.map_cons,h3]
            refine ReadsAll.cons (as:=[]) (bs:=[]) ?_ c2
            obtain⟨k,at_⟩:=p
            cases at_ with
            | vi n=>obtain⟨tk,z2⟩:=z2;rw [z2];exact .int n tk
            | vb x=>rw [show b.2=Value.bool x from z2];exact .bool x
            | vn=>rw [show b.2=Value.none from z2];exact .none
        · cases e1
mutual
theorem DA.readsR{X:Cx}{pins:List (Addr × Obj)}{σ:L2.St}{H:Hp}{s:Shared}(I:aJ X pins σ H s):∀{d:PyData} {v:V} {u:Value},DA X.K H d v→bz v u→∃as,Reads s.heap u d as∧(jq d=true→sysModules∉as)
  | .none,_,_,q,r=>by
    simp only [DA] at q;subst q;cases r;exact⟨_,.none,fun _=>by simp⟩
  | .bool b,_,_,q,r=>by
    simp only [DA] at q;subst q;cases r;exact⟨_,.bool b,fun _=>by simp⟩
  | .int i,_,_,q,r=>by
    simp only [DA] at q;subst q;obtain⟨t,rfl⟩:=r;exact⟨_,.int i t,fun _=>by simp⟩
  | .str x,_,_,q,r=>by
    simp only [DA] at q;subst q;obtain⟨t,rfl⟩:=r;exact⟨_,.str x t,fun _=>by simp⟩
  | .tuple ds,_,_,q,r=>by
    simp only [DA] at q
    obtain⟨a,xs,e,hs,rr⟩:=q
    subst e;cases r
    obtain⟨its,rv,⟨o,ho,hc,n,hd⟩,hz⟩:=I.tuple hs
    obtain⟨as,q,z⟩:=aO.readsR I rr rv
    exact⟨_,.tuple ho hc hd q,fun c=>z (by simpa [jq] using c)⟩
  | .list ds,_,_,q,r=>by
    simp only [DA] at q
    obtain⟨a,xs,e,hs,rr⟩:=q
    subst e;cases r
    obtain⟨its,rv,ht,hz⟩:=I.list hs
    obtain⟨o,ho,hc,n,hd⟩:=ht.isList
    obtain⟨as,q,z⟩:=aO.readsR I rr rv
    exact⟨_,.list ho hc hd q,fun c=>by simp [jq] at c⟩
  | .dict kvs,_,_,q,r=>by
    simp only [DA] at q
    obtain⟨a,m,e,hs,rfl⟩:=q
    subst e;cases r
    obtain⟨_,hS,vs,kv,o,es,ep,ho,hx,hd,_,hp,_⟩:=(show dg X.prog X.w H s.heap a (.dK (m.map fun p=>(Sum.inl p.1,p.2.toV))) from I.hok a _ hs)
    obtain⟨c1,c2⟩:=mF (h:=s.heap) kv hp
    refine⟨_,Reads.dict (as:=[]) (bs:=[]) ho hx.1 hd ?_ ?_,fun _=>?_⟩
    · rw [List.map_map];exact c1
    · rw [List.map_map];exact c2
    · have:a≠sysModules:=by simpa using hS
      simpa using this.symm
theorem aO.readsR{X:Cx}{pins:List (Addr × Obj)}{σ:L2.St}{H:Hp}{s:Shared}(I:aJ X pins σ H s):∀{ds:List PyData} {xs:List V} {us:List Value},aO X.K H ds xs→aU xs us→∃as,ReadsAll s.heap us ds as∧(jP ds=true→sysModules∉as)
  | [],_,_,q,r=>by
    simp only [aO] at q;subst q;cases r;exact⟨_,.nil,fun _=>by simp⟩
  | d::ds,_,_,q,r=>by
    simp only [aO] at q
    obtain⟨x,rr,e,a,b⟩:=q
    subst e
    cases r with
    | cons p p'=>
      obtain⟨as,q1,z1⟩:=DA.readsR I a p
      obtain⟨bs,q2,z2⟩:=aO.readsR I b p'
      refine⟨_,.cons q1 q2,fun c=>?_⟩
      simp only [jP,Bool.and_eq_true] at c
      intro z
      rcases List.mem_append.mp z with z | z
      · exact z1 c.1 z
      · exact z2 c.2 z
end
def j6(d:PyData):Bool:=(ig d || (!d.hasDict || jq d))&&d.showable&&decide (d.depth≤60)&&decide (d.shown.length≤sizeLine)
def jI:En→Rv→Option Rv:=fun _ x=>match x with
  | .d d=>if j6 d=true then some (.d (.str d.shown)) else none
  | _=>none
def vL(K:PySem.W.Frag):List V→Hp→VK→Prop:=fun xs H Q=>∃x d,xs=[x]∧DA K H d x∧(d.hasDict=true→jq d=true)∧d.showable=true∧d.depth≤60∧d.shown.length≤sizeLine∧Q (.str d.shown) H
mutual
theorem kP:∀(d:PyData),ig d=true→d.hasDict=false
  | .none,_=>rfl
  | .bool _,_=>rfl
  | .int _,_=>rfl
  | .str _,_=>rfl
  | .tuple ds,h=>by simp only [PyData.hasDict];exact jG ds (by simpa [ig] using h)
  | .list ds,h=>by simp [ig] at h
  | .dict _,h=>by simp [ig] at h
theorem jG:∀(ds:List PyData),iV ds=true→PyData.hasDictAll ds=false
  | [],_=>rfl
  | d::r,h=>by
    simp only [iV,Bool.and_eq_true] at h
    simp only [PyData.hasDictAll,kP d h.1,jG r h.2,Bool.or_self]
end
theorem qE{X:Cx}{k:Nat}(hr:cO k X.A):de X (.builtin "repr") (vL X.K):=by
  intro pins s σ H xs us Q I r h
  obtain⟨x,d,rfl,ha,hdl,hsh,hdp,hsz,q⟩:=h
  obtain⟨u,rfl,ru⟩:∃u,us=[u]∧bz x u:=by
    cases r with
    | cons p p'=>cases p';exact⟨_,rfl,p⟩
  have hun:=hr.un
  obtain⟨as,rd,hm⟩:=DA.readsR I ha ru
  have fin:∀a,u=.ref a→wpAny (model X.prog X.w) X.A (call (.builtin "repr") [u]) (EP X pins σ Q) X.xe s:=fun a e=>by
    subst e
    exact repr_of_reads' rd hsh (fun z=>hm (hdl z)) hr.gd (by lia) (fun _ _ e=>e) (fun h' u tk hk=>⟨.str _,H,I.kept hk,⟨_,rfl⟩,q⟩) hsz
  cases d with
  | none=>simp only [DA] at ha;subst ha;cases ru;exact P.repr_of_none ⟨.str _,H,I.tok _,⟨_,rfl⟩,q⟩
  | bool b=>simp only [DA] at ha;subst ha;cases ru;exact P.repr_of_bool ⟨.str _,H,I.tok _,⟨_,rfl⟩,q⟩
  | int i=>
    simp only [DA] at ha;subst ha;obtain⟨t,rfl⟩:=ru
    simp only [PyData.showable,decide_eq_true_eq] at hsh
    exact P.repr_of_int hsh ⟨.str _,H,I.tok _,⟨_,rfl⟩,q⟩
  | str y=>simp only [DA] at ha;subst ha;obtain⟨t,rfl⟩:=ru;exact P.repr_of_str ⟨.str _,H,I.tok _,⟨_,rfl⟩,q⟩ hsz
  | list ds=>obtain⟨a,_,e,_⟩:=cW.mp ha;subst e;exact fin a ru
  | dict ds=>simp only [DA] at ha;obtain⟨a,_,e,_⟩:=ha;subst e;exact fin a ru
  | tuple ds=>obtain⟨a,_,e,_⟩:=dj.mp ha;subst e;exact fin a ru
theorem AC:dA K (vL K) (g1 jI):=fP fun σ H0 F H e x z v Q R A hg q=>by
  unfold jI at hg
  split at hg
  case h_2=>cases hg
  case h_1 d=>
  split at hg
  case isFalse=>cases hg
  case isTrue hl=>
  cases hg
  unfold j6 at hl
  rw [Bool.and_eq_true,Bool.and_eq_true,Bool.and_eq_true,decide_eq_true_iff,decide_eq_true_iff] at hl
  refine⟨v,d,rfl,DA.mono R.sm A,fun z=>?_,hl.1.1.2,hl.1.2,hl.2,q F H _ (dX.refl _ _ _ _) R ((qH (K:=K) (F:=F)).mpr rfl)⟩
  have c:=hl.1.1.1
  cases hf:ig d with
  | true=>rw [kP d hf] at z;cases z
  | false=>rw [hf,z] at c;simpa using c
end
end L2
namespace L2
open PySem PySem.Spec PyProof.Rows
section
variable{K:PySem.W.Frag}{σ:L2.St}{H0 F H F' H':Hp}{e e':En}
theorem bi.upd1(R:bi K F H σ e){σ':L2.St}(i:Nat)(hl:σ'.length=e'.length)(hσ:∀j,j≠i→σ'[j]?=σ[j]?)(he:∀j,j≠i→e'[j]?=e[j]?)(sF:aA F F')(sm:aA F' H')(hf:∀j a,j≠i→Fp σ e H j a→F' a=none)
    (hh:∀j a o,j≠i→Fp σ e H j a→H a=some o→H' a=some o)(hd:∀x,e'[i]?=some (some (.d x))→∃v,σ'[i]?=some (some v)∧DA K F' x v)
    (ho:∀xs,e'[i]?=some (some (.l xs))→∃l vs,σ'[i]?=some (some (.ref l))∧F' l=none∧H' l=some (.lst vs)∧aO K F' xs vs)
    (hn:∀xss,e'[i]?=some (some (.n xss))→∃(l:Addr) (bs:List Addr),σ'[i]?=some (some (.ref l))∧F' l=none∧H' l=some (.lst (bs.map V.ref))∧bs.length=xss.length∧bs.Nodup∧l∉bs∧
      ∀(k:Nat) (b:Addr) (ys:List PyData),bs[k]?=some b→xss[k]?=some ys→F' b=none∧∃us,H' b=some (.lst us)∧aO K F' ys us)
    (hi:∀a j,j≠i→Fp σ' e' H' i a→¬Fp σ e H j a):bi K F' H' σ' e'∧∀j a,j≠i→(Fp σ' e' H' j a↔ Fp σ e H j a):=by
  have fs:∀j a,j≠i→(Fp σ' e' H' j a↔ Fp σ e H j a):=by
    intro j a hj
    have key:∀xss l,e[j]?=some (some (.n xss))→σ[j]?=some (some (.ref l))→H' l=H l:=fun xss l h1 h2=>by
      obtain⟨l',bs,g1,g2,g3,_⟩:=R.nst j xss h1
      rw [h2] at g1;cases g1
      rw [g3]
      exact hh j l _ hj (.inr ⟨xss,l,bs,h1,h2,g3,.inl rfl⟩) g3
    unfold Fp
    rw [he j hj,hσ j hj]
    constructor
    · rintro(h1 | ⟨xss,l,bs,h1,h2,h3,h4⟩)
      · exact .inl h1
      · exact .inr ⟨xss,l,bs,h1,h2,by rw [←key xss l h1 h2];exact h3,h4⟩
    · rintro(h1 | ⟨xss,l,bs,h1,h2,h3,h4⟩)
      · exact .inl h1
      · exact .inr ⟨xss,l,bs,h1,h2,by rw [key xss l h1 h2];exact h3,h4⟩
  refine⟨⟨sm,hl,fun j x q=>?_,fun j xs q=>?_,fun j xss q=>?_,fun j k a q1 q2=>?_⟩,fs⟩
  · by_cases z:j=i
    · subst z;exact hd x q
    · rw [he j z] at q
      obtain⟨v,h1,h2⟩:=R.dat j x q
      exact⟨v,by rw [hσ j z];exact h1,DA.mono sF h2⟩
  · by_cases z:j=i
    · subst z;exact ho xs q
    · rw [he j z] at q
      obtain⟨l,vs,h1,h2,h3,h4⟩:=R.own j xs q
      have o:Fp σ e H j l:=.inl ⟨xs,q,h1⟩
      exact⟨l,vs,by rw [hσ j z];exact h1,hf j l z o,hh j l _ z o h3,h4.mono sF⟩
  · by_cases z:j=i
    · subst z;exact hn xss q
    · rw [he j z] at q
      obtain⟨l,bs,h1,h2,h3,h4,h5,h6,h7⟩:=R.nst j xss q
      have o:Fp σ e H j l:=.inr ⟨xss,l,bs,q,h1,h3,.inl rfl⟩
      refine⟨l,bs,by rw [hσ j z];exact h1,hf j l z o,hh j l _ z o h3,h4,h5,h6,fun k b ys g1 g2=>?_⟩
      obtain⟨c1,us,c2,c3⟩:=h7 k b ys g1 g2
      have ob:Fp σ e H j b:=.inr ⟨xss,l,bs,q,h1,h3,.inr (List.mem_of_getElem? g1)⟩
      exact⟨hf j b z ob,us,hh j b _ z ob c2,c3.mono sF⟩
  · by_cases zj:j=i
    · subst zj
      by_cases zk:k=j
      · exact zk.symm
      · exact absurd ((fs k a zk).mp q2) (hi a k zk q1)
    · by_cases zk:k=i
      · subst zk
        exact absurd ((fs j a zj).mp q1) (hi a j zj q2)
      · exact R.fp j k a ((fs j a zj).mp q1) ((fs k a zk).mp q2)
theorem bi.putL(R:bi K F H σ e){i:Nat}{xs ys:List PyData}{l:Addr}{vs:List V}(hi:e[i]?=some (some (.l xs)))(hl:σ[i]?=some (some (.ref l)))(hd:aO K F ys vs):
    bi K F (cu H l (.lst vs)) σ (e.set i (some (.l ys)))∧dX σ F H e F (cu H l (.lst vs)) (e.set i (some (.l ys))):=by
  obtain⟨l',vs',h1,h2,h3,h4⟩:=R.own i xs hi
  rw [hl] at h1;cases h1
  have hlt:i < e.length:=(List.getElem?_eq_some_iff.mp hi).1
  have fi:Fp σ e H i l:=.inl ⟨xs,hi,hl⟩
  have gi:(e.set i (some (Sv.l ys)))[i]?=some (some (.l ys)):=List.getElem?_set_self hlt
  obtain⟨R',fs⟩:=R.upd1 (F':=F) (H':=cu H l (.lst vs)) (e':=e.set i (some (.l ys))) i (by rw [List.length_set];exact R.len) (fun _ _=>rfl) (fun j hj=>List.getElem?_set_ne (Ne.symm hj)) (aA.refl F)
    (fun b o q=>by
      have z:b≠l:=fun z=>by rw [z,h2] at q;cases q
      rw [aN z];exact R.sm b o q)
    (fun j a _ q=>(R.fpAt q).1)
    (fun j a o hj q ha=>by
      have z:a≠l:=fun z=>hj (R.fp j i a q (by rw [z];exact fi))
      rw [aN z];exact ha)
    (fun x q=>by rw [gi] at q;cases q) (fun zs q=>by rw [gi] at q;cases q;exact⟨l,vs,hl,h2,aH,hd⟩) (fun xss q=>by rw [gi] at q;cases q)
    (fun a j hj q q2=>by
      rcases q with ⟨zs,_,q⟩ | ⟨xss,_,_,q,_⟩
      · rw [hl] at q;cases q
        exact hj (R.fp j i _ q2 fi)
      · rw [gi] at q;cases q)
  refine⟨R',⟨aA.refl _,fun a q=>?_,fun _ _ q _ _=>q,fun a ws q=>?_,fun a o q n=>?_,fun j=>?_,fun a ⟨j,q⟩=>?_,fun _ _ q _ _=>q⟩⟩
  · by_cases z:a=l
    · rw [z,aH] at q;cases q
    · rw [aN z] at q;exact q
  · by_cases z:a=l
    · rw [z];exact⟨vs,aH⟩
    · rw [aN z];exact⟨ws,q⟩
  · have z:a≠l:=fun z=>n ⟨i,by rw [z];exact fi⟩
    rw [aN z];exact q
  · by_cases z:j=i
    · subst z;rw [gi];exact⟨fun _=>⟨xs,hi⟩,fun _=>⟨ys,rfl⟩⟩
    · rw [List.getElem?_set_ne (Ne.symm z)]
  · by_cases z:j=i
    · subst z
      rcases q with ⟨zs,_,q⟩ | ⟨xss,_,_,q,_⟩
      · rw [hl] at q;cases q;exact .inl ⟨j,fi⟩
      · rw [gi] at q;cases q
    · exact .inl ⟨j,(fs j a z).mp q⟩
theorem bi.setD(R:bi K F H σ e)(i:Nat){x:PyData}{v:V}(h:DA K F x v):bi K F H (σ.set i (some v)) (e.set i (some (.d x)))∧∀a,cP (σ.set i (some v)) (e.set i (some (.d x))) H a→cP σ e H a:=by
  have gi:∀s,(e.set i (some (Sv.d x)))[i]?=some (some s)→s=.d x∧i < e.length:=fun s q=>by
    have hlt:i < e.length:=by have:=(List.getElem?_eq_some_iff.mp q).1;simpa using this
    rw [List.getElem?_set_self hlt] at q
    exact⟨(Option.some.inj (Option.some.inj q)).symm,hlt⟩
  have nofp:∀a,¬Fp (σ.set i (some v)) (e.set i (some (.d x))) H i a:=fun a q=>by
    rcases q with ⟨zs,q,_⟩ | ⟨xss,_,_,q,_⟩
    · cases (gi _ q).1
    · cases (gi _ q).1
  obtain⟨R',fs⟩:=R.upd1 (F':=F) (H':=H) (σ':=σ.set i (some v)) (e':=e.set i (some (.d x))) i (by rw [List.length_set,List.length_set];exact R.len) (fun j hj=>List.getElem?_set_ne (Ne.symm hj)) (fun j hj=>List.getElem?_set_ne (Ne.symm hj)) (aA.refl F) R.sm
    (fun j a _ q=>(R.fpAt q).1) (fun j a o _ _ ha=>ha)
    (fun y q=>by
      obtain⟨z,hlt⟩:=gi _ q
      cases z
      exact⟨v,List.getElem?_set_self (by rw [R.len];exact hlt),h⟩)
    (fun zs q=>by cases (gi _ q).1) (fun xss q=>by cases (gi _ q).1) (fun a j hj q=>absurd q (nofp a))
  refine⟨R',fun a ⟨j,q⟩=>?_⟩
  by_cases z:j=i
  · subst z;exact absurd q (nofp a)
  · exact⟨j,(fs j a z).mp q⟩
theorem bi.setL(R:bi K F H σ e)(i:Nat){xs:List PyData}{l:Addr}{vs:List V}(h1:F l=none)(h2:H l=some (.lst vs))(h3:aO K F xs vs)(h4:¬cP σ e H l):bi K F H (σ.set i (some (.ref l))) (e.set i (some (.l xs)))∧∀a,cP (σ.set i (some (.ref l))) (e.set i (some (.l xs))) H a→cP σ e H a∨a=l:=by
  have gi:∀s,(e.set i (some (Sv.l xs)))[i]?=some (some s)→s=.l xs∧i < e.length:=fun s q=>by
    have hlt:i < e.length:=by have:=(List.getElem?_eq_some_iff.mp q).1;simpa using this
    rw [List.getElem?_set_self hlt] at q
    exact⟨(Option.some.inj (Option.some.inj q)).symm,hlt⟩
  have onefp:∀a,Fp (σ.set i (some (.ref l))) (e.set i (some (.l xs))) H i a→a=l:=fun a q=>by
    rcases q with ⟨zs,q,q2⟩ | ⟨xss,_,_,q,_⟩
    · obtain⟨_,hlt⟩:=gi _ q
      rw [List.getElem?_set_self (by rw [R.len];exact hlt)] at q2
      cases q2;rfl
    · cases (gi _ q).1
  obtain⟨R',fs⟩:=R.upd1 (F':=F) (H':=H) (σ':=σ.set i (some (.ref l))) (e':=e.set i (some (.l xs))) i (by rw [List.length_set,List.length_set];exact R.len) (fun j hj=>List.getElem?_set_ne (Ne.symm hj)) (fun j hj=>List.getElem?_set_ne (Ne.symm hj)) (aA.refl F) R.sm
    (fun j a _ q=>(R.fpAt q).1) (fun j a o _ _ ha=>ha) (fun y q=>by cases (gi _ q).1)
    (fun zs q=>by
      obtain⟨z,hlt⟩:=gi _ q
      cases z
      exact⟨l,vs,List.getElem?_set_self (by rw [R.len];exact hlt),h1,h2,h3⟩)
    (fun xss q=>by cases (gi _ q).1) (fun a j hj q q2=>h4 ⟨j,by rw [onefp a q] at q2;exact q2⟩)
  refine⟨R',fun a ⟨j,q⟩=>?_⟩
  by_cases z:j=i
  · subst z;exact .inr (onefp a q)
  · exact .inl ⟨j,(fs j a z).mp q⟩
end
section
variable{X:Cx}{K:PySem.W.Frag}{o a:Expr}{es:List Expr}{fo:FE}{fs:FA}{name:Str}{apos cpos:Pos}{id:String}
def rB(K:PySem.W.Frag)(r:V→List V→Hp→VK→Prop)(g:List PyData→List PyData→Option (PyData × List PyData)):Prop:=
  ∀(F H:Hp) (l:Addr) (xs ys ds:List PyData) (z:PyData) (vs us:List V) (Q:VK),F l=none→aA F H→H l=some (.lst vs)→aO K F xs vs→aO K F ds us→g xs ds=some (z,ys)→
    (∀w ws,DA K F z w→aO K F ys ws→Q w (cu H l (.lst ws)))→r (.ref l) us H Q
def cK(g:List PyData→List PyData→Option (PyData × List PyData))(fo:FE)(fs:FA):FE:=fun e=>(fo e).bind fun p=>match p.1 with
  | .s i=>(fs p.2).bind fun q=>(fQ q.1).bind fun ds=>match q.2[i]? with
    | some (some (.l xs))=>(g xs ds).map fun z=>(.d z.1,q.2.set i (some (.l z.2)))
    | _=>none
  | _=>none
theorem wn{r:V→List V→Hp→VK→Prop}{g:List PyData→List PyData→Option (PyData × List PyData)}(hm:rB K r g){σ:L2.St}{H:Hp}{Q:VK}(h:fE K (cK g fo fs) σ H Q):DR K "list" r (fE K fo) (fA K fs) σ H Q:=by
  obtain⟨F,e,z,e',R,hf,q⟩:=h
  unfold cK at hf
  obtain⟨⟨x,e1⟩,h1,hf⟩:=Option.bind_eq_some_iff.mp hf
  match x,h1,hf with
  | .s i,h1,hf=>
  dsimp only at hf
  obtain⟨⟨rs,e2⟩,h2,hf⟩:=Option.bind_eq_some_iff.mp hf
  obtain⟨ds,h3,hf⟩:=Option.bind_eq_some_iff.mp hf
  refine⟨F,e,_,e1,R,h1,fun F1 H1 v X1 R1 A1=>?_⟩
  obtain⟨g1,zs,g2⟩:=A1
  obtain⟨l,vs,c1,c2,c3,c4⟩:=R1.own i zs g2
  rw [g1] at c1;cases c1
  refine⟨.inl ⟨rfl,vs,.inl (.inl c3)⟩,F1,e1,rs,e2,R1,h2,fun F2 H2 us X2 R2 A2=>?_⟩
  match h4:e2[i]?,hf with
  | some (some (.l xs)),hf=>
  dsimp only at hf
  obtain⟨⟨zd,ys⟩,h5,hf⟩:=Option.map_eq_some_iff.mp hf
  cases hf
  obtain⟨F3,R3,s3,d3,f3⟩:=dB.frozen R2 A2 h3
  obtain⟨l',vs',k1,k2,k3,k4⟩:=R3.own i xs h4
  rw [g1] at k1;cases k1
  refine hm F3 H2 l xs ys ds zd vs' us Q k2 R3.sm k3 k4 d3 h5 fun w ws hw hws=>?_
  obtain⟨R4,X4⟩:=R3.putL h4 g1 hws
  exact q _ _ _ ((X1.trans (X2.frz s3 f3)).trans X4) R4 hw
theorem yY{r:V→List V→Hp→VK→Prop}{g:List PyData→List PyData→Option (PyData × List PyData)}(slot:Slot "list" name id)(hty:typeOf (.builtin id)=pure (.type "method_descriptor"))(hm:DG X id r)(hf:rB X.K r g)(ho:PE X o (fE X.K fo))(ha:PA X (a::es) (fA X.K fs))
    (hbase:attributeBase o name X.env (eval o X.env)=eval o X.env)
    (hfew:((backTo cpos (starEach (a::es) X.env)).all (fun x=> !x.1)&&(backToKw cpos (keywordEach [] X.env)).all (fun x=>x.1.isSome)
      &&decide ((a::es).length+([]:List Keyword).length+(if ([]:List Keyword).isEmpty then 0 else 1) < 30))=true)
    (hline:(apos.endLine==cpos.line)=true)(hs:starEach (a::es) X.env=(false,eval a X.env)::starEach es X.env)(hplain:(backTo cpos (starEach es X.env)).any (·.1)=false):
    PE X (.Call (.Attribute o name apos) (a::es) [] cpos) (fE X.K (cK g fo fs)):=(BS PySem.F.plainAttrs_list slot hty hm ho ha hbase hfew hline hs hplain).mono fun _ _ _ h=>wn hf h
def bA:List PyData→List PyData→Option (PyData × List PyData):=fun xs ds=>match ds with
  | [d]=>if xs.length < 1000000 then some (.none,xs++[d]) else none
  | _=>none
theorem ui:rB K r9 bA:=by
  intro F H l xs ys ds z vs us Q hF sm hl d1 d2 hg q
  unfold bA at hg
  match ds,hg,d2 with
  | [d],hg,d2=>
    simp only [aO] at d2
    obtain⟨w,r,rfl,hw,rfl⟩:=d2
    dsimp only at hg
    split at hg
    case isFalse=>cases hg
    case isTrue hlt=>
    cases hg
    have:=d1.len
    have sl:sizeLine=16777216:=sizeLine_eq
    exact⟨l,vs,w,rfl,rfl,hl,by lia,q _ _ (jE.mpr rfl) (d1.append (aO.one hw))⟩
def qQ:List PyData→List PyData→Option (PyData × List PyData):=fun xs ds=>match ds with
  | []=>(xs[xs.length - 1]?).map fun d=>(d,xs.dropLast)
  | _=>none
def en:List PyData→List PyData→Option (PyData × List PyData):=fun xs ds=>match ds with
  | [.int i]=>if 0≤i∧i < 1000000000 then(xs[i.toNat]?).map fun d=>(d,xs.eraseIdx i.toNat) else none
  | _=>none
theorem xS:rB K vJ en:=by
  intro F H l xs ys ds z vs us Q hF sm hl d1 d2 hg q
  unfold en at hg
  match ds,hg,d2 with
  | [.int i],hg,d2=>
    simp only [aO,DA] at d2
    obtain⟨w,r,rfl,rfl,rfl⟩:=d2
    dsimp only at hg
    split at hg
    case isFalse=>cases hg
    case isTrue hlt=>
    obtain⟨d,h1,h2⟩:=Option.map_eq_some_iff.mp hg
    cases h2
    obtain⟨v,g1,g2⟩:=d1.get h1
    have hlt2:i.toNat < vs.length:=(List.getElem?_eq_some_iff.mp g1).1
    exact⟨l,vs,i,i.toNat,v,rfl,rfl,hl,by lia,by lia,seqIndex_of hlt.1 (by lia),g1,q _ _ g2 (d1.erase _)⟩
end
end L2
namespace L2
open PySem PySem.Spec PyProof.Rows
inductive Fl where
  | nx (e:En)
  | bk (e:En)
  | ct (e:En)
  | rt (r:Rv) (e:En)
abbrev FS:=En→Option Fl
structure df (W:List Nat) (σ:L2.St) (F H:Hp) (e:En) (σ':L2.St) (F' H':Hp) (e':En):Prop where
  sf:aA F F'
  dom:∀a,H' a=none→H a=none
  fr:∀a vs,F a=none→H a=some (.lst vs)→¬cP σ e H a→F' a=none
  lst:∀a vs,H a=some (.lst vs)→∃vs',H' a=some (.lst vs')
  tmp:∀a o,H a=some o→¬cP σ e H a→H' a=some o
  own:∀a,cP σ' e' H' a→cP σ e H a∨H a=none
  wr:∀j,j∉W→σ'[j]?=σ[j]?
  fd:∀a m,F a=none→H a=some (.dK m)→¬cP σ e H a→F' a=none
section
variable{K:PySem.W.Frag}{W W1 W2:List Nat}{σ σ1 σ2 σ':L2.St}{H0 F H F1 H1 F2 H2 F' H':Hp}{e e1 e2 e':En}
theorem df.refl:df W σ F H e σ F H e:=⟨aA.refl _,fun _ h=>h,fun _ _ h _ _=>h,fun _ vs h=>⟨vs,h⟩,fun _ _ h _=>h,fun _ h=>.inl h,fun _ _=>rfl,fun _ _ h _ _=>h⟩
theorem dX.s(x:dX σ F H e F' H' e'):df W σ F H e σ F' H' e':=⟨x.sf,x.dom,x.fr,x.lst,x.tmp,x.ow,fun _ _=>rfl,x.fd⟩
theorem df.trans(x:df W σ F H e σ1 F1 H1 e1)(y:df W σ1 F1 H1 e1 σ2 F2 H2 e2):df W σ F H e σ2 F2 H2 e2:=
  ⟨x.sf.trans y.sf,fun a h=>x.dom a (y.dom a h),fun a vs h n no=>let ⟨vs',q⟩:=x.lst a vs n;y.fr a vs' (x.fr a vs h n no) q (fun z=>(x.own a z).elim no fun z=>by rw [n] at z;cases z),fun a vs h=>let ⟨vs',q⟩:=x.lst a vs h;y.lst a vs' q,
    fun a o h n=>y.tmp a o (x.tmp a o h n) (fun z=>(x.own a z).elim n fun z=>by rw [h] at z;cases z),
    fun a h=>(y.own a h).elim (x.own a) (fun z=>.inr (x.dom a z)),
    fun j h=>(y.wr j h).trans (x.wr j h),
    fun a m h n no=>y.fd a m (x.fd a m h n no) (x.tmp a _ n no) (fun z=>(x.own a z).elim no fun z=>by rw [n] at z;cases z)⟩
theorem df.mono(x:df W1 σ F H e σ' F' H' e')(h:∀j,j∈W1→j∈W):df W σ F H e σ' F' H' e':=⟨x.sf,x.dom,x.fr,x.lst,x.tmp,x.own,fun j n=>x.wr j fun z=>n (h j z),x.fd⟩
end
def lV(K:PySem.W.Frag)(W:List Nat)(σ:L2.St)(F H:Hp)(e:En)(D:oy):Fl→Prop
  | .nx e'=>∀F' H' σ',df W σ F H e σ' F' H' e'→bi K F' H' σ' e'→D.nx σ' H'
  | .bk e'=>∀F' H' σ',df W σ F H e σ' F' H' e'→bi K F' H' σ' e'→D.bk σ' H'
  | .ct e'=>∀F' H' σ',df W σ F H e σ' F' H' e'→bi K F' H' σ' e'→D.ct σ' H'
  | .rt r e'=>∀F' H' σ' v,df W σ F H e σ' F' H' e'→bi K F' H' σ' e'→cG K σ' H F' H' e' r v→D.rt v H'
def fS(K:PySem.W.Frag)(f:FS)(W:List Nat):TS:=fun D σ H=>∃F e fl,bi K F H σ e∧f e=some fl∧lV K W σ F H e D fl
theorem PS.mono{X:Cx}{st:Stmt}{t t':TS}(h:PS X st t)(m:∀D σ H,t' D σ H→t D σ H):PS X st t':=fun pins s σ H D I q=>h pins s σ H D I (m D σ H q)
theorem jy.mono{X:Cx}{st:List Stmt}{t t':TS}(h:jy X st t)(m:∀D σ H,t' D σ H→t D σ H):jy X st t':=fun pins s σ H D I q=>h pins s σ H D I (m D σ H q)
theorem lV.later{K:PySem.W.Frag}{W W1 W2:List Nat}{σ σ1:L2.St}{F H F1 H1:Hp}{e e1:En}{D:oy}{fl:Fl}(h:lV K W σ F H e D fl)(x:df W1 σ F H e σ1 F1 H1 e1)(h1:∀j,j∈W1→j∈W)(h2:∀j,j∈W2→j∈W):lV K W2 σ1 F1 H1 e1 D fl:=by
  cases fl with
  | nx e'=>exact fun F' H' σ' y R=>h F' H' σ' ((x.mono h1).trans (y.mono h2)) R
  | bk e'=>exact fun F' H' σ' y R=>h F' H' σ' ((x.mono h1).trans (y.mono h2)) R
  | ct e'=>exact fun F' H' σ' y R=>h F' H' σ' ((x.mono h1).trans (y.mono h2)) R
  | rt r e'=>exact fun F' H' σ' v y R A=>h F' H' σ' v ((x.mono h1).trans (y.mono h2)) R (A.weak x.dom)
section
variable{X:Cx}{K:PySem.W.Frag}{W W1 W2:List Nat}{st:Stmt}{dc:List Stmt}{f g:FS}{a b:Expr}{fa:FE}{ft:FT}{pos:Pos}
def bQ:FS:=fun e=>some (.nx e)
def ay(f g:FS):FS:=fun e=>(f e).bind fun fl=>match fl with
  | .nx e1=>g e1
  | fl=>some fl
theorem aR:jy X [] (fS K bQ []):=rY.mono fun D σ H h=>by
  obtain⟨F,e,fl,R,hf,q⟩:=h
  cases hf
  exact q F H σ df.refl R
theorem ag(h1:PS X st (fS K f W1))(h2:jy X dc (fS K g W2)):jy X (st::dc) (fS K (ay f g) (W1++W2)):=(iG h1 h2).mono fun D σ H h=>by
  obtain⟨F,e,fl,R,hf,q⟩:=h
  unfold ay at hf
  obtain⟨fl1,h1,hf⟩:=Option.bind_eq_some_iff.mp hf
  have s1:∀j,j∈W1→j∈W1++W2:=fun j h=>List.mem_append.mpr (.inl h)
  have s2:∀j,j∈W2→j∈W1++W2:=fun j h=>List.mem_append.mpr (.inr h)
  refine⟨F,e,fl1,R,h1,?_⟩
  cases fl1 with
  | nx e1=>exact fun F' H' σ' x R'=>⟨F',e1,fl,R',hf,q.later x s1 s2⟩
  | bk e1=>cases hf;exact fun F' H' σ' x R'=>q F' H' σ' (x.mono s1) R'
  | ct e1=>cases hf;exact fun F' H' σ' x R'=>q F' H' σ' (x.mono s1) R'
  | rt r e1=>cases hf;exact fun F' H' σ' v x R' A=>q F' H' σ' v (x.mono s1) R' A
theorem am(h1:PS X st (fS K f W)):jy X [st] (fS K f W):=jS h1
def ej(fa:FE):FS:=fun e=>(fa e).map fun p=>.nx p.2
theorem eD(he:PE X a (fE K fa))(hs:swapsWith a none pos.line X.env=pure false):PS X (.Expr a pos) (fS K (ej fa) []):=(xT he hs).mono fun D σ H h=>by
  obtain⟨F,e,fl,R,hf,q⟩:=h
  obtain⟨⟨x,e1⟩,h1,hf⟩:=Option.map_eq_some_iff.mp hf
  cases hf
  exact⟨F,e,x,e1,R,h1,fun F1 H1 v X1 R1 A1=>q F1 H1 σ X1.s R1⟩
def a8(fa:FE):FS:=fun e=>(fa e).map fun p=>.rt p.1 p.2
theorem aw(he:PE X a (fE K fa)):PS X (.Return (some a) pos) (fS K (a8 fa) []):=(rc he).mono fun D σ H h=>by
  obtain⟨F,e,fl,R,hf,q⟩:=h
  obtain⟨⟨x,e1⟩,h1,hf⟩:=Option.map_eq_some_iff.mp hf
  cases hf
  exact⟨F,e,x,e1,R,h1,fun F1 H1 v X1 R1 A1=>q F1 H1 σ v X1.s R1 A1⟩
def eu(ft:FT)(f g:FS):FS:=fun e=>(ft e).bind fun p=>if p.1=true then f p.2 else g p.2
theorem bG{c:Expr}{bs cs:List Stmt}(hc:PT X c (fT K ft))(ha:jy X bs (fS K f W1))(hb:jy X cs (fS K g W2)):PS X (.If c bs cs pos) (fS K (eu ft f g) (W1++W2)):=(yW hc ha hb).mono fun D σ H h=>by
  obtain⟨F,e,fl,R,hf,q⟩:=h
  unfold eu at hf
  obtain⟨⟨x,e1⟩,h1,hf⟩:=Option.bind_eq_some_iff.mp hf
  refine⟨F,e,x,e1,R,h1,fun F1 H1 X1 R1=>?_⟩
  cases x with
  | true=>exact⟨F1,e1,fl,R1,hf,q.later (W1:=[]) X1.s (fun j h=>by cases h) fun j h=>List.mem_append.mpr (.inl h)⟩
  | false=>exact⟨F1,e1,fl,R1,hf,q.later (W1:=[]) X1.s (fun j h=>by cases h) fun j h=>List.mem_append.mpr (.inr h)⟩
def pk(i:Nat)(r:Rv)(e:En):Option En:=match r with
  | .d x=>some (e.set i (some (.d x)))
  | .l xs=>some (e.set i (some (.l xs)))
  | .s _=>none
theorem Ap{σ:L2.St}{H F H1 F1:Hp}{e e1 e2:En}{i:Nat}{r:Rv}{v:V}(R:bi K F H σ e)(X1:dX σ F H e F1 H1 e1)(R1:bi K F1 H1 σ e1)(A1:cG K σ H F1 H1 e1 r v)(h:pk i r e1=some e2):
    df [i] σ F H e (σ.set i (some v)) F1 H1 e2∧bi K F1 H1 (σ.set i (some v)) e2:=by
  have wr:∀j,j∉[i]→(σ.set i (some v))[j]?=σ[j]?:=fun j n=>List.getElem?_set_ne (fun z=>n (by simp [z]))
  cases r with
  | d x=>
    cases h
    obtain⟨R2,o2⟩:=R1.setD i A1
    exact⟨⟨X1.sf,X1.dom,X1.fr,X1.lst,X1.tmp,fun a h=>X1.ow a (o2 a h),wr,X1.fd⟩,R2⟩
  | l xs=>
    cases h
    obtain⟨l,vs,rfl,h1,h2,h3,h4,h5⟩:=A1
    obtain⟨R2,o2⟩:=R1.setL i h2 h3 h4 h5
    refine⟨⟨X1.sf,X1.dom,X1.fr,X1.lst,X1.tmp,fun a h=>?_,wr,X1.fd⟩,R2⟩
    rcases o2 a h with z | z
    · exact X1.ow a z
    · exact .inr (by rw [z];exact h1)
  | s j=>cases h
def bg(i:Nat)(fa:FE):FS:=fun e=>(fa e).bind fun p=>(pk i p.1 p.2).map .nx
theorem aC{i:Nat}{x:Str}{pos':Pos}(hN:X.N.Nodup)(hi:X.N[i]?=some x)(hx:Ba X.env.scope x)(he:PE X a (fE K fa))(hs:swapsWith a (some (.Name x pos')) pos.line X.env=pure false)(hf:X.fn x=true∨X.env.scope.names.lookup x=some .local):
    PS X (.Assign [.Name x pos'] a pos) (fS K (bg i fa) [i]):=(pj hN hi hx he hs hf).mono fun D σ H h=>by
  obtain⟨F,e,fl,R,hf,q⟩:=h
  unfold bg at hf
  obtain⟨⟨r,e1⟩,h1,hf⟩:=Option.bind_eq_some_iff.mp hf
  obtain⟨e2,h2,hf⟩:=Option.map_eq_some_iff.mp hf
  cases hf
  refine⟨F,e,r,e1,R,h1,fun F1 H1 v X1 R1 A1=>?_⟩
  obtain⟨x,R2⟩:=Ap R X1 R1 A1 h2
  exact q F1 H1 _ x R2
abbrev FG:=PyData→En→Option En
def fG(K:PySem.W.Frag)(g:FG)(W:List Nat):TG:=fun v σ H Q=>∃F e x e',bi K F H σ e∧DA K F x v∧g x e=some e'∧∀σ',df W σ F H e σ' F H e'→bi K F H σ' e'→Q σ' H
abbrev yv:=List PyData→En→Option En
def CJ(K:PySem.W.Frag)(g:yv)(W:List Nat):wq:=fun vs σ H Q=>∃F e xs e',bi K F H σ e∧aO K F xs vs∧g xs e=some e'∧∀σ',df W σ F H e σ' F H e'→bi K F H σ' e'→Q σ' H
theorem PG.mono{tg:Expr}{t t':TG}(h:PG X tg t)(m:∀v σ H Q,t' v σ H Q→t v σ H Q):PG X tg t':=fun pins s σ H v u Q I r q=>h pins s σ H v u Q I r (m v σ H Q q)
theorem ua.mono{tg:List Expr}{t t':wq}(h:ua X tg t)(m:∀v σ H Q,t' v σ H Q→t v σ H Q):ua X tg t':=fun pins s σ H v u Q I r q=>h pins s σ H v u Q I r (m v σ H Q q)
def ah(i:Nat):FG:=fun x e=>some (e.set i (some (.d x)))
def bI:yv:=fun xs e=>match xs with
  | []=>some e
  | _=>none
def aq(g:FG)(gs:yv):yv:=fun xs e=>match xs with
  | x::r=>(g x e).bind fun e1=>gs r e1
  | _=>none
def bS(gs:yv):FG:=fun x e=>match x with
  | .tuple xs=>gs xs e
  | _=>none
theorem av{i:Nat}{x:Str}(hN:X.N.Nodup)(hi:X.N[i]?=some x)(hx:Ba X.env.scope x)(hf:X.fn x=true∨X.env.scope.names.lookup x=some .local):PG X (.Name x pos) (fG K (ah i) [i]):=(xK hN hi hx hf).mono fun v σ H Q h=>by
  obtain⟨F,e,x,e',R,hx,hg,q⟩:=h
  cases hg
  obtain⟨R2,o2⟩:=R.setD i hx
  exact q _ ⟨aA.refl _,fun _ h=>h,fun _ _ h _ _=>h,fun _ vs h=>⟨vs,h⟩,fun _ _ h _=>h,fun a h=>.inl (o2 a h),fun j n=>List.getElem?_set_ne (fun z=>n (by simp [z])),fun _ _ h _ _=>h⟩ R2
theorem du:ua X [] (CJ K bI []):=xN.mono fun v σ H Q h=>by
  obtain⟨F,e,x,e',R,hx,hg,q⟩:=h
  unfold bI at hg
  split at hg
  · cases hg
    simp only [aO] at hx
    exact⟨hx,q σ df.refl R⟩
  · cases hg
theorem aB{es:List Expr}{g1:FG}{gs:yv}(h1:PG X a (fG K g1 W1))(h2:ua X es (CJ K gs W2))
    (hs:(assignEach (a::es) X.env).map (·.2)=assign a X.env::(assignEach es X.env).map (·.2)):ua X (a::es) (CJ K (aq g1 gs) (W1++W2)):=(vw h1 h2 hs).mono fun v σ H Q h=>by
  obtain⟨F,e,xs,e',R,hx,hg,q⟩:=h
  unfold aq at hg
  match xs,hg,hx with
  | x::r,hg,hx=>
    simp only [aO] at hx
    obtain⟨w,ws,e1,hw,hr⟩:=hx
    dsimp only at hg
    obtain⟨e1',h3,h4⟩:=Option.bind_eq_some_iff.mp hg
    refine⟨w,ws,e1,F,e,x,e1',R,hw,h3,fun σ1 x1 R1=>⟨F,e1',r,e',R1,hr,h4,fun σ2 x2 R2=>?_⟩⟩
    exact q σ2 ((x1.mono fun j h=>List.mem_append.mpr (.inl h)).trans (x2.mono fun j h=>List.mem_append.mpr (.inr h))) R2
theorem fw{es:List Expr}{k n:Nat}{gs:yv}(hK:X.K=K)(hc:X.calm=true)(h:ua X es (CJ K gs W))(hl:∀xs e e',gs xs e=some e'→xs.length=n)(hn:(assignEach es X.env).length=n)(hst:(assignEach es X.env).findIdx? (·.1)=none):PG X (.Tuple es k pos) (fG K (bS gs) W):=(xM hK hc h hn hst).mono fun v σ H Q h=>by
  obtain⟨F,e,x,e',R,hx,hg,q⟩:=h
  unfold bS at hg
  match x,hg,hx with
  | .tuple xs,hg,hx=>
    obtain⟨p,vs,e1,e2,e3⟩:=dj.mp hx
    exact⟨p,vs,e1,R.sm.tup e2,by rw [←e3.len];exact hl xs e e' hg,F,e,xs,e',R,e3,hg,q⟩
theorem fj(xs:List PyData)(e e':En)(h:bI xs e=some e'):xs.length=0:=by
  unfold bI at h
  split at h
  · rfl
  · cases h
theorem aM{g:FG}{gs:yv}{n:Nat}(hl:∀xs e e',gs xs e=some e'→xs.length=n)(xs:List PyData)(e e':En)(h:aq g gs xs e=some e'):xs.length=n+1:=by
  unfold aq at h
  match xs,h with
  | x::r,h=>
    obtain⟨e1,h3,h4⟩:=Option.bind_eq_some_iff.mp h
    simp [hl r e1 e' h4]
def i8(fa:FE)(g:FG):FS:=fun e=>(fa e).bind fun p=>match p.1 with
  | .d x=>(g x p.2).map .nx
  | _=>none
theorem jt{tg:Expr}{g:FG}(he:PE X a (fE K fa))(hg:PG X tg (fG K g W))(hs:swapsWithSole [tg] a pos.line X.env=pure false)(hw:swappedStores [tg] a X.env=pure none)
    (h1:(assignEach [tg] X.env).map (·.2)=[assign tg X.env]):PS X (.Assign [tg] a pos) (fS K (i8 fa g) W):=(Ak he hg hs hw h1).mono fun D σ H h=>by
  obtain⟨F,e,fl,R,hf,q⟩:=h
  unfold i8 at hf
  obtain⟨⟨r,e1⟩,h1,hf⟩:=Option.bind_eq_some_iff.mp hf
  match r,h1,hf with
  | .d x,h1,hf=>
    obtain⟨e2,h2,hf⟩:=Option.map_eq_some_iff.mp hf
    cases hf
    exact⟨F,e,_,e1,R,h1,fun F1 H1 v X1 R1 A1=>⟨F1,e1,x,e2,R1,A1,h2,fun σ' x2 R2=>q F1 H1 σ' (X1.s.trans x2) R2⟩⟩
def i9(i j:Nat)(fs:FA):FS:=fun e=>(fs e).bind fun p=>match p.1 with
  | [.d x,.d y]=>some (.nx ((p.2.set i (some (.d x))).set j (some (.d y))))
  | _=>none
theorem mD{i j:Nat}{x y:Str}{fs:FA}{px py pt:Pos}{kt k2 pt2}(hc:X.calm=true)(hN:X.N.Nodup)(hi:X.N[i]?=some x)(hj:X.N[j]?=some y)(hij:i≠j)
    (hx:X.env.scope.names.lookup x=some .local)(hy:X.env.scope.names.lookup y=some .local)(ha:PA X [a,b] (fA K fs))
    (hw:swappedStores [.Tuple [.Name x px,.Name y py] kt pt] (.Tuple [a,b] k2 pt2) X.env=pure (some [x,y]))
    (hs:swapsWithSole [.Tuple [.Name x px,.Name y py] kt pt] (.Tuple [a,b] k2 pt2) pos.line X.env=pure false):
    PS X (.Assign [.Tuple [.Name x px,.Name y py] kt pt] (.Tuple [a,b] k2 pt2) pos) (fS K (i9 i j fs) [i,j]):=(Am hc hN hi hj hij hx hy ha hw hs).mono fun D σ H h=>by
  obtain⟨F,e,fl,R,hf,q⟩:=h
  unfold i9 at hf
  obtain⟨⟨rs,e1⟩,h1,hf⟩:=Option.bind_eq_some_iff.mp hf
  refine⟨F,e,rs,e1,R,h1,fun F1 H1 vs X1 R1 A1=>?_⟩
  match rs,hf,A1 with
  | [.d x,.d y],hf,A1=>
    cases hf
    obtain⟨v,u,rfl,a1,a2⟩:=se A1
    obtain⟨R2,o2⟩:=R1.setD i a1
    obtain⟨R3,o3⟩:=R2.setD j a2
    refine⟨v,u,rfl,q F1 H1 _ ⟨X1.sf,X1.dom,X1.fr,X1.lst,X1.tmp,fun a h=>X1.ow a (o2 a (o3 a h)),fun m n=>?_,X1.fd⟩ R3⟩
    rw [List.getElem?_set_ne (fun z=>n (by simp [z])),List.getElem?_set_ne (fun z=>n (by simp [z]))]
def lJ:Rv→Option PyData
  | .d x=>some x
  | .l xs=>some (.list xs)
  | .s _=>none
theorem sP{r:Rv}{d:PyData}(h:lJ r=some d):fQ [r]=some [d]:=by
  cases r with
  | d x=>cases h;rfl
  | l xs=>cases h;rfl
  | s i=>cases h
def h_(ft:FT)(f:FS):Nat→FS
  | 0,_=>none
  | n+1,e=>(ft e).bind fun p=>if p.1=true then(f p.2).bind fun fl=>match fl with
      | .nx e1=>h_ ft f n e1
      | .ct e1=>h_ ft f n e1
      | .bk e1=>some (.nx e1)
      | .rt r e1=>some (.rt r e1)
    else some (.nx p.2)
def jv(n:Nat)(ft:FT)(f:FS):FS:=h_ ft f n
theorem mE{n:Nat}{c:Expr}{body:List Stmt}(hp:PassesOwn (model X.prog X.w) X.A X.env X.xe)(hc:PT X c (fT K ft))(hb:jy X body (fS K f W)):PS X (.While c body [] pos) (fS K (jv n ft f) W):=(vD hp hc hb).mono fun D σ H h=>by
  refine⟨fun m σ H=>∃F e fl,bi K F H σ e∧h_ ft f m e=some fl∧lV K W σ F H e D fl,⟨n,h⟩,?_⟩
  rintro m σ H ⟨F,e,fl,R,hf,q⟩
  cases m with
  | zero=>cases hf
  | succ m=>
    unfold h_ at hf
    obtain⟨⟨x,e1⟩,h1,hf⟩:=Option.bind_eq_some_iff.mp hf
    refine⟨F,e,x,e1,R,h1,fun F1 H1 X1 R1=>?_⟩
    have sub:∀j,j∈([]:List Nat)→j∈W:=fun j h=>by cases h
    cases x with
    | false=>
      rw [if_neg (by simp)] at hf
      cases hf
      exact BA (q F1 H1 σ X1.s R1)
    | true=>
      rw [if_pos rfl] at hf
      refine zC ?_
      obtain⟨fl1,h2,hf⟩:=Option.bind_eq_some_iff.mp hf
      have q1:lV K W σ F1 H1 e1 D fl:=q.later (W1:=[]) X1.s sub fun j h=>h
      refine⟨fun σ' H'=>∃F' e',bi K F' H' σ' e'∧h_ ft f m e'=some fl∧lV K W σ' F' H' e' D fl,fun σ' H' ⟨F',e',r1,r2,r3⟩=>⟨m,Nat.lt_succ_self m,F',e',fl,r1,r2,r3⟩,F1,e1,fl1,R1,h2,?_⟩
      cases fl1 with
      | nx e2=>exact fun F2 H2 σ2 x R2=>⟨F2,e2,R2,hf,q1.later x (fun j h=>h) fun j h=>h⟩
      | ct e2=>exact fun F2 H2 σ2 x R2=>⟨F2,e2,R2,hf,q1.later x (fun j h=>h) fun j h=>h⟩
      | bk e2=>cases hf;exact fun F2 H2 σ2 x R2=>q1 F2 H2 σ2 x R2
      | rt r e2=>cases hf;exact fun F2 H2 σ2 v x R2 A=>q1 F2 H2 σ2 v x R2 A
end
end L2
namespace L2
open PySem PySem.Spec PyProof.Rows
theorem PI.mono{X:Cx}{tg iter:Expr}{t t':TI}(h:PI X tg iter t)(m:∀σ H R,t' σ H R→t σ H R):PI X tg iter t':=fun pins s σ H R I q=>h pins s σ H R I (m σ H R q)
theorem PI.or{X:Cx}{tg iter:Expr}{t t':TI}(h:PI X tg iter t)(h':PI X tg iter t'):PI X tg iter (fun σ H R=>t σ H R∨t' σ H R):=fun pins s σ H R I q=>by
  rcases q with q | q
  · exact h pins s σ H R I q
  · exact h' pins s σ H R I q
abbrev jg:=List (Nat × List PyData)
def ug(K:PySem.W.Frag)(σ:L2.St)(F H:Hp)(own:jg):Prop:=∀p∈own,∃l vs,σ[p.1]?=some (some (.ref l))∧H l=some (.lst vs)∧aO K F p.2 vs
def wD(K:PySem.W.Frag)(σ:L2.St)(J:It)(items:List PyData)(own:jg)(F0:Hp):Prop:=∀F H,aA F0 F→aA F H→ug K σ F H own→
  (∀i,i < items.length→J.go i H)∧(∀i,items.length≤i→J.stop i H)∧∀i d x H',items[i]?=some d→J.yld i H x H'→∃F',aA H H'∧aA F F'∧aA F' H'∧(∀a,F a=none→H a≠none→F' a=none)∧DA K F' d x
abbrev FI:=En→Option (List PyData × jg × En)
def keeps(own:jg)(e:En):Prop:=∀p∈own,e[p.1]?=some (some (.l p.2))
def fI(K:PySem.W.Frag)(f:FI):TI:=fun σ H R=>∃F e items own e',bi K F H σ e∧f e=some (items,own,e')∧∀J F' H',dX σ F H e F' H' e'→bi K F' H' σ e'→keeps own e'→wD K σ J items own F'→R J H'
section
variable{K:PySem.W.Frag}{σ:L2.St}{H0 F H F' H':Hp}{e e':En}
theorem bi.held(R:bi K F H σ e){own:jg}(h:keeps own e):ug K σ F H own:=fun p hp=>by
  obtain⟨l,vs,h1,h2,h3,h4⟩:=R.own p.1 p.2 (h p hp)
  exact⟨l,vs,h1,h3,h4⟩
theorem bi.step(R:bi K F H σ e)(s:aA H H')(sF:aA F F')(sm:aA F' H')(fz:∀a,F a=none→H a≠none→F' a=none):bi K F' H' σ e∧dX σ F H e F' H' e:=by
  obtain⟨R',o'⟩:=R.keep sF sm (fun a ⟨i,h⟩=>by
    obtain⟨h1,vs,h2⟩:=R.fpAt h
    exact fz a h1 (by rw [h2];simp)) fun a o _ h=>s a o h
  exact⟨R',⟨sF,fun a h=>s.free h,fun a vs h1 h2 _=>fz a h1 (by rw [h2];simp),fun a vs h=>⟨vs,s _ _ h⟩,fun a o h _=>s a o h,fun _=>Iff.rfl,fun a h=>.inl ((o' a).mp h),fun a m h1 h2 _=>fz a h1 (by rw [h2];simp)⟩⟩
inductive yx (K:PySem.W.Frag) (σ:L2.St) (F:Hp) (p:Addr):Bool→List PyData→jg→Prop
  | tup {xs vs}:dY K F p vs→aO K F xs vs→yx K σ F p false xs []
  | lst {xs vs}:gL K F p vs→aO K F xs vs→yx K σ F p true xs []
  | own {i xs}:σ[i]?=some (some (.ref p))→yx K σ F p true xs [(i,xs)]
theorem yx.at{p:Addr}{b:Bool}{xs:List PyData}{own:jg}{F0:Hp}(h:yx K σ F0 p b xs own)(s0:aA F0 F)(s1:aA F H){own':jg}(hh:ug K σ F H own')(hs:∀q∈own,q∈own'):∃vs,aO K F xs vs∧(if b=true then gL K H p vs else dY K H p vs):=by
  cases h with
  | tup h1 h2=>exact⟨_,h2.mono s0,(s0.trans s1).tup h1⟩
  | lst h1 h2=>exact⟨_,h2.mono s0,(s0.trans s1).seq h1⟩
  | @own i xs h1=>
    obtain⟨l,vs,g1,g2,g3⟩:=hh (i,xs) (hs (i,xs) (by simp))
    dsimp only at g1 g3
    rw [h1] at g1;cases g1
    exact⟨vs,g3,.inl (.inl g2)⟩
def AJ(e:En):Rv→Option (Bool × List PyData × jg)
  | .d (.tuple xs)=>some (false,xs,[])
  | .d (.list xs)=>some (true,xs,[])
  | .l xs=>some (true,xs,[])
  | .s i=>match e[i]? with
    | some (some (.l xs))=>some (true,xs,[(i,xs)])
    | _=>none
  | _=>none
theorem sr{r:Rv}{v:V}{b:Bool}{xs:List PyData}{own:jg}(R:bi K F H σ e)(A:cG K σ H0 F H e r v)(h:AJ e r=some (b,xs,own)):
    ∃F' p,bi K F' H σ e∧aA F F'∧(∀a,F a=none→H0 a≠none→F' a=none)∧v=.ref p∧yx K σ F' p b xs own∧keeps own e:=by
  cases r with
  | d x=>
    cases x with
    | tuple ds=>
      cases h
      obtain⟨a,ys,e1,e2,e3⟩:=dj.mp A
      exact⟨F,a,R,aA.refl _,fun _ h _=>h,e1,.tup e2 e3,fun p hp=>by cases hp⟩
    | list ds=>
      cases h
      obtain⟨a,ys,e1,e2,e3⟩:=cW.mp A
      exact⟨F,a,R,aA.refl _,fun _ h _=>h,e1,.lst e2 e3,fun p hp=>by cases hp⟩
    | _=>cases h
  | l ys=>
    cases h
    obtain⟨F',R',s',d',f'⟩:=A.frozen R
    obtain⟨a,ys,e1,e2,e3⟩:=cW.mp d'
    exact⟨F',a,R',s',f',e1,.lst e2 e3,fun p hp=>by cases hp⟩
  | s i=>
    obtain⟨h1,ys,h2⟩:=A
    simp only [AJ,h2] at h
    cases h
    obtain⟨l,vs,e1,e2,e3,e4⟩:=R.own i _ h2
    rw [h1] at e1;cases e1
    exact⟨F,l,R,aA.refl _,fun _ h _=>h,rfl,.own h1,fun p hp=>by simp only [List.mem_singleton] at hp;subst hp;exact h2⟩
theorem sZ{p:Addr}{xs:List PyData}{own:jg}{F0:Hp}(h:yx K σ F0 p true xs own):wD K σ (CV K p) xs own F0:=by
  intro F H s0 s1 hh
  obtain⟨vs,d,q⟩:=h.at s0 s1 hh fun _ h=>h
  have q:gL K H p vs:=q
  refine⟨fun i hi=>⟨vs,vs[i]'(by rw [←d.len];exact hi),q,List.getElem?_eq_getElem _⟩,fun i hi=>⟨vs,q,by rw [←d.len];exact hi⟩,fun i x v H' hx hy=>?_⟩
  obtain⟨rfl,hy⟩:=hy
  obtain⟨w,g1,g2⟩:=d.get hx
  have e:=hy vs q
  rw [g1] at e;cases e
  exact⟨F,aA.refl _,aA.refl _,s1,fun _ h _=>h,g2⟩
theorem uT{p:Addr}{xs:List PyData}{own:jg}{F0:Hp}(h:yx K σ F0 p false xs own):wD K σ (CW K p) xs own F0:=by
  intro F H s0 s1 hh
  obtain⟨vs,d,q⟩:=h.at s0 s1 hh fun _ h=>h
  have q:dY K H p vs:=q
  refine⟨fun i hi=>⟨vs,vs[i]'(by rw [←d.len];exact hi),q,List.getElem?_eq_getElem _⟩,fun i hi=>⟨vs,q,by rw [←d.len];exact hi⟩,fun i x v H' hx hy=>?_⟩
  obtain⟨rfl,hy⟩:=hy
  obtain⟨w,g1,g2⟩:=d.get hx
  have e:=hy vs q
  rw [g1] at e;cases e
  exact⟨F,aA.refl _,aA.refl _,s1,fun _ h _=>h,g2⟩
def bL(lo:Int)(n:Nat):List PyData:=(List.range n).map fun(i:Nat)=>.int (lo+(i:Int))
theorem qN{lo:Int}{n:Nat}{F0:Hp}:wD K σ (CA lo n) (bL lo n) [] F0:=by
  intro F H s0 s1 hh
  unfold bL
  rw [List.length_map,List.length_range]
  refine⟨fun i hi=>hi,fun i hi=>hi,fun i x v H' hx hy=>?_⟩
  obtain⟨rfl,rfl⟩:=hy
  rw [List.getElem?_map] at hx
  obtain⟨k,h1,rfl⟩:=Option.map_eq_some_iff.mp hx
  have h2:=(List.getElem?_eq_some_iff.mp h1).2
  simp at h2
  subst h2
  exact⟨F,aA.refl _,aA.refl _,s1,fun _ h _=>h,bK.mpr rfl⟩
end
inductive CT (K:PySem.W.Frag) (own:jg) (σ0:L2.St) (F1:Hp) (P:En→Prop) (G:L2.St→Hp→Hp→En→Prop) (σ:L2.St) (H:Hp):Prop
  | mk {F:Hp} {e:En} (R:bi K F H σ e) (kp:keeps own e) (hσ:∀p∈own,σ[p.1]?=σ0[p.1]?) (sF:aA F1 F) (hf:P e) (q:G σ F H e):CT K own σ0 F1 P G σ H
section
variable{X:Cx}{K:PySem.W.Frag}{tg a b:Expr}{es:List Expr}{fa:FE}{fs:FA}{pos p tp:Pos}{k0:Nat}
def jJ(fa:FE):FI:=fun e=>(fa e).bind fun p=>(AJ p.2 p.1).map fun s=>(s.2.1,s.2.2,p.2)
theorem fx(hK:X.K=K)(h:PE X a (fE K fa)):PI X tg a (fI K (jJ fa)):=((vx (tg:=tg) hK h).or (xP (tg:=tg) hK h)).mono fun σ H R hh=>by
  obtain⟨F,e,items,own,e',R0,hf,q⟩:=hh
  unfold jJ at hf
  obtain⟨⟨r,e1⟩,h1,hf⟩:=Option.bind_eq_some_iff.mp hf
  obtain⟨⟨b,xs,ow⟩,h2,hf⟩:=Option.map_eq_some_iff.mp hf
  cases hf
  cases b with
  | true=>
    refine .inl ⟨F,e,r,e1,R0,h1,fun F1 H1 v X1 R1 A1=>?_⟩
    obtain⟨F2,p,R2,s2,f2,rfl,sc,kp⟩:=sr R1 A1 h2
    obtain⟨vs,_,c⟩:=sc.at (aA.refl _) R2.sm (R2.held kp) fun _ h=>h
    exact⟨p,rfl,⟨vs,c⟩,q _ F2 H1 (X1.frz s2 f2) R2 kp (sZ sc)⟩
  | false=>
    refine .inr ⟨F,e,r,e1,R0,h1,fun F1 H1 v X1 R1 A1=>?_⟩
    obtain⟨F2,p,R2,s2,f2,rfl,sc,kp⟩:=sr R1 A1 h2
    obtain⟨vs,_,c⟩:=sc.at (aA.refl _) R2.sm (R2.held kp) fun _ h=>h
    exact⟨p,rfl,⟨vs,c⟩,q _ F2 H1 (X1.frz s2 f2) R2 kp (uT sc)⟩
def vP(j:Int):Bool:=decide (-1000000≤j)&&decide (j≤1000000)
theorem vQ{j:Int}(h:vP j=true): -1000000≤j∧j≤1000000:=by
  unfold vP at h
  rw [Bool.and_eq_true,decide_eq_true_iff,decide_eq_true_iff] at h
  exact h
def dn(fs:FA):FI:=fun e=>(fs e).bind fun p=>match p.1 with
  | [r]=>(cv r).bind fun j=>if vP j=true then some (bL 0 j.toNat,[],p.2) else none
  | _=>none
theorem dO(hg:Gl X "range")(hm:X.mg "range"=none)(ha:PA X [a] (fA K fs))(hs:starEach [a] X.env=[(false,eval a X.env)]):PI X tg (.Call (.Name "range" p) [a] [] pos) (fI K (dn fs)):=(tO hg hm ha hs).mono fun σ H R hh=>by
  obtain⟨F,e,items,own,e',R0,hf,q⟩:=hh
  unfold dn at hf
  obtain⟨⟨rs,e1⟩,h1,hf⟩:=Option.bind_eq_some_iff.mp hf
  match rs,h1,hf with
  | [r],h1,hf=>
  obtain⟨j,h2,hf⟩:=Option.bind_eq_some_iff.mp hf
  split at hf
  case isFalse=>cases hf
  case isTrue hj=>
  cases hf
  refine⟨F,e,_,e1,R0,h1,fun F1 H1 vs X1 R1 A1=>?_⟩
  obtain⟨v,rfl,A2⟩:=lp A1
  have:=vQ hj
  exact⟨j,by rw [cH A2 h2],by lia,by lia,q _ F1 H1 X1 R1 (fun _ h=>by cases h) qN⟩
open Classical in
noncomputable def gb(own:jg)(g:FG)(f:FS):List PyData→FS
  | [],e=>some (.nx e)
  | x::r,e=>(g x e).bind fun e1=>(f e1).bind fun fl=>match fl with
    | .nx e2=>if keeps own e2 then gb own g f r e2 else none
    | .ct e2=>if keeps own e2 then gb own g f r e2 else none
    | .bk e2=>some (.nx e2)
    | .rt v e2=>some (.rt v e2)
noncomputable def eE(W:List Nat)(fi:FI)(g:FG)(f:FS):FS:=fun e=>(fi e).bind fun p=>if (p.2.1.all fun q=> !W.contains q.1)=true then gb p.2.1 g f p.1 p.2.2 else none
theorem gp{W1 W2:List Nat}{iter:Expr}{body:List Stmt}{fi:FI}{g:FG}{f:FS}(hp:PassesOwn (model X.prog X.w) X.A X.env X.xe)(hc:X.calm=true)(hi:PI X tg iter (fI K fi))(hg:PG X tg (fG K g W1))(hb:jy X body (fS K f W2))(hs:∀x,foldedSetIterable iter X.env x=pure x):
    PS X (.For tg iter body [] pos) (fS K (eE (W1++W2) fi g f) (W1++W2)):=(Al hp hc hi hg hb hs).mono fun D σ0 H0 hh=>by
  obtain⟨F0,e0,fl,R0,hf,q0⟩:=hh
  unfold eE at hf
  obtain⟨⟨items,own,e1⟩,h1,hf⟩:=Option.bind_eq_some_iff.mp hf
  dsimp only at hf
  split at hf
  case isFalse=>cases hf
  case isTrue hW=>
  have hW':∀p∈own,p.1∉W1++W2:=fun p hp=>by
    have:=List.all_eq_true.mp hW p hp
    simpa using this
  refine⟨F0,e0,items,own,e1,R0,h1,fun J F1 H1 X1 R1 kp ok=>?_⟩
  have s1:∀j,j∈W1→j∈W1++W2:=fun j h=>List.mem_append.mpr (.inl h)
  have s2:∀j,j∈W2→j∈W1++W2:=fun j h=>List.mem_append.mpr (.inr h)
  have q1:lV K (W1++W2) σ0 F1 H1 e1 D fl:=q0.later (W1:=[]) X1.s (fun j h=>by cases h) fun j h=>h
  refine⟨fun i m σ H=>m=items.length - i∧i≤items.length∧CT K own σ0 F1 (fun e=>gb own g f (items.drop i) e=some fl) (fun σ F H e=>lV K (W1++W2) σ F H e D fl) σ H,
    ⟨items.length,by simp,Nat.zero_le _,.mk R1 kp (fun _ _=>rfl) (aA.refl _) hf q1⟩,?_⟩
  rintro i m σ H ⟨rfl,hi,⟨R,kp,hσ,sF,hf,q⟩⟩
  rename_i F e
  have held:ug K σ0 F H own:=fun p hp=>by
    obtain⟨l,vs,g1,g2⟩:=R.held kp p hp
    exact⟨l,vs,by rw [←hσ p hp];exact g1,g2⟩
  obtain⟨go,stop,yld⟩:=ok F H sF R.sm held
  by_cases hlt:i < items.length
  · have hd:items.drop i=items[i]::items.drop (i+1):=List.drop_eq_getElem_cons hlt
    rw [hd] at hf
    unfold gb at hf
    obtain⟨e2,h2,hf⟩:=Option.bind_eq_some_iff.mp hf
    obtain⟨fl2,h3,hf⟩:=Option.bind_eq_some_iff.mp hf
    refine .inr ⟨go i hlt,CT K own σ0 F1 (fun e=>gb own g f (items.drop (i+1)) e=some fl) (fun σ F H e=>lV K (W1++W2) σ F H e D fl),
      fun σ' H' r=>⟨items.length - (i+1),by lia,rfl,hlt,r⟩,fun x H' hy=>?_⟩
    obtain⟨F',sH,sF',sm',fz,hx⟩:=yld i items[i] x H' (List.getElem?_eq_getElem hlt) hy
    obtain⟨R',X'⟩:=R.step sH sF' sm' fz
    refine⟨F',e,items[i],e2,R',hx,h2,fun σ2 x2 R2=>⟨F',e2,fl2,R2,h3,?_⟩⟩
    have q2:lV K (W1++W2) σ2 F' H' e2 D fl:=(q.later (W1:=[]) (W2:=W1++W2) X'.s (fun j h=>by cases h) fun j h=>h).later x2 s1 fun j h=>h
    have w2:∀p∈own,σ2[p.1]?=σ0[p.1]?:=fun p hp=>(x2.wr p.1 fun z=>hW' p hp (s1 _ z)).trans (hσ p hp)
    cases fl2 with
    | nx e3=>
      intro F3 H3 σ3 x3 R3
      dsimp only at hf
      split at hf
      case isFalse=>cases hf
      case isTrue kp3=>
      exact .mk R3 kp3 (fun p hp=>(x3.wr p.1 fun z=>hW' p hp (s2 _ z)).trans (w2 p hp)) (sF.trans (sF'.trans x3.sf)) hf (q2.later x3 s2 fun j h=>h)
    | ct e3=>
      intro F3 H3 σ3 x3 R3
      dsimp only at hf
      split at hf
      case isFalse=>cases hf
      case isTrue kp3=>
      exact .mk R3 kp3 (fun p hp=>(x3.wr p.1 fun z=>hW' p hp (s2 _ z)).trans (w2 p hp)) (sF.trans (sF'.trans x3.sf)) hf (q2.later x3 s2 fun j h=>h)
    | bk e3=>
      cases hf
      exact fun F3 H3 σ3 x3 R3=>q2 F3 H3 σ3 (x3.mono s2) R3
    | rt r e3=>
      cases hf
      exact fun F3 H3 σ3 v x3 R3 A3=>q2 F3 H3 σ3 v (x3.mono s2) R3 A3
  · have hd:items.drop i=[]:=List.drop_eq_nil_of_le (by lia)
    rw [hd] at hf
    cases hf
    exact .inl ⟨stop i (by lia),q F H σ df.refl R⟩
end
end L2
namespace L2
open PySem PySem.Spec PyProof.Rows
def wx:Option (Option Sv)→Bool
  | some (some (.l _))=>true
  | _=>false
theorem xf{s:Option (Option Sv)}:wx s=true↔ ∃xs,s=some (some (.l xs)):=by
  unfold wx
  split
  · simp
  · rename_i h
    constructor
    · intro z;cases z
    · rintro⟨xs,rfl⟩;exact absurd rfl (h xs)
def m4(pos:Nat→Option Nat)(ei e:En):En:=e.mapIdx fun i s=>match s with
  | some (.l xs)=>match pos i with
    | some k=>(ei[k]?).join
    | none=>some (.l xs)
  | s=>s
theorem cw{pos:Nat→Option Nat}{ei e:En}{i:Nat}:(m4 pos ei e)[i]?=(e[i]?).map fun s=>match s with
  | some (.l xs)=>match pos i with
    | some k=>(ei[k]?).join
    | none=>some (.l xs)
  | s=>s:=by unfold m4;rw [List.getElem?_mapIdx]
structure pF (σ:L2.St) (e:En) (σi:L2.St) (ei:En) (pos:Nat→Option Nat):Prop where
  a:∀(i k:Nat) (xs:List PyData),e[i]?=some (some (.l xs))→pos i=some k→σi[k]?=σ[i]?
  b:∀(k:Nat) (ys:List PyData),ei[k]?=some (some (.l ys))→∃(i:Nat) (xs:List PyData),e[i]?=some (some (.l xs))∧pos i=some k∧σi[k]?=σ[i]?
section
variable{K:PySem.W.Frag}{σ σi σi':L2.St}{F H F' H':Hp}{e ei ei':En}{pos:Nat→Option Nat}
def Be(e:En):Prop:=∀(i:Nat) (xss:List (List PyData)),e[i]?≠some (some (.n xss))
theorem pF.own(s:pF σ e σi ei pos)(hn:Be ei){a:Addr}{H H':Hp}(h:cP σi ei H a):∃(i k:Nat) (xs:List PyData),e[i]?=some (some (.l xs))∧pos i=some k∧σ[i]?=some (some (.ref a)):=by
  obtain⟨k,⟨ys,h1,h2⟩ | ⟨xss,_,_,h1,_⟩⟩:=h
  · obtain⟨i,xs,g1,g2,g3⟩:=s.b k ys h1
    exact⟨i,k,xs,g1,g2,by rw [←g3];exact h2⟩
  · exact absurd h1 (hn k xss)
theorem qi(R:bi K F H σ e)(s:pF σ e σi ei pos)(hnn:Be ei)(sf:aA F F')(dom:∀a,H' a=none→H a=none)(fr:∀a vs,F a=none→H a=some (.lst vs)→¬cP σi ei H a→F' a=none)(lst:∀a vs,H a=some (.lst vs)→∃vs',H' a=some (.lst vs'))
    (tmp:∀a o,H a=some o→¬cP σi ei H a→H' a=some o)(fd:∀a m,F a=none→H a=some (.dK m)→¬cP σi ei H a→F' a=none)(R':bi K F' H' σi' ei')(hσ:∀(i k:Nat) (xs:List PyData),e[i]?=some (some (.l xs))→pos i=some k→σi'[k]?=σi[k]?)(hsh:∀(i k:Nat) (xs:List PyData),e[i]?=some (some (.l xs))→pos i=some k→∃ys,ei'[k]?=some (some (.l ys))):
    bi K F' H' σ (m4 pos ei' e)∧dX σ F H e F' H' (m4 pos ei' e)∧∀a,cP σ (m4 pos ei' e) H' a→cP σ e H a:=by
  have shp:∀i:Nat,(∃xs,(m4 pos ei' e)[i]?=some (some (.l xs)))↔ (∃xs,e[i]?=some (some (.l xs))):=by
    intro i
    rw [cw]
    match h:e[i]? with
    | none=>simp
    | some none=>simp
    | some (some (.d x))=>simp
    | some (some (.n x))=>simp
    | some (some (.l xs))=>
      simp only [Option.map_some]
      constructor
      · intro _;exact⟨xs,rfl⟩
      · intro _
        match hp:pos i with
        | none=>exact⟨xs,rfl⟩
        | some k=>
          obtain⟨ys,g⟩:=hsh i k xs h hp
          exact⟨ys,by show some ((ei'[k]?).join)=_;rw [g];rfl⟩
  have oth:∀(i:Nat) (s:Sv),(∀xs,s≠.l xs)→((m4 pos ei' e)[i]?=some (some s)↔ e[i]?=some (some s)):=by
    intro i s hs
    constructor
    · intro h
      rw [cw] at h
      match h1:e[i]?,h with
      | some (some (.d y)),h=>exact h
      | some (some (.n y)),h=>exact h
      | some (some (.l ys)),h=>
        simp only [Option.map_some,Option.some.injEq] at h
        match hp:pos i,h with
        | none,h=>cases h;exact absurd rfl (hs _)
        | some k,h=>
          obtain⟨zs,g⟩:=hsh i k ys h1 hp
          change (ei'[k]?).join=_ at h
          rw [g] at h;cases h;exact absurd rfl (hs _)
      | some none,h=>simp at h
      | none,h=>simp at h
    · intro h
      rw [cw,h]
      cases s with
      | d y=>rfl
      | n y=>rfl
      | l y=>exact absurd rfl (hs y)
  have out:∀i a,Fp σ e H i a→(∀k xs,e[i]?=some (some (.l xs))→pos i≠some k)→¬cP σi ei H a:=by
    intro i a hi hp z
    obtain⟨j,k,ws,d1,d2,d3⟩:=s.own hnn (H':=H') z
    have:i=j:=R.fp i j a hi (.inl ⟨ws,d1,d3⟩)
    subst this
    exact hp k ws d1 d2
  have keep:∀i a o,Fp σ e H i a→(∀k xs,e[i]?=some (some (.l xs))→pos i≠some k)→H a=some o→H' a=some o:=fun i a o hi hp ha=>tmp a o ha (out i a hi hp)
  have sown:∀a,cP σi ei H a→cP σ e H a:=fun a z=>by
    obtain⟨j,k,ws,d1,d2,d3⟩:=s.own hnn (H':=H') z
    exact⟨j,.inl ⟨ws,d1,d3⟩⟩
  have fs:∀i a,Fp σ (m4 pos ei' e) H' i a↔ Fp σ e H i a:=by
    intro i a
    have key:∀xss l,e[i]?=some (some (.n xss))→σ[i]?=some (some (.ref l))→H' l=H l:=fun xss l h1 h2=>by
      obtain⟨l',bs,g1,g2,g3,_⟩:=R.nst i xss h1
      rw [h2] at g1;cases g1
      rw [g3]
      exact keep i l _ (.inr ⟨xss,l,bs,h1,h2,g3,.inl rfl⟩) (fun k xs z=>by rw [h1] at z;cases z) g3
    constructor
    · rintro(⟨xs,h1,h2⟩ | ⟨xss,l,bs,h1,h2,h3,h4⟩)
      · obtain⟨ys,h⟩:=(shp i).mp ⟨xs,h1⟩
        exact .inl ⟨ys,h,h2⟩
      · have h1':=(oth i (.n xss) (fun _ z=>nomatch z)).mp h1
        exact .inr ⟨xss,l,bs,h1',h2,by rw [←key xss l h1' h2];exact h3,h4⟩
    · rintro(⟨xs,h1,h2⟩ | ⟨xss,l,bs,h1,h2,h3,h4⟩)
      · obtain⟨ys,h⟩:=(shp i).mpr ⟨xs,h1⟩
        exact .inl ⟨ys,h,h2⟩
      · exact .inr ⟨xss,l,bs,(oth i (.n xss) (fun _ z=>nomatch z)).mpr h1,h2,by rw [key xss l h1 h2];exact h3,h4⟩
  refine⟨⟨R'.sm,?_,fun i x h=>?_,fun i xs h=>?_,fun i xss h=>?_,fun i j a h1 h2=>R.fp i j a ((fs i a).mp h1) ((fs j a).mp h2)⟩,⟨sf,dom,fun a vs h1 h2 n=>fr a vs h1 h2 fun z=>n (sown a z),lst,fun a o h n=>tmp a o h fun z=>n (sown a z),shp,fun a ⟨i,h⟩=>.inl ⟨i,(fs i a).mp h⟩,fun a m h1 h2 n=>fd a m h1 h2 fun z=>n (sown a z)⟩,fun a ⟨i,h⟩=>⟨i,(fs i a).mp h⟩⟩
  · unfold m4;rw [List.length_mapIdx];exact R.len
  · obtain⟨v,g1,g2⟩:=R.dat i x ((oth i (.d x) (fun _ z=>nomatch z)).mp h)
    exact⟨v,g1,DA.mono sf g2⟩
  · obtain⟨ys,h1⟩:=(shp i).mp ⟨xs,h⟩
    obtain⟨l,vs,g1,g2,g3,g4⟩:=R.own i ys h1
    rw [cw,h1] at h
    simp only [Option.map_some,Option.some.injEq] at h
    match hp:pos i,h with
    | none,h=>
      cases h
      have np:∀k xs,e[i]?=some (some (Sv.l xs))→pos i≠some k:=fun k xs _ z=>by rw [hp] at z;cases z
      have fi:Fp σ e H i l:=.inl ⟨_,h1,g1⟩
      exact⟨l,vs,g1,fr l vs g2 g3 (out i l fi np),keep i l _ fi np g3,g4.mono sf⟩
    | some k,h=>
      obtain⟨zs,c1⟩:=hsh i k ys h1 hp
      change (ei'[k]?).join=_ at h
      rw [c1] at h;cases h
      obtain⟨l',vs',d1,d2,d3,d4⟩:=R'.own k _ c1
      rw [hσ i k ys h1 hp,s.a i k ys h1 hp] at d1
      exact⟨l',vs',d1,d2,d3,d4⟩
  · have h1:=(oth i (.n xss) (fun _ z=>nomatch z)).mp h
    obtain⟨l,bs,g1,g2,g3,g4,g5,g6,g7⟩:=R.nst i xss h1
    have np:∀k xs,e[i]?=some (some (Sv.l xs))→pos i≠some k:=fun k xs z=>by rw [h1] at z;cases z
    have fi:Fp σ e H i l:=.inr ⟨xss,l,bs,h1,g1,g3,.inl rfl⟩
    refine⟨l,bs,g1,fr l _ g2 g3 (out i l fi np),keep i l _ fi np g3,g4,g5,g6,fun k b ys q1 q2=>?_⟩
    obtain⟨c1,us,c2,c3⟩:=g7 k b ys q1 q2
    have fb:Fp σ e H i b:=.inr ⟨xss,l,bs,h1,g1,g3,.inr (List.mem_of_getElem? q1)⟩
    exact⟨fr b _ c1 c2 (out i b fb np),us,keep i b _ fb np c2,c3.mono sf⟩
end
def cj(e:En):List Rv→Option (List Sv)
  | []=>some []
  | .d x::r=>(cj e r).map (.d x::·)
  | .l xs::r=>(cj e r).map (.d (.list xs)::·)
  | .s i::r=>match e[i]? with
    | some (some (.l xs))=>(cj e r).map (.l xs::·)
    | _=>none
def aL:List Rv→List Nat
  | []=>[]
  | .s i::r=>i::aL r
  | .d _::r=>aL r
  | .l _::r=>aL r
def js(rs:List Rv)(i:Nat):Option Nat:=rs.findIdx? fun r=>match r with
  | .s j=>j==i
  | _=>false
def noS:Rv→Prop
  | .s _=>False
  | _=>True
abbrev FM:=List Sv→Option (Rv × List Sv)
def bO(K:PySem.W.Frag)(n:Nat)(m:FM):Sp:=fun vs H Q _=>vs.length=n∧∃F as r as',bi K F H (vs.map some) (as.map some)∧Be (as.map some)∧m as=some (r,as')∧noS r∧
  ∀F' H' v,dX (vs.map some) F H (as.map some) F' H' (as'.map some)→bi K F' H' (vs.map some) (as'.map some)→cG K (vs.map some) H F' H' (as'.map some) r v→Q v H'
def bh:List Rv→List Sv→Bool
  | [],[]=>true
  | .s _::r,.l _::s=>bh r s
  | .d _::r,_::s=>bh r s
  | .l _::r,_::s=>bh r s
  | _,_=>false
def pY:Rv→Bool
  | .s _=>false
  | _=>true
def di:List Rv→List Sv→En→En
  | .s i::r,.l ys::s,e=>di r s (e.set i (some (.l ys)))
  | .d _::r,_::s,e=>di r s e
  | .l _::r,_::s,e=>di r s e
  | _,_,e=>e
def bJ(n:Nat)(m:FM)(fs:FA):FE:=fun e=>(fs e).bind fun p=>(cj p.2 p.1).bind fun as=>(m as).bind fun z=>if p.1.length=n∧(aL p.1).Nodup∧bh p.1 z.2=true∧pY z.1=true then some (z.1,di p.1 z.2 p.2) else none
theorem gY:∀{rs:List Rv} {as:List Sv},bh rs as=true→∀(k i:Nat),rs[k]?=some (.s i)→∃ys,as[k]?=some (.l ys)
  | [],[],_,k,i,h=>by simp at h
  | .s j::r,.l ys::s,h,k,i,hk=>by
    cases k with
    | zero=>exact⟨ys,rfl⟩
    | succ k=>simpa using gY (rs:=r) (as:=s) (by simpa [bh] using h) k i (by simpa using hk)
  | .d x::r,y::s,h,k,i,hk=>by
    cases k with
    | zero=>simp at hk
    | succ k=>simpa using gY (rs:=r) (as:=s) (by simpa [bh] using h) k i (by simpa using hk)
  | .l x::r,y::s,h,k,i,hk=>by
    cases k with
    | zero=>simp at hk
    | succ k=>simpa using gY (rs:=r) (as:=s) (by simpa [bh] using h) k i (by simpa using hk)
  | .s _::_,.d _::_,h,_,_,_=>by simp [bh] at h
  | .s _::_,[],h,_,_,_=>by simp [bh] at h
  | .d _::_,[],h,_,_,_=>by simp [bh] at h
  | .l _::_,[],h,_,_,_=>by simp [bh] at h
theorem kn{r0:Rv}{rs:List Rv}{i:Nat}:js (r0::rs) i=if (match r0 with | .s j=>j==i | _=>false)=true then some 0 else(js rs i).map (· +1):=by
  unfold js;rw [List.findIdx?_cons]
theorem ko{rs:List Rv}{i k:Nat}(h:js rs i=some k):rs[k]?=some (.s i):=by
  unfold js at h
  rw [List.findIdx?_eq_some_iff_getElem] at h
  obtain⟨hk,h1,_⟩:=h
  rw [List.getElem?_eq_getElem hk]
  split at h1
  · rename_i heq
    rw [heq]
    have:=eq_of_beq h1
    rw [this]
  · cases h1
theorem eM:∀{rs:List Rv} {i:Nat},i∈aL rs↔ Rv.s i∈rs
  | [],i=>by simp [aL]
  | .s j::r,i=>by simp [aL,eM (rs:=r)]
  | .d x::r,i=>by simp [aL,eM (rs:=r)]
  | .l x::r,i=>by simp [aL,eM (rs:=r)]
theorem fH:∀{rs:List Rv} {i k j:Nat},(aL rs).Nodup→rs[k]?=some (.s i)→rs[j]?=some (.s i)→k=j
  | [],i,k,j,_,h,_=>by simp at h
  | .s m::r,i,k,j,hn,h1,h2=>by
    simp only [aL,List.nodup_cons] at hn
    cases k with
    | zero=>
      simp at h1;subst h1
      cases j with
      | zero=>rfl
      | succ j=>exact absurd (eM.mpr (List.mem_of_getElem? (by simpa using h2))) hn.1
    | succ k=>
      cases j with
      | zero=>
        simp at h2;subst h2
        exact absurd (eM.mpr (List.mem_of_getElem? (by simpa using h1))) hn.1
      | succ j=>
        have:=fH (rs:=r) (i:=i) (k:=k) (j:=j) hn.2 (by simpa using h1) (by simpa using h2)
        lia
  | .d x::r,i,k,j,hn,h1,h2=>by
    cases k with
    | zero=>simp at h1
    | succ k=>
      cases j with
      | zero=>simp at h2
      | succ j=>
        have:=fH (rs:=r) (i:=i) (k:=k) (j:=j) (by simpa [aL] using hn) (by simpa using h1) (by simpa using h2)
        lia
  | .l x::r,i,k,j,hn,h1,h2=>by
    cases k with
    | zero=>simp at h1
    | succ k=>
      cases j with
      | zero=>simp at h2
      | succ j=>
        have:=fH (rs:=r) (i:=i) (k:=k) (j:=j) (by simpa [aL] using hn) (by simpa using h1) (by simpa using h2)
        lia
theorem vz{rs:List Rv}{i:Nat}(h:i∉aL rs):js rs i=none:=by
  unfold js
  rw [List.findIdx?_eq_none_iff]
  intro r hr
  cases r with
  | d x=>rfl
  | l x=>rfl
  | s j=>
    have:j≠i:=fun z=>h (by rw [←z];exact eM.mpr hr)
    simpa using this
theorem lh:∀{rs:List Rv} {as:List Sv} {e:En},(aL rs).Nodup→bh rs as=true→(∀j∈aL rs,∃xs,e[j]?=some (some (.l xs)))→di rs as e=m4 (js rs) (as.map some) e
  | [],[],e,_,_,_=>by
    refine List.ext_getElem? fun i=>?_
    rw [cw]
    have:js [] i=none:=rfl
    rw [this]
    simp only [di]
    match e[i]? with
    | none=>rfl
    | some none=>rfl
    | some (some (.d x))=>rfl
    | some (some (.l x))=>rfl
    | some (some (.n x))=>rfl
  | .d x::r,y::s,e,hn,hl,hs=>by
    rw [show di (.d x::r) (y::s) e=di r s e from rfl,lh (by simpa [aL] using hn) (by simpa [bh] using hl) (fun j hj=>hs j (by simpa [aL] using hj))]
    refine List.ext_getElem? fun i=>?_
    rw [cw,cw,kn]
    cases js r i<;>simp
  | .l x::r,y::s,e,hn,hl,hs=>by
    rw [show di (.l x::r) (y::s) e=di r s e from rfl,lh (by simpa [aL] using hn) (by simpa [bh] using hl) (fun j hj=>hs j (by simpa [aL] using hj))]
    refine List.ext_getElem? fun i=>?_
    rw [cw,cw,kn]
    cases js r i<;>simp
  | .s k::r,.l ys::s,e,hn,hl,hs=>by
    simp only [aL,List.nodup_cons] at hn
    obtain⟨xs,hk⟩:=hs k (by simp [aL])
    have hlt:k < e.length:=(List.getElem?_eq_some_iff.mp hk).1
    rw [show di (.s k::r) (.l ys::s) e=di r s (e.set k (some (.l ys))) from rfl,lh hn.2 (by simpa [bh] using hl) (fun j hj=>by
      have z:k≠j:=fun z=>hn.1 (by rw [z];exact hj)
      rw [List.getElem?_set_ne z]
      exact hs j (by simp [aL,hj]))]
    refine List.ext_getElem? fun i=>?_
    rw [cw,cw,kn]
    by_cases z:k=i
    · subst z
      rw [List.getElem?_set_self hlt,hk,vz hn.1]
      simp
    · rw [List.getElem?_set_ne z]
      have:((match (Rv.s k) with | .s j=>j==i | _=>false)=true)=False:=by simp [z]
      simp only [this,if_false]
      cases js r i<;>simp
  | .s _::_,.d _::_,_,_,h,_=>by simp [bh] at h
  | .s _::_,.n _::_,_,_,h,_=>by simp [bh] at h
  | .s _::_,[],_,_,h,_=>by simp [bh] at h
  | .d _::_,[],_,_,h,_=>by simp [bh] at h
  | .l _::_,[],_,_,h,_=>by simp [bh] at h
  | [],_::_,_,_,h,_=>by simp [bh] at h
theorem eB{e:En}:∀{rs:List Rv} {as:List Sv},cj e rs=some as→∀j∈aL rs,∃xs,e[j]?=some (some (.l xs))
  | [],_,_,j,h=>by simp [aL] at h
  | .d x::rs,as,q,j,h=>by
    obtain⟨as',q1,rfl⟩:=Option.map_eq_some_iff.mp q
    exact eB q1 j (by simpa [aL] using h)
  | .l x::rs,as,q,j,h=>by
    obtain⟨as',q1,rfl⟩:=Option.map_eq_some_iff.mp q
    exact eB q1 j (by simpa [aL] using h)
  | .s k::rs,as,q,j,h=>by
    unfold cj at q
    match he:e[k]?,q with
    | some (some (.l xs)),q=>
      obtain⟨as',q1,rfl⟩:=Option.map_eq_some_iff.mp q
      simp only [aL,List.mem_cons] at h
      rcases h with rfl | h
      · exact⟨xs,he⟩
      · exact eB q1 j h
theorem jz{e:En}:∀{rs:List Rv} {as:List Sv} {k i:Nat},cj e rs=some as→rs[k]?=some (.s i)→∃xs,as[k]?=some (.l xs)
  | [],_,k,i,_,h=>by simp at h
  | .d x::rs,as,k,i,q,h=>by
    obtain⟨as',q1,rfl⟩:=Option.map_eq_some_iff.mp q
    cases k with
    | zero=>simp at h
    | succ k=>simpa using jz (k:=k) (i:=i) q1 (by simpa using h)
  | .l x::rs,as,k,i,q,h=>by
    obtain⟨as',q1,rfl⟩:=Option.map_eq_some_iff.mp q
    cases k with
    | zero=>simp at h
    | succ k=>simpa using jz (k:=k) (i:=i) q1 (by simpa using h)
  | .s j::rs,as,k,i,q,h=>by
    unfold cj at q
    match he:e[j]?,q with
    | some (some (.l xs)),q=>
      obtain⟨as',q1,rfl⟩:=Option.map_eq_some_iff.mp q
      cases k with
      | zero=>exact⟨xs,rfl⟩
      | succ k=>simpa using jz (k:=k) (i:=i) q1 (by simpa using h)
section
variable{X:Cx}{K:PySem.W.Frag}{σ:L2.St}{H0 H:Hp}{e:En}
theorem k_:∀{rs:List Rv} {vs:List V} {as:List Sv} {F:Hp},bi K F H σ e→dB K σ H0 F H e rs vs→cj e rs=some as→
    ∃F',bi K F' H σ e∧aA F F'∧(∀a,F a=none→H0 a≠none→F' a=none)∧vs.length=as.length∧rs.length=as.length∧
      (∀(k:Nat) (x:PyData),as[k]?=some (.d x)→∃v,vs[k]?=some v∧DA K F' x v)∧∀(k:Nat) (xs:List PyData),as[k]?=some (.l xs)→∃i,rs[k]?=some (.s i)∧e[i]?=some (some (.l xs))∧∃v,vs[k]?=some v∧σ[i]?=some (some v)
  | [],vs,as,F,R,h,q=>by
    cases q
    have h':vs=[]:=h
    subst h'
    exact⟨F,R,aA.refl _,fun _ h _=>h,rfl,rfl,fun k x h=>by simp at h,fun k x h=>by simp at h⟩
  | .d x::rs,_,as,F,R,h,q=>by
    obtain⟨v,ws,rfl,h1,h2⟩:=h
    obtain⟨as',q1,rfl⟩:=Option.map_eq_some_iff.mp q
    obtain⟨F',R',s',f',l1,l2,d',o'⟩:=k_ R h2 q1
    refine⟨F',R',s',f',by simp [l1],by simp [l2],fun k y hk=>?_,fun k ys hk=>?_⟩
    · cases k with
      | zero=>simp at hk;subst hk;exact⟨v,rfl,DA.mono s' h1⟩
      | succ k=>simpa using d' k y (by simpa using hk)
    · cases k with
      | zero=>simp at hk
      | succ k=>simpa using o' k ys (by simpa using hk)
  | .l xs::rs,_,as,F,R,h,q=>by
    obtain⟨v,ws,rfl,h1,h2⟩:=h
    obtain⟨as',q1,rfl⟩:=Option.map_eq_some_iff.mp q
    obtain⟨F',R',s',f',l1,l2,d',o'⟩:=k_ R h2 q1
    have key:∃F2,bi K F2 H σ e∧aA F' F2∧(∀a,F' a=none→H0 a≠none→F2 a=none)∧DA K F2 (.list xs) v:=by
      obtain⟨l,us,rfl,g1,g2,g3,g4,g5⟩:=h1
      cases hl:F' l with
      | none=>
        have h1':cG K σ H0 F' H e (.l xs) (.ref l):=⟨l,us,rfl,g1,hl,g3,aO.mono s' g4,g5⟩
        obtain⟨F2,R2,s2,d2,f2⟩:=h1'.frozen R'
        exact⟨F2,R2,s2,f2,d2⟩
      | some o=>
        have:=R'.sm _ _ hl
        rw [g3] at this;cases this
        exact⟨F',R',aA.refl _,fun _ h _=>h,cW.mpr ⟨l,us,rfl,.inl (.inl hl),aO.mono s' g4⟩⟩
    obtain⟨F2,R2,s2,f2,d2⟩:=key
    refine⟨F2,R2,s'.trans s2,fun a ha hn=>f2 a (f' a ha hn) hn,by simp [l1],by simp [l2],fun k y hk=>?_,fun k ys hk=>?_⟩
    · cases k with
      | zero=>simp at hk;subst hk;exact⟨v,rfl,d2⟩
      | succ k=>
        obtain⟨u,c1,c2⟩:=d' k y (by simpa using hk)
        exact⟨u,by simpa using c1,DA.mono s2 c2⟩
    · cases k with
      | zero=>simp at hk
      | succ k=>simpa using o' k ys (by simpa using hk)
  | .s i::rs,_,as,F,R,h,q=>by
    obtain⟨v,ws,rfl,h1,h2⟩:=h
    unfold cj at q
    match he:e[i]?,q with
    | some (some (.l xs)),q=>
      obtain⟨as',q1,rfl⟩:=Option.map_eq_some_iff.mp q
      obtain⟨F',R',s',f',l1,l2,d',o'⟩:=k_ R h2 q1
      refine⟨F',R',s',f',by simp [l1],by simp [l2],fun k y hk=>?_,fun k ys hk=>?_⟩
      · cases k with
        | zero=>simp at hk
        | succ k=>simpa using d' k y (by simpa using hk)
      · cases k with
        | zero=>simp at hk;subst hk;exact⟨i,rfl,he,v,rfl,h1.1⟩
        | succ k=>simpa using o' k ys (by simpa using hk)
theorem eC{α:Type}{l:List α}{k:Nat}{x:α}:(l.map some)[k]?=some (some x)↔ l[k]?=some x:=by
  rw [List.getElem?_map]
  cases l[k]?<;>simp
theorem cG.noS{σ':L2.St}{e':En}{F H:Hp}{r:Rv}{v:V}(h:cG K σ' H0 F H e' r v)(n:L2.noS r)(ho:∀a,cP σ e H a→H0 a≠none):cG K σ H0 F H e r v:=by
  cases r with
  | d x=>exact h
  | l xs=>
    obtain⟨l,vs,e1,h1,h2,h3,h4,_⟩:=h
    exact⟨l,vs,e1,h1,h2,h3,h4,fun z=>ho l z h1⟩
  | s i=>exact absurd n (by simp [L2.noS])
theorem gM:∀{rs:List Rv} {as:List Sv},cj e rs=some as→Be (as.map some)
  | [],_,q=>by cases q;intro i xss h;simp at h
  | .d x::rs,as,q=>by
    obtain⟨as',q1,rfl⟩:=Option.map_eq_some_iff.mp q
    have ih:=gM q1
    intro i xss h
    cases i with
    | zero=>simp at h
    | succ i=>exact ih i xss (by simpa using h)
  | .l x::rs,as,q=>by
    obtain⟨as',q1,rfl⟩:=Option.map_eq_some_iff.mp q
    have ih:=gM q1
    intro i xss h
    cases i with
    | zero=>simp at h
    | succ i=>exact ih i xss (by simpa using h)
  | .s j::rs,as,q=>by
    unfold cj at q
    match he:e[j]?,q with
    | some (some (.l xs)),q=>
      obtain⟨as',q1,rfl⟩:=Option.map_eq_some_iff.mp q
      have ih:=gM q1
      intro i xss h
      cases i with
      | zero=>simp at h
      | succ i=>exact ih i xss (by simpa using h)
theorem AY{n:Nat}{m:FM}{fs:FA}{Q:VK}{E:XK}(h:fE K (bJ n m fs) σ H Q):su (bO K n m) [] E (fA K fs) σ H Q:=by
  obtain⟨F,e,z,e',R,hf,q⟩:=h
  unfold bJ at hf
  obtain⟨⟨rs,e1⟩,h1,hf⟩:=Option.bind_eq_some_iff.mp hf
  obtain⟨as,h2,hf⟩:=Option.bind_eq_some_iff.mp hf
  obtain⟨⟨r,as'⟩,h3,hf⟩:=Option.bind_eq_some_iff.mp hf
  split at hf
  case isFalse=>cases hf
  case isTrue hc=>
  obtain⟨c1,c2,c3,c4⟩:=hc
  cases hf
  refine⟨F,e,rs,e1,R,h1,fun F1 H1 vs X1 R1 A1=>?_⟩
  obtain⟨F2,R2,s2,f2,l1,l2,d2,o2⟩:=k_ R1 A1 h2
  have X2:=X1.frz s2 f2
  rw [List.append_nil]
  have hn:L2.noS r:=by
    cases r with
    | d x=>trivial
    | l x=>trivial
    | s i=>cases c4
  have nN:=gM h2
  have RA:bi K F2 H1 (vs.map some) (as.map some):=by
    refine⟨R2.sm,by simp [l1],fun k x hk=>?_,fun k xs hk=>?_,fun k xss hk=>absurd hk (nN k xss),fun k j l f1 f2=>?_⟩
    · obtain⟨v,g1,g2⟩:=d2 k x (eC.mp hk)
      exact⟨v,eC.mpr g1,g2⟩
    · obtain⟨i,g1,g2,v,g3,g4⟩:=o2 k xs (eC.mp hk)
      obtain⟨l,us,k1,k2,k3,k4⟩:=R2.own i xs g2
      rw [g4] at k1;cases k1
      exact⟨l,us,eC.mpr g3,k2,k3,k4⟩
    · obtain⟨xs,g1,g3⟩:=f1.resolve_right fun⟨xss,_,_,z,_⟩=>nN k xss z
      obtain⟨ys,g2,g4⟩:=f2.resolve_right fun⟨xss,_,_,z,_⟩=>nN j xss z
      obtain⟨i1,a1,a2,v1,a3,a4⟩:=o2 k xs (eC.mp g1)
      obtain⟨i2,b1,b2,v2,b3,b4⟩:=o2 j ys (eC.mp g2)
      have e1:=eC.mp g3
      have e2:=eC.mp g4
      rw [a3] at e1;cases e1
      rw [b3] at e2;cases e2
      have:i1=i2:=R2.inj i1 i2 xs ys l a2 b2 a4 b4
      subst this
      exact fH c2 a1 b1
  have sub:pF σ e1 (vs.map some) (as.map some) (js rs):=by
    refine⟨fun i k xs g1 g2=>?_,fun k ys g1=>?_⟩
    · have g3:=ko g2
      obtain⟨zs,hs⟩:=jz h2 g3
      obtain⟨i',a1,a2,v,a3,a4⟩:=o2 k zs hs
      rw [g3] at a1;cases a1
      rw [eC.mpr a3,a4]
    · obtain⟨i,a1,a2,v,a3,a4⟩:=o2 k ys (eC.mp g1)
      refine⟨i,ys,a2,?_,by rw [eC.mpr a3,a4]⟩
      cases hp:js rs i with
      | none=>
        unfold js at hp
        rw [List.findIdx?_eq_none_iff] at hp
        have:=hp _ (List.mem_of_getElem? a1)
        simp at this
      | some j=>rw [fH c2 (ko hp) a1]
  refine⟨by rw [l1,←l2];exact c1,F2,as,r,as',RA,nN,h3,hn,fun F' H' v X3 R3 A3=>?_⟩
  obtain⟨R4,X4,o4⟩:=qi R2 sub nN X3.sf X3.dom X3.fr X3.lst X3.tmp X3.fd R3 (fun _ _ _ _ _=>rfl) fun i k xs g1 g2=>by
    obtain⟨ys,g3⟩:=gY c3 k i (ko g2)
    exact⟨ys,eC.mpr g3⟩
  have hb:=lh (e:=e1) c2 c3 (eB h2)
  rw [←hb] at R4 X4 o4
  exact q F' H' v (X2.trans X4) R4 ((A3.noS hn fun a z=>R2.ownH a (o4 a z)).weak X2.dom)
theorem aT{x:Str}{st:Stmt}{f:Addr}{fd:FuncData}{ps:List Str}{k n:Nat}{m:FM}{a:Expr}{es:List Expr}{fs:FA}{p pos:Pos}(h:a_ X.K X.mg x st f fd ps)(G:aF X.prog X.w X.K X.mg X.base bM k f fd ps (bO K n m))(hr:cO k X.A)(ha:PA X (a::es) (fA K fs))
    (hg:Gl X x)(hdb:(x==("__debug__":Str))=false)(he:starEach (a::es) X.env=(false,eval a X.env)::starEach es X.env)(hpl:(backTo pos (starEach es X.env)).any (·.1)=false):
    PE X (.Call (.Name x p) (a::es) [] pos) (fE K (bJ n m fs)):=(Dn h G hr ha hg hdb he hpl).mono fun _ _ _ h=>AY h
def pC:List Sv→En→Option (List Sv)
  | [],_=>some []
  | .d x::r,e=>(pC r e.tail).map (.d x::·)
  | .l _::r,e=>match e.head? with
    | some (some (.l ys))=>(pC r e.tail).map (.l ys::·)
    | _=>none
  | .n _::_,_=>none
def oP(n:Nat)(e:En):Rv→Option Rv
  | .s i=>if n≤i then match e[i]? with
      | some (some (.l xs))=>some (.l xs)
      | _=>none
    else none
  | r=>some r
def ja(W:List Nat)(as:List Sv):Bool:=W.all fun j=>match as[j]? with
  | some (.l _)=>false
  | _=>true
def gC(n k:Nat)(W:List Nat)(f:FS):FM:=fun as=>if as.length=n∧ja W as=true then(f (as.map some++List.replicate k none)).bind fun fl=>match fl with
    | .rt r e=>(oP n e r).bind fun r'=>(pC as e).map fun as'=>(r',as')
    | .nx e=>(pC as e).map fun as'=>(.d .none,as')
    | _=>none
  else none
theorem ls:∀{as as':List Sv} {e:En},pC as e=some as'→as'.length=as.length∧(∀(j:Nat) (x:PyData),as'[j]?=some (.d x)↔ as[j]?=some (.d x))∧(∀(j:Nat) (ys:List PyData),as'[j]?=some (.l ys)→(∃xs,as[j]?=some (.l xs))∧e[j]?=some (some (.l ys)))∧∀(j:Nat) (xs:List PyData),as[j]?=some (.l xs)→∃ys,as'[j]?=some (.l ys)
  | [],_,e,h=>by cases h;simp
  | .d x::r,_,e,h=>by
    obtain⟨s,h1,rfl⟩:=Option.map_eq_some_iff.mp h
    obtain⟨g1,g2,g3,g4⟩:=ls h1
    refine⟨by simp [g1],fun j y=>?_,fun j ys hj=>?_,fun j xs hj=>?_⟩
    · cases j with
      | zero=>simp
      | succ j=>simpa using g2 j y
    · cases j with
      | zero=>simp at hj
      | succ j=>
        obtain⟨c1,c2⟩:=g3 j ys (by simpa using hj)
        refine⟨by simpa using c1,?_⟩
        rw [List.getElem?_tail] at c2
        exact c2
    · cases j with
      | zero=>simp at hj
      | succ j=>simpa using g4 j xs (by simpa using hj)
  | .l xs::r,_,e,h=>by
    unfold pC at h
    match he:e.head?,h with
    | some (some (.l ys)),h=>
      obtain⟨s,h1,rfl⟩:=Option.map_eq_some_iff.mp h
      obtain⟨g1,g2,g3,g4⟩:=ls h1
      refine⟨by simp [g1],fun j y=>?_,fun j zs hj=>?_,fun j zs hj=>?_⟩
      · cases j with
        | zero=>simp
        | succ j=>simpa using g2 j y
      · cases j with
        | zero=>
          simp at hj;subst hj
          exact⟨⟨xs,rfl⟩,by rw [List.head?_eq_getElem?] at he;exact he⟩
        | succ j=>
          obtain⟨c1,c2⟩:=g3 j zs (by simpa using hj)
          refine⟨by simpa using c1,?_⟩
          rw [List.getElem?_tail] at c2
          exact c2
      · cases j with
        | zero=>exact⟨ys,rfl⟩
        | succ j=>simpa using g4 j zs (by simpa using hj)
  | .n x::r,_,e,h=>by simp [pC] at h
end
end L2
namespace L2
open PySem PySem.Spec PyProof.Rows
theorem dU{α:Type}{l:List (Option α)}{k i:Nat}{x:α}(h:(l++List.replicate k none)[i]?=some (some x)):l[i]?=some (some x):=by
  rw [List.getElem?_append] at h
  split at h
  · exact h
  · rw [List.getElem?_replicate] at h
    split at h<;>simp at h
theorem ef{α:Type}{l:List (Option α)}{k i:Nat}{x:α}(h:l[i]?=some (some x)):(l++List.replicate k none)[i]?=some (some x):=by
  have hi:i < l.length:=(List.getElem?_eq_some_iff.mp h).1
  rw [List.getElem?_append_left hi];exact h
section
variable{K:PySem.W.Frag}{F H:Hp}{σ:L2.St}{e:En}{k:Nat}
theorem oQ{i:Nat}{a:Addr}:Fp (σ++List.replicate k none) (e++List.replicate k none) H i a↔ Fp σ e H i a:=by
  constructor
  · rintro(⟨xs,h1,h2⟩ | ⟨xss,l,bs,h1,h2,h3⟩)
    · exact .inl ⟨xs,dU h1,dU h2⟩
    · exact .inr ⟨xss,l,bs,dU h1,dU h2,h3⟩
  · rintro(⟨xs,h1,h2⟩ | ⟨xss,l,bs,h1,h2,h3⟩)
    · exact .inl ⟨xs,ef h1,ef h2⟩
    · exact .inr ⟨xss,l,bs,ef h1,ef h2,h3⟩
theorem lm{a:Addr}:cP (σ++List.replicate k none) (e++List.replicate k none) H a↔ cP σ e H a:=⟨fun⟨i,h⟩=>⟨i,oQ.mp h⟩,fun⟨i,h⟩=>⟨i,oQ.mpr h⟩⟩
theorem bi.pad(R:bi K F H σ e):bi K F H (σ++List.replicate k none) (e++List.replicate k none):=by
  refine⟨R.sm,by simp [R.len],fun i x h=>?_,fun i xs h=>?_,fun i xss h=>?_,fun i j a h1 h2=>R.fp i j a (oQ.mp h1) (oQ.mp h2)⟩
  · obtain⟨v,g1,g2⟩:=R.dat i x (dU h)
    exact⟨v,ef g1,g2⟩
  · obtain⟨l,vs,g1,g2⟩:=R.own i xs (dU h)
    exact⟨l,vs,ef g1,g2⟩
  · obtain⟨l,bs,g1,g2⟩:=R.nst i xss (dU h)
    exact⟨l,bs,ef g1,g2⟩
end
theorem pA:∀{as as':List Sv} {e:En},pC as e=some as'→Be (as'.map some)
  | [],_,e,h=>by cases h;intro i xss z;simp at z
  | .d x::r,_,e,h=>by
    obtain⟨s,h1,rfl⟩:=Option.map_eq_some_iff.mp h
    have ih:=pA h1
    intro i xss z
    cases i with
    | zero=>simp at z
    | succ i=>exact ih i xss (by simpa using z)
  | .l xs::r,_,e,h=>by
    unfold pC at h
    match he:e.head?,h with
    | some (some (.l ys)),h=>
      obtain⟨s,h1,rfl⟩:=Option.map_eq_some_iff.mp h
      have ih:=pA h1
      intro i xss z
      cases i with
      | zero=>simp at z
      | succ i=>exact ih i xss (by simpa using z)
  | .n x::r,_,e,h=>by simp [pC] at h
theorem pX{W:List Nat}{as:List Sv}(h:ja W as=true){j:Nat}{xs:List PyData}(hj:as[j]?=some (.l xs)):j∉W:=fun z=>by
  unfold ja at h
  have:=List.all_eq_true.mp h j z
  rw [hj] at this
  cases this
section
variable{P:Program}{w:World}{K:PySem.W.Frag}{mg:Str→Option Value}{base:Heap}
theorem a_.fn{x:Str}{st:Stmt}{f:Addr}{fd:FuncData}{N ps:List Str}{k n k0:Nat}{W:List Nat}{fb:FS}(h:a_ K mg x st f fd ps)(S:az N ps (aj st))(hn:ps.length=n)(hN:N.length=n+k0)
    (hb:∀(cdv:Value) (A:Around) (outer:List Env) (s:Shared) (H:Hp) (E:XK),cO k (A.deeper (envOfC x (aj st) s.heap.objs.size f cdv))→jy (kY bM P w K mg base N x (aj st) f cdv A outer s H E).nox (cq st) (fS K fb W)):
    aF P w K mg base bM (k+1) f fd ps (bO K n (gC n k0 W fb)):=by
  refine h.F.ok S (fun vs H Q E q=>?_) fun cdv A outer s H vs Q E hr hsp=>⟨_,hb cdv A outer s H E hr,?_⟩
  · rw [hn];exact q.1
  · obtain⟨hl,F,as,r,as',R,nN,hm,nr,q⟩:=hsp
    unfold gC at hm
    split at hm
    case isFalse=>cases hm
    case isTrue hc=>
    obtain⟨la,nl⟩:=hc
    obtain⟨fl,h1,hm⟩:=Option.bind_eq_some_iff.mp hm
    have hst:fJ N vs=vs.map some++List.replicate k0 none:=by unfold fJ;rw [hN,hl];congr 2;lia
    rw [hst]
    have key:∀{as':List Sv} {e':En},pC as e'=some as'→∀F' H' σ',df W (vs.map some++List.replicate k0 none) F H (as.map some++List.replicate k0 none) σ' F' H' e'→bi K F' H' σ' e'→
        dX (vs.map some) F H (as.map some) F' H' (as'.map some)∧bi K F' H' (vs.map some) (as'.map some)∧∀a,cP (vs.map some) (as'.map some) H' a→cP (vs.map some) (as.map some) H a:=by
      intro as' e' hu F' H' σ' X' R'
      obtain⟨u1,u2,u3,u4⟩:=ls hu
      have uN:=pA hu
      have ow:∀a,cP (vs.map some) (as'.map some) H' a→cP (vs.map some) (as.map some) H a:=by
        rintro a ⟨j,⟨ys,c1,c2⟩ | ⟨xss,_,_,z,_⟩⟩
        · obtain⟨⟨xs,c3⟩,_⟩:=u3 j ys (eC.mp c1)
          exact⟨j,.inl ⟨xs,eC.mpr c3,c2⟩⟩
        · exact absurd z (uN j xss)
      have sg:∀(j:Nat) (xs:List PyData),as[j]?=some (.l xs)→σ'[j]?=(vs.map some)[j]?:=fun j xs hj=>by
        rw [X'.wr j (pX nl hj)]
        have hj2:j < (vs.map some).length:=by rw [List.length_map,hl,←la];exact(List.getElem?_eq_some_iff.mp hj).1
        rw [List.getElem?_append_left hj2]
      refine⟨⟨X'.sf,X'.dom,fun a vs h1 h2 hn=>X'.fr a vs h1 h2 fun z=>hn (lm.mp z),X'.lst,fun a o ha hn=>X'.tmp a o ha fun z=>hn (lm.mp z),fun j=>?_,fun a z=>.inl (ow a z),fun a m h1 h2 hn=>X'.fd a m h1 h2 fun z=>hn (lm.mp z)⟩,⟨R'.sm,?_,fun j y hj=>?_,fun j ys hj=>?_,fun j xss hj=>absurd hj (uN j xss),fun j i l f1 f2=>?_⟩,ow⟩
      · constructor
        · rintro⟨ys,hj⟩
          obtain⟨⟨xs,c⟩,_⟩:=u3 j ys (eC.mp hj)
          exact⟨xs,eC.mpr c⟩
        · rintro⟨xs,hj⟩
          obtain⟨ys,c⟩:=u4 j xs (eC.mp hj)
          exact⟨ys,eC.mpr c⟩
      · simp [u1,hl,la]
      · obtain⟨v,c1,c2⟩:=R.dat j y (eC.mpr ((u2 j y).mp (eC.mp hj)))
        exact⟨v,c1,DA.mono X'.sf c2⟩
      · obtain⟨⟨xs,c1⟩,c2⟩:=u3 j ys (eC.mp hj)
        obtain⟨l,us,d1,d2⟩:=R'.own j ys c2
        exact⟨l,us,by rw [←sg j xs c1];exact d1,d2⟩
      · obtain⟨xs,g1,g3⟩:=f1.resolve_right fun⟨xss,_,_,z,_⟩=>uN j xss z
        obtain⟨ys,g2,g4⟩:=f2.resolve_right fun⟨xss,_,_,z,_⟩=>uN i xss z
        obtain⟨⟨zs,c1⟩,c2⟩:=u3 j xs (eC.mp g1)
        obtain⟨⟨ws,c3⟩,c4⟩:=u3 i ys (eC.mp g2)
        exact R'.inj j i xs ys l c2 c4 (by rw [sg j zs c1];exact g3) (by rw [sg i ws c3];exact g4)
    refine⟨F,as.map some++List.replicate k0 none,fl,R.pad,h1,?_⟩
    cases fl with
    | bk e'=>cases hm
    | ct e'=>cases hm
    | nx e'=>
      obtain⟨as2,h2,hm⟩:=Option.map_eq_some_iff.mp hm
      cases hm
      intro F' H' σ' X' R'
      obtain⟨X2,R2,_⟩:=key h2 F' H' σ' X' R'
      exact q F' H' .non X2 R2 ((jE (K:=K) (F:=F')).mpr rfl)
    | rt r0 e'=>
      obtain⟨r1,h2,hm⟩:=Option.bind_eq_some_iff.mp hm
      obtain⟨as2,h3,hm⟩:=Option.map_eq_some_iff.mp hm
      cases hm
      intro F' H' σ' v X' R' A'
      obtain⟨X2,R2,ow2⟩:=key h3 F' H' σ' X' R'
      have noo:∀l,H l=none→¬cP (vs.map some) (as'.map some) H' l:=fun l hl z=>R.ownH l (ow2 l z) hl
      refine q F' H' v X2 R2 ?_
      cases r0 with
      | d y=>cases h2;exact A'
      | l ys=>
        cases h2
        obtain⟨l,us,d0,d1,d2,d3,d4,_⟩:=A'
        exact⟨l,us,d0,d1,d2,d3,d4,noo l d1⟩
      | s i=>
        simp only [oP] at h2
        split at h2
        case isFalse=>cases h2
        case isTrue hi=>
        obtain⟨a1,xs,a2⟩:=A'
        rw [a2] at h2
        cases h2
        obtain⟨l,us,d1,d2,d3,d4⟩:=R'.own i _ a2
        rw [a1] at d1;cases d1
        suffices hl0:H l=none from⟨l,us,rfl,hl0,d2,d3,d4,noo l hl0⟩
        rcases X'.own l ⟨i,.inl ⟨_,a2,a1⟩⟩ with z | z
        · obtain⟨j,zf⟩:=lm.mp z
          obtain⟨ys,z1,z2⟩:=zf.resolve_right fun⟨xss,_,_,z,_⟩=>nN j xss z
          have z1':=eC.mp z1
          obtain⟨u1,u2,u3,u4⟩:=ls h3
          obtain⟨ws,w1⟩:=u4 j ys z1'
          obtain⟨_,w2⟩:=u3 j ws w1
          have hj2:j < vs.length:=by rw [hl,←la];exact(List.getElem?_eq_some_iff.mp z1').1
          have e3:σ'[j]?=some (some (.ref l)):=by
            rw [X'.wr j (pX nl z1'),List.getElem?_append_left (by simpa using hj2)]
            exact z2
          have:=R'.inj i j _ ws l a2 w2 a1 e3
          lia
        · exact z
end
def BE:Option Sv→Option Sv
  | some (.n _)=>none
  | s=>s
def qK(cp:List (Nat × Str))(nT:Nat)(e:En):En:=cp.map (fun p=>BE (e[p.1]?).join)++List.replicate nT none
def mx(cp:List (Nat × Str))(i:Nat):Option Nat:=cp.findIdx? fun p=>p.1==i
def ia(g:FG)(ft:FT)(fe:FE):List PyData→En→List PyData→Option (List PyData × En)
  | [],e,acc=>some (acc,e)
  | x::r,e,acc=>(g x e).bind fun e1=>(ft e1).bind fun b=>if b.1=true then(fe b.2).bind fun v=>(lJ v.1).bind fun d=>if acc.length < 1000000 then ia g ft fe r v.2 (acc++[d]) else none else ia g ft fe r b.2 acc
def oH(cp:List (Nat × Str))(ei e:En):Bool:=cp.all fun p=> !wx e[p.1]? || wx ei[(mx cp p.1).getD 0]?
def ez(cp:List (Nat × Str))(nT:Nat)(fi:FI)(g:FG)(ft:FT)(fe:FE):FE:=fun e=>(fi e).bind fun p=>if (p.2.1.all fun q=> !(cp.any fun c=>c.1==q.1))=true then(ia g ft fe p.1 (qK cp nT p.2.2) []).bind fun z=>if oH cp z.2 p.2.2=true then some (.l z.1,m4 (mx cp) z.2 p.2.2) else none else none
section
variable{K:PySem.W.Frag}{F H:Hp}{σ:L2.St}{e:En}{cp:List (Nat × Str)}{nT:Nat}
theorem gF{i k:Nat}(h:mx cp i=some k):∃s,cp[k]?=some (i,s):=by
  unfold mx at h
  rw [List.findIdx?_eq_some_iff_getElem] at h
  obtain⟨hk,h1,_⟩:=h
  refine⟨cp[k].2,?_⟩
  rw [List.getElem?_eq_getElem hk]
  have:=eq_of_beq h1
  rw [←this]
theorem iX{k:Nat}{x:Sv}(h:(qK cp nT e)[k]?=some (some x)):∃i s,cp[k]?=some (i,s)∧e[i]?=some (some x):=by
  unfold qK at h
  have h:=dU h
  rw [List.getElem?_map] at h
  obtain⟨p,h1,h2⟩:=Option.map_eq_some_iff.mp h
  refine⟨p.1,p.2,h1,?_⟩
  cases q:e[p.1]? with
  | none=>rw [q] at h2;cases h2
  | some y=>
    rw [q] at h2
    match y,h2 with
    | some (.d z),h2=>exact congrArg some h2
    | some (.l z),h2=>exact congrArg some h2
    | some (.n z),h2=>cases h2
    | none,h2=>cases h2
theorem jK:Be (qK cp nT e):=by
  intro k xss h
  unfold qK at h
  have h:=dU h
  rw [List.getElem?_map] at h
  obtain⟨p,h1,h2⟩:=Option.map_eq_some_iff.mp h
  match (e[p.1]?).join,h2 with
  | some (.d z),h2=>cases h2
  | some (.l z),h2=>cases h2
  | some (.n z),h2=>cases h2
  | none,h2=>cases h2
theorem lq{k i:Nat}{s:Str}{v:V}(h:cp[k]?=some (i,s))(hv:σ[i]?=some (some v)):(iP cp nT σ)[k]?=some (some v):=by
  unfold iP
  refine ef ?_
  rw [List.getElem?_map,h]
  simp [hv]
theorem mR{k i:Nat}{s:Str}{v:V}(h:cp[k]?=some (i,s))(hv:(iP cp nT σ)[k]?=some (some v)):σ[i]?=some (some v):=by
  unfold iP at hv
  have hv:=dU hv
  rw [List.getElem?_map,h] at hv
  simp only [Option.map_some,Option.some.injEq] at hv
  cases q:σ[i]? with
  | none=>rw [q] at hv;cases hv
  | some y=>rw [q] at hv;exact congrArg some hv
theorem oN:∀{cp:List (Nat × Str)} {k j i:Nat} {s t:Str},(cp.map (·.1)).Nodup→cp[k]?=some (i,s)→cp[j]?=some (i,t)→k=j
  | [],k,j,i,s,t,_,h,_=>by simp at h
  | p::r,k,j,i,s,t,hn,h1,h2=>by
    simp only [List.map_cons,List.nodup_cons] at hn
    cases k with
    | zero=>
      simp at h1;subst h1
      cases j with
      | zero=>rfl
      | succ j=>
        have hm:(i,t)∈r:=List.mem_of_getElem? (i:=j) (by simpa using h2)
        exact absurd (List.mem_map.mpr ⟨(i,t),hm,rfl⟩) hn.1
    | succ k=>
      cases j with
      | zero=>
        simp at h2;subst h2
        have hm:(i,s)∈r:=List.mem_of_getElem? (i:=k) (by simpa using h1)
        exact absurd (List.mem_map.mpr ⟨(i,s),hm,rfl⟩) hn.1
      | succ j=>
        have:=oN (cp:=r) (k:=k) (j:=j) hn.2 (by simpa using h1) (by simpa using h2)
        lia
theorem bi.inn(R:bi K F H σ e)(hn:(cp.map (·.1)).Nodup):bi K F H (iP cp nT σ) (qK cp nT e)∧pF σ e (iP cp nT σ) (qK cp nT e) (mx cp):=by
  refine⟨⟨R.sm,by simp [iP,qK],fun k x h=>?_,fun k xs h=>?_,fun k xss h=>absurd h (jK k xss),fun k j l f1 f2=>?_⟩,⟨fun i k xs h1 h2=>?_,fun k ys h=>?_⟩⟩
  · obtain⟨i,s,h1,h2⟩:=iX h
    obtain⟨v,g1,g2⟩:=R.dat i x h2
    exact⟨v,lq h1 g1,g2⟩
  · obtain⟨i,s,h1,h2⟩:=iX h
    obtain⟨l,vs,g1,g2⟩:=R.own i xs h2
    exact⟨l,vs,lq h1 g1,g2⟩
  · obtain⟨xs,h1,h3⟩:=f1.resolve_right fun⟨xss,_,_,z,_⟩=>jK k xss z
    obtain⟨ys,h2,h4⟩:=f2.resolve_right fun⟨xss,_,_,z,_⟩=>jK j xss z
    obtain⟨i,s,a1,a2⟩:=iX h1
    obtain⟨i',s',b1,b2⟩:=iX h2
    have:i=i':=R.inj i i' xs ys l a2 b2 (mR a1 h3) (mR b1 h4)
    subst this
    exact oN hn a1 b1
  · obtain⟨s,g⟩:=gF h2
    obtain⟨l,vs,g1,_⟩:=R.own i xs h1
    rw [g1];exact lq g g1
  · obtain⟨i,s,h1,h2⟩:=iX h
    obtain⟨l,vs,g1,_⟩:=R.own i ys h2
    refine⟨i,ys,h2,?_,by rw [g1];exact lq h1 g1⟩
    cases hp:mx cp i with
    | none=>
      unfold mx at hp
      rw [List.findIdx?_eq_none_iff] at hp
      have:=hp _ (List.mem_of_getElem? h1)
      simp at this
    | some j=>
      obtain⟨t,g⟩:=gF hp
      rw [oN hn g h1]
theorem bi.putT(R:bi K F H σ e){l:Addr}{ws:List V}(h1:F l=none)(h2:¬cP σ e H l):bi K F (cu H l (.lst ws)) σ e∧∀a,cP σ e (cu H l (.lst ws)) a↔ cP σ e H a:=
  R.keep (aA.refl F) (fun b o q=>by
    have z:b≠l:=fun z=>by rw [z,h1] at q;cases q
    rw [aN z];exact R.sm b o q) (fun a ⟨i,h⟩=>(R.fpAt h).1) fun a o ha q=>by
      have z:a≠l:=fun z=>h2 (by rw [←z];exact ha)
      rw [aN z];exact q
theorem df.putT{W:List Nat}{σ':L2.St}{F' H':Hp}{e':En}(x:df W σ F H e σ' F' H' e'){l:Addr}{o:HO}(h:H l=none)(ho:∀a,cP σ' e' (cu H' l o) a↔ cP σ' e' H' a):df W σ F H e σ' F' (cu H' l o) e':=by
  refine⟨x.sf,fun a q=>?_,x.fr,fun a vs q=>?_,fun a u q n=>?_,fun a q=>x.own a ((ho a).mp q),x.wr,x.fd⟩
  · by_cases z:a=l
    · rw [z];exact h
    · rw [aN z] at q;exact x.dom a q
  · have z:a≠l:=fun z=>by rw [z,h] at q;cases q
    rw [aN z];exact x.lst a vs q
  · have z:a≠l:=fun z=>by rw [z,h] at q;cases q
    rw [aN z];exact x.tmp a u q n
inductive CI (K:PySem.W.Frag) (W:List Nat) (σ0:L2.St) (F1 H1:Hp) (e0:En) (l:Addr) (P:Hp→En→List PyData→Prop) (σ':L2.St) (H':Hp):Prop
  | mk {F':Hp} {ei:En} {acc:List PyData} {vs:List V} (R:bi K F' H' σ' ei) (X:df W σ0 F1 H1 e0 σ' F' H' ei) (fl:F' l=none) (no:¬cP σ' ei H' l) (hl:H' l=some (.lst vs)) (da:aO K F' acc vs) (hc:P F' ei acc):CI K W σ0 F1 H1 e0 l P σ' H'
theorem wk{Q:VK}{fi:FI}{g:FG}{W:List Nat}{ft:FT}{fe:FE}(hn:(cp.map (·.1)).Nodup)(hW:∀j∈W,cp.length≤j)(h:fE K (ez cp nT fi g ft fe) σ H Q):y9 cp nT (fI K fi) (fG K g W) (fT K ft) (fE K fe) σ H Q:=by
  obtain⟨F0,e0,z,e',R0,hf,q⟩:=h
  unfold ez at hf
  obtain⟨⟨items,own,e1⟩,h1,hf⟩:=Option.bind_eq_some_iff.mp hf
  dsimp only at hf
  split at hf
  case isFalse=>cases hf
  case isTrue hO=>
  obtain⟨⟨out,eo⟩,h2,hf⟩:=Option.bind_eq_some_iff.mp hf
  dsimp only at hf
  split at hf
  case isFalse=>cases hf
  case isTrue hB=>
  cases hf
  refine⟨⟨F0,e0,items,own,e1,R0,h1,fun J F1 H1 X1 R1 kp ok=>?_⟩⟩
  intro l hl
  obtain⟨Ri,sub⟩:=R1.inn (nT:=nT) hn
  have hFl:F1 l=none:=R1.freeF hl
  let Iv:Nat→L2.St→Hp→Prop:=fun i=>CI K W (iP cp nT σ) F1 H1 (qK cp nT e1) l fun _ ei acc=>ia g ft fe (items.drop i) ei acc=some (out,eo)
  have notown:∀p∈own,∀a,σ[p.1]?=some (some (.ref a))→¬cP (iP cp nT σ) (qK cp nT e1) H1 a:=by
    rintro p hp a ha ⟨k,zf⟩
    obtain⟨xs,c1,c2⟩:=zf.resolve_right fun⟨xss,_,_,z,_⟩=>jK k xss z
    obtain⟨i,s,d1,d2⟩:=iX c1
    have e2:=mR d1 c2
    have:p.1=i:=R1.inj p.1 i p.2 xs a (kp p hp) d2 ha e2
    have hh:=List.all_eq_true.mp hO p hp
    simp only [Bool.not_eq_true',List.any_eq_false,beq_iff_eq] at hh
    exact hh (i,s) (List.mem_of_getElem? d1) this.symm
  refine⟨fun i m σ' H'=>m=items.length - i∧i≤items.length∧Iv i σ' H',⟨items.length,by simp,Nat.zero_le _,.mk (Ri.putT hFl (fun z=>(Ri.ownH l z) hl)).1 (df.refl.putT hl (Ri.putT hFl (fun z=>(Ri.ownH l z) hl)).2) hFl (fun z=>(Ri.ownH l (((Ri.putT hFl (fun z=>(Ri.ownH l z) hl)).2 l).mp z)) hl) aH aO.nil h2⟩,?_⟩
  rintro i m σ' H' ⟨rfl,hi,⟨R',X',fl,no,hl',da,hc⟩⟩
  rename_i F' ei acc vs
  have held:ug K σ F' H' own:=fun p hp=>by
    obtain⟨a,us,c1,c2,c3,c4⟩:=R1.own p.1 p.2 (kp p hp)
    exact⟨a,us,c1,X'.tmp a _ c3 (notown p hp a c1),c4.mono X'.sf⟩
  obtain⟨go,stop,yld⟩:=ok F' H' X'.sf R'.sm held
  by_cases hlt:i < items.length
  · have hd:items.drop i=items[i]::items.drop (i+1):=List.drop_eq_getElem_cons hlt
    rw [hd] at hc
    unfold ia at hc
    obtain⟨e2,c2,hc⟩:=Option.bind_eq_some_iff.mp hc
    obtain⟨⟨b,e3⟩,c3,hc⟩:=Option.bind_eq_some_iff.mp hc
    refine .inr ⟨go i hlt,Iv (i+1),fun σ2 H2 r=>⟨items.length - (i+1),by lia,rfl,hlt,r⟩,fun x H2 hy=>?_⟩
    obtain⟨F2,sH,sF2,sm2,fz,hx⟩:=yld i items[i] x H2 (List.getElem?_eq_getElem hlt) hy
    obtain⟨R2,X2⟩:=R'.step sH sF2 sm2 fz
    refine⟨F2,ei,items[i],e2,R2,hx,c2,fun σ3 X3 R3=>⟨F2,e2,b,e3,R3,c3,fun F4 H4 X4 R4=>?_⟩⟩
    have hlH2:H2 l=some (.lst vs):=sH _ _ hl'
    have no2:¬cP σ' ei H2 l:=fun z=>by
      rcases X2.ow l z with z | z
      · exact no z
      · rw [hl'] at z;cases z
    have no3:¬cP σ3 e2 H2 l:=fun z=>by
      rcases X3.own l z with z | z
      · exact no2 z
      · rw [hlH2] at z;cases z
    have fl2:F2 l=none:=fz l fl (by rw [hl'];simp)
    have hlH4:H4 l=some (.lst vs):=X4.tmp l _ hlH2 no3
    have fl4:F4 l=none:=X4.fr l vs fl2 hlH2 no3
    have no4:¬cP σ3 e3 H4 l:=fun z=>by
      rcases X4.ow l z with z | z
      · exact no3 z
      · rw [hlH2] at z;cases z
    have E4:df W (iP cp nT σ) F1 H1 (qK cp nT e1) σ3 F4 H4 e3:=((X'.trans X2.s).trans X3).trans X4.s
    cases b with
    | false=>
      rw [if_neg (by simp)] at hc
      exact BA (.mk R4 E4 fl4 no4 hlH4 (da.mono (sF2.trans X4.sf)) hc)
    | true=>
      rw [if_pos rfl] at hc
      obtain⟨⟨r,e5⟩,c5,hc⟩:=Option.bind_eq_some_iff.mp hc
      obtain⟨d,c6,hc⟩:=Option.bind_eq_some_iff.mp hc
      split at hc
      case isFalse=>cases hc
      case isTrue hlen=>
      refine zC ⟨F4,e3,r,e5,R4,c5,fun F5 H5 v X5 R5 A5=>?_⟩
      have hlH5:H5 l=some (.lst vs):=X5.tmp l _ hlH4 no4
      have fl5:F5 l=none:=X5.fr l vs fl4 hlH4 no4
      have no5:¬cP σ3 e5 H5 l:=fun z=>by
        rcases X5.ow l z with z | z
        · exact no4 z
        · rw [hlH4] at z;cases z
      obtain⟨F6,R6,s6,d6,f6⟩:=dB.frozen R5 (rs:=[r]) (vs:=[v]) ⟨v,[],rfl,A5,rfl⟩ (sP c6)
      have fl6:F6 l=none:=f6 l fl5 (by rw [hlH4];simp)
      have X6:=X5.frz s6 f6
      have ll:=da.len
      have sl:sizeLine=16777216:=sizeLine_eq
      have dv:DA K F6 d v:=by
        simp only [aO] at d6
        obtain⟨v',r',e',hv,_⟩:=d6
        cases e';exact hv
      obtain⟨R7,o7⟩:=R6.putT (ws:=vs++[v]) fl6 no5
      exact⟨vs,hlH5,by lia,.mk R7 ((E4.trans X6.s).putT hl o7) fl6 (fun z=>no5 ((o7 l).mp z)) aH ((da.mono (sF2.trans (X4.sf.trans (X5.sf.trans s6)))).append (aO.one dv)) hc⟩
  · have hd:items.drop i=[]:=List.drop_eq_nil_of_le (by lia)
    rw [hd] at hc
    cases hc
    refine .inl ⟨stop i (by lia),?_⟩
    obtain⟨R9,X9,o9⟩:=qi R1 sub jK X'.sf X'.dom X'.fr X'.lst X'.tmp X'.fd R' (fun i k xs g1 g2=>X'.wr k fun z=>by
      obtain⟨s,g⟩:=gF g2
      have:=(List.getElem?_eq_some_iff.mp g).1
      have:=hW k z
      lia) fun i k xs g1 g2=>by
        obtain⟨s,g⟩:=gF g2
        unfold oH at hB
        have hb:=List.all_eq_true.mp hB _ (List.mem_of_getElem? g)
        simp only [g1,g2,Option.getD_some,wx,Bool.not_true,Bool.false_or] at hb
        exact xf.mp hb
    exact q F' H' (.ref l) (X1.trans X9) R9 ⟨l,vs,rfl,X1.dom l hl,fl,hl',da,fun z=>R1.ownH l (o9 l z) hl⟩
end
end L2
namespace L2
open PySem PySem.Spec PyProof.Rows
section
variable{X:Cx}{K:PySem.W.Frag}{a b:Expr}{es:List Expr}{fa fb:FE}{fs:FA}{pos p p2 p3:Pos}{lo hi:Option Expr}
def wZ:En→Rv→Option Rv:=fun _ x=>(cv x).map fun i=>.d (.int (-i))
theorem BL:Bm K (rU fun i=>.int (-i)) wZ:=by
  intro σ H0 F H e x z v Q R A hg q
  obtain⟨i,h5,h4⟩:=Option.map_eq_some_iff.mp hg
  cases h4
  exact⟨i,cH A h5,q F H _ (dX.refl _ _ _ _) R mH⟩
theorem BY(ha:PE X a (fE K fa)):PE X (.UnaryOp .USub a pos) (fE K (qr wZ fa)):=B1 AX BL ha
theorem aS(hK:X.K=K)(ha:PE X a (fE K fa))(hb:PE X b (fE K fb)):PE X (.BinOp a .Add b pos) (fE K (ar ba fa fb)):=mC (hK ▸ xA) Bo ha hb
theorem p5(ha:PE X a (fE K fa))(hb:PE X b (fE K fb)):PE X (.BinOp a .Sub b pos) (fE K (ar iB fa fb)):=mC Aa Cg ha hb
theorem n5(hK:X.K=K)(ha:PE X a (fE K fa))(hb:PE X b (fE K fb)):PE X (.BinOp a .Mult b pos) (fE K (ar lZ fa fb)):=mC (hK ▸ xE) BK ha hb
theorem gk(ha:PE X a (fE K fa))(hb:PE X b (fE K fb)):PE X (.BinOp a .FloorDiv b pos) (fE K (ar ed fa fb)):=mC vo zw ha hb
theorem aZ(ha:PE X a (fE K fa))(hb:PE X b (fE K fb)):PE X (.BinOp a .Mod b pos) (fE K (ar a7 fa fb)):=mC xD BJ ha hb
theorem yX(ha:PE X a (fE K fa))(hb:PE X b (fE K fb)):PE X (.BinOp a .Pow b pos) (fE K (ar qJ fa fb)):=mC z7 BW ha hb
theorem BZ(ha:PE X a (fE K fa))(hb:PE X b (fE K fb)):PE X (.BinOp a .LShift b pos) (fE K (ar xa fa fb)):=mC z_ Ce ha hb
theorem aY(hK:X.K=K)(ha:PE X a (fE K fa))(hb:PE X b (fE K fb))(hs:oC b):PE X (.Subscript a b pos) (fE K (ar bR fa fb)):=B0 (hK ▸ Dg) Dh ha hb hs
theorem jT{fl fh:FO}(hK:X.K=K)(he:PE X a (fE K fa))(hl:PO X lo (fO K fl))(hh:PO X hi (fO K fh)):PE X (.Subscript a (.Slice lo hi none p2) pos) (fE K (qp fa fl fh)):=by subst hK;exact vH he hl hh
structure jf (X:Cx) (K:PySem.W.Frag) (op:CmpOp) (g:En→Rv→Rv→Option Rv):Prop where
  ex:∃r,eR X (compareOp op) r∧eQ K r g
theorem sJ:jf X K .Lt ww:=⟨_,BR,Dl⟩
theorem uq:jf X K .LtE yH:=⟨_,BQ,Dj⟩
theorem sI:jf X K .Gt sU:=⟨_,BP,Da⟩
theorem wM:jf X K .GtE zy:=⟨_,BO,C_⟩
theorem lF{k:Nat}(hK:X.K=K)(hr:cO k X.A):jf X K .Eq (cQ false):=⟨_,hK ▸ vm hr,yE⟩
theorem zo{k:Nat}(hK:X.K=K)(hr:cO k X.A):jf X K .NotEq (cQ true):=⟨_,hK ▸ z4 hr,yE⟩
theorem zm{k:Nat}(hK:X.K=K)(hr:cO k X.A):jf X K .In (wY false):=⟨_,hK ▸ zZ hr,Dc⟩
theorem wN:jf X K .IsNot lW:=⟨_,tK,xg⟩
theorem nZ{op:CmpOp}{g:En→Rv→Rv→Option Rv}(h:jf X K op g)(ha:PE X a (fE K fa))(hb:PE X b (fE K fb))(hm:behindInMarks op b=false):PE X (.Compare a [op] [b] pos) (fE K (ar g fa fb)):=by
  obtain⟨r,h1,h2⟩:=h.ex;exact As h1 h2 ha hb hm
theorem bj{op:CmpOp}{g:En→Rv→Rv→Option Rv}(h:jf X K op g)(ha:PE X a (fE K fa))(hb:PE X b (fE K fb))(hm:behindInMarks op b=false):PT X (.Compare a [op] [b] pos) (fT K (ax (ar g fa fb))):=by
  obtain⟨r,h1,h2⟩:=h.ex;exact Av h1 h2 ha hb hm
theorem xY{op op':CmpOp}{g g':En→Rv→Rv→Option Rv}{c:Expr}{fc:FE}(h:jf X K op g)(h':jf X K op' g')(ha:PE X a (fE K fa))(hb:PE X b (fE K fb))(hc:PE X c (fE K fc))(hm:lastMarks [op,op'] [b,c]=false):PE X (.Compare a [op,op'] [b,c] pos) (fE K (iS g g' fa fb fc)):=by
  obtain⟨r,h1,h2⟩:=h.ex;obtain⟨r',h3,h4⟩:=h'.ex;exact vG h1 h2 h3 h4 ha hb hc hm
structure lx (X:Cx) (K:PySem.W.Frag) (x:Str) (g:En→List Rv→Option Rv):Prop where
  ex:(∃id r,de X (.builtin id) r∧dA K r g∧bootBuiltins x=some (.builtin id))∨∃T r,de X (.type T) r∧dA K r g∧bootBuiltins x=some (.type T)
theorem aV{x:Str}{g:En→List Rv→Option Rv}(h:lx X K x g)(hg:Gl X x)(hm:X.mg x=none)(ha:PA X (a::es) (fA K fs))(hn:x≠"__name__")(hdb:(x==("__debug__":Str))=false)
    (he:starEach (a::es) X.env=(false,eval a X.env)::starEach es X.env)(hpl:(backTo pos (starEach es X.env)).any (·.1)=false):PE X (.Call (.Name x p) (a::es) [] pos) (fE K (aI g fs)):=by
  rcases h.ex with ⟨id,r,h1,h2,h3⟩ | ⟨T,r,h1,h2,h3⟩
  · exact vF h1 h2 hg hm h3 ha hn hdb he hpl
  · exact tR h1 h2 hg hm h3 ha hn hdb he hpl
theorem b_len(hK:X.K=K):lx X K "len" (g1 fL):=⟨.inl ⟨_,_,hK ▸ oJ,BD,PySem.boot_len⟩⟩
theorem b_abs:lx X K "abs" (g1 qI):=⟨.inl ⟨_,_,ur,Bn,PyProof.Rows.boot_abs⟩⟩
theorem b_min(hc:X.calm=true):lx X K "min" (g2 oR):=⟨.inl ⟨_,_,sN hc,BI,PyProof.Rows.boot_min⟩⟩
theorem b_max(hc:X.calm=true):lx X K "max" (g2 sW):=⟨.inl ⟨_,_,sM hc,BF,PyProof.Rows.boot_max⟩⟩
theorem b_int:lx X K "int" (g1 sV):=⟨.inr ⟨_,_,sL,By,PyProof.Rows.boot_int⟩⟩
theorem b_tuple(hK:X.K=K):lx X K "tuple" (g1 bY):=⟨.inr ⟨_,_,hK ▸ m7,yl,PyProof.Rows.boot_tuple⟩⟩
theorem b_list(hK:X.K=K):lx X K "list" (g1 rO):=⟨.inr ⟨_,_,hK ▸ oK,zK,PyProof.Rows.boot_list⟩⟩
theorem b_all{k:Nat}(hK:X.K=K)(hr:cO k X.A):lx X K "all" (g1 (kQ nQ)):=⟨.inl ⟨_,_,ut hr hK,Bp,uo⟩⟩
theorem b_sorted(hK:X.K=K):lx X K "sorted" (g1 gX):=⟨.inl ⟨_,_,hK ▸ qF,yf,PyProof.Rows.boot_sorted⟩⟩
theorem b_repr{k:Nat}(hK:X.K=K)(hr:cO k X.A):lx X K "repr" (g1 jI):=⟨.inl ⟨_,_,hK ▸ qE hr,AC,PyProof.Rows.boot_repr⟩⟩
def i6(fs:FA):FE:=fun e=>(fs e).bind fun p=>match p.1 with
  | [r]=>(cv r).bind fun j=>if 0≤j∧j≤100000 then some (.l ((ir j.toNat).map .int),p.2) else none
  | _=>none
theorem p4(hc:X.calm=true)(hgl:Gl X "list")(hml:X.mg "list"=none)(hg:Gl X "range")(hm:X.mg "range"=none)(ha:PA X [a] (fA K fs))(hs:starEach [a] X.env=[(false,eval a X.env)])
    (he:starEach [.Call (.Name "range" p2) [a] [] p3] X.env=[(false,eval (.Call (.Name "range" p2) [a] [] p3) X.env)]):PE X (.Call (.Name "list" p) [.Call (.Name "range" p2) [a] [] p3] [] pos) (fE K (i6 fs)):=(pe hc hgl hml hg hm ha hs he).mono fun σ H Q h=>by
  obtain⟨F,e,z,e',R,hf,q⟩:=h
  unfold i6 at hf
  obtain⟨⟨rs,e1⟩,h1,hf⟩:=Option.bind_eq_some_iff.mp hf
  match rs,h1,hf with
  | [r],h1,hf=>
  obtain⟨j,h2,hf⟩:=Option.bind_eq_some_iff.mp hf
  split at hf
  case isFalse=>cases hf
  case isTrue hj=>
  cases hf
  refine⟨F,e,_,e1,R,h1,fun F1 H1 vs X1 R1 A1=>?_⟩
  obtain⟨v,rfl,A2⟩:=lp A1
  refine⟨j,by rw [cH A2 h2],hj.1,hj.2,fun t ht=>?_⟩
  obtain⟨R3,X3,hF,no⟩:=R1.newL (vs:=(ir j.toNat).map V.int) ht
  exact q _ _ _ (X1.trans X3) R3 ⟨t,_,rfl,X1.dom _ ht,hF,aH,aO.ints.mpr rfl,no⟩
abbrev cJ:FT:=fun e=>some (true,e)
theorem wG.mono{ifs:List Expr}{t t':TT}(h:wG X ifs t)(m:∀σ H Q,t' σ H Q→t σ H Q):wG X ifs t':=fun pins s σ H Q I q=>h pins s σ H Q I (m σ H Q q)
theorem g_:wG X [] (fT K cJ):=xV.mono fun σ H Q h=>by
  obtain⟨F,e,b,e',R,hf,q⟩:=h
  cases hf
  exact q F H (dX.refl _ _ _ _) R
theorem x4{c:Expr}{ft:FT}(h:PT X c (fT K ft)):wG X [c] (fT K ft):=xW h
theorem iH{elt iter tg:Expr}{ifs:List Expr}{scope:Scope}{fi:FI}{g:FG}{ft:FT}{fe:FE}{W:List Nat}(sc0:Scope)(N0:List Str)(cp:List (Nat × Str))(tgN:List Str)
    (hc:X.calm=true)(hsc:X.env.scope=sc0)(hN0:X.N=N0)(hi:PI X tg iter (fI K fi))
    (hg:∀C s0 H0 fp,PG (cC X scope cp tgN C s0 H0 fp) tg (fG K g W))
    (ht:∀C s0 H0 fp,wG (cC X scope cp tgN C s0 H0 fp) ifs (fT K ft))
    (he:∀C s0 H0 fp,PE (cC X scope cp tgN C s0 H0 fp) elt (fE K fe))
    (hk:scope.kind=.function)(hcell:∀y∈scope.names,y.2≠.cell)(hnames:∀y∈scope.names,y.2=.local→scope.names.lookup y.1=some .local)
    (hfr:∀y∈scope.names,y.2=.free→scope.names.lookup y.1=some .free∧sc0.names.lookup y.1=some .cell)
    (hcp:∀p∈cp,N0[p.1]?=some p.2)(hcq:∀p∈cp,sc0.names.lookup p.2=some .cell∧scope.names.lookup p.2=some .free)(hnd:(cp.map (·.1)).Nodup)(hW:∀j∈W,cp.length≤j)
    (hs:∀x,foldedSetIterable iter X.env x=pure x):
    PE X (.ListComp elt [⟨tg,iter,ifs,0⟩] scope pos) (fE K (ez cp tgN.length fi g ft fe)):=(xJ sc0 N0 cp tgN hc hsc hN0 hi hg ht he hk hcell hnames hfr hcp hcq hs).mono fun _ _ _ h=>wk hnd hW h
variable{o:Expr}{fo:FE}{apos cpos:Pos}
theorem dq(hK:X.K=K)(ho:PE X o (fE K fo))(ha:PA X (a::es) (fA K fs))(hbase:attributeBase o "append" X.env (eval o X.env)=eval o X.env)
    (hfew:((backTo cpos (starEach (a::es) X.env)).all (fun x=> !x.1)&&(backToKw cpos (keywordEach [] X.env)).all (fun x=>x.1.isSome)
      &&decide ((a::es).length+([]:List Keyword).length+(if ([]:List Keyword).isEmpty then 0 else 1) < 30))=true)
    (hline:(apos.endLine==cpos.line)=true)(hs:starEach (a::es) X.env=(false,eval a X.env)::starEach es X.env)(hplain:(backTo cpos (starEach es X.env)).any (·.1)=false):
    PE X (.Call (.Attribute o "append" apos) (a::es) [] cpos) (fE K (cK bA fo fs)):=by
  subst hK;exact yY PySem.F.slot_list_append PySem.F.type_list_append nW ui ho ha hbase hfew hline hs hplain
theorem r8(hK:X.K=K)(ho:PE X o (fE K fo))(ha:PA X (a::es) (fA K fs))(hbase:attributeBase o "pop" X.env (eval o X.env)=eval o X.env)
    (hfew:((backTo cpos (starEach (a::es) X.env)).all (fun x=> !x.1)&&(backToKw cpos (keywordEach [] X.env)).all (fun x=>x.1.isSome)
      &&decide ((a::es).length+([]:List Keyword).length+(if ([]:List Keyword).isEmpty then 0 else 1) < 30))=true)
    (hline:(apos.endLine==cpos.line)=true)(hs:starEach (a::es) X.env=(false,eval a X.env)::starEach es X.env)(hplain:(backTo cpos (starEach es X.env)).any (·.1)=false):
    PE X (.Call (.Attribute o "pop" apos) (a::es) [] cpos) (fE K (cK en fo fs)):=by
  subst hK;exact yY PySem.F.slot_list_pop PySem.F.type_list_pop u7 xS ho ha hbase hfew hline hs hplain
end
end L2
namespace L2
open PySem PySem.Spec PyProof.Rows
theorem ri{K:PySem.W.Frag}{H:Hp}{a:Addr}{ns:List Int}{m:FM}{as':List Sv}{Q:VK}{E:XK}(hS:gL K H a (ns.map V.int))(hm:m [.d (.list (ns.map .int))]=some (.d (.bool true),as'))(q:∀H',Q (.bl true) H'):bO K 1 m [.ref a] H Q E:=by
  refine⟨rfl,H,[.d (.list (ns.map .int))],_,as',?_,?_,hm,trivial,fun F' H' v X' R' A'=>?_⟩
  · refine⟨aA.refl _,rfl,fun i x h=>?_,fun i xs h=>?_,fun i xss h=>?_,fun i j l f1 _=>?_⟩
    · match i,h with
      | 0,h=>
        simp at h;subst h
        exact⟨.ref a,rfl,cW.mpr ⟨a,_,rfl,hS,aO.ints.mpr rfl⟩⟩
      | i+1,h=>simp at h
    · match i,h with
      | 0,h=>simp at h
      | i+1,h=>simp at h
    · match i,h with
      | 0,h=>simp at h
      | i+1,h=>simp at h
    · rcases f1 with ⟨_,h,_⟩ | ⟨_,_,_,h,_⟩
      · match i,h with
        | 0,h=>simp at h
        | i+1,h=>simp at h
      · match i,h with
        | 0,h=>simp at h
        | i+1,h=>simp at h
  · intro i xss h
    match i,h with
    | 0,h=>simp at h
    | i+1,h=>simp at h
  · rw [cE.mp (show DA K F' (.bool true) v from A')];exact q H'
end L2
namespace L2
open PySem PySem.Spec PyProof.Rows
section
variable{K:PySem.W.Frag}{σ:L2.St}{H0 F H F' H':Hp}{e e':En}
end
section
variable{X:Cx}{K:PySem.W.Frag}{a b:Expr}{es:List Expr}{fa fb:FE}{fs:FA}{pos p p2 p3 pos':Pos}{x:Str}{i:Nat}
def nC(k:Int):En→Option Int:=fun _=>some k
end
end L2
namespace L2
open PySem PySem.Spec PyProof.Rows
theorem jk{C:Int→Int→Bool}{f:Int→Int→PyData}{e:En}{i j:Int}(h:C i j=true):gI C f e (.d (.int i)) (.d (.int j))=some (.d (f i j)):=by simp [gI,cv,h]
theorem eV{e:En}{i j:Int}:ba e (.d (.int i)) (.d (.int j))=some (.d (.int (i+j))):=rfl
theorem cY{e:En}{i j:Int}:iB e (.d (.int i)) (.d (.int j))=some (.d (.int (i - j))):=rfl
theorem l0{e:En}{i j:Int}(h:kl i j=true):lZ e (.d (.int i)) (.d (.int j))=some (.d (.int (i*j))):=by
  unfold lZ w_ uH;rw [jk h];rfl
theorem u9{i j:Int}(h1: -(2 ^ 64) < i)(h2:i < 2 ^ 64):kl i j=true:=by
  have:hU i=true:=by unfold hU;rw [decide_eq_true h1,decide_eq_true h2];rfl
  unfold kl;rw [this];simp
theorem o5{i j:Int}(h1: -(2 ^ 64) < j)(h2:j < 2 ^ 64):kl i j=true:=by
  have:hU j=true:=by unfold hU;rw [decide_eq_true h1,decide_eq_true h2];rfl
  unfold kl;rw [this];simp
theorem aQ{e:En}{i j:Int}(h:0 < j):a7 e (.d (.int i)) (.d (.int j))=some (.d (.int (i % j))):=by
  unfold a7;rw [jk (by simp;lia)]
  rw [Int.fmod_eq_emod_of_nonneg i (by lia)]
theorem eJ{e:En}{i j:Int}(h:0 < j)(h2:Bt 8000 j):ed e (.d (.int i)) (.d (.int j))=some (.d (.int (i / j))):=by
  unfold ed;rw [jk (by simp [jB.mpr h2];lia)]
  rw [Int.fdiv_eq_ediv_of_nonneg i (by lia)]
theorem gP{e:En}{i j:Int}{neg:Bool}:cQ neg e (.d (.int i)) (.d (.int j))=some (.d (.bool (if neg then !(i==j) else i==j))):=by
  unfold cQ;simp [ie,SeqAt.shaped,PyData.canLay0,PyData.depth,PyData.eqv]
theorem gW{e:En}{i j:Int}:ww e (.d (.int i)) (.d (.int j))=some (.d (.bool (decide (i < j)))):=rfl
theorem gT{e:En}{i j:Int}:yH e (.d (.int i)) (.d (.int j))=some (.d (.bool (decide (i≤j)))):=rfl
theorem gR{e:En}{i j:Int}:sU e (.d (.int i)) (.d (.int j))=some (.d (.bool (decide (j < i)))):=rfl
theorem gQ{e:En}{i j:Int}:zy e (.d (.int i)) (.d (.int j))=some (.d (.bool (decide (j≤i)))):=rfl
theorem eY{e:En}{i j:Int}:g2 oR e [.d (.int i),.d (.int j)]=some (.d (.int (min i j))):=by
  show some (Rv.d (.int (if j < i then j else i)))=_
  congr 3
  split<;>lia
theorem eX{e:En}{i j:Int}:g2 sW e [.d (.int i),.d (.int j)]=some (.d (.int (max i j))):=by
  show some (Rv.d (.int (if j > i then j else i)))=_
  congr 3
  split<;>lia
theorem eZ{e:En}{i:Int}:wZ e (.d (.int i))=some (.d (.int (-i))):=rfl
theorem dH{e:En}{b:Bool}:g1 sV e [.d (.bool b)]=some (.d (.int (if b then 1 else 0))):=rfl
theorem eU{e:En}{i:Int}:g1 qI e [.d (.int i)]=some (.d (.int i.natAbs)):=by
  show some (Rv.d (.int (if i < 0 then -i else i)))=_
  congr 3
  split<;>lia
theorem kd{j:Int}(h1:0 < j)(h2:j < 2 ^ 64):Bt 8000 j:=Bt.mono (m:=64) (by unfold Bt;lia) (by decide)
theorem f_{α:Type}{xs:List α}{i:Int}(h0:0≤i)(h:i < xs.length):atI xs i=xs[i.toNat]?:=by
  unfold atI BC
  rw [if_pos h0,if_pos h];rfl
theorem pR{e:En}{i:Nat}{xs:List PyData}{neg:Bool}(h:e[i]?=some (some (.l xs)))(hs:SeqAt.shaped (.list xs)=true):cQ neg e (.s i) (.l [])=some (.d (.bool (if neg then !xs.isEmpty else xs.isEmpty))):=by
  unfold cQ
  simp only [ie,h,Option.bind_some,hs]
  have h0:SeqAt.shaped (.list [])=true:=by simp [SeqAt.shaped,PyData.canLay0,PyData.canLayAll0,PyData.depth,PyData.depthAll]
  rw [h0]
  cases xs<;>simp [PyData.eqv,PyData.eqvAll]
theorem kU(ns:List Int):SeqAt.shaped (.list (ns.map .int))=true∧SeqAt.shaped (.tuple (ns.map .int))=true:=by
  have h1:PyData.canLayAll0 (ns.map PyData.int)=true:=by
    induction ns with
    | nil=>rfl
    | cons n r ih=>simp [PyData.canLayAll0,PyData.canLay0,ih]
  have h2:PyData.depthAll (ns.map PyData.int)=0:=by
    clear h1
    induction ns with
    | nil=>rfl
    | cons n r ih=>simp [PyData.depthAll,PyData.depth,ih]
  constructor<;>simp [SeqAt.shaped,PyData.canLay0,PyData.depth,h1,h2]
theorem dm{own:jg}{g:FG}{f:FS}(P:Nat→En→Prop):∀(items:List PyData) (k:Nat) (e:En),(∀i x e,items[i]?=some x→P (k+i) e→∃e1 e2,g x e=some e1∧f e1=some (.nx e2)∧keeps own e2∧P (k+i+1) e2)→P k e→∃e',gb own g f items e=some (.nx e')∧P (k+items.length) e'
  | [],k,e,_,h=>⟨e,rfl,h⟩
  | x::r,k,e,hs,h=>by
    obtain⟨e1,e2,h1,h2,h3,h4⟩:=hs 0 x e rfl h
    obtain⟨e',h5,h6⟩:=dm P r (k+1) e2 (fun i y e hy hp=>by
      have:=hs (i+1) y e (by simpa using hy) (by rw [show k+(i+1)=k+1+i by lia];exact hp)
      rw [show k+(i+1)+1=k+1+i+1 by lia] at this
      exact this) h4
    refine⟨e',?_,by rw [List.length_cons,show k+(r.length+1)=k+1+r.length by lia];exact h6⟩
    unfold gb
    simp only [h1,h2,Option.bind_some,if_pos h3]
    exact h5
theorem bo{e:En}:keeps [] e:=fun _ h=>by cases h
theorem dW{W:List Nat}{fi:FI}{g:FG}{f:FS}{e e1:En}{items:List PyData}(h:fi e=some (items,[],e1)):eE W fi g f e=gb [] g f items e1:=by
  unfold eE;rw [h];rfl
theorem fy{lo:Int}{n i:Nat}{x:PyData}(h:(bL lo n)[i]?=some x):x=.int (lo+i)∧i < n:=by
  unfold bL at h
  rw [List.getElem?_map] at h
  obtain⟨k,h1,rfl⟩:=Option.map_eq_some_iff.mp h
  obtain⟨h2,h3⟩:=List.getElem?_eq_some_iff.mp h1
  simp at h2 h3
  subst h3
  exact⟨rfl,h2⟩
theorem fC{lo:Int}{n:Nat}:(bL lo n).length=n:=by simp [bL]
theorem cZ{fs:FA}{e e1:En}{n:Int}(h:fs e=some ([.d (.int n)],e1))(h1: -1000000≤n)(h2:n≤1000000):dn fs e=some (bL 0 n.toNat,[],e1):=by
  unfold dn;rw [h]
  have:vP n=true:=by unfold vP;rw [decide_eq_true h1,decide_eq_true h2];rfl
  simp [cv,this]
theorem jx{ft:FT}{f:FS}(P:En→Prop)(μ:En→Nat)(hs:∀e,P e→(∃e1,ft e=some (false,e1)∧True)∨∃e1 e2,ft e=some (true,e1)∧f e1=some (.nx e2)∧P e2∧μ e2 < μ e):
    ∀(n:Nat) (e:En),P e→μ e < n→∃e0 e',h_ ft f n e=some (.nx e')∧P e0∧ft e0=some (false,e'):=by
  intro n
  induction n with
  | zero=>intro e _ h;lia
  | succ n ih=>
    intro e hp hm
    rcases hs e hp with ⟨e1,h1,_⟩ | ⟨e1,e2,h1,h2,h3,h4⟩
    · exact⟨e,e1,by unfold h_;rw [h1];rfl,hp,h1⟩
    · obtain⟨e0,e',g1,g2⟩:=ih e2 h3 (by lia)
      exact⟨e0,e',by unfold h_;rw [h1];simp only [Option.bind_some,if_true,h2];exact g1,g2⟩
theorem dC{cs:En}{ft:FT}{fe:FE}{b:PyData→Bool}{y:PyData→PyData}:∀(items:List PyData) (t:Option Sv) (acc:List PyData),(∀x∈items,ft (cs++[some (.d x)])=some (b x,cs++[some (.d x)]))→(∀x∈items,b x=true→fe (cs++[some (.d x)])=some (.d (y x),cs++[some (.d x)]))→
    acc.length+items.length≤1000000→∃t',ia (ah cs.length) ft fe items (cs++[t]) acc=some (acc++(items.filter b).map y,cs++[t'])
  | [],t,acc,_,_,_=>⟨t,by simp [ia]⟩
  | x::r,t,acc,h1,h2,hl=>by
    have hg:ah cs.length x (cs++[t])=some (cs++[some (.d x)]):=by simp [ah]
    have h1x:=h1 x (by simp)
    unfold ia
    rw [hg]
    simp only [Option.bind_some,h1x]
    cases hb:b x with
    | true=>
      simp only [if_true,h2 x (by simp) hb,Option.bind_some,lJ]
      rw [if_pos (by simp at hl;lia)]
      obtain⟨t',ih⟩:=dC (b:=b) (y:=y) r (some (.d x)) (acc++[y x]) (fun z hz=>h1 z (by simp [hz])) (fun z hz=>h2 z (by simp [hz])) (by simp at hl ⊢;lia)
      exact⟨t',by rw [ih];simp [hb]⟩
    | false=>
      simp only [Bool.false_eq_true,if_false]
      obtain⟨t',ih⟩:=dC (b:=b) (y:=y) r (some (.d x)) acc (fun z hz=>h1 z (by simp [hz])) (fun z hz=>h2 z (by simp [hz])) (by simp at hl;lia)
      exact⟨t',by rw [ih];simp [hb]⟩
theorem jp{fa:FE}{e e1:En}{xs:List PyData}(h:fa e=some (.d (.tuple xs),e1)):jJ fa e=some (xs,[],e1):=by
  unfold jJ;rw [h];rfl
theorem fK{cp:List (Nat × Str)}{nT:Nat}{fi:FI}{g:FG}{ft:FT}{fe:FE}{e e1 cs:En}{t t':En}{items out:List PyData}(h1:fi e=some (items,[],e1))(hc:qK cp nT e1=cs++t)(hl:cs.length=cp.length)(h3:ia g ft fe items (qK cp nT e1) []=some (out,cs++t')):ez cp nT fi g ft fe e=some (.l out,e1):=by
  have key:∀i x,e1[i]?=some (some (.l x))→∀k,mx cp i=some k→(cs++t')[k]?=some (some (.l x)):=by
    intro i x hi k hk
    obtain⟨s,hs⟩:=gF hk
    have hk2:k < cp.length:=(List.getElem?_eq_some_iff.mp hs).1
    have:(qK cp nT e1)[k]?=some (some (.l x)):=by
      unfold qK
      rw [List.getElem?_append_left (by simpa using hk2),List.getElem?_map,hs]
      simp [hi,BE]
    rw [hc,List.getElem?_append_left (by lia)] at this
    rw [List.getElem?_append_left (by lia)]
    exact this
  unfold ez
  rw [h1]
  simp only [Option.bind_some,List.all_nil,if_true,h3]
  have hb:oH cp (cs++t') e1=true:=by
    unfold oH
    rw [List.all_eq_true]
    intro p hp
    match hi:e1[p.1]? with
    | none=>simp [wx]
    | some none=>simp [wx]
    | some (some (.d x))=>simp [wx]
    | some (some (.n x))=>simp [wx]
    | some (some (.l x))=>
      cases hq:mx cp p.1 with
      | none=>
        unfold mx at hq
        rw [List.findIdx?_eq_none_iff] at hq
        have:=hq p hp
        simp at this
      | some k=>simp [key p.1 x hi k hq,wx]
  rw [if_pos hb]
  congr 2
  refine List.ext_getElem? fun i=>?_
  rw [cw]
  match hi:e1[i]? with
  | none=>rfl
  | some none=>rfl
  | some (some (.d x))=>rfl
  | some (some (.n x))=>rfl
  | some (some (.l x))=>
    cases hp:mx cp i with
    | none=>simp [hp]
    | some k=>simp [hp,key i x hi k hp]
theorem kc{α:Type}{xs:List α}{i:Int}(h0:0≤i)(h1:i < xs.length):∃x∈xs,atI xs i=some x:=by
  rw [f_ h0 h1]
  exact⟨xs[i.toNat]'(by lia),List.getElem_mem _,List.getElem?_eq_getElem _⟩
theorem lX{e:En}{xs:List PyData}{i:Int}:bR e (.l xs) (.d (.int i))=(atI xs i).map .d:=rfl
theorem ii{e:En}{xs:List PyData}{i:Int}:bR e (.d (.tuple xs)) (.d (.int i))=(atI xs i).map .d:=rfl
theorem jl{e:En}{xs:List PyData}{i:Int}:bR e (.d (.list xs)) (.d (.int i))=(atI xs i).map .d:=rfl
theorem lY{e:En}{j:Nat}{xs:List PyData}{i:Int}(h:e[j]?=some (some (.l xs))):bR e (.s j) (.d (.int i))=(atI xs i).map .d:=by
  simp [bR,fF,h,cv]
theorem jo{e:En}{xs:List PyData}:g1 fL e [.d (.tuple xs)]=some (.d (.int xs.length)):=rfl
theorem gU{e:En}{xs:List PyData}:g1 fL e [.d (.list xs)]=some (.d (.int xs.length)):=rfl
theorem jm{e:En}{xs:List PyData}:g1 fL e [.l xs]=some (.d (.int xs.length)):=rfl
theorem jn{e:En}{j:Nat}{xs:List PyData}(h:e[j]?=some (some (.l xs))):g1 fL e [.s j]=some (.d (.int xs.length)):=by
  simp [g1,fL,fF,h]
theorem ff{e:En}{j:Nat}{xs:List PyData}(h:e[j]?=some (some (.l xs))):g1 bY e [.s j]=some (.d (.tuple xs)):=by
  simp [g1,bY,fF,h]
theorem e_{e:En}{xs:List PyData}:g1 bY e [.l xs]=some (.d (.tuple xs)):=rfl
theorem dI{e:En}{xs:List PyData}:g1 bY e [.d (.list xs)]=some (.d (.tuple xs)):=rfl
theorem fg{e:En}{xs:List PyData}:g1 bY e [.d (.tuple xs)]=some (.d (.tuple xs)):=rfl
theorem l5{e:En}{xs:List PyData}{lo hi:Option Int}:CK e (.d (.tuple xs)) lo hi=some (.d (.tuple (m8 xs lo hi))):=rfl
theorem eW{e:En}{xs ys:List PyData}(h:xs.length+ys.length≤1000000):ba e (.d (.tuple xs)) (.d (.tuple ys))=some (.d (.tuple (xs++ys))):=by
  simp [ba,w_,yG,gI,cv,rL,fF,h]
theorem uG{e:En}{i j:Int}(h:j≠0):a7 e (.d (.int i)) (.d (.int j))=some (.d (.int (i.fmod j))):=by
  unfold a7;rw [jk (by simpa using h)]
theorem rN{e:En}{i j:Int}(h:j≠0)(h2:Bt 8000 j):ed e (.d (.int i)) (.d (.int j))=some (.d (.int (i.fdiv j))):=by
  unfold ed;rw [jk (by simp [jB.mpr h2,h])]
theorem jH{e:En}{i j:Int}(h:tQ i j=true):qJ e (.d (.int i)) (.d (.int j))=some (.d (.int (i ^ j.toNat))):=by
  unfold qJ;rw [jk h]
theorem jR:tQ 10 18=true:=by decide
theorem cV{f g:FS}{e e1:En}(h:f e=some (.nx e1)):ay f g e=g e1:=by unfold ay;rw [h];rfl
theorem Cc{ft:FT}{f g:FS}{e e1:En}(h:ft e=some (true,e1)):eu ft f g e=f e1:=by unfold eu;rw [h];rfl
theorem Ca{ft:FT}{f g:FS}{e e1:En}(h:ft e=some (false,e1)):eu ft f g e=g e1:=by unfold eu;rw [h];rfl
def yL(i:Nat)(e:En):Nat:=match e[i]? with
  | some (some (.l xs))=>xs.length
  | _=>0
def nX(i:Nat)(e:En):Nat:=match e[i]? with
  | some (some (.d (.int k)))=>k.natAbs
  | _=>0
theorem oX{n m:Nat}(h:n < 2 ^ m)(hm:m≤4200):n < 2 ^ 4200:=Nat.lt_of_lt_of_le h (Nat.pow_le_pow_right (by decide) hm)
theorem f9{α:Type}{a:α}{r:List α}:atI (a::r) 0=some a:=by
  rw [f_ (by decide) (by simp)];rfl
theorem eS{α:Type}{a b:α}{r:List α}:atI (a::b::r) 1=some b:=by
  rw [f_ (by decide) (by simp;lia)];rfl
theorem jh{α:Type}{a b c:α}{r:List α}:atI (a::b::c::r) 2=some c:=by
  rw [f_ (by decide) (by simp;lia)];rfl
theorem ji{α:Type}{a b c d:α}{r:List α}:atI (a::b::c::d::r) 3=some d:=by
  rw [f_ (by decide) (by simp;lia)];rfl
theorem lC{W:aP}{k:Int}(h:fZ W k):atI (W.ties.map aG) k=some (aG (W.tie k)):=by
  rw [f_ h.1 (by rw [List.length_map];exact h.2),List.getElem?_map,h.get];rfl
theorem uj{ns:List Int}{k:Int}(h0:0≤k)(h1:k < (ns.length:Int)):atI (ns.map PyData.int) k=some (.int (ns.getD k.toNat 0)):=by
  rw [f_ h0 (by rw [List.length_map];exact h1),List.getElem?_map]
  have:k.toNat < ns.length:=by lia
  simp [this]
theorem lI{a b c d:PyData}:m8 [a,b,c,d] none (some 2)=[a,b]:=rfl
theorem dG{a b c d:PyData}:m8 [a,b,c,d] (some 2) none=[c,d]:=rfl
theorem dD{a b c:PyData}:m8 [a,b,c] (some 1) none=[b,c]:=rfl
theorem pM(ns:List Int):PyData.canLayAll0 (ns.map PyData.int)=true:=by
  induction ns with
  | nil=>rfl
  | cons n r ih=>simp [PyData.canLayAll0,PyData.canLay0,ih]
theorem pG{x:Int}:∀(ns:List Int),((ns.map PyData.int).any fun y=>PyData.eqv y (.int x))=ns.contains x
  | []=>rfl
  | n::r=>by
    rw [List.map_cons,List.any_cons,pG r,List.contains_cons]
    show(n==x || _)=_
    rw [show(n==x)=(x==n) by rw [Bool.eq_iff_iff];simp;exact eq_comm]
theorem ee{e:En}{x:Int}{ns:List Int}{neg:Bool}:wY neg e (.d (.int x)) (.d (.tuple (ns.map .int)))=some (.d (.bool (if neg then !ns.contains x else ns.contains x))):=by
  unfold wY
  simp only [ie,fF,Option.bind_some,pM,pG]
  simp [PyData.canLay0,PyData.depth]
theorem gS{e:En}{x a b:Int}{neg:Bool}:wY neg e (.d (.int x)) (.d (.tuple [.int a,.int b]))=some (.d (.bool (if neg then !(a==x || b==x) else(a==x || b==x)))):=by
  have h:=ee (e:=e) (x:=x) (ns:=[a,b]) (neg:=neg)
  simp only [List.map_cons,List.map_nil] at h
  rw [h]
  have:[a,b].contains x=(a==x || b==x):=by
    simp only [List.contains_cons,List.contains_nil,Bool.or_false]
    rw [show(x==a)=(a==x) by rw [Bool.eq_iff_iff];simp;exact eq_comm,show(x==b)=(b==x) by rw [Bool.eq_iff_iff];simp;exact eq_comm]
  rw [this]
theorem l6{e:En}{ns:List Int}(h:ns.length < 64):g1 gX e [.d (.tuple (ns.map .int))]=some (.l ((fX ns).map .int)):=by
  simp [g1,gX,fF,nR,h]
def BM(p:Int→Bool):PyData→Bool
  | .int k=>p k
  | _=>false
theorem iz(W:aP):ao W=.tuple [.int W.things,.tuple (W.ties.map aG),.tuple (W.pat.map .int),.int W.asks]:=rfl
end L2
namespace L2
open PySem PySem.Spec PyProof.Rows
mutual
theorem eqv_refl:∀{d:PyData},d.canLay0=true→ig d=true→PyData.eqv d d=true
  | .none,_,_=>by simp [PyData.eqv]
  | .bool b,_,_=>by simp [PyData.eqv]
  | .int i,_,_=>by simp [PyData.eqv]
  | .str x,_,_=>by simp [PyData.eqv]
  | .tuple ds,h,f=>by
    simp only [PyData.eqv]
    exact kO (by simpa [PyData.canLay0] using h) (by simpa [ig] using f)
  | .list ds,h,f=>by simp [ig] at f
  | .dict _,h,f=>by simp [ig] at f
theorem kO:∀{ds:List PyData},PyData.canLayAll0 ds=true→iV ds=true→PyData.eqvAll ds ds=true
  | [],_,_=>by simp [PyData.eqvAll]
  | d::r,h,f=>by
    simp only [PyData.canLayAll0,Bool.and_eq_true] at h
    simp only [iV,Bool.and_eq_true] at f
    simp only [PyData.eqvAll,eqv_refl h.1 f.1,kO h.2 f.2,Bool.and_self]
end
theorem mj:∀(n:Nat) (l:List Int),l.Nodup→(∀k∈l,0≤k∧k < (n:Int))→l.length≤n
  | 0,l,_,h=>by
    cases l with
    | nil=>simp
    | cons a r=>have:=h a (by simp);lia
  | n+1,l,hd,h=>by
    have ih:=mj n (l.erase (n:Int)) (hd.erase _) fun k hk=>by
      obtain⟨h1,h2⟩:=hd.mem_erase_iff.mp hk
      have:=h k h2
      lia
    by_cases c:(n:Int)∈l
    · rw [List.length_erase_of_mem c] at ih;lia
    · rw [List.erase_of_not_mem c] at ih;lia
abbrev Std:=List Int × List Int
structure Bk (W:aP) (s:Std):Prop where
  inw:∀k∈s.1,fZ W k
  nd:s.1.Nodup
  tk:s.2.length≤2*s.1.length
  th:∀t∈s.2,0≤t∧t < W.things
def nxt(W:aP)(s:Std)(k:Int)(b:Bool):Std:=(aP.askd s.1 k,W.took s.2 k b)
structure Nd where
  tie:Int
  yes:Int
  no:Int
def Bi(W:aP)(n:Nat)(S:Nat→Std)(i:Nat)(k:Int)(b:Bool)(l:Int):Prop:=l= -1∨(0≤l∧l < (n:Int)∧S l.toNat=nxt W (S i) k b)
structure C0 (W:aP) (n:Nat) (S:Nat→Std) (i:Nat) (x:Nd):Prop where
  tie:fZ W x.tie
  st:Bk W (S i)
  may:W.may (S i).1 (S i).2 x.tie=true
  yes:Bi W n S i x.tie true x.yes
  no:Bi W n S i x.tie false x.no
def C3(W:aP)(T:List Nd)(S:Nat→Std):Prop:=∀(i:Nat) (x:Nd),T[i]?=some x→C0 W T.length S i x
structure Wt where
  st:Std
  par:Int
  side:Int
structure D0 (W:aP) (T:List Nd) (S:Nat→Std) (ws:List Wt):Prop where
  tr:C3 W T S
  wt:∀w∈ws,Bk W w.st∧(w.par= -1∨∃(p:Nat) (x:Nd),w.par=(p:Int)∧T[p]?=some x∧((w.side=0∧w.st=L2.nxt W (S p) x.tie true)∨(w.side=1∧w.st=L2.nxt W (S p) x.tie false)))
  side:∀w∈ws,w.side=0∨w.side=1
end L2
namespace L2
open PySem PySem.Spec PyProof.Rows
def nm(nums:List Int)(l:Int):Int:=(atI nums l).getD (-1)
structure DH (order:List Int) (n:Nat) (nums:List Int):Prop where
  len:nums.length=n+1
  top:nums[n]?=some (-1)
  at':∀(j:Nat) (v:Int),j < n→nums[j]?=some v→v= -1∨∃p:Nat,v=(p:Int)∧order[p]?=some (j:Int)
def u_(T:List Nd)(w:Int):Nd:=T.getD w.toNat ⟨0,0,0⟩
theorem nM{α β:Type}{f:α→β}:∀{xs:List α} {i:Nat},(xs.map f).eraseIdx i=(xs.eraseIdx i).map f
  | [],_=>by simp
  | x::r,0=>by simp
  | x::r,i+1=>by simp [nM (xs:=r) (i:=i)]
end L2
namespace L2
open PySem PySem.Spec PyProof.Rows
structure D8 (S:Nat→Std) (n:Nat) (ss:List Std):Prop where
  len:ss.length=n
  at':∀(j:Nat) (s:Std),ss[j]?=some s→s.1.length≤(S j).1.length∧s.2.length≤2*s.1.length∧(∀k∈s.1,0≤k∧k < 16)∧∀t∈s.2,0≤t∧t < 12
end L2
namespace L2
open PySem PySem.Spec PyProof.Rows
theorem cS(s:String):PyData.strOk (Str.ofString s)=true:=by
  rw [Str.ofString_eq_toList]
  unfold PyData.strOk
  simp only [List.size_toArray,List.length_map]
  rw [show(List.map Char.toNat s.toList).toArray.all (fun a=>decide (a < 1114112)) 0 s.toList.length=(List.map Char.toNat s.toList).all (fun a=>decide (a < 1114112)) by simp]
  rw [List.all_map,List.all_eq_true]
  intro c _
  show decide (c.toNat < 1114112)=true
  rw [decide_eq_true_eq]
  have:=c.valid
  unfold UInt32.isValidChar Nat.isValidChar at this
  show c.val.toNat < _
  lia
theorem dQ{a b:Str}(h1:PyData.strOk a=true)(h2:PyData.strOk b=true):PyData.strOk (a++b)=true:=by
  unfold PyData.strOk at*
  rw [show(a++b).cps=a.cps++b.cps from rfl]
  simp only [Array.all_append,h1,h2,Bool.and_self]
theorem mU{sep:Str}(h:PyData.strOk sep=true):∀(ts:List Str),(∀t∈ts,PyData.strOk t=true)→PyData.strOk (Str.join sep ts)=true
  | [],_=>by show PyData.strOk Str.empty=true;simp [PyData.strOk,Str.empty]
  | [x],hx=>hx x (by simp)
  | x::y::r,hx=>dQ (dQ (hx x (by simp)) h) (mU h (y::r) fun t ht=>hx t (by simp at ht ⊢;exact .inr ht))
theorem tW{ts:List Str}(h:∀t∈ts,PyData.strOk t=true):PyData.strOk (tupleText ts)=true:=by
  unfold tupleText
  exact dQ (dQ (cS _) (mU (cS _) ts h)) (cS _)
structure Sz (n dep:Nat) (d:PyData):Prop where
  fl:ig d=true
  sh:d.showable=true
  dp:d.depth≤dep
  ln:d.shown.length≤n
  so:PyData.strOk d.shown=true
theorem rP{e:En}{d:PyData}(h:j6 d=true):g1 jI e [.d d]=some (.d (.str d.shown)):=by
  simp [g1,jI,h]
theorem rM{e:En}{s:Str}(h:PyData.strOk s=true):cQ false e (.d (.str s)) (.d (.str s))=some (.d (.bool true)):=by
  simp [cQ,ie,SeqAt.shaped,PyData.canLay0,PyData.depth,PyData.eqv,h]
end L2
namespace L2
open PySem PySem.Spec PyProof.Rows
theorem AH{q:Int}(h0:0≤q)(h1:q < 16):∃m:Int,0 < m∧m < 2 ^ 64∧∀e:En,xa e (.d (.int 1)) (.d (.int q))=some (.d (.int m)):=by
  have:q=0∨q=1∨q=2∨q=3∨q=4∨q=5∨q=6∨q=7∨q=8∨q=9∨q=10∨q=11∨q=12∨q=13∨q=14∨q=15:=by lia
  rcases this with rfl | rfl | rfl | rfl | rfl | rfl | rfl | rfl | rfl | rfl | rfl | rfl | rfl | rfl | rfl | rfl<;>exact⟨_,by decide,by decide,fun e=>jk (by decide)⟩
theorem nA{bs:List Bool}{k:Int}(h0:0≤k)(h1:k < (bs.length:Int)):atI (bs.map PyData.bool) k=some (.bool (bs.getD k.toNat false)):=by
  rw [f_ h0 (by rw [List.length_map];exact h1),List.getElem?_map]
  have:k.toNat < bs.length:=by lia
  simp [this]
def dR(p:Int × Bool):PyData:=.tuple [.int p.1,.bool p.2]
def rn(T:List Nd)(ans:List Bool):Nat→Int→List (Int × Bool)
  | 0,_=>[]
  | f+1,at'=>if at' < 0 then [] else((u_ T at').tie,ans.getD (u_ T at').tie.toNat false)::rn T ans f (if ans.getD (u_ T at').tie.toNat false=true then(u_ T at').yes else(u_ T at').no)
def rt(T:List Nd):Int:=if T.length=0 then -1 else 0
structure DM (W:aP) (T:List Nd) (S:Nat→Std) (ans:List Bool) (r:List (Int × Bool)) (a:Int):Prop where
  at':a= -1∨(0≤a∧a < (T.length:Int)∧r.length≤(S a.toNat).1.length)
  eq:r++rn T ans (17 - r.length) a=rn T ans 17 (rt T)
  len:r.length≤16
  inw:∀p∈r,fZ W p.1
theorem Sz.bool{b:Bool}:Sz 5 2 (.bool b):=by
  cases b
  · exact⟨rfl,rfl,by simp [PyData.depth],by show(Str.ofString "False").length≤5;decide,cS _⟩
  · exact⟨rfl,rfl,by simp [PyData.depth],by show(Str.ofString "True").length≤5;decide,cS _⟩
end L2
namespace L2
open PySem PySem.Spec PyProof.Rows
abbrev Fr:=Int × Int
def dF(f:Fr):PyData:=.tuple [.int f.1,.int f.2]
def tm(a b:Fr):Fr:=cF (a.1*b.1) (a.2*b.2)
def pl(a b:Fr):Fr:=cF (a.1*b.2+b.1*a.2) (a.2*b.2)
structure D5 (M:Int) (f:Fr):Prop where
  pos:0 < f.2
  lo:0≤f.1
  hi:f.1≤f.2
  dv:f.2 ∣ M
structure CF (M i:Int) (f:Fr):Prop where
  pos:0 < f.2
  lo:0≤f.1
  hi:f.1≤i*f.2
  dv:f.2 ∣ M
def bp(W:aP):List Int→Int
  | []=>1
  | k::r=>(W.tie k).bot*bp W r
def Bq(W:aP):Int:=bp W W.rng
def ch(W:aP)(k:Int)(b:Bool):Fr:=if b then((W.tie k).top,(W.tie k).bot) else((W.tie k).bot - (W.tie k).top,(W.tie k).bot)
structure D7 (W:aP) (S:Nat→Std) (n:Nat) (rs:List Fr):Prop where
  len:rs.length=n
  at':∀(j:Nat) (f:Fr),rs[j]?=some f→D5 (bp W (S j).1) f
structure D1 (W:aP) (i:Nat) (ss:List Fr):Prop where
  len:ss.length=W.ties.length
  at':∀(j:Nat) (f:Fr),ss[j]?=some f→CF (Bq W) (i:Int) f
end L2
namespace L2
open PySem PySem.Spec PyProof.Rows
def A8(sc:Scope)(x:Str):Bool:=match sc.names.lookup x with
  | some .local=>true
  | some .cell=>true
  | some .free=>true
  | _=>false
theorem yr{sc:Scope}{x:Str}(h:A8 sc x=true):Bb sc x:=by
  unfold A8 at h
  unfold Bb
  split at h
  · rename_i e;exact .inl e
  · rename_i e;exact .inr (.inl e)
  · rename_i e;exact .inr (.inr e)
  · cases h
section
variable{X:Cx}{K:PySem.W.Frag}
theorem qw(i:Nat){x:Str}{pos:Pos}(hN:X.N[i]?=some x)(hv:A8 X.env.scope x=true)(hd:((x==("__debug__":Str)) || (x==("__classdict__":Str)))=false):PE X (.Name x pos) (fE K (ac i)):=qv i hN (yr hv) (Bool.or_eq_false_iff.mp hd).1 (Bool.or_eq_false_iff.mp hd).2
end
end L2
namespace L2
open PySem PySem.Spec PyProof.Rows
section
variable{X:Cx}{tg a b c:Expr}{ta:TA}{p pos p2 pos2:Pos}
end
section
variable{K:PySem.W.Frag}{σ:L2.St}
end
section
variable{X:Cx}{K:PySem.W.Frag}{tg a b c:Expr}{fs:FA}{pos p p2 pos2:Pos}
end
end L2
namespace L2
open PySem PySem.Spec PyProof.Rows
end L2
namespace L2
open PySem PySem.Spec PyProof.Rows
section
variable(P:Program)(w:World)
end
section
variable{P:Program}{w:World}{H H':Hp}{h h':Heap}{a:Addr}{o:HO}
end
section
variable{P:Program}{w:World}{H:Hp}{h h':Heap}{x e:Addr}{o':HO}
end
section
variable{fs fs' ex ex':List Addr}{H H1 H2:Hp}{h h1 h2 h':Heap}{a x e:Addr}{o:HO}
end
end L2
namespace L2
open PySem PySem.Spec PyProof.Rows
section
variable{X:Cx}{pins:List (Addr × Obj)}{σ:List (Option V)}{H H':Hp}{s:Shared}{h':Heap}
end
end L2
namespace L2
open PySem PySem.Spec PyProof.Rows
section
variable{X:Cx}
variable{a b:Expr}{ta tb:TE}{pos:Pos}
variable{tA tB':TT}{dc:List Expr}
end
end L2
namespace L2
open PySem PySem.Spec PyProof.Rows
section
variable{X:Cx}{pins:List (Addr × Obj)}{σ:St}{H:Hp}{s:Shared}{a:Addr}{xs ys:List V}
end
section
variable{X:Cx}{pins:List (Addr × Obj)}{σ:St}{H:Hp}{s:Shared}{E:Value→Shared→Prop}
end
section
variable{X:Cx}{st:Stmt}{dc:List Stmt}{t u:TS}{e:Expr}{te:TE}{pos:Pos}
end
section
variable{X:Cx}{pos:Pos}
end
section
variable{X:Cx}{pos:Pos}
end
end L2
namespace L2
open PySem PySem.Spec PyProof.Rows
section
variable{X:Cx}{tg:Expr}
end
end L2
namespace L2
open PySem PySem.Spec PyProof.Rows
section
variable{X:Cx}{a b c:Expr}{ta tb tc:TE}{pos:Pos}
end
section
variable{X:Cx}{a b c:Expr}{ta tb tc:TE}{pos:Pos}
end
end L2
namespace L2
open PySem PySem.Spec PyProof.Rows
section
variable{prog:Program}{w:World}{A:Around}{E:Value→Shared→Prop}{s:Shared}{K:PySem.W.Frag}{x dx C f:Addr}{mA:Str→Option Value}{name:Str}{v:Value}
end
section
variable{P:Program}{w:World}{H H':Hp}{h h':Heap}{a C dx:Addr}{fs fs':List (Str × V)}
end
section
variable{X:Cx}{pins:List (Addr × Obj)}{σ:St}{H:Hp}{s:Shared}{a C dx:Addr}{fs:List (Str × V)}{f:Str}{v:V}{A:Around}{E:Value→Shared→Prop}
end
section
variable{X:Cx}{o e value:Expr}{f:Str}{pos pos' tpos:Pos}{ta tv:TE}
end
section
variable{X:Cx}{pins:List (Addr × Obj)}{σ:St}{H:Hp}{s:Shared}{A:Around}{E:Value→Shared→Prop}{Q:Value→Shared→Prop}{c:Value}{b:Bool}
end
end L2
namespace L2
open PySem PySem.Spec PyProof.Rows
section
variable{X:Cx}{e:Expr}{es:List Expr}{te:TE}{t:TA}{pos:Pos}
end
section
variable{X:Cx}{pins:List (Addr × Obj)}{σ:St}{H:Hp}{s s':Shared}
end
section
variable{X:Cx}{CX:qu}{k:Nat}{f C:Addr}{fd:FuncData}{ps:List Str}{sp:Sp}{dvs:List V}{ds:List Value}{E:XK}{x m:Str}{p pos apos:Pos}{e o:Expr}{es:List Expr}{ta:TE}{t:TA}
end
section
variable{X:Cx}{CX:qu}{k:Nat}{f C:Addr}{fd:FuncData}{ps ks:List Str}{sp:Sp}{E:XK}{x m:Str}{p pos apos kpos:Pos}{e o:Expr}{es:List Expr}{kws:List Keyword}{te ta:TE}{t tk:TA}{nm:Option Str}
variable{g:List Value→List Value→List Value}{gV:List V→List V→List V}
end
end L2
namespace L2
open PySem PySem.Spec PyProof.Rows
section
variable{X:Cx}{x:Str}{p pos:Pos}{e:Expr}{es:List Expr}{t:TA}{id T:String}{r:List V→Hp→VK→Prop}
end
end L2
namespace L2
open PySem PySem.Spec PyProof.Rows
section
variable{κ:Type}[DecidableEq κ]
def Do(kvs:List (κ × V))(k:κ)(v:V):List (κ × V):=
  if (kvs.any fun kv=>decide (kv.1=k))=true then kvs.map (fun kv=>if kv.1=k then(kv.1,v) else kv) else kvs++[(k,v)]
end
section
variable{P:Program}{w:World}{H:Hp}{h:Heap}{a:Addr}
end
section
variable{X:Cx}{pins:List (Addr × Obj)}{σ:St}{H:Hp}{s:Shared}{a:Addr}{y v:V}{u r:Value}{o:Option V}{A:Around}{E:Value→Shared→Prop}
end
section
variable{X:Cx}{pins:List (Addr × Obj)}{σ:St}{H:Hp}{s:Shared}{a:Addr}{kvs:List (kB × V)}{k:kB}{u:Value}{A:Around}{E:Value→Shared→Prop}
end
section
variable{X:Cx}{o i e value:Expr}{pos pos' tpos:Pos}{td ty tv:TE}
end
section
variable{X:Cx}{pos:Pos}
end
section
variable{X:Cx}{pins:List (Addr × Obj)}{σ:St}{H:Hp}{s:Shared}{a:Addr}{y d:V}{u r:Value}{o:Option V}{A:Around}{E:Value→Shared→Prop}
end
section
variable{X:Cx}{o e f:Expr}{apos cpos:Pos}{td ty tx:TE}
end
section
variable{X:Cx}{pins:List (Addr × Obj)}{σ:St}{H:Hp}{s:Shared}{a:Addr}{kvs:List (kB × V)}{A:Around}{E:Value→Shared→Prop}
end
section
variable{X:Cx}{pins:List (Addr × Obj)}{σ:St}{H:Hp}{s:Shared}{a:Addr}{y:V}{u:Value}{A:Around}{E:Value→Shared→Prop}
end
end L2
namespace Att
open PySem PySem.W PySem.Calls PyProof.Rows
section
variable{prog:Program}{w:World}{A:Around}{E:Value→Shared→Prop}{s:Shared}{K:Frag}
end
end Att
namespace L2
open PySem PySem.Spec PyProof.Rows
end L2
namespace L2
open PySem PySem.Spec PyProof.Rows
end L2
namespace L2
open PySem PySem.Spec PyProof.Rows
section
variable{P:Program}{w:World}{K:PySem.W.Frag}{mg:Str→Option Value}{base:Heap}
end
section
variable{X:Cx}
end
section
variable{κ:Type}[DecidableEq κ]
end
end L2
namespace L2
open PySem PySem.Spec PyProof.Rows
def wA:PyData→String
  | .none=>"NoneType"
  | .bool _=>"bool"
  | .int _=>"int"
  | .str _=>"str"
  | .tuple _=>"tuple"
  | .list _=>"list"
  | .dict _=>"dict"
def qh(t T:String):Bool:=t==T || (t=="bool"&&T=="int")
def qM(T:String)(d:PyData):Bool:=qh (wA d) T
def kZ(T:String):En→Rv→Option Rv:=fun _ r=>match r with
  | .d x=>some (.d (.bool (qM T x)))
  | _=>some (.d (.bool (qM T (.list []))))
section
variable{X:Cx}{K:PySem.W.Frag}{a:Expr}{fa:FE}{pos p p2:Pos}
def C4(K:PySem.W.Frag)(H:Hp):V→String→Prop
  | .non,t=>t="NoneType"
  | .bl _,t=>t="bool"
  | .int _,t=>t="int"
  | .str _,t=>t="str"
  | .ref a,t=>(t="tuple"∧∃xs,dY K H a xs)∨(t="list"∧∃xs,gL K H a xs)∨(t="dict"∧∃m,H a=some (.dK m))
  | _,_=>False
theorem uv{T:String}:de X (.builtin "isinstance") (fun xs H Q=>∃x t b,xs=[x,.ty T]∧C4 X.K H x t∧PySem.W.kitOne X.K (.type t) (.type T)=some b∧Q (.bl b) H):=by
  intro pins s σ H xs us Q I r h
  obtain⟨x,t,b,rfl,ht,hk,q⟩:=h
  obtain⟨u1,u2,rfl,r1,r2⟩:∃u1 u2,us=[u1,u2]∧bz x u1∧bz (.ty T) u2:=by
    cases r with
    | cons p q=>cases q with
      | cons p' q'=>cases q';exact⟨_,_,rfl,p,p'⟩
  cases r2
  have q':∀tk,EP X pins σ Q (.bool b) {s with toks:=tk}:=fun tk=>⟨.bl b,H,I.tok _,rfl,q⟩
  cases x with
  | non=>cases (show u1=Value.none from r1);cases (show t=_ from ht);exact PySem.W.kia_one PySem.W.kitx_none I.kIn True.intro hk (fun z=>nomatch z) q'
  | bl y=>cases (show u1=Value.bool y from r1);cases (show t=_ from ht);exact PySem.W.kia_one PySem.W.kitx_bool I.kIn True.intro hk (fun z=>nomatch z) q'
  | int i=>obtain⟨tt,rfl⟩:=r1;cases (show t=_ from ht);exact PySem.W.kia_one PySem.W.kitx_int I.kIn True.intro hk (fun z=>nomatch z) q'
  | str y=>obtain⟨tt,rfl⟩:=r1;cases (show t=_ from ht);exact PySem.W.kia_one PySem.W.kitx_str I.kIn True.intro hk (fun z=>nomatch z) q'
  | ref a=>
    cases (show u1=Value.ref a from r1)
    rcases ht with ⟨rfl,xs,hs⟩ | ⟨rfl,xs,hs⟩ | ⟨rfl,m,hs⟩
    · obtain⟨its,rv,pl,hz⟩:=I.tuple hs
      obtain⟨o,h1,h2⟩:=pl.typeIs
      exact PySem.W.kia_one PySem.W.kitx_tuple I.kIn ⟨o,h1,h2⟩ hk (fun z=>nomatch z) q'
    · obtain⟨its,rv,pl,hz⟩:=I.list hs
      obtain⟨o,h1,h2⟩:=pl.isList.typeIs
      exact PySem.W.kia_one PySem.W.kitx_list I.kIn ⟨o,h1,h2⟩ hk (fun z=>nomatch z) q'
    · obtain⟨_,_,vs,_,pp⟩:=(show dg X.prog X.w H s.heap a (.dK m) from I.hok a _ hs)
      obtain⟨o,es,ep,h1,h2,_⟩:=pp
      exact PySem.W.kia_one PySem.W.kitx_dict I.kIn ⟨o,h1,h2.1⟩ hk (fun z=>nomatch z) q'
  | _=>exact False.elim ht
theorem pZ{x:Str}{T:String}(hg:Gl X x)(hm:X.mg x=none)(hv:bootBuiltins x=some (.type T))(hn:x≠"__name__")(hd:(x==("__debug__":Str))=false):PE X (.Name x pos) (tC (.ty T)):=fun pins s σ H Q I h=>
  ki I hg hm hv ⟨.ty T,H,I,rfl,h⟩ hn hd
theorem zI{t T:String}(ht:t∈["NoneType","bool","int","str","tuple","list","dict"])(hT:T∈["int","bool","tuple","str"]):PySem.W.kitOne K (.type t) (.type T)=some (qh t T):=by
  simp only [List.mem_cons,List.not_mem_nil,or_false] at ht hT
  rcases ht with rfl | rfl | rfl | rfl | rfl | rfl | rfl<;>rcases hT with rfl | rfl | rfl | rfl<;>rfl
theorem ym(d:PyData):wA d∈["NoneType","bool","int","str","tuple","list","dict"]:=by cases d<;>simp [wA]
theorem AV{F H:Hp}{d:PyData}{v:V}(h:DA K F d v)(s:aA F H):C4 K H v (wA d):=by
  have h:=DA.mono s h
  cases d with
  | none=>rw [jE.mp h];rfl
  | bool b=>rw [cE.mp h];rfl
  | int b=>rw [bK.mp h];rfl
  | str b=>rw [qH.mp h];rfl
  | tuple ds=>obtain⟨a,xs,rfl,h1,_⟩:=dj.mp h;exact .inl ⟨rfl,xs,h1⟩
  | list ds=>obtain⟨a,xs,rfl,h1,_⟩:=cW.mp h;exact .inr (.inl ⟨rfl,xs,h1⟩)
  | dict m=>simp only [DA] at h;obtain⟨a,m,rfl,h1,_⟩:=h;exact .inr (.inr ⟨rfl,_,h1⟩)
theorem wV{f:FE}{σ:L2.St}{H:Hp}{Q Q':VK}(h:fE K f σ H Q)(m:∀v H1,Q v H1→Q' v H1):fE K f σ H Q':=by
  obtain⟨F,e,r,e',R,hf,q⟩:=h
  exact⟨F,e,r,e',R,hf,fun F' H' v x R' A=>m _ _ (q F' H' v x R' A)⟩
theorem Bz{T:String}:Bm K (fun v H Q=>∃t,t∈["NoneType","bool","int","str","tuple","list","dict"]∧C4 K H v t∧Q (.bl (qh t T)) H) (kZ T):=by
  intro σ H0 F H e x z v Q R A hg q
  unfold kZ at hg
  cases x with
  | d d=>
    cases hg
    exact⟨wA d,ym d,AV A R.sm,q F H _ (dX.refl _ _ _ _) R cU⟩
  | l xs=>
    cases hg
    obtain⟨l,vs,rfl,h1,h2,h3,h4⟩:=A
    exact⟨"list",by simp,.inr (.inl ⟨rfl,vs,gL.of h3⟩),q F H _ (dX.refl _ _ _ _) R cU⟩
  | s i=>
    cases hg
    obtain⟨h1,xs,h2⟩:=A
    obtain⟨l,vs,h3,h4,h5,h6⟩:=R.own i xs h2
    rw [h1] at h3;cases h3
    exact⟨"list",by simp,.inr (.inl ⟨rfl,vs,gL.of h5⟩),q F H _ (dX.refl _ _ _ _) R cU⟩
theorem rZ{x:Str}{T:String}(hK:X.K=K)(hT:T∈["int","bool","tuple","str"])(hg:Gl X "isinstance")(hm:X.mg "isinstance"=none)(hgT:Gl X x)(hmT:X.mg x=none)(DO:bootBuiltins x=some (.type T))(hn:x≠"__name__")(hd:(x==("__debug__":Str))=false)
    (ha:PE X a (fE K fa))(he:starEach [a,.Name x p2] X.env=(false,eval a X.env)::starEach [.Name x p2] X.env)(hpl:(backTo pos (starEach [.Name x p2] X.env)).any (·.1)=false):
    PE X (.Call (.Name "isinstance" p) [a,.Name x p2] [] pos) (fE K (qr (kZ T) fa)):=
  (mv (uv (T:=T)) hg hm boot_isinstance (bu ha (bu (pZ hgT hmT DO hn hd) g9) he) (by decide) (by decide) he hpl).mono fun σ H Q h=>by
    subst hK
    have h1:=wo (Bz (T:=T)) h
    refine wV h1 fun v H1 ⟨t,ht,k,q⟩=>?_
    exact⟨v,t,_,rfl,k,zI ht hT,q⟩
end
end L2
namespace L2
open PySem PySem.Spec PyProof.Rows
section
variable{X:Cx}{K:PySem.W.Frag}
def y8:FS:=fun _=>none
theorem xZ{st:Stmt}:PS X st (fS K y8 []):=fun pins s σ H D I h=>by
  obtain⟨F,e,fl,R,hf,_⟩:=h
  cases hf
end
end L2
namespace L2
open PySem PySem.Spec PyProof.Rows
section
variable{X:Cx}{K:PySem.W.Frag}{σ:L2.St}{F H:Hp}{e:En}{pos p1 p2:Pos}
end
end L2
namespace L2
open PySem PySem.Spec PyProof.Rows
section
variable{X:Cx}{K:PySem.W.Frag}{a b c d:Expr}{ta tb tc td:TE}{fa fb fc fd:FE}{pos:Pos}
def sv(r r' r'':R2)(ta tb tc td:TE):TE:=fun σ H Q=>ta σ H fun x H1=>tb σ H1 fun y H2=>r x y H2 fun z H3=>∃k,z=.bl k∧
  (if k=true then tc σ H3 fun w H4=>r' y w H4 fun z' H5=>∃k',z'=.bl k'∧(if k'=true then td σ H5 fun v H6=>r'' w v H6 Q else Q (.bl false) H5) else Q (.bl false) H3)
theorem tN{op op' op'':CmpOp}{r r' r'':R2}(ho:eR X (compareOp op) r)(ho':eR X (compareOp op') r')(ho'':eR X (compareOp op'') r'')(ha:PE X a ta)(hb:PE X b tb)(hc:PE X c tc)(hd:PE X d td)
    (hm:lastMarks [op,op',op''] [b,c,d]=false):PE X (.Compare a [op,op',op''] [b,c,d] pos) (sv r r' r'' ta tb tc td):=by
  intro pins s σ H Q I h
  refine Compare_chain (cN (ha pins s σ H _ I h) fun v s1 ⟨x,H1,I1,r1,q1⟩=>chain_link (cN (hb pins s1 σ H1 _ I1 q1) fun u s2 ⟨y,H2,I2,r2,q2⟩=>
    cN (ho pins s2 σ H2 x y v u _ I2 r1 r2 q2) fun d s3 ⟨z,H3,I3,r3,k,e,q3⟩=>?_)) hm
  subst e
  cases r3
  refine wpAny_truthy_bool ?_
  cases k with
  | false=>exact ite_ff ⟨.bl false,H3,I3,rfl,q3⟩
  | true=>
    refine ite_tt (chain_link (cN (hc pins s3 σ H3 _ I3 q3) fun w' s4 ⟨z',H4,I4,r4,q4⟩=>cN (ho' pins s4 σ H4 y z' u w' _ I4 r2 r4 q4) fun d5 s5 ⟨z5,H5,I5,r5,k5,e5,q5⟩=>?_))
    subst e5
    cases r5
    refine wpAny_truthy_bool ?_
    cases k5 with
    | false=>exact ite_ff ⟨.bl false,H5,I5,rfl,q5⟩
    | true=>exact ite_tt (chain_last (cN (hd pins s5 σ H5 _ I5 q5) fun w6 s6 ⟨z6,H6,I6,r6,q6⟩=>ho'' pins s6 σ H6 z' z6 w' w6 Q I6 r4 r6 q6))
def hZ(g g' g'':En→Rv→Rv→Option Rv)(fa fb fc fd:FE):FE:=fun e=>(fa e).bind fun p=>(fb p.2).bind fun q=>(g q.2 p.1 q.1).bind fun z=>(cz z).bind fun k=>if k=true then
  (fc q.2).bind fun w=>(g' w.2 q.1 w.1).bind fun z'=>(cz z').bind fun k'=>if k'=true then(fd w.2).bind fun y=>(g'' y.2 w.1 y.1).map fun z''=>(z'',y.2) else some (.d (.bool false),w.2) else some (.d (.bool false),q.2)
theorem rm{r r' r'':R2}{g g' g'':En→Rv→Rv→Option Rv}(ho:eQ K r g)(ho':eQ K r' g')(ho'':eQ K r'' g''){σ:L2.St}{H:Hp}{Q:VK}(h:fE K (hZ g g' g'' fa fb fc fd) σ H Q):sv r r' r'' (fE K fa) (fE K fb) (fE K fc) (fE K fd) σ H Q:=by
  obtain⟨F,e,z,e4,R,hf,q⟩:=h
  unfold hZ at hf
  obtain⟨⟨x,e1⟩,h1,hf⟩:=Option.bind_eq_some_iff.mp hf
  obtain⟨⟨y,e2⟩,h2,hf⟩:=Option.bind_eq_some_iff.mp hf
  obtain⟨z',h3,hf⟩:=Option.bind_eq_some_iff.mp hf
  obtain⟨k,h4,hf⟩:=Option.bind_eq_some_iff.mp hf
  refine⟨F,e,x,e1,R,h1,fun F1 H1 v X1 R1 A1=>⟨F1,e1,y,e2,R1,h2,fun F2 H2 u X2 R2 A2=>?_⟩⟩
  have X12:=X1.trans X2
  refine ho σ H F2 H2 e2 x y z' v u _ R2 (A1.ext X2) (A2.weak X1.dom) h3 fun F3 H3 w X3 R3 A3=>⟨k,c8 A3 h4,?_⟩
  have X13:=X12.trans X3
  cases k with
  | false=>
    cases hf
    exact q F3 H3 _ X13 R3 cU
  | true=>
    obtain⟨⟨w',e3⟩,h5,hf⟩:=Option.bind_eq_some_iff.mp hf
    obtain⟨z2,h6,hf⟩:=Option.bind_eq_some_iff.mp hf
    obtain⟨k2,h7,hf⟩:=Option.bind_eq_some_iff.mp hf
    refine⟨F3,_,w',_,R3,h5,fun F4 H4 u4 X4 R4 A4=>?_⟩
    have X14:=X13.trans X4
    refine ho' σ H F4 H4 _ y w' _ u u4 _ R4 (((A2.weak X1.dom).ext X3).ext X4) (A4.weak X13.dom) h6 fun F5 H5 w5 X5 R5 A5=>⟨k2,c8 A5 h7,?_⟩
    have X15:=X14.trans X5
    cases k2 with
    | false=>
      cases hf
      exact q F5 H5 _ X15 R5 cU
    | true=>
      obtain⟨⟨w8,e8⟩,h8,hf⟩:=Option.bind_eq_some_iff.mp hf
      obtain⟨z9,h9,hf⟩:=Option.map_eq_some_iff.mp hf
      cases hf
      refine⟨F5,_,w8,_,R5,h8,fun F6 H6 u6 X6 R6 A6=>?_⟩
      have X16:=X15.trans X6
      refine ho'' σ H F6 H6 _ w' w8 _ u4 u6 Q R6 (((A4.weak X13.dom).ext X5).ext X6) (A6.weak X15.dom) h9 fun F7 H7 w7 X7 R7 A7=>?_
      exact q F7 H7 w7 (X16.trans X7) R7 (A7.weak X16.dom)
theorem vE{op op' op'':CmpOp}{g g' g'':En→Rv→Rv→Option Rv}(h:jf X K op g)(h':jf X K op' g')(h'':jf X K op'' g'')(ha:PE X a (fE K fa))(hb:PE X b (fE K fb))(hc:PE X c (fE K fc))(hd:PE X d (fE K fd))
    (hm:lastMarks [op,op',op''] [b,c,d]=false):PE X (.Compare a [op,op',op''] [b,c,d] pos) (fE K (hZ g g' g'' fa fb fc fd)):=by
  obtain⟨r,h1,h2⟩:=h.ex;obtain⟨r',h3,h4⟩:=h'.ex;obtain⟨r'',h5,h6⟩:=h''.ex
  exact(tN h1 h3 h5 ha hb hc hd hm).mono fun _ _ _ h=>rm h2 h4 h6 h
end
end L2
namespace L2
open PySem PySem.Spec PyProof.Rows
section
variable{X:Cx}{K:PySem.W.Frag}{a b:Expr}{es:List Expr}{fa fb:FE}{fs:FA}{pos p apos:Pos}
end
end L2
namespace L2
open PySem PySem.Spec PyProof.Rows
section
variable{X:Cx}{K:PySem.W.Frag}{a b:Expr}{fa fb:FE}{fs:FA}{pos p p2 p3:Pos}
end
end L2
namespace L2
open PySem PySem.Spec PyProof.Rows
def bq(W:aP)(as:List Int):Int:=bp W (W.rng.filter fun k=> !as.contains k)
def wI(l:Nat):Int:=1000*(2 ^ (16 - l) - 1)
structure DX (W:aP) (k:Int) (as:List Int) (y n:Fr):Prop where
  y:CF (bq W (aP.askd as k)) (wI (as.length+1)) y
  n:CF (bq W (aP.askd as k)) (wI (as.length+1)) n
  len:as.length≤15
  inw:fZ W k
  new:k∉as
def lk(ws:List Fr)(l:Int):Fr:=if l= -1 then(0,1) else ws.getD l.toNat (0,1)
structure D9 (W:aP) (S:Nat→Std) (n:Nat) (ws:List Fr):Prop where
  len:ws.length=n
  at':∀(j:Nat) (f:Fr),ws[j]?=some f→CF (bq W (S j).1) (wI (S j).1.length) f
theorem Sz.int10{n m:Nat}{k:Int}(hb:Bt m k)(m0:0 < m)(m1:m≤1900)(h:k.natAbs < 10 ^ n)(h0:0 < n):Sz (n+1) 2 (.int k):=by
  refine⟨rfl,?_,by simp [PyData.depth],?_,cS _⟩
  · show decide (k.natAbs.log2 < 1920)=true
    rw [decide_eq_true_eq]
    have:=hb.log m0
    lia
  · have:=int_text_length_le10 h0 h
    show(Str.ofString (toString k)).length≤n+1
    rw [PySem.ofString_length];exact this
end L2
namespace L2
open PySem PySem.Spec PyProof.Rows
theorem gO{cs:En}{g:FG}{ft:FT}{fe:FE}{b:PyData→Bool}{y:PyData→PyData}{u:PyData→En}(n:Nat):∀(items:List PyData) (t:En) (acc:List PyData),t.length=n→(∀x∈items,∀t:En,t.length=n→g x (cs++t)=some (cs++u x))→(∀x∈items,(u x).length=n)→
    (∀x∈items,ft (cs++u x)=some (b x,cs++u x))→(∀x∈items,b x=true→fe (cs++u x)=some (.d (y x),cs++u x))→acc.length+items.length≤1000000→
    ∃t',t'.length=n∧ia g ft fe items (cs++t) acc=some (acc++(items.filter b).map y,cs++t')
  | [],t,acc,h,_,_,_,_,_=>⟨t,h,by simp [ia]⟩
  | x::r,t,acc,h,hg,hu,h1,h2,hl=>by
    have h1x:=h1 x (by simp)
    unfold ia
    rw [hg x (by simp) t h]
    simp only [Option.bind_some,h1x]
    cases hb:b x with
    | true=>
      simp only [if_true,h2 x (by simp) hb,Option.bind_some,lJ]
      rw [if_pos (by simp at hl;lia)]
      obtain⟨t',e1,ih⟩:=gO (b:=b) (y:=y) (u:=u) n r (u x) (acc++[y x]) (hu x (by simp)) (fun z hz=>hg z (by simp [hz])) (fun z hz=>hu z (by simp [hz])) (fun z hz=>h1 z (by simp [hz])) (fun z hz=>h2 z (by simp [hz])) (by simp at hl ⊢;lia)
      exact⟨t',e1,by rw [ih];simp [hb]⟩
    | false=>
      simp only [Bool.false_eq_true,if_false]
      obtain⟨t',e1,ih⟩:=gO (b:=b) (y:=y) (u:=u) n r (u x) acc (hu x (by simp)) (fun z hz=>hg z (by simp [hz])) (fun z hz=>hu z (by simp [hz])) (fun z hz=>h1 z (by simp [hz])) (fun z hz=>h2 z (by simp [hz])) (by simp at hl;lia)
      exact⟨t',e1,by rw [ih];simp [hb]⟩
theorem oo{x:Str}(h:PyData.strOk x=true):∀c∈x.cps.toList,c < 1114112:=by
  intro c hc
  unfold PyData.strOk at h
  rw [Array.all_eq_true'] at h
  have:=h c (by simpa using hc)
  simpa using this
theorem v_{l:Array Nat}(h:∀c∈l.toList,c < 1114112):PyData.strOk ⟨l⟩=true:=by
  unfold PyData.strOk
  rw [Array.all_eq_true']
  intro c hc
  simpa using h c (by simpa using hc)
theorem wO(c:Char):c.toNat < 1114112:=by
  have:=c.valid
  unfold UInt32.isValidChar Nat.isValidChar at this
  show c.val.toNat < _
  lia
open PySem.Builtin.Str in
theorem p6{q c:Nat}(hc:c < 1114112):∀d∈reprChar q c,d < 1114112:=by
  intro d hd
  unfold reprChar at hd
  have hx:∀w:Nat,∀d∈(List.replicate (w - ((Nat.toDigits 16 c).map Char.toNat).length) 48++(Nat.toDigits 16 c).map Char.toNat),d < 1114112:=by
    intro w d hd
    rcases List.mem_append.mp hd with h | h
    · have:=List.eq_of_mem_replicate h;lia
    · obtain⟨ch,_,rfl⟩:=List.mem_map.mp h;exact wO ch
  dsimp only at hd
  split at hd
  · simp only [List.mem_cons,List.not_mem_nil,or_false] at hd;lia
  split at hd
  · simp only [List.mem_cons,List.not_mem_nil,or_false] at hd;lia
  split at hd
  · simp only [List.mem_cons,List.not_mem_nil,or_false] at hd;lia
  split at hd
  · simp only [List.mem_cons,List.not_mem_nil,or_false] at hd;lia
  split at hd
  · simp only [List.mem_cons,List.not_mem_nil,or_false] at hd;lia
  split at hd
  · rcases List.mem_append.mp hd with h | h
    · simp only [List.mem_cons,List.not_mem_nil,or_false] at h;lia
    · exact hx 2 d h
  split at hd
  · rcases List.mem_append.mp hd with h | h
    · simp only [List.mem_cons,List.not_mem_nil,or_false] at h;lia
    · exact hx 4 d h
  · rcases List.mem_append.mp hd with h | h
    · simp only [List.mem_cons,List.not_mem_nil,or_false] at h;lia
    · exact hx 8 d h
open PySem.Builtin.Str in
theorem n6{q:Nat}:∀(l:List Nat) (acc:Array Nat),(∀c∈l,c < 1114112)→(∀c∈acc.toList,c < 1114112)→∀c∈(l.foldl (fun out c=>out++(reprChar q c).toArray) acc).toList,c < 1114112
  | [],acc,_,h=>h
  | x::r,acc,h1,h2=>n6 r _ (fun c hc=>h1 c (by simp [hc])) fun c hc=>by
    simp only [Array.toList_append,List.mem_append] at hc
    rcases hc with hc | hc
    · exact h2 c hc
    · exact p6 (h1 x (by simp)) c hc
theorem p7{x:Str}(h:PyData.strOk x=true):PyData.strOk (reprText x)=true:=by
  unfold reprText
  refine v_ fun c hc=>?_
  have hq:reprQuote x < 1114112:=by unfold reprQuote;split<;>lia
  rw [Array.toList_push] at hc
  rcases List.mem_append.mp hc with hc | hc
  · rw [←Array.foldl_toList] at hc
    exact n6 _ _ (oo h) (fun c hc=>by simp at hc;lia) c hc
  · simp at hc;lia
theorem Sz.str{x:Str}{n:Nat}(h:PyData.strOk x=true)(hl:x.length≤n):Sz (10*n+2) 2 (.str x):=by
  refine⟨rfl,rfl,by simp [PyData.depth],?_,p7 h⟩
  have:=PySem.StrLaws.reprText_len x fun c hc=>Nat.lt_of_lt_of_le (oo h c hc) (by decide)
  show(reprText x).length≤_
  lia
end L2
namespace L2
open PySem PySem.Spec PyProof.Rows
section
variable{X:Cx}{K:PySem.W.Frag}{a:Expr}{fa:FE}{pos p pos2 p2:Pos}
end
end L2
namespace L2
open PySem PySem.Spec PyProof.Rows
section
variable{X:Cx}{K:PySem.W.Frag}{a:Expr}{fa:FE}
end
end L2
namespace L2
open PySem PySem.Spec PyProof.Rows
abbrev Rn:=List (Int × Bool)
def wX(R:Rn):List Int:=R.map (·.1)
def yD(W:aP)(R:Rn):List Int:=(R.filter (·.2)).flatMap fun r=>[(W.tie r.1).one,(W.tie r.1).other]
theorem hX(ns:List Int):(fX ns).Pairwise (· ≤·):=by
  have:=List.pairwise_mergeSort (le:=fun a b:Int=>decide (a≤b)) (fun a b c h1 h2=>by simp at*;lia) (fun a b=>by simp;lia) ns
  exact this.imp (by simp)
structure D6 (W:aP) (R:Rn) (asked taken:List Int):Prop where
  pa:asked.Perm (wX R)
  pt:taken.Perm (yD W R)
  inw:∀k∈wX R,fZ W k
  nd:(wX R).Nodup
  nk:(yD W R).Nodup
  bd:∀t:Int,0≤t→t < W.things→W.many (wX R) t≤W.pat.getD t.toNat 0
  ak:(R.length:Int)≤W.asks
  sa:asked.Pairwise (· ≤·)
  st:taken.Pairwise (· ≤·)
end L2
namespace L2
open PySem PySem.Spec PyProof.Rows
section
variable{prog:Program}{w:World}{A:Around}{R:Result→Shared→Prop}
end
def AL(l:Addr)(wi:TI)(g:TG)(tc:TT)(te:TE)(σ:L2.St)(H:Hp)(N:L2.St→Hp→Prop):Prop:=
  wi σ H fun J H1=>∃W:Nat→Nat→L2.St→Hp→Prop,(∃m,W 0 m σ H1)∧∀i m σ' H',W i m σ' H'→
    (J.stop i H'∧N σ' H')∨(J.go i H'∧∃N2:L2.St→Hp→Prop,(∀σ2 H2,N2 σ2 H2→∃m',m' < m∧W (i+1) m' σ2 H2)∧
      ∀x H2,J.yld i H' x H2→g x σ' H2 fun σ2 H3=>tc σ2 H3 fun b H4=>if b=true then te σ2 H4 fun v H5=>∃ys,H5 l=some (.lst ys)∧ys.length < sizeLine∧N2 σ2 (cu H5 l (.lst (ys++[v]))) else N2 σ2 H4)
structure Dv (cp:List (Nat × Str)) (nT:Nat) (wi:TI) (g:TG) (tc:TT) (wi2:TI) (g2:TG) (tc2:TT) (te:TE) (σ:L2.St) (H:Hp) (Q:VK):Prop where
  go:wi σ H fun J H1=>∀l,H1 l=none→
  ∃W:Nat→Nat→L2.St→Hp→Prop,(∃m,W 0 m (iP cp nT σ) (cu H1 l (.lst [])))∧∀i m σ' H',W i m σ' H'→
    (J.stop i H'∧Q (.ref l) H')∨(J.go i H'∧∃N:L2.St→Hp→Prop,(∀σ2 H2,N σ2 H2→∃m',m' < m∧W (i+1) m' σ2 H2)∧
      ∀x H2,J.yld i H' x H2→g x σ' H2 fun σ2 H3=>tc σ2 H3 fun b H4=>if b=true then AL l wi2 g2 tc2 te σ2 H4 N else N σ2 H4)
section
variable{K:PySem.W.Frag}{F H:Hp}{σ:L2.St}{e:En}{cp:List (Nat × Str)}{nT:Nat}
end
section
variable{X:Cx}{K:PySem.W.Frag}{pos:Pos}
end
section
variable{X:Cx}{K:PySem.W.Frag}{pos:Pos}
variable{o:Expr}{fo:FE}{apos cpos:Pos}
end
end L2
namespace L2
open PySem PySem.Spec PyProof.Rows
section
variable{X:Cx}{K:PySem.W.Frag}
def Ea:List Int→Int
  | []=>0
  | x::r=>r.foldl max x
end
end L2
namespace L2
open PySem PySem.Spec PyProof.Rows
structure D2 (f:Fr):Prop where
  pos:0 < f.2
  cop:Int.gcd f.1 f.2=1
abbrev Pg:=List Int × Int
def Eb(t:j9)(p:Pg):Bool:= !p.1.contains t.one&& !p.1.contains t.other
def C7(t:j9)(p:Pg):Pg:=(p.1++[t.one,t.other],p.2+t.worth)
def Ed(ps:List Pg)(t:j9):List Pg:=ps++(ps.filter (Eb t)).map (C7 t)
def Ec(ts:List j9):List Pg:=ts.foldl Ed [([],0)]
structure DL (k:Nat) (ps:List Pg):Prop where
  ne:ps≠[]
  len:ps.length≤2 ^ k
  pt:∀p∈ps,p.1.length≤2*k∧0≤p.2∧p.2≤1000*(k:Int)
def DO(ts:List j9):Int:=Ea ((Ec ts).map (·.2))
end L2
namespace L2
open PySem PySem.Spec PyProof.Rows
end L2
namespace L2
open PySem PySem.Spec PyProof.Rows
section
variable{prog:Program}{w:World}{A:Around}{E:Value→Shared→Prop}{s:Shared}
end
section
variable{X:Cx}{a:Expr}{ta:TA}{p p2 pos pos2:Pos}
variable{K:PySem.W.Frag}{fs:FA}{p3:Pos}
end
end L2
namespace L2
open PySem PySem.Spec PyProof.Rows
def uQ:PyData→Bool
  | .int _=>true
  | _=>false
def bC(lo hi:Int):PyData→Bool
  | .int i=>decide (lo≤i)&&decide (i≤hi)
  | _=>false
theorem nz{lo hi:Int}:∀(ns:List Int),(ns.map PyData.int).all (bC lo hi)=ns.all fun i=>decide (lo≤i)&&decide (i≤hi)
  | []=>rfl
  | x::r=>by simp only [List.map_cons,List.all_cons,nz r,bC]
theorem nK{α:Type}(p:α→Bool):∀(ds:List α),lE (ds.map fun d=>PyData.bool (p d))=some (ds.map p)
  | []=>rfl
  | d::r=>by simp [lE,nK p r]
theorem pQ{α:Type}{e:En}(p:α→Bool)(ds:List α):g1 (kQ nQ) e [.l (ds.map fun d=>.bool (p d))]=some (.d (.bool (ds.all p))):=by
  simp [g1,kQ,fF,nQ,nK p,List.all_map]
theorem lH{α:Type}:∀(l:List α) (i:Nat) (h:i < l.length),(l[i]::l.eraseIdx i).Perm l
  | x::r,0,_=>.refl _
  | x::r,i+1,h=>(List.Perm.swap x _ _).trans ((lH r i (by simpa using h)).cons x)
  | [],_,h=>by simp at h
end L2
namespace L2
open PySem PySem.Spec PyProof.Rows
mutual
def iE:Nat→PyData→Bool
  | _,.none=>true
  | _,.bool _=>true
  | _,.int i=>decide (i.natAbs < 2 ^ 128)
  | _,.str x=>PyData.strOk x&&decide (x.length≤10)
  | k,.list xs=>decide (0 < k)&&c9 (k - 1) xs
  | k,.tuple xs=>decide (0 < k)&&c9 (k - 1) xs
  | _,.dict _=>false
def c9:Nat→List PyData→Bool
  | _,[]=>true
  | k,x::r=>iE k x&&c9 k r
end
mutual
def wt:PyData→Nat
  | .list xs=>je xs+1
  | .tuple xs=>je xs+1
  | .dict _=>1
  | .none=>1
  | .bool _=>1
  | .int _=>1
  | .str _=>1
def je:List PyData→Nat
  | []=>0
  | x::r=>wt x+je r
end
theorem gE{k:Nat}:∀{ds:List PyData},c9 k ds=true↔ ∀d∈ds,iE k d=true
  | []=>by simp [c9]
  | d::r=>by simp [c9,gE (ds:=r)]
mutual
theorem zQ{k:Nat}:∀{d:PyData},iE k d=true→iE (k+1) d=true
  | .none,_=>rfl
  | .bool _,_=>rfl
  | .int _,h=>by simpa [iE] using h
  | .str _,h=>by simpa [iE] using h
  | .dict _,h=>by simp [iE] at h
  | .list xs,h=>by
    simp only [iE,Bool.and_eq_true,decide_eq_true_eq] at h ⊢
    obtain⟨j,rfl⟩:∃j,k=j+1:=⟨k - 1,by lia⟩
    exact⟨by lia,fv (k:=j) h.2⟩
  | .tuple xs,h=>by
    simp only [iE,Bool.and_eq_true,decide_eq_true_eq] at h ⊢
    obtain⟨j,rfl⟩:∃j,k=j+1:=⟨k - 1,by lia⟩
    exact⟨by lia,fv (k:=j) h.2⟩
theorem fv{k:Nat}:∀{ds:List PyData},c9 k ds=true→c9 (k+1) ds=true
  | [],_=>rfl
  | d::r,h=>by
    simp only [c9,Bool.and_eq_true] at h ⊢
    exact⟨zQ h.1,fv h.2⟩
end
theorem qk:∀(ts:List Str) (k:Nat) (acc:Str),(textFrom k acc ts).length≤acc.length+piled ts
  | [],_,acc=>by show acc.length≤acc.length+0;lia
  | t::r,k,acc=>by
    have ih:=qk r (k+1) (acc++(if k > 0 then ", " else "":String)++t)
    have e:(acc++(if k > 0 then ", " else "":String)++t).length≤acc.length+2+t.length:=by
      rw [strLen_append,strLen_append]
      have:(Str.ofString (if k > 0 then ", " else "")).length≤2:=by split<;>decide
      lia
    show(textFrom (k+1) _ r).length≤_
    rw [jr];lia
theorem uY(ts:List Str):(listText ts).length≤piled ts+2:=by
  unfold listText
  rw [strLen_append]
  have h:=qk ts 0 "["
  have h1:(("[":Str)).length=1:=by decide
  have h2:(("]":Str)).length=1:=by decide
  lia
theorem mV:∀(ts:List Str) (k:Nat) (acc:Str),PyData.strOk acc=true→(∀t∈ts,PyData.strOk t=true)→PyData.strOk (textFrom k acc ts)=true
  | [],_,acc,h,_=>h
  | t::r,k,acc,h,hs=>mV r (k+1) _ (dQ (dQ h (cS _)) (hs t (by simp))) fun u hu=>hs u (by simp [hu])
theorem tV{ts:List Str}(h:∀t∈ts,PyData.strOk t=true):PyData.strOk (listText ts)=true:=dQ (mV ts 0 _ (cS _) h) (cS _)
structure Cz (d:PyData) (k:Nat):Prop where
  lay:d.canLay0=true
  sh:d.showable=true
  dp:d.depth≤k
  ln:d.shown.length+2≤104*wt d
  so:PyData.strOk d.shown=true
theorem lz{d:PyData}{n:Nat}{k:Nat}(h:Sz n 0 d∨Sz n 2 d)(hn:n≤102)(hw:wt d=1)(hl:d.canLay0=true)(hd:d.depth=0):Cz d k:=by
  rcases h with h | h<;>exact⟨hl,h.sh,by lia,by have:=h.ln;lia,h.so⟩
mutual
theorem kb{k:Nat}:∀{d:PyData},iE k d=true→Cz d k
  | .none,_=>⟨rfl,rfl,by simp [PyData.depth],by show(Str.ofString "None").length+2≤104*1;decide,cS _⟩
  | .bool b,_=>lz (.inr Sz.bool) (by decide) rfl rfl (by simp [PyData.depth])
  | .int i,h=>by
    simp only [iE,decide_eq_true_eq] at h
    exact lz (.inr (Sz.int10 (n:=39) (m:=128) (show Bt 128 i from h) (by decide) (by decide) (Nat.lt_of_lt_of_le h (by decide)) (by decide))) (by decide) rfl rfl (by simp [PyData.depth])
  | .str x,h=>by
    simp only [iE,Bool.and_eq_true,decide_eq_true_eq] at h
    exact lz (.inr (Sz.str (n:=10) h.1 h.2)) (by decide) rfl (by simpa [PyData.canLay0] using h.1) (by simp [PyData.depth])
  | .dict _,h=>by simp [iE] at h
  | .list xs,h=>by
    simp only [iE,Bool.and_eq_true,decide_eq_true_eq] at h
    obtain⟨a1,a2,a3,a4,a5⟩:=oG h.2
    have:=uY (PyData.shownAll xs)
    refine⟨by simpa [PyData.canLay0] using a1,a2,by simp only [PyData.depth];lia,by simp only [PyData.shown,wt];lia,by simp only [PyData.shown];exact tV a5⟩
  | .tuple xs,h=>by
    simp only [iE,Bool.and_eq_true,decide_eq_true_eq] at h
    obtain⟨a1,a2,a3,a4,a5⟩:=oG h.2
    have:=ov (PyData.shownAll xs)
    refine⟨by simpa [PyData.canLay0] using a1,a2,by simp only [PyData.depth];lia,by simp only [PyData.shown,wt];lia,by simp only [PyData.shown];exact tW a5⟩
theorem oG{k:Nat}:∀{ds:List PyData},c9 k ds=true→PyData.canLayAll0 ds=true∧PyData.showableAll ds=true∧PyData.depthAll ds≤k∧piled (PyData.shownAll ds)≤104*je ds∧∀t∈PyData.shownAll ds,PyData.strOk t=true
  | [],_=>⟨rfl,rfl,by simp [PyData.depthAll],by simp [PyData.shownAll,piled],by simp [PyData.shownAll]⟩
  | d::r,h=>by
    simp only [c9,Bool.and_eq_true] at h
    obtain⟨a1,a2,a3,a4,a5⟩:=kb h.1
    obtain⟨b1,b2,b3,b4,b5⟩:=oG h.2
    refine⟨by simp only [PyData.canLayAll0,a1,b1,Bool.and_self],by simp only [PyData.showableAll,a2,b2,Bool.and_self],by simp only [PyData.depthAll];lia,by simp only [PyData.shownAll,jr,je];lia,fun t ht=>?_⟩
    simp only [PyData.shownAll,List.mem_cons] at ht
    rcases ht with rfl | ht
    · exact a5
    · exact b5 t ht
end
theorem Cz.ok{d:PyData}{k:Nat}(h:Cz d k)(hk:k≤60)(hw:wt d≤100000):j6 d=true:=by
  have sl:sizeLine=16777216:=sizeLine_eq
  have:=h.ln
  unfold j6
  rw [PyData.hasDict_of_canLay d h.lay,h.sh,decide_eq_true (Nat.le_trans h.dp hk),decide_eq_true (show d.shown.length≤sizeLine by rw [sl];lia)]
  simp
def fM(n:Int):PyData→Bool
  | .tuple ds=>(ds.length:Int)==n
  | _=>false
def sT:PyData→Bool
  | .tuple [.int t,.int b]=>decide (1≤b)&&decide (Int.gcd t b=1)
  | _=>false
def uw:PyData→Bool
  | .tuple [.int t,.int b]=>decide (0≤t)&&(decide (t≤b)&&(decide (1≤b)&&(decide (b≤100)&&decide (Int.gcd t b=1))))
  | _=>false
def fN(n:Int):PyData→Bool
  | .tuple [.int a,.int b,c,w]=>decide (0≤a)&&(decide (a < b)&&(decide (b≤n - 1)&&(uw c&&bC 0 1000 w)))
  | _=>false
def iv:PyData→Bool
  | .tuple [.int n,.tuple ts,.tuple ps,k]=>bC 0 12 (.int n)&&(bC 0 40 k&&(decide (ts.length≤16)&&(((ps.length:Int)==n)&&(ts.all (fN n)&&ps.all (bC 0 20)))))
  | _=>false
def jc(n:Int):PyData→Bool
  | .tuple ts=>decide (ts.length≤16)&&ts.all (fN n)
  | _=>false
def ni(n:Int):PyData→Bool
  | .tuple ps=>((ps.length:Int)==n)&&ps.all (bC 0 20)
  | _=>false
theorem Dr{d:PyData}(h:fM 2 d=true):∃x y,d=.tuple [x,y]:=by
  cases d with
  | tuple ds=>
    rcases ds with _ | ⟨x,_ | ⟨y,_ | ⟨z,r⟩⟩⟩
    · simp [fM] at h
    · simp [fM] at h
    · exact⟨x,y,rfl⟩
    · simp [fM] at h;lia
  | _=>simp [fM] at h
theorem B_{d:PyData}(h:fM 4 d=true):∃x y z w,d=.tuple [x,y,z,w]:=by
  cases d with
  | tuple ds=>
    rcases ds with _ | ⟨x,_ | ⟨y,_ | ⟨z,_ | ⟨w,_ | ⟨v,r⟩⟩⟩⟩⟩
    · simp [fM] at h
    · simp [fM] at h
    · simp [fM] at h
    · simp [fM] at h
    · exact⟨x,y,z,w,rfl⟩
    · simp [fM] at h;lia
  | _=>simp [fM] at h
theorem rR{d:PyData}(h:uQ d=true):∃i,d=.int i:=by
  cases d with
  | int i=>exact⟨i,rfl⟩
  | _=>simp [uQ] at h
theorem kh{lo hi:Int}{d:PyData}(h:bC lo hi d=true):∃i,d=.int i∧lo≤i∧i≤hi:=by
  cases d with
  | int i=>exact⟨i,rfl,by simpa [bC] using h⟩
  | _=>simp [bC] at h
theorem uF{e:En}{a b c d:Int}:cQ false e (.d (.tuple [.int a,.int b])) (.d (.tuple [.int c,.int d]))=some (.d (.bool (a==c&&b==d))):=by
  unfold cQ
  have h0:∀x y:Int,SeqAt.shaped (.tuple [.int x,.int y])=true:=fun x y=>by simp [SeqAt.shaped,PyData.canLay0,PyData.canLayAll0,PyData.depth,PyData.depthAll]
  simp only [ie,Option.bind_some,h0,Bool.and_self,if_true]
  simp [PyData.eqv,PyData.eqvAll]
theorem zl{b:Int}(h:b.natAbs.log2 < 1920)(h0:b≠0):Bt 4000 b:=Bt.mono (m:=1920) ((Nat.log2_lt (by lia)).mp h) (by decide)
theorem xk{t b:Int}(hb:0 < b):((cF t b).1==t&&(cF t b).2==b)=decide (Int.gcd t b=1):=by
  rw [Bool.eq_iff_iff]
  simp only [Bool.and_eq_true,beq_iff_eq,decide_eq_true_eq]
  constructor
  · rintro⟨h1,h2⟩
    have:=pV (t:=t) (b:=b) (by lia)
    rwa [h1,h2] at this
  · intro h
    unfold cF
    rw [if_neg (by lia),h]
    simp
theorem uh{ds:List PyData}(h:PyData.showableAll ds=true):∀d∈ds,d.showable=true:=fun d hd=>by
  induction ds with
  | nil=>cases hd
  | cons x r ih=>
    simp only [PyData.showableAll,Bool.and_eq_true] at h
    rcases List.mem_cons.mp hd with rfl | hd
    · exact h.1
    · exact ih h.2 hd
theorem zr(d:PyData):uw d=true→sT d=true:=by
  intro h
  unfold uw at h
  split at h
  · simp only [Bool.and_eq_true,decide_eq_true_eq] at h
    simp only [sT,Bool.and_eq_true,decide_eq_true_eq]
    exact⟨h.2.2.1,h.2.2.2.2⟩
  · cases h
end L2
namespace L2
open PySem PySem.Spec PyProof.Rows
section
variable{X:Cx}{K:PySem.W.Frag}
variable{a b:Expr}{fa fb:FE}{pos:Pos}
end
end L2
namespace L2
open PySem PySem.Spec PyProof.Rows
def tx(s:Str):List Nat:=s.cps.toList
end L2
namespace L2
open PySem PySem.Spec PyProof.Rows
end L2
namespace L2
open PySem PySem.Spec PyProof.Rows
end L2
namespace L2
open PySem PySem.Spec PyProof.Rows
section
variable{X:Cx}{K:PySem.W.Frag}{es:List Expr}{k0:Nat}{tp:Pos}{a b:Expr}{fs:FA}{p pos:Pos}
end
end L2
namespace L2
open PySem PySem.Spec PyProof.Rows
def D'(x:Nd)(b:Bool):Int:=if b=true then x.yes else x.no
def yM(T:List Nd)(i:Nat)(b:Bool):Int:=match T[i]? with
  | some x=>D' x b
  | none=> -1
def C5(T:List Nd):Prop:=∀(i j:Nat) (a b:Bool),yM T i a=yM T j b→yM T i a≠ -1→i=j∧a=b
def DB(w:Wt):Int × Int:=(w.par,w.side)
structure Ej (T:List Nd) (ws:List Wt):Prop where
  unq:C5 T
  rng:∀i a,yM T i a= -1∨(0 < yM T i a∧yM T i a < (T.length:Int))
  free:∀w∈ws,w.par= -1∨(0≤w.par∧w.par < (T.length:Int)∧yM T w.par.toNat (w.side==0)= -1)
  dst:(ws.map DB).Nodup
  side:∀w∈ws,w.side=0∨w.side=1
structure Em (T:List Nd) (w0 ws order:List Int):Prop where
  nd:(order++ws).Nodup
  par:∀v∈order++ws,v=0∨∃u∈order,∃b,yM T u.toNat b=v∧v≠ -1
  fst:(order=[]∧ws=w0)∨order[0]?=some 0
end L2
namespace L2
open PySem PySem.Spec PyProof.Rows
section
variable{prog:Program}{w:World}{A:Around}{E:Value→Shared→Prop}{s:Shared}
end
section
variable{X:Cx}{tg a:Expr}{ta:TA}{p pos:Pos}
end
section
variable{X:Cx}{K:PySem.W.Frag}{σ:L2.St}{tg a:Expr}{fs:FA}{p pos:Pos}
end
end L2
namespace L2
open PySem PySem.Spec PyProof.Rows
section
variable{X:Cx}{a k:Expr}{p2 pos:Pos}{fa fk:FE}{K:PySem.W.Frag}
section
variable{prog:Program}{w:World}{A:Around}{E:Value→Shared→Prop}{s:Shared}
end
end
end L2
namespace L2
open PySem PySem.Spec PyProof.Rows
section
variable{X:Cx}{a b:Expr}{ta:TA}{p p2 pos pos2:Pos}{K:PySem.W.Frag}{fs:FA}
end
section
variable{X:Cx}{o i e:Expr}{fo fi:FE}{tpos pos:Pos}{K:PySem.W.Frag}
end
end L2
namespace L2
open PySem PySem.Spec PyProof.Rows
section
variable{X:Cx}{K:PySem.W.Frag}
end
end L2
namespace L2
open PySem PySem.Spec PyProof.Rows
section
open PySem.MeetsSeq2 PySem.AutoSeq1 PySem.SeqAt
end
section
variable{X:Cx}{K:PySem.W.Frag}{o a:Expr}{to te:TE}{name:Str}{apos cpos:Pos}{T id:String}{r:V→List V→Hp→VK→Prop}{fo fa:FE}
end
end L2
namespace L2
open PySem PySem.Spec PyProof.Rows
section
variable{X:Cx}{K:PySem.W.Frag}{o a:Expr}{apos cpos:Pos}{fo fa:FE}
end
end L2
namespace L2
open PySem PySem.Spec PyProof.Rows
section
variable{K:PySem.W.Frag}{F H:Hp}{σ:L2.St}{e:En}{cp:List (Nat × Str)}{nT:Nat}
end
section
variable{X:Cx}{K:PySem.W.Frag}{a b:Expr}{es:List Expr}{fa fb:FE}{fs:FA}{pos p p2 p3:Pos}{lo hi:Option Expr}
end
end L2
namespace L2
open PySem PySem.Spec PyProof.Rows
section
variable{X:Cx}{K:PySem.W.Frag}
end
end L2
namespace L2
open PySem PySem.Spec PyProof.Rows
section
variable{X:Cx}{K:PySem.W.Frag}{a b:Expr}{fa fb:FE}{pos:Pos}
end
end L2
namespace L2
open PySem PySem.Spec PyProof.Rows
section
variable{X:Cx}{K:PySem.W.Frag}
end
end L2
namespace L2
open PySem PySem.Spec PyProof.Rows
structure Sw (b:Bool) (n dep:Nat) (d:PyData):Prop where
  dl:bif b then jq d=true else d.hasDict=false
  sh:d.showable=true
  dp:d.depth≤dep
  ln:d.shown.length+2≤n
  so:PyData.strOk d.shown=true
end L2
namespace L2
open PySem PySem.Spec PyProof.Rows
structure S1 (n:Nat) (f:Fr):Prop where
  low:D2 f
  lo:0≤f.1
  hi:f.1≤f.2
  bt:Bt n f.2
def D_(e:Int)(t:j9):Bool:=t.one==e || t.other==e
structure Eo (b f g:Fr):Prop where
  pf:0 < f.2
  pg:0 < g.2
  eq:g.1*(f.2*b.1)=g.2*(f.1*b.2)
end L2
namespace L2
open PySem PySem.Spec PyProof.Rows
end L2
namespace L2
open PySem PySem.Spec PyProof.Rows
end L2
namespace L2
open PySem PySem.Spec PyProof.Rows
structure El (O:aP) (ss ws:List Std):Prop where
  len:ss.length=ws.length
  at':∀j,(ss.getD j ([],[])).1=(ws.getD j ([],[])).1∧(ss.getD j ([],[])).2.length≤2*(ss.getD j ([],[])).1.length∧∀k∈(ss.getD j ([],[])).1,fZ O k
structure Ei (O:aP) (T:List Nd):Prop where
  tie:∀(i:Nat) (x:Nd),T[i]?=some x→fZ O x.tie
  lk:∀(i:Nat) (x:Nd),T[i]?=some x→(-1≤x.yes∧x.yes < (T.length:Int))∧(-1≤x.no∧x.no < (T.length:Int))
end L2
namespace L2
open PySem PySem.Spec PyProof.Rows
section
variable{K:PySem.W.Frag}
variable{X:Cx}{σ:L2.St}{H0 H:Hp}{e:En}
end
end L2
namespace L2
open PySem PySem.Spec PyProof.Rows
section
variable{X:Cx}{a b:Expr}{ta:TA}{p p2 pos pos2:Pos}
end
end L2
namespace L2
open PySem PySem.Spec PyProof.Rows
section
variable{X:Cx}{K:PySem.W.Frag}{fs:FA}{a b:Expr}{p p2 pos pos2:Pos}
end
end L2
namespace L2
open PySem PySem.Spec PyProof.Rows
end L2
namespace L2
open PySem PySem.Spec PyProof.Rows PySem.W
structure C1 (lt:Nat→Nat→Bool):Prop where
  irr:∀i,lt i i=false
  tr:∀{i j k},lt i j=false→lt j k=false→lt i k=false
  asy:∀{i j},lt i j=true→lt j i=false
structure Ek (n:Nat) (p:Array Nat):Prop where
  sz:p.size=n
  pm:p.Perm (List.toArray (List.range n))
section
variable{lt:Nat→Nat→Bool}{n:Nat}(O:C1 lt)
include O
end
end L2
namespace L2
open PySem PySem.Spec PyProof.Rows PySem.W
section
variable{prog:Program}{w:World}{A:Around}{E:Value→Shared→Prop}{s:Shared}
end
end L2
namespace L2
open PySem PySem.Spec PyProof.Rows PySem.W
section
variable{X:Cx}{K:PySem.W.Frag}
end
end L2
namespace L2
open PySem PySem.Spec PyProof.Rows
section
variable{X:Cx}{K:PySem.W.Frag}
variable{o a:Expr}{es:List Expr}{fo:FE}{fs:FA}{apos cpos:Pos}
end
end L2
namespace L2
open PySem PySem.Spec PyProof.Rows
end L2
namespace L2
open PySem PySem.Spec PyProof.Rows
section
variable{X:Cx}{K:PySem.W.Frag}{σ σ2:L2.St}{H0 F H F2 H2 F3:Hp}{e e2:En}
end
end L2
namespace L2
open PySem PySem.Spec PyProof.Rows
section
variable{X:Cx}{K:PySem.W.Frag}{a b:Expr}{fa fb:FE}{pos p p1 p2 p3 pos':Pos}{x:Str}{i:Nat}
end
section
variable{X:Cx}{K:PySem.W.Frag}
end
end L2
namespace L2
open PySem PySem.Spec PyProof.Rows
section
variable{prog:Program}{w:World}{A:Around}{R:Result→Shared→Prop}
end
def yg(l:Addr)(wi:TI)(g:TG)(tc:TT)(tk tv:TE)(σ:L2.St)(H:Hp)(N:L2.St→Hp→Prop):Prop:=
  wi σ H fun J H1=>∃W:Nat→Nat→L2.St→Hp→Prop,(∃m,W 0 m σ H1)∧∀i m σ' H',W i m σ' H'→
    (J.stop i H'∧N σ' H')∨(J.go i H'∧∃N2:L2.St→Hp→Prop,(∀σ2 H2,N2 σ2 H2→∃m',m' < m∧W (i+1) m' σ2 H2)∧
      ∀x H2,J.yld i H' x H2→g x σ' H2 fun σ2 H3=>tc σ2 H3 fun b H4=>if b=true then tk σ2 H4 fun y H5=>tv σ2 H5 fun v H6=>∃(kk:kB) (kvs:List (kB × V)),y=kV kk∧H6 l=some (.dK kvs)∧kvs.length < sizeLine∧N2 σ2 (cu H6 l (.dK (Do kvs kk v))) else N2 σ2 H4)
structure CO (cp:List (Nat × Str)) (nT:Nat) (wi:TI) (g:TG) (tc:TT) (wi2:TI) (g2:TG) (tc2:TT) (tk tv:TE) (σ:L2.St) (H:Hp) (Q:VK):Prop where
  go:wi σ H fun J H1=>∀l,H1 l=none→
  ∃W:Nat→Nat→L2.St→Hp→Prop,(∃m,W 0 m (iP cp nT σ) (cu H1 l (.dK [])))∧∀i m σ' H',W i m σ' H'→
    (J.stop i H'∧Q (.ref l) H')∨(J.go i H'∧∃N:L2.St→Hp→Prop,(∀σ2 H2,N σ2 H2→∃m',m' < m∧W (i+1) m' σ2 H2)∧
      ∀x H2,J.yld i H' x H2→g x σ' H2 fun σ2 H3=>tc σ2 H3 fun b H4=>if b=true then yg l wi2 g2 tc2 tk tv σ2 H4 N else N σ2 H4)
end L2
namespace L2
open PySem PySem.Spec PyProof.Rows
def aK(p:Int × ue):kB × V:=(Sum.inl p.1,p.2.toV)
def aD(p:Int × ue):PyData × PyData:=(.int p.1,p.2.toD)
section
variable{K:PySem.W.Frag}{F H F' H':Hp}{σ σ':L2.St}{e e':En}{nT:Nat}
inductive CD (K:PySem.W.Frag) (W:List Nat) (σ0:L2.St) (F1 H1:Hp) (e0:En) (l:Addr) (P:Hp→En→List (Int × ue)→Prop) (σ':L2.St) (H':Hp):Prop
  | mk {F':Hp} {ei:En} {acc:List (Int × ue)} (R:bi K F' H' σ' ei) (X:df W σ0 F1 H1 e0 σ' F' H' ei) (fl:F' l=none) (hl:H' l=some (.dK (acc.map aK))) (hc:P F' ei acc):CD K W σ0 F1 H1 e0 l P σ' H'
end
section
variable{X:Cx}{K:PySem.W.Frag}{pos:Pos}
end
end L2
namespace L2
open PySem PySem.Spec PyProof.Rows
section
variable{K:PySem.W.Frag}{F H F' H' F1 H1 F2 H2:Hp}{σ σ' σ1 σ2:L2.St}{e e' e1 e2:En}{i:Nat}{W W1 W2:List Nat}
structure C2 (K:PySem.W.Frag) (i:Nat) (F H:Hp) (σ:L2.St) (e:En):Prop where
  rel:bi K F H σ (e.set i none)
  dct:∃(l:Addr) (m:List (Int × ue)),e[i]?=some (some (.d (.dict (m.map aD))))∧σ[i]?=some (some (.ref l))∧F l=none∧H l=some (.dK (m.map aK))
structure DZ (i:Nat) (W:List Nat) (σ:L2.St) (F H:Hp) (e:En) (σ':L2.St) (F' H':Hp) (e':En):Prop where
  sf:aA F F'
  dom:∀a,H' a=none→H a=none
  fr:∀a vs,F a=none→H a=some (.lst vs)→¬cP σ (e.set i none) H a→F' a=none
  lst:∀a vs,H a=some (.lst vs)→∃vs',H' a=some (.lst vs')
  tmp:∀a o,H a=some o→¬cP σ (e.set i none) H a→σ[i]?≠some (some (.ref a))→H' a=some o
  own:∀a,cP σ' (e'.set i none) H' a→cP σ (e.set i none) H a∨H a=none
  wr:∀j,j∉W→σ'[j]?=σ[j]?
  dd:σ'[i]?=σ[i]?
  fd:∀a m,F a=none→H a=some (.dK m)→¬cP σ (e.set i none) H a→σ[i]?≠some (some (.ref a))→F' a=none
end
section
variable{X:Cx}{K:PySem.W.Frag}{i:Nat}{W W1 W2:List Nat}{st:Stmt}{dc:List Stmt}{f g:FS}{ft:FT}{pos:Pos}
inductive CU (K:PySem.W.Frag) (i:Nat) (F1:Hp) (P:En→Prop) (G:L2.St→Hp→Hp→En→Prop) (σ:L2.St) (H:Hp):Prop
  | mk {F:Hp} {e:En} (R:C2 K i F H σ e) (sF:aA F1 F) (hf:P e) (q:G σ F H e):CU K i F1 P G σ H
end
end L2
namespace L2
open PySem PySem.Spec PyProof.Rows
abbrev wm:List Value:=[.type "ValueError",.type "Exception",.type "BaseException",.type "object"]
def CS(h:Heap)(C:Addr):Prop:=∃(bm:List Value) (N:Addr) (nm q:Str) (bs:List Value) (hd:Bool) (sn:List Str) (sub:List Value) (ab:Bool) (col:Option Bool) (dd:Option Addr) (k0 k1 k2 k3 k5:Option Value) (m:Str→Option Value),
  h.get? C=some (excClassObj nm q C N bs bm hd sn sub ab col dd k0 k1 k2 k3 k5 "ValueError.__new__")∧h.Ns N m∧m "__init__"=none∧OwnTail h wm bm
theorem wU{K:PySem.W.Frag}{h:Heap}{C:Addr}(X:K.In h)(q:PySem.W.excIn K C wm "ValueError.__new__"=true):CS h C:=by
  unfold PySem.W.excIn at q
  split at q
  case h_2=>cases q
  case h_1 dd cd sl ho=>
  split at q
  case h_2=>cases q
  case h_1 C' bm k0 k1 k2 k3 n k5 hm hs=>
  simp only [Bool.and_eq_true,beq_iff_eq,Bool.not_eq_true'] at q
  obtain⟨⟨⟨⟨⟨e1,e2⟩,e3⟩,e4⟩,e5⟩,e6⟩:=q
  subst e1 e2
  cases cd with
  | mk nm bs mro ns qn hd sn sub ab col del=>
  have e7:mro=.ref C'::bm:=hm
  have e8:del=false:=e3
  subst e7 e8
  cases sl with
  | mk l=>
  have e9:l=[k0,k1,k2,k3,some (.builtin "ValueError.__new__"),k5]:=hs
  subst e9
  exact⟨bm,ns,nm,qn,bs,hd,sn,sub,ab,col,dd,k0,k1,k2,k3,k5,_,X _ _ ho,.of_isNs (PySem.W.isNs_of_in X e5),PySem.W.nsMap_none_of_in X e5 e6,PySem.W.tail_of_in X e4⟩
section
variable{X:Cx}{C:Addr}{x:Str}{p pos rp:Pos}{e:Expr}{t:TA}
def Kp(H H':Hp):Prop:=∀a o,H a=some o→H' a=some o
def rC(X:Cx)(C:Addr):Prop:=∀(pins:List (Addr × Obj)) (σ:St) (H:Hp) (s:Shared) (h':Heap) (a:Addr) (vs:List Value),aJ X pins σ H s→Kp X.H₀ H→Heap.MadeExcOf s.heap h' a (.ref C) vs→X.xe (.ref a) {s with heap:=h'}
theorem vB(hcalm:X.calm=true)(hg:Gl X x)(hm:X.mg x=some (.ref C))(hC:PySem.W.excIn X.K C wm "ValueError.__new__"=true)(hx:rC X C)(ha:PA X [e] t)
    (hdb:(x==("__debug__":Str))=false:=by decide)(he:starEach [e] X.env=[(false,eval e X.env)]:=by rfl):
    PS X (.Raise (some (.Call (.Name x p) [e] [] pos)) none rp) (fun _ σ H=>t σ H fun vs H1=>vs.length≤sizeLine∧Kp X.H₀ H1):=by
  intro pins s σ H D I h
  obtain⟨bm,N,nm,q,bs,hd,sn,sub,ab,col,dd,k0,k1,k2,k3,k5,m,c1,c2,c3,c4⟩:=wU I.mod.kin hC
  refine wpAny_Raise_call_subU (C:=C) (N:=N) (nm:=nm) (q:=q) (bs:=bs) (bm:=bm) (hdct:=hd) (sn:=sn) (sub:=sub) (ab:=ab) (col:=col) (dd:=dd) (k0:=k0) (k1:=k1) (k2:=k2) (k3:=k3) (k5:=k5) (mN:=m) F.excBase_ValueError (by decide+kernel) F.excBase_ValueError (c4.hasType (by decide+kernel)) (I.ok.hd hcalm) (by rw [he];rfl) c3 (jL I hg hm ⟨rfl,?_⟩ hdb)
  have hA:=ha pos pins s σ H _ I h
  rw [he] at hA ⊢
  refine Calls.evalArgs_plain (cN hA fun us s1 ⟨vs,H1,I1,r,q,kq⟩=>⟨rfl,?_,I1.bk _ _ c1,c2.keeps I1.bk,c4.keeps I1.bk,fun h' a hx'=>hx pins σ H1 s1 h' a us I1 kq hx'⟩)
  rw [←r.length];exact q
end
end L2
namespace L2
open PySem PySem.Spec PyProof.Rows
theorem dg.some{P:Program}{w:World}{H:Hp}{h:Heap}{a:Addr}{o:HO}(x:dg P w H h a o):∃u,h.get? a=.some u:=by
  cases o with
  | lst xs=>obtain⟨_,_,_,_,e⟩:=x;exact⟨_,e⟩
  | tup xs=>obtain⟨_,_,_,p⟩:=x;obtain⟨o,e,_⟩:=p;exact⟨o,e⟩
  | dK kvs=>obtain⟨_,_,_,_,o,_,_,e,_⟩:=x;exact⟨_,e⟩
  | dT kvs=>obtain⟨_,_,_,_,o,_,_,e,_⟩:=x;exact⟨_,e⟩
  | set S n=>obtain⟨o,_,_,_,e,_⟩:=x;exact⟨_,e⟩
  | ins C dx fs=>obtain⟨_,_,_,e,_⟩:=x;exact⟨_,e⟩
  | own y=>obtain⟨o,e⟩:=x;exact⟨o,e⟩
  | xd fs=>obtain⟨_,⟨_,_,_,e,_⟩,_⟩:=x;exact⟨_,e⟩
  | rng lo hi=>obtain⟨_,_,_,e⟩:=x;exact⟨_,e⟩
  | frz ob u=>obtain⟨e,_⟩:=x;exact⟨_,e⟩
  | tbl ps=>exact⟨_,show h.get? a=.some _ from x⟩
  | met f y=>exact⟨_,show h.get? a=.some _ from x⟩
  | ext φ=>obtain⟨_,⟨o,e⟩,_⟩:=x;exact⟨o,e⟩
def qy(l:List Env)(h h':Heap):Prop:=∀b∈j' l,∀o,h.get? b=some o→∃sl,h'.get? b=some {o with slots:=sl}
def zb(P:Program)(w:World)(C:Addr):qu:=fun outer H s _ e s'=>∃(a:Addr) (t:Value) (b0:Heap) (H':Hp),e=.ref a∧s'.os=s.os∧AllBare s'.gens∧Heap.FlyingW b0 outer a (.ref C) t s'.heap∧qy outer s.heap s'.heap∧H' a=none∧s.heap.get? a=none∧Kp H H'∧
  ∀h2:Heap,b0.StaysIn h2→qy outer s.heap h2→Un (j' outer) [] H H' s.heap h2∧kX P w H' h2
theorem nP{h base b0:Heap}:∀{l:List Env},(∀b∈j' l,b0.get? b=none)→h.FunFrames base l→h.FunFrames b0 l
  | [],_,_=>trivial
  | env::r,hn,hl=>by
    obtain⟨hk,⟨L,o,hf,_,ho,hd⟩,hr⟩:=hl
    have e:j' (env::r)=L::j' r:=by unfold j';rw [List.filterMap_cons,hf]
    rw [e] at hn
    exact⟨hk,⟨L,o,hf,hn L (by simp),ho,hd⟩,nP (fun b hb=>hn b (by simp [hb])) hr⟩
theorem vN{P:Program}{w:World}{K:PySem.W.Frag}{mg:Str→Option Value}{base:Heap}{N:List Str}{qual:Str}{scope:Scope}{f:Addr}{cd:Value}{A:Around}{outer:List Env}{s:Shared}{H:Hp}{E:XK}{C:Addr}:
    rC (kY (zb P w C) P w K mg base N qual scope f cd A outer s H E) C:=by
  intro pins σ H1 s1 h' a vs I hkp hx
  have hst:(kY (zb P w C) P w K mg base N qual scope f cd A outer s H E).stack=envOfC qual scope s.heap.objs.size f cd::outer:=rfl
  have sfr:=I.stkFree
  have sfun:=I.stack
  rw [hst] at sfr sfun
  have hf:(envOfC qual scope s.heap.objs.size f cd).frame=some (envOfC qual scope s.heap.objs.size f cd).locals:=by
    rcases I.ok.stk with e | e
    · exact absurd (congrArg List.length (hst.symm.trans e)) (by simp [kY])
    · exact e.2
  have frc:j' (envOfC qual scope s.heap.objs.size f cd::outer)=(envOfC qual scope s.heap.objs.size f cd).locals::j' outer:=by unfold j';rw [List.filterMap_cons,hf]
  have hid:∀b o,s1.heap.get? b=some o→b∉j' (envOfC qual scope s.heap.objs.size f cd::outer)→(PySem.W.hideAll s1.heap (j' (envOfC qual scope s.heap.objs.size f cd::outer))).get? b=some o:=fun b o e hn=>PySem.W.hideAll_get _ e hn
  have nonf:∀b∈j' outer,∀o,s1.heap.get? b=some o→∀vs,o.data≠.fields vs:=fun b hb o e=>by
    obtain⟨_,o',e',q⟩:=sfun.mem (show b∈j' (_::outer) by rw [frc];simp [hb])
    rw [e] at e';cases e';exact q
  refine wpAny_leaves_madeW (base:=PySem.W.hideAll s1.heap (j' (envOfC qual scope s.heap.objs.size f cd::outer))) (h:=s1.heap) (I.ok.frames.trans (by rw [hst])) hf (fun b o e=>PySem.W.of_hideAll _ e) (nP (fun b hb=>PySem.W.hideAll_none _ hb) sfun) hx fun h2 t fl _ _ up=>?_
  have ib:Un (j' outer) [] H H1 s.heap s1.heap:=I.base
  have sl0:qy outer s.heap s1.heap:=fun b hb o e=>ib.slot b o e (I.ok.frf b hb) hb (by simp)
  refine⟨a,.ref t,_,H1,rfl,I.os,I.bare,fl,fun b hb o e=>?_,?_,?_,hkp,fun h3 st sl=>⟨⟨fun b o e n hb _=>?_,fun b o e n hb _=>sl b hb o e,ib.free,fun b o e _=>?_,ib.tups,ib.frzs,ib.tbls⟩,fun b u e=>?_⟩⟩
  · obtain⟨s2,e2⟩:=sl0 b hb o e
    obtain⟨s3,e3⟩:=up b _ (hx.keeps b _ e2) (nonf b hb _ e2)
    exact⟨s3,e3⟩
  · cases q:H1 a with
    | none=>rfl
    | some u=>
      obtain⟨o,e⟩:=(I.hok a u q).some
      have:=hx.new
      rw [e] at this;cases this
  · cases q:s.heap.get? a with
    | none=>rfl
    | some o=>
      obtain⟨o',e⟩:=ib.there a o q (by simp)
      have:=hx.new
      rw [e] at this;cases this
  · have lt:=Heap.lt_size e
    refine st b o (hid b o (ib.keep b o e n hb (by simp)) ?_)
    rw [frc]
    intro z
    rcases List.mem_cons.mp z with z | z
    · have ab:s.heap.objs.size≤(envOfC qual scope s.heap.objs.size f cd).locals:=I.ok.above
      rw [z] at lt
      exact absurd lt (Nat.not_lt.mpr ab)
    · exact hb z
  · by_cases hb:b∈j' outer
    · obtain⟨s2,e2⟩:=sl b hb o e
      exact⟨_,e2⟩
    · obtain⟨o',e'⟩:=ib.there b o e (by simp)
      have lt:=Heap.lt_size e
      refine⟨o',st b o' (hid b o' e' ?_)⟩
      rw [frc]
      intro z
      rcases List.mem_cons.mp z with z | z
      · have ab:s.heap.objs.size≤(envOfC qual scope s.heap.objs.size f cd).locals:=I.ok.above
        rw [z] at lt
        exact absurd lt (Nat.not_lt.mpr ab)
      · exact hb z
  · refine(I.hok b u e).stay (fun c v hc q=>st c v (hid c v q fun z=>?_)) (fun _ q=>q) (fun _ _ q=>q)
    have zn:=sfr c z
    rcases hc with rfl | hc
    · rw [e] at zn;cases zn
    · rw [hc] at zn;cases zn
theorem yw.okX{P:Program}{w:World}{K:PySem.W.Frag}{mg:Str→Option Value}{base:Heap}{CX:qu}{x qual:Str}{st:Stmt}{f:Addr}{fd:FuncData}{N ps:List Str}{k:Nat}{sp:Sp}(F:yw K x qual st f fd)(S:az N ps (aj st))(len:∀vs H Q E,sp vs H Q E→vs.length=ps.length)
    (hb:∀(cdv:Value) (A:Around) (outer:List Env) (s:Shared) (H:Hp) (vs:List V) (Q:VK) (E:XK),cO k (A.deeper (envOfC qual (aj st) s.heap.objs.size f cdv))→sp vs H Q E→
      ∃t,jy (kY CX P w K mg base N qual (aj st) f cdv A outer s H E) (cq st) t∧t {nx:=fun _ H'=>Q .non H',rt:=Q} (fJ N vs) H):aF P w K mg base CX (k+1) f fd ps sp:=by
  obtain⟨oc,od,kV,doc,pm,an,cdv,ct,osl,e1,lk,hcd⟩:=F.ex
  rw [e1] at lk ⊢
  exact yF lk hcd S len fun A outer s H vs Q E hr hsp=>hb cdv A outer s H vs Q E hr hsp
def mf(e:En):Bool:=e.all fun s=>match s with
  | none=>true
  | some (.d _)=>true
  | _=>false
theorem o6{e:En}(h:mf e=true){σ:L2.St}{H:Hp}{a:Addr}(o:cP σ e H a):False:=by
  obtain⟨i,⟨xs,q,_⟩ | ⟨xss,_,_,q,_⟩⟩:=o
  · have:=List.all_eq_true.mp h _ (List.mem_of_getElem? q);cases this
  · have:=List.all_eq_true.mp h _ (List.mem_of_getElem? q);cases this
def fR(H0:Hp)(K:PySem.W.Frag)(g:En→Prop):TS:=fun _ σ H=>∃F e,bi K F H σ e∧mf e=true∧Kp H0 H∧g e
section
variable{X:Cx}{K:PySem.W.Frag}{st r:Stmt}{dc:List Stmt}{c:Expr}{pos:Pos}{f1:FS}{ft:FT}{W1:List Nat}{g:En→Prop}
theorem PS.nox{t:TS}(h:PS X.nox st t):PS X st t:=fun pins s σ H D I hw=>
  wpAny_mono (h pins s σ H D (I.wish _) hw) (fun _ _ q=>q.unwish) fun _ _ z=>False.elim z
theorem B'(hc:PT X c (fT K ft))(hr:PS X r fun _ _ H=>Kp X.H₀ H):jy X (.If c [r] [] pos::dc) (fR X.H₀ K fun e=>∃e',ft e=some (true,e')):=by
  intro pins s σ H D I ⟨F,e,R,no,kp,e',he⟩
  have hi:=yW (pos:=pos) hc (jS hr) (rY (X:=X))
  refine wpAny_execs_cons (cN (hi pins s σ H {nx:=fun _ _=>False,rt:=fun _ _=>False} I ⟨F,e,true,e',R,he,fun F' H' x _=>?_⟩) fun f s1 q=>?_)
  · exact zC fun a o h=>x.tmp a o (kp a o h) (o6 no)
  · cases f with
    | next=>obtain⟨_,_,_,z⟩:=q;exact z.elim
    | brk=>obtain⟨_,_,_,z⟩:=q;exact z.elim
    | cont=>obtain⟨_,_,_,z⟩:=q;exact z.elim
    | ret u=>obtain⟨_,_,_,_,_,z⟩:=q;exact z.elim
theorem sd(h1:PS X st (fS K f1 W1))(h2:jy X dc (fR X.H₀ K g)):jy X (st::dc) (fR X.H₀ K fun e=>∃e1,f1 e=some (.nx e1)∧mf e1=true∧g e1):=(iG h1 h2).mono fun D σ H ⟨F,e,R,no,kp,e1,he,no1,hg⟩=>
  ⟨F,e,.nx e1,R,he,fun F' H' σ' x R'=>⟨F',e1,R',no1,fun a o h=>x.tmp a o (kp a o h) (o6 no),hg⟩⟩
end
def Bh(K:PySem.W.Frag)(n k0:Nat)(g:En→Prop):Sp:=fun vs H _ _=>vs.length=n∧∃(F:Hp) (as:List Sv),bi K F H (vs.map some) (as.map some)∧mf (as.map some)=true∧g (as.map some++List.replicate k0 none)
theorem vc{e:En}{k:Nat}(h:mf e=true):mf (e++List.replicate k none)=true:=by
  unfold mf at h ⊢
  rw [List.all_append,h,Bool.true_and,List.all_eq_true]
  intro s hs
  rw [(List.mem_replicate.mp hs).2]
theorem a_.fnR{P:Program}{w:World}{K:PySem.W.Frag}{mg:Str→Option Value}{base:Heap}{x:Str}{st:Stmt}{f C:Addr}{fd:FuncData}{N ps:List Str}{k n k0:Nat}{g:En→Prop}(h:a_ K mg x st f fd ps)(S:az N ps (aj st))(hn:ps.length=n)(hN:N.length=n+k0)
    (hb:∀(cdv:Value) (A:Around) (outer:List Env) (s:Shared) (H:Hp) (E:XK),cO k (A.deeper (envOfC x (aj st) s.heap.objs.size f cdv))→jy (kY (zb P w C) P w K mg base N x (aj st) f cdv A outer s H E) (cq st) (fR H K g)):
    aF P w K mg base (zb P w C) (k+1) f fd ps (Bh K n k0 g):=by
  refine h.F.okX S (fun vs H Q E q=>by rw [hn];exact q.1) fun cdv A outer s H vs Q E hr hsp=>⟨_,hb cdv A outer s H E hr,?_⟩
  obtain⟨hl,F,as,R,no,hg⟩:=hsp
  have hst:fJ N vs=vs.map some++List.replicate k0 none:=by unfold fJ;rw [hN,hl];congr 2;lia
  rw [hst]
  exact⟨F,_,R.pad,vc no,fun _ _ z=>z,hg⟩
end L2
namespace L2
open PySem PySem.Spec PyProof.Rows PySem.W
section
variable{prog:Program}{w:World}{A:Around}{E:Value→Shared→Prop}{h:Heap}{g:Array GenState}{d:Drawn}{t:Nat}{os:OsState}{a D:Addr}{o:Obj}{K:Frag}
structure pD (K:Frag) (D:Addr):Prop where
  ga:findIn K (.ref D) "__getattribute__"=some (some (.builtin "BaseException.__getattribute__"))
  gt:findIn K (.ref D) "__getattr__"=some none
  cl:findIn K (.ref D) "__class__"=some (some (.builtin "object.__class__"))
  mo:mroIn K D (.type "object")=some true
  mb:mroIn K D (.type "BaseException")=some true
  cs:(clsIn K D).isSome=true
theorem lU(hx:h.get? a=some o)(hc:o.cls=.ref D)(M:Model):Looks M h (typeOf (.ref a)) (.ref D):=hc ▸ (Looks.ld hx).andThen .now
theorem sS{tk:Tok}{Q:Fin→Shared→Prop}(X:K.In h)(Z:pD K D)(hx:h.get? a=some o)(hc:o.cls=.ref D)(hq:Q (.done (.ret (.ref D))) ⟨h,g,d,t,os⟩):
    wpAny (model prog w) A (Builtin.«object.__getattribute__» ⟨[.ref a,.str "__class__" tk],[]⟩) Q E ⟨h,g,d,t,os⟩:=by
  have T:=lU hx hc (model prog w)
  have L1:=looks_findIn (M:=model prog w) X Z.cl
  have hT5:(⟨h,g,d,t,os⟩:Shared).TypeIs (.builtin "object.__class__") "getset_descriptor":=F.typeOf_object_class
  have f5:=F.typeOf_object_class
  have f6:=F.slot_gs_get.lookup
  have f7:=F.slot_gs_set.lookup
  repeat (any_goals (first | assumption | (with_reducible refine wpAny_loadPart_at hx ?_;rw [hc]) | with_reducible refine L1.at ?_ | wp_step))
  have L2:=looks_mroIn (M:=model prog w) X Z.mo
  refine codeAny_call_builtin F.slot_gs_get.plain F.entry_gs_get (F.slot_gs_get.check _ _ _ _ _ _ _ _ hT5 (F.args_gs_get _ _ _) ?_)
  unfold Builtin.«getset_descriptor.__get__» Builtin.Getset_descriptor.descrGet
  rw [dga_obj]
  refine wpAny_bind (wpAny_pure ?_)
  unfold Builtin.Getset_descriptor.descrGetter Builtin.Getset_descriptor.descrCheckInstance Builtin.Getset_descriptor.descrNameAndClass isInstance
  simp only [KF.owner_class]
  repeat (any_goals (first | assumption | (with_reducible refine wpAny_loadPart_at hx ?_;rw [hc]) | with_reducible refine L2.at ?_ | wp_step))
  refine⟨Code.quiet_builtin _ (by decide+kernel),codeAny_builtin KF.entry_class ?_⟩
  unfold Builtin.«object.__class__» shownTypeOf
  repeat (any_goals (first | assumption | (with_reducible refine wpAny_loadPart_at hx ?_;rw [hc]) | wp_step))
theorem sR{nv:Value}{Q:Unit→Shared→Prop}(X:K.In h)(Z:pD K D)(hx:h.get? a=some o)(hc:o.cls=.ref D)(hq:Q () ⟨h,g,d,t,os⟩):
    wpAny (model prog w) A (checkBuiltinCall "BaseException.__getattribute__" ⟨[.ref a,nv],[]⟩) Q E ⟨h,g,d,t,os⟩:=by
  have L3:=looks_mroIn (M:=model prog w) X Z.mb
  have hk:builtinKind "BaseException.__getattribute__"=some .slot:=by decide+kernel
  have hs:splitId "BaseException.__getattribute__"=some ("BaseException","__getattribute__"):=by decide+kernel
  have ha:=F.args_bexc_ga (.ref a) nv
  simp only [checkBuiltinCall,hk,hs]
  refine wpAny_bind ?_
  unfold isInstance
  repeat (first | (with_reducible refine wpAny_loadPart_at hx ?_;rw [hc]) | with_reducible refine L3.at ?_ | wp_step)
  exact hq
theorem zv{tk:Tok}{Q:Value→Shared→Prop}(X:K.In h)(Z:pD K D)(hx:h.get? a=some o)(hc:o.cls=.ref D)(hq:Q (.ref D) ⟨h,g,d,t,os⟩):
    wpAny (model prog w) A (getAttrBy (.ref a) (.str "__class__" tk) false) Q E ⟨h,g,d,t,os⟩:=by
  have L1:=looks_findIn (M:=model prog w) X Z.ga
  have L2:=looks_findIn (M:=model prog w) X Z.gt
  have L3:=looks_mroIn (M:=model prog w) X Z.mb
  have f3:=F.excAttr_ValueError.ga.bind (.ref a)
  have hx2:(Value.builtin "BaseException.__getattribute__"==Value.builtin "object.__getattribute__")=false:=by decide+kernel
  have hx1:(onTheHeap (Value.ref D)&&Value.builtin "BaseException.__getattribute__"==Value.builtin "object.__getattribute__")=false:=by rw [hx2,Bool.and_false]
  repeat (any_goals (first | assumption | (with_reducible refine wpAny_loadPart_at hx ?_;rw [hc]) | with_reducible refine L1.at ?_ | with_reducible refine L2.at ?_ | wp_step))
  exact codeAny_call_builtin F.attr_ValueError.ga.plain F.entry_bexc_ga (sR X Z hx hc (sS X Z hx hc (handed_on rfl hq)))
theorem uV(Z:pD K D):KitX K (.ref a) (.ref D) (fun h=>∃o,h.get? a=some o∧o.cls=.ref D) where
  ty:=fun M h _ ⟨o,h1,h2⟩=>lU h1 h2 M
  it:=fun M h X _=>by
    obtain⟨cd,hc⟩:=Option.isSome_iff_exists.mp Z.cs
    unfold clsIn at hc
    split at hc
    case h_2=>cases hc
    case h_1 ho=>
    intro A' Q' E' s' k q
    unfold isType loadHead
    exact wpAny_bind (wpAny_loadPart (k _ _ (X _ _ ho)) (wpAny_pure q))
  ne:=fun h tp dd its n sl X htp=>by
    obtain⟨cd,hc⟩:=Option.isSome_iff_exists.mp Z.cs
    refine Bool.eq_false_iff.mpr fun q=>?_
    have e:D=tp:=Value.ref.inj (beq_iff_eq.mp q)
    subst e
    unfold clsIn at hc
    split at hc
    case h_2=>cases hc
    case h_1 ho=>
    cases (X _ _ ho).symm.trans htp
  ca:=fun{_ _ _ _ _ s} X ⟨o,h1,h2⟩ k=>by
    obtain⟨hh,g,d,t,os⟩:=s
    unfold getAttr? getAttrBy?
    exact wpAny_bind (wpAny_mkText (wpAny_bind (wpAny_attempt (zv X Z h1 h2 (wpAny_pure k)))))
end
end L2
namespace L2
open PySem PySem.Spec PyProof.Rows
def Df(C a:Addr)(h:Heap):Prop:=∃o,h.get? a=some o∧o.cls=.ref C
def wR(C a:Addr):HO:=.ext (Df C a)
section
variable{X:Cx}{pins:List (Addr × Obj)}{σ:L2.St}{H H':Hp}{s:Shared}{n:Str}{j:Nat}
theorem xb{M:Model}{A:Around}{E:Value→Shared→Prop}{pos:Pos}{Q:Unit→Shared→Prop}(I:aJ X pins σ H s)(hN:X.N.Nodup)(hj:X.N[j]?=some n)(lj:X.env.scope.names.lookup n=some .local)
    (h:∀s',aJ X pins (σ.set j none) H s'→Q () s'):wpAny M A (do bindName X.env n .none;unbindBehindTheSuite X.env n pos) Q E s:=by
  obtain⟨m,hn,hl⟩:=id I.loc
  have hp:(X.env.scope.kind==.class || (X.env.scope.kind==.module&&X.env.locals != X.env.globals))=false:=by rw [I.ok.kind];rfl
  refine wpAny_nameGoes_keeps lj hn hp fun h' v hn' hs=>h _ ?_
  obtain⟨oL,_,_,hoL,_⟩:=id hn
  have old:∀b o,X.s₀.heap.get? b=some o→h'.get? b=s.heap.get? b:=fun b o e=>hs.2 b (Nat.ne_of_lt (Nat.lt_of_lt_of_le (Heap.lt_size e) I.ok.above))
  refine⟨I.ok,I.os,I.bare,⟨fun b o e k hb hx=>(old b o e).trans (I.base.keep b o e k hb hx),fun b o e k hb hx=>?_,I.base.free,fun b o e hx=>?_,I.base.tups,I.base.frzs,I.base.tbls⟩,⟨_,hn',fun i y w e1 e2 e3=>?_⟩,fun y c e=>?_,I.free,I.freeC,fun p hp'=>?_,fun b ob e=>?_,by rw [List.length_set];exact I.len⟩
  · obtain⟨sl,q⟩:=I.base.slot b o e k hb hx
    exact⟨sl,(old b o e).trans q⟩
  · obtain⟨o',q⟩:=I.base.there b o e hx
    exact⟨o',(old b o e).trans q⟩
  · have ij:i≠j:=fun z=>by
      subst z
      by_cases z2:i < σ.length
      · rw [List.getElem?_set_self z2] at e2;cases e2
      · rw [List.getElem?_eq_none (by rw [List.length_set];lia)] at e2;cases e2
    rw [List.getElem?_set_ne (Ne.symm ij)] at e2
    obtain⟨u,r,q⟩:=hl i y w e1 e2 e3
    refine⟨u,r,?_⟩
    have yn:y≠n:=fun z=>ij (mi hN e1 (z ▸ hj))
    rcases q with ⟨k,q⟩ | ⟨k,c,q,z⟩
    · exact .inl ⟨k,(if_neg yn).trans q⟩
    · exact .inr ⟨k,c,q,z.sameBut hs (I.cne y c q)⟩
  · obtain⟨w,z⟩:=I.cell y c e
    exact⟨w,z.sameBut hs (I.cne y c e)⟩
  · obtain⟨e,k,ne,nf,d⟩:=I.pin p hp'
    exact⟨(hs.2 p.1 ne).trans e,k,ne,nf,d⟩
  · refine(I.hok b ob e).stay (fun c w hc q=>(hs.2 c ?_).trans q) (fun _ q=>q) fun _ _ q=>q
    rintro rfl
    have fr:=I.free
    rcases hc with rfl | hc
    · rw [fr] at e;cases e
    · rw [fr] at hc;cases hc
abbrev Cx.inX(X:Cx)(a:Addr):Cx:={X with A:=X.A.mark (some (.ref a)),calm:=false,xe:=fun _ _=>False}
theorem aJ.inX(I:aJ X pins σ H s)(a:Addr):aJ (X.inX a) pins σ H s:=
  ⟨⟨I.ok.mod,I.ok.kind,I.ok.glob,I.ok.blt,I.ok.above,I.ok.inj,I.ok.has,I.ok.cab,fun z=>(by cases z),I.ok.frames,I.ok.stk,I.ok.exf,I.ok.bs,I.ok.bsz,I.ok.noex,I.ok.exfs,I.ok.funs,I.ok.frf⟩,I.os,I.bare,I.base,I.loc,I.cell,I.free,I.freeC,I.pin,I.hok,I.len⟩
theorem aJ.outX{a:Addr}(I:aJ (X.inX a) pins σ H s)(hd:X.calm=true→X.A.handled=none):aJ X pins σ H s:=
  ⟨⟨I.ok.mod,I.ok.kind,I.ok.glob,I.ok.blt,I.ok.above,I.ok.inj,I.ok.has,I.ok.cab,hd,I.ok.frames,I.ok.stk,I.ok.exf,I.ok.bs,I.ok.bsz,I.ok.noex,I.ok.exfs,I.ok.funs,I.ok.frf⟩,I.os,I.bare,I.base,I.loc,I.cell,I.free,I.freeC,I.pin,I.hok,I.len⟩
theorem aJ.raised{C a:Addr}{t:Value}{b0 h2:Heap}{g':Array GenState}{d':Drawn}{t':Nat}(I:aJ X pins σ H s)(hf:Heap.FlyingW b0 X.stack a (.ref C) t h2)(sl:qy X.stack s.heap h2)(hn:H' a=none)(na:s.heap.get? a=none)(bare:AllBare g')
    (un:∀h3:Heap,b0.StaysIn h3→qy X.stack s.heap h3→Un (j' X.stack) [] H H' s.heap h3∧kX X.prog X.w H' h3):aJ X pins σ (cu H' a (wR C a)) {s with heap:=h2,gens:=g',drawn:=d',toks:=t'}:=by
  obtain⟨u,ok⟩:=un h2 hf.1 sl
  obtain⟨oe,vs,he,hc,hd,_⟩:=hf.first
  have nb:∀b o,H' b=some o→b≠a:=fun b o q z=>by subst z;rw [hn] at q;cases q
  refine I.call (ch:=[]) ⟨u.keep,u.slot,fun b o e k hx=>?_,u.there,fun b xs q=>?_,fun b o v q=>?_,fun b ps q=>?_⟩ (fun b o e=>?_) bare (fun b z=>by cases z)
  · rw [aN fun z=>by subst z;rw [na] at e;cases e];exact u.free b o e k hx
  · have:=u.tups b xs q;rw [aN (nb b _ this)];exact this
  · have:=u.frzs b o v q;rw [aN (nb b _ this)];exact this
  · obtain⟨mo,q⟩:=u.tbls b ps q;exact⟨mo,by rw [aN (nb b _ q)];exact q⟩
  · by_cases z:b=a
    · subst z
      rw [aH] at e
      cases e
      exact⟨⟨oe,he,hc⟩,⟨oe,he⟩,fun h1 h3 ⟨o,q1,q2⟩ k=>⟨o,k o q1,q2⟩⟩
    · rw [aN z] at e
      exact(ok b o e).stay (fun _ _ _ q=>q) (fun c q=>by rw [aN (nb c _ q)];exact q) fun c xs q=>by rw [aN (nb c _ q)];exact q
theorem mT{l:List Env}{h h1 h2 b0:Heap}(x:qy l h h1)(f:h1.FunFrames b0 l)(u:h1.UpToSlots h2):qy l h h2:=fun b hb o e=>by
  obtain⟨sl,q⟩:=x b hb o e
  obtain⟨_,o',q',nf⟩:=f.mem hb
  rw [q] at q';cases q'
  obtain⟨s2,q2⟩:=u b _ q nf
  exact⟨s2,q2⟩
end
section
variable{X:Cx}{C Cb f:Addr}{fd:FuncData}{ps:List Str}{k n k0 i j:Nat}{g:En→Prop}{fn B kx nx:Str}{p pos ep bp kp np ap hp tp:Pos}{e:Expr}{es:List Expr}{t:TA}
theorem vA(hcalm:X.calm=true)(hst:X.stack=X.env::X.outer)(F:aF X.prog X.w X.K X.mg X.base (zb X.prog X.w C) k f fd ps (Bh X.K n k0 g))(hr:cO k X.A)(hg:Gl X fn)(hm:X.mg fn=some (.ref f))(hk:PySem.W.keepIn X.K (.ref f)=true)(hb:lw X.K fd ps [])
    (ha:PA X.nox (e::es) t)(hB:Gl X B)(hmB:X.mg B=some (.ref Cb))(hex:PySem.W.exmOne X.K (.ref C) (.ref Cb)=some true)(nd:X.N.Nodup)(hi:X.N[i]?=some kx)(hj:X.N[j]?=some nx)(li:X.env.scope.names.lookup kx=some .local)(lj:X.env.scope.names.lookup nx=some .local)(ij:i≠j)
    (hs:swapsWith (.Call (.Name fn p) (e::es) [] pos) none ep.line X.env=pure false:=by rfl)(hs2:swapsWith (.Name nx np) (some (.Name kx kp)) ap.line X.env=pure false:=by rfl)
    (hdb:(fn==("__debug__":Str))=false:=by decide)(hdB:(B==("__debug__":Str))=false:=by decide)(hdn:(nx==("__debug__":Str))=false:=by decide)(hdc:(nx==("__classdict__":Str))=false:=by decide)(he:starEach (e::es) X.env=(false,eval e X.env)::starEach es X.env:=by rfl)(hpl:(backTo pos (starEach es X.env)).any (·.1)=false:=by rfl):
    PS X (.Try [.Expr (.Call (.Name fn p) (e::es) [] pos) ep] [.ExceptHandler (some (.Name B bp)) (some nx) [.Assign [.Name kx kp] (.Name nx np) ap] hp] [] [] tp)
      (fun D σ H=>t σ H fun vs H1=>Bh X.K n k0 g vs H1 (fun _ _=>False) E0∧∀a H',Kp H1 H'→H' a=none→D.nx (((σ.set j (some (.ref a))).set i (some (.ref a))).set j none) (cu H' a (wR C a))):=by
  intro pins s σ H D I h
  refine wpAny_Try_except (wpAny_execs_cons (wpAny_Expr_any ?_ I.quiet hs))
  refine wpAny_Call_Name_kw (jL I hg hm ?_ hdb)
  refine PySem.W.callWith_K (h₀:=X.base) I.ok.mod.kin hk (wpAny_mono (ha pos pins s σ H _ (I.wish _) h) (fun us s1 ⟨vs,H1,I1,r,q,qD⟩=>⟨I1.kIn,?_⟩) fun _ _ z=>z.elim) he hpl
  have I1:aJ X pins σ H1 s1:=I1.unwish
  have hl:us.length=ps.length:=by rw [←r.length];exact F.len _ _ _ _ q
  refine wpAny_call (codeAny_mono (F.run X.A X.stack s1 H1 ⟨us,[]⟩ us vs (fun _ _=>False) E0 hr I1.env0 (by have:=hb s1 us I1.kIn (by rw [List.append_nil];exact hl);rw [List.append_nil] at this;exact this) r q) fun r s' hq=>?_)
  cases r with
  | ok fl=>
    cases fl with
    | ret u=>obtain⟨_,_,_,_,_,_,_,z⟩:=hq;exact z.elim
    | next=>exact False.elim hq
    | brk=>exact False.elim hq
    | cont=>exact False.elim hq
  | error x=>
    obtain⟨a,ta,b0,H',rfl,os,bare,fl,sl,hn,na,kpp,un⟩:=hq
    have hfr:X.A.frames=some (X.env::X.outer):=by rw [I.ok.frames,hst]
    have hf:X.env.frame=some X.env.locals:=by
      rcases I.ok.stk with z | z
      · rw [hst] at z;exact absurd (congrArg List.length z) (by simp)
      · exact z.2
    have fl':=fl
    rw [hst] at fl
    refine wpAny_looks_onW hfr hf fl fun h2 held up2=>?_
    have sl2:=mT sl fl'.2.2.1 up2
    refine wpAny_landsW (s:={s' with heap:=h2}) held fun h3 fl3 up3=>?_
    rw [←hst] at fl3 held
    have sl3:=mT sl2 held.2.2.1 up3
    obtain⟨hh,g',d',t',o'⟩:=s'
    have eo:o'=s1.os:=os
    subst eo
    have I3:=I1.raised (h2:=h3) (g':=g') (d':=d') (t':=t') fl3 sl3 hn na bare un
    obtain⟨oe,vs0,e3,c3,_,_⟩:=fl3.first
    refine wpAny_handleBy_cons (codeAny_handlers_test (jL (I3.inX a) hB hmB ?_ hdB)) (by intro z;cases z)
    refine(PySem.W.exm_one (M:=model X.prog X.w) I3.kIn (lU e3 c3 _) hex).at ?_
    show codeAny _ _ _ _ _
    refine codeAny_handlers_suite_as ?_
    refine lands_againW (s:={heap:=h3,gens:=g',drawn:=d',toks:=t',os:=s1.os}) fl3 fun h4 fl4 up4=>?_
    have sl4:=mT sl3 fl3.2.2.1 up4
    have I4:=(I1.raised (h2:=h4) (g':=g') (d':=d') (t':=t') fl4 sl4 hn na bare un)
    refine iQ I4 nd hj (.inl lj) (v:=.ref a) rfl (fun s5 I5=>?_) (.inr lj)
    have hjl:j < σ.length:=by rw [I.len];exact(List.getElem?_eq_some_iff.mp hj).1
    have as:=jS (pj (X:=X.inX a) (pos:=ap) (pos':=kp) nd hi (.inl li) (qZ (X:=X.inX a) (pos:=np) hj (.inl lj) hdn hdc) hs2 (.inr li))
    refine wpAny_mono (as pins s5 _ _ {nx:=fun σ' H''=>σ'=(σ.set j (some (.ref a))).set i (some (.ref a))∧H''=cu H' a (wR C a),rt:=fun _ _=>False} (I5.inX a) ⟨.ref a,by rw [List.getElem?_set_self hjl],rfl,rfl⟩) (fun fl s6 q6=>?_) fun _ _ z=>z.elim
    cases fl with
    | next=>
      obtain⟨σ6,H6,I6,e6,e7⟩:=q6
      subst e6 e7
      exact xb (I6.outX I.ok.hd) nd hj lj fun s7 I7=>⟨_,_,I7,qD a _ kpp hn⟩
    | brk=>obtain⟨_,_,_,z⟩:=q6;exact z.elim
    | cont=>obtain⟨_,_,_,z⟩:=q6;exact z.elim
    | ret u=>obtain⟨_,_,_,_,_,z⟩:=q6;exact z.elim
end
end L2
namespace L2
open PySem PySem.Spec PyProof.Rows
section
variable{X:Cx}{C:Addr}{i:Nat}{x c:Str}{p p1 p2 pos:Pos}{v:V}{u:Value}{b:Bool}
theorem uu(Z:pD X.K C):de X (.builtin "isinstance") (fun xs H Q=>∃a v u b,xs=[.ref a,v]∧H a=some (wR C a)∧(∀u',bz v u'→u'=u)∧PySem.W.kitOne X.K (.ref C) u=some b∧Q (.bl b) H):=by
  intro pins s σ H xs us Q I r h
  obtain⟨a,v,u,b,rfl,ha,hu,hk,q⟩:=h
  obtain⟨u1,u2,rfl,r1,r2⟩:∃u1 u2,us=[u1,u2]∧bz (.ref a) u1∧bz v u2:=by
    cases r with
    | cons p q=>cases q with
      | cons p' q'=>cases q';exact⟨_,_,rfl,p,p'⟩
  cases (show u1=Value.ref a from r1)
  cases hu u2 r2
  obtain⟨o,h1,h2⟩:=(show dg X.prog X.w H s.heap a (wR C a) from I.hok a _ ha).1
  exact PySem.W.kia_one (uV Z) I.kIn ⟨o,h1,h2⟩ hk (fun z=>nomatch z) fun tk=>⟨.bl b,H,I.tok _,rfl,q⟩
def CP(i:Nat)(C:Addr)(b:Bool):TE:=fun σ H Q=>∃a,σ[i]?=some (some (.ref a))∧H a=some (wR C a)∧Q (.bl b) H
theorem km(Z:pD X.K C)(hg:Gl X "isinstance")(hm:X.mg "isinstance"=none)(hv:bootBuiltins "isinstance"=some (.builtin "isinstance"))(hx:PE X (.Name x p1) (tX i))(hc:PE X (.Name c p2) (tC v))(hu:∀u',bz v u'→u'=u)(hk:PySem.W.kitOne X.K (.ref C) u=some b)
    (he:starEach [.Name x p1,.Name c p2] X.env=(false,eval (.Name x p1) X.env)::starEach [.Name c p2] X.env:=by rfl)(he2:starEach [.Name c p2] X.env=(false,eval (.Name c p2) X.env)::starEach [] X.env:=by rfl)(hpl:(backTo pos (starEach [.Name c p2] X.env)).any (·.1)=false:=by rfl):
    PE X (.Call (.Name "isinstance" p) [.Name x p1,.Name c p2] [] pos) (CP i C b):=
  (mv (uu Z) hg hm hv (bu hx (bu hc g9 he2) he) (by decide) (by decide) he hpl).mono fun σ H Q ⟨a,h1,h2,q⟩=>⟨.ref a,h1,a,v,u,b,rfl,h2,hu,hk,q⟩
end
end L2
namespace L2
open PySem PySem.Spec PyProof.Rows
def Dt(C:Addr)(bs:List Bool):Sp:=fun vs H Q _=>∃a,vs=[.ref a]∧H a=some (wR C a)∧∀l H',H' l=some (.lst (bs.map V.bl))→Kp H H'→Q (.ref l) H'
abbrev t3(C:Addr)(b1 b2 b3:Bool):TE:=AM (j8 (CP 0 C b1) (j8 (CP 0 C b2) (j8 (CP 0 C b3) wb)))
theorem l_{H:Hp}{l:Addr}{o:HO}(h:H l=none):Kp H (cu H l o):=fun a u e=>by rw [aN fun z=>by subst z;rw [h] at e;cases e];exact e
theorem x_{C a:Addr}{b1 b2 b3 b4 b5 b6:Bool}{D:oy}{H:Hp}(ha:H a=some (wR C a))(q:∀l H',H' l=some (.lst ([b1,b2,b3,b4,b5,b6].map V.bl))→Kp H H'→D.rt (.ref l) H'):
    Cq (AK (t3 C b1 b2 b3) (uI 1)) (AO (AN x6 (tX 1) (t3 C b4 b5 b6))) D [some (.ref a),none] H:=by
  refine⟨a,rfl,ha,a,rfl,ha,a,rfl,ha,(show 3≤sizeLine by decide),fun l hl=>?_⟩
  have k1:Kp H (cu H l (.lst [.bl b1,.bl b2,.bl b3])):=l_ hl
  refine⟨.ref l,rfl,a,rfl,k1 _ _ ha,a,rfl,k1 _ _ ha,a,rfl,k1 _ _ ha,(show 3≤sizeLine by decide),fun p hp=>?_⟩
  have k2:=l_ (o:=.lst [.bl b4,.bl b5,.bl b6]) hp
  refine⟨l,p,_,_,rfl,rfl,k2 _ _ aH,aH,(show 6≤sizeLine by decide),fun z hz=>?_⟩
  exact q z _ aH fun c o e=>l_ hz c o (k2 c o (k1 c o e))
open Classical in
noncomputable def Bd(n k0:Nat)(g:En→Prop):FM:=fun as=>if as.length=n∧mf (as.map some)=true∧g (as.map some++List.replicate k0 none) then some (.d (.bool true),as) else none
theorem zL{n k0:Nat}{g:En→Prop}{as:List Sv}(h1:as.length=n)(h2:mf (as.map some)=true)(h3:g (as.map some++List.replicate k0 none)):Bd n k0 g as=some (.d (.bool true),as):=if_pos ⟨h1,h2,h3⟩
section
variable{K:PySem.W.Frag}
theorem qx{F:Hp}:∀bs:List Bool,aO K F (bs.map PyData.bool) (bs.map V.bl)
  | []=>aO.nil
  | b::r=>by
    rw [List.map_cons,List.map_cons]
    simp only [aO]
    exact⟨_,_,rfl,cE.mpr rfl,qx r⟩
theorem zu{n k0:Nat}{g:En→Prop}{vs:List V}{H H':Hp}{Q:VK}{E:XK}(h:bO K n (Bd n k0 g) vs H Q E)(kp:Kp H H'):Q (.bl true) H':=by
  obtain⟨hl,F,as,r,as',R,nN,hm,nr,q⟩:=h
  unfold Bd at hm
  split at hm
  case isFalse=>cases hm
  case isTrue hc=>
  cases hm
  have no:∀{a:Addr} {Z:Hp},¬cP (vs.map some) (as.map some) Z a:=fun z=>o6 hc.2.1 z
  have nol:∀(i:Nat) (xs:List PyData),(as.map some)[i]?≠some (some (.l xs)):=fun i xs z=>by have:=List.all_eq_true.mp hc.2.1 _ (List.mem_of_getElem? z);cases this
  have non:∀(i:Nat) (xs:List (List PyData)),(as.map some)[i]?≠some (some (.n xs)):=fun i xs z=>by have:=List.all_eq_true.mp hc.2.1 _ (List.mem_of_getElem? z);cases this
  refine q F H' (.bl true) ⟨aA.refl _,fun a z=>?_,fun _ _ z _ _=>z,fun a vs z=>⟨vs,kp a _ z⟩,fun a o z _=>kp a o z,fun _=>Iff.rfl,fun a z=>(no z).elim,fun _ _ z _ _=>z⟩ ⟨fun a o z=>kp a o (R.sm a o z),R.len,R.dat,fun i xs z=>(nol i xs z).elim,fun i xs z=>(non i xs z).elim,fun i j a z=>(no ⟨i,z⟩).elim⟩ (show DA K F (.bool true) (.bl true) from cE.mpr rfl)
  cases e:H a with
  | none=>rfl
  | some o=>rw [kp a o e] at z;cases z
theorem vZ{n k0:Nat}{g:En→Prop}{vs:List V}{H:Hp}{Q Q':VK}{E E':XK}(h:bO K n (Bd n k0 g) vs H Q E):Bh K n k0 g vs H Q' E':=by
  obtain⟨hl,F,as,r,as',R,nN,hm,nr,q⟩:=h
  unfold Bd at hm
  split at hm
  case isFalse=>cases hm
  case isTrue hc=>exact⟨hl,F,as,R,hc.2.1,hc.2.2⟩
theorem pq(bs:List Bool):SeqAt.shaped (.list (bs.map PyData.bool))=true:=by
  have h1:PyData.canLayAll0 (bs.map PyData.bool)=true:=by
    induction bs with
    | nil=>rfl
    | cons n r ih=>simp [PyData.canLayAll0,PyData.canLay0,ih]
  have h2:PyData.depthAll (bs.map PyData.bool)=0:=by
    clear h1
    induction bs with
    | nil=>rfl
    | cons n r ih=>simp [PyData.depthAll,PyData.depth,ih]
  simp [SeqAt.shaped,PyData.canLay0,PyData.depth,h1,h2]
theorem sQ(bs:List Bool):PyData.eqv (.list (bs.map PyData.bool)) (.list (bs.map PyData.bool))=true:=by
  have h:PyData.eqvAll (bs.map PyData.bool) (bs.map PyData.bool)=true:=by
    induction bs with
    | nil=>simp [PyData.eqvAll]
    | cons b r ih=>cases b<;>simp [PyData.eqvAll,PyData.eqv,ih]
  simp [PyData.eqv,h]
theorem x9{C a:Addr}{i:Nat}{bs:List Bool}{D:oy}{H:Hp}{σ:L2.St}{tl:TA}(h0:σ[i]?=some (some (.ref a)))(ha:H a=some (wR C a))(hl:bs.length≤60)(ht:∀H Q,Q (bs.map V.bl) H→tl σ H Q)
    (q:∀H',Kp H H'→D.rt (.bl true) H'):AO (AN (x8 K false) (su (Dt C bs) [] E0 (j8 (tX i) wb)) (AM tl)) D σ H:=by
  refine⟨.ref a,h0,a,rfl,ha,fun l H1 e1 k1=>?_⟩
  refine ht _ _ ⟨by rw [List.length_map];exact Nat.le_trans hl (by decide),fun p hp=>?_⟩
  have k2:=l_ (o:=.lst (bs.map V.bl)) hp
  have sh:SeqAt.shaped (.list (bs.map PyData.bool))=true:=pq bs
  refine⟨.list (bs.map .bool),.list (bs.map .bool),cW.mpr ⟨l,_,rfl,gL.of (k2 _ _ e1),qx bs⟩,cW.mpr ⟨p,_,rfl,gL.of aH,qx bs⟩,sh,sh,?_⟩
  have e:PyData.eqv (.list (bs.map .bool)) (.list (bs.map .bool))=true:=sQ bs
  rw [if_neg (by decide),e]
  exact q _ fun c o z=>k2 c o (k1 c o z)
end
end L2
namespace V79
open PySem PySem.Spec PyProof.Rows L2
variable{P:Program}{w:World}{K:W.Frag}{mg:Str→Option Value}{base:Heap}{f:Addr}{fd:FuncData}
local macro_rules|`(tactic|trivial)=>`(tactic|first|exact .inl rfl|exact .inr rfl|assumption)
local macro_rules|`(¬$n:num)=>`(@qw _ _ $n _ _ (by rfl) (by rfl) (by decide))
local macro_rules|`($a∘$b)=>`(@Dp _ _ _ _ _ _ $a $b (by rfl))
def top(i:Nat):Stmt:=PySem.Challenge.pw_askedpairs_k79_webs_beside.main.body.getD i (.Pass ⟨0,0,0,0⟩)
theorem lQ{α:Type u}{β:Type v}{f:α→β}:List.map f []=[]:=rfl
theorem lP{α:Type u}{β:Type v}{f:α→β}{a:α}{l:List α}:List.map f (a::l)=f a::List.map f l:=rfl
theorem lL{α:Type u}{l:List α}:[]++l=l:=rfl
theorem lK{α:Type u}{a:α}{l m:List α}:(a::l)++m=a::(l++m):=rfl
theorem lN{α:Type u}{a:α}{l:List α}:(a::l)[0]?=some a:=rfl
theorem lO{α:Type u}{a:α}{l:List α}{i:Nat}:(a::l)[i+1]?=l[i]?:=rfl
theorem lM{α:Type u}{β:Type v}{a:α}{f:α→Option β}:Option.bind (some a) f=f a:=rfl
theorem lS{α:Type u}{β:Type v}{a:α}{f:α→β}:Option.map f (some a)=some (f a):=rfl
abbrev cc:Stmt:=top 7
abbrev iL:Stmt:=top 8
abbrev c_:Stmt:=top 10
abbrev a9:Stmt:=top 11
abbrev ci:Stmt:=top 12
abbrev cR:Stmt:=top 13
abbrev el:Stmt:=top 21
abbrev dy:Stmt:=top 22
abbrev eO:Stmt:=top 23
abbrev cy:Stmt:=top 24
abbrev fD:Stmt:=top 25
abbrev dw:Stmt:=top 27
abbrev ce:Stmt:=top 28
abbrev jX:Stmt:=top 30
abbrev jW:Stmt:=top 31
abbrev hR:Stmt:=top 32
abbrev p9:Stmt:=top 33
abbrev p_:Stmt:=top 34
abbrev kr:Stmt:=top 35
abbrev iK:Stmt:=top 36
abbrev jZ:Stmt:=top 37
abbrev mJ:Stmt:=top 38
abbrev qb:Stmt:=top 39
abbrev eN:Stmt:=top 40
abbrev qa:Stmt:=top 41
abbrev iJ:Stmt:=top 42
abbrev jY:Stmt:=top 43
abbrev gG:Stmt:=top 44
abbrev ek:Stmt:=top 45
abbrev gH:Stmt:=top 46
abbrev gJ:Stmt:=top 47
abbrev mI:Stmt:=top 48
abbrev bH:Stmt:=top 49
abbrev mK:Stmt:=top 50
structure iw (mg:Str→Option Value):Prop where
  b_abs:mg "abs"=none
  b_len:mg "len"=none
  b_min:mg "min"=none
  b_max:mg "max"=none
  b_range:mg "range"=none
  b_repr:mg "repr"=none
  b_tuple:mg "tuple"=none
  b_int:mg "int"=none
  b_sorted:mg "sorted"=none
  b_isinstance:mg "isinstance"=none
  b_bool:mg "bool"=none
  b_all:mg "all"=none
  b_list:mg "list"=none
  b_ValueError:mg "ValueError"=none
noncomputable def bF:FT:=(ax (ar (cQ true) (ac 1) (vC (.int 0))))
noncomputable def ck:FS:=(i9 0 1 (aa (ac 1) (aa (ar a7 (ac 0) (ac 1)) ai)))
noncomputable def gw:FS:=(ay (jv (2 ^ 4200) bF ck)
    (a8 (aI (g1 qI) (aa (ac 0) ai))))
noncomputable def bZ:FM:=gC 2 0 ([0,1]++[]) gw
theorem fW:az ["one","other"] ["one","other"] (aj cc):=⟨rfl,rfl,rfl,by decide+kernel,rfl,by decide+kernel,by decide+kernel⟩
theorem jQ(h:a_ K mg "common_divisor" cc f fd ["one","other"])(T:iw mg):aF P w K mg base bM 1 f fd ["one","other"] (bO K 2 bZ):=by
  have nd:=fW.nd
  exact h.fn fW rfl rfl (fun cdv A outer s H E hr=>(@ag _ _ _ _ _ _ _ _ (@mE _ _ _ _ _ _ _ _ _ PassesOwn.never (@bj _ _ _ _ _ _ _ _ _ (@zo _ _ _ rfl hr) (¬1) af (aX _))
      (@am _ _ _ _ _ (@mD _ _ _ _ _ 0 1 _ _ _ _ _ _ _ _ _ rfl nd rfl rfl (by decide) rfl rfl ((¬1)∘((@aZ _ _ _ _ _ _ _ (¬0) (¬1))∘ae)) (by rfl) (by rfl))))
      (@am _ _ _ _ _ (@aw _ _ _ _ _ (@aV _ _ _ _ _ _ _ _ _ (@b_abs _ _) (by rfl) T.b_abs ((¬0)∘ae) (by decide) (by decide) (by rfl) (by rfl))))))
noncomputable def pI:FS:=(ay (bg 2 (bJ 2 bZ (aa (ac 0) (aa (ac 1) ai))))
    (ay (eu (ax (ar ww (ac 1) (vC (.int 0))))
    (bg 2 (qr wZ (ac 2)))
    bQ)
    (a8 (bU (aa (ar ed (ac 0) (ac 2)) (aa (ar ed (ac 1) (ac 2)) ai))))))
noncomputable def iD:FM:=gC 2 1 ([2]++(([2]++[])++[])) pI
theorem oi:az ["top","bottom","divisor"] ["top","bottom"] (aj iL):=⟨rfl,rfl,rfl,by decide+kernel,rfl,by decide+kernel,by decide+kernel⟩
theorem tI(h:a_ K mg "lowest" iL f fd ["top","bottom"])(T:iw mg){f_common_divisor:Addr}{e_common_divisor:FuncData}(h_common_divisor:a_ K mg "common_divisor" cc f_common_divisor e_common_divisor ["one","other"])(G_common_divisor:aF P w K mg base bM 1 f_common_divisor e_common_divisor ["one","other"] (bO K 2 bZ)):aF P w K mg base bM 2 f fd ["top","bottom"] (bO K 2 iD):=by
  have nd:=oi.nd
  exact h.fn oi rfl rfl (fun cdv A outer s H E hr=>(@ag _ _ _ _ _ _ _ _ (@aC _ _ _ _ _ 2 _ _ nd rfl (Or.inl rfl) (@aT _ _ _ _ _ _ _ _ _ _ _ _ _ _ _ h_common_divisor G_common_divisor (hr.mono (by decide)) ((¬0)∘((¬1)∘ae)) (by rfl) (by decide) (by rfl) (by rfl)) (by rfl) (by trivial))
      (@ag _ _ _ _ _ _ _ _ (@bG _ _ _ _ _ _ _ _ _ _ _ (@bj _ _ _ _ _ _ _ _ _ (@sJ _ _) (¬1) af (aX _))
      (@am _ _ _ _ _ (@aC _ _ _ _ _ 2 _ _ nd rfl (Or.inl rfl) (@BY _ _ _ _ _ (¬2)) (by rfl) (by trivial)))
      (@aR _ _))
      (@am _ _ _ _ _ (@aw _ _ _ _ _ (@bf _ _ _ _ _ _ ((@gk _ _ _ _ _ _ _ (¬0) (¬2))∘((@gk _ _ _ _ _ _ _ (¬1) (¬2))∘ae))))))))
noncomputable def kJ:FS:=(a8 (fY (qr (kZ "int") (ac 0)) (jd (qr (kZ "bool") (ac 0)))))
noncomputable def cg:FM:=gC 1 0 [] kJ
theorem j4:az ["thing"] ["thing"] (aj c_):=⟨rfl,rfl,rfl,by decide+kernel,rfl,by decide+kernel,by decide+kernel⟩
theorem pb(h:a_ K mg "is_number" c_ f fd ["thing"])(T:iw mg):aF P w K mg base bM 1 f fd ["thing"] (bO K 1 cg):=by
  have nd:=j4.nd
  exact h.fn j4 rfl rfl (fun cdv A outer s H E hr=>(@am _ _ _ _ _ (@aw _ _ _ _ _ (@my _ _ _ _ _ _ _ _ (@rZ _ _ _ _ _ _ _ _ "int" rfl (by decide) rfl T.b_isinstance rfl T.b_int PyProof.Rows.boot_int (by decide) (by decide) (¬0) (by rfl) (by rfl)) (@mz _ _ _ _ _ _ (@Au _ _ _ _ _ (@rZ _ _ _ _ _ _ _ _ "bool" rfl (by decide) rfl T.b_isinstance rfl T.b_bool PyProof.Rows.boot_bool (by decide) (by decide) (¬0) (by rfl) (by rfl))))))))
noncomputable def cm:FS:=(a8 (fY (bJ 1 cg (aa (ac 0) ai)) (iS yH yH (ac 1) (ac 0) (ac 2))))
noncomputable def au:FM:=gC 3 0 [] cm
theorem ey:az ["thing","low","high"] ["thing","low","high"] (aj a9):=⟨rfl,rfl,rfl,by decide+kernel,rfl,by decide+kernel,by decide+kernel⟩
theorem i7(h:a_ K mg "is_number_within" a9 f fd ["thing","low","high"])(T:iw mg){f_is_number:Addr}{e_is_number:FuncData}(h_is_number:a_ K mg "is_number" c_ f_is_number e_is_number ["thing"])(G_is_number:aF P w K mg base bM 1 f_is_number e_is_number ["thing"] (bO K 1 cg)):aF P w K mg base bM 2 f fd ["thing","low","high"] (bO K 3 au):=by
  have nd:=ey.nd
  exact h.fn ey rfl rfl (fun cdv A outer s H E hr=>(@am _ _ _ _ _ (@aw _ _ _ _ _ (@my _ _ _ _ _ _ _ _ (@aT _ _ _ _ _ _ _ _ _ _ _ _ _ _ _ h_is_number G_is_number (hr.mono (by decide)) ((¬0)∘ae) (by rfl) (by decide) (by rfl) (by rfl)) (@mz _ _ _ _ _ _ (@xY _ _ _ _ _ _ _ _ _ _ _ _ _ (@uq _ _) (@uq _ _) (¬1) (¬0) (¬2) (by with_unfolding_all rfl)))))))
noncomputable def kM:FS:=(a8 (fY (qr (kZ "tuple") (ac 0)) (ar (cQ false) (aI (g1 fL) (aa (ac 0) ai)) (ac 1))))
noncomputable def bx:FM:=gC 2 0 [] kM
theorem j5:az ["thing","many"] ["thing","many"] (aj ci):=⟨rfl,rfl,rfl,by decide+kernel,rfl,by decide+kernel,by decide+kernel⟩
theorem pd(h:a_ K mg "is_row_of" ci f fd ["thing","many"])(T:iw mg):aF P w K mg base bM 1 f fd ["thing","many"] (bO K 2 bx):=by
  have nd:=j5.nd
  exact h.fn j5 rfl rfl (fun cdv A outer s H E hr=>(@am _ _ _ _ _ (@aw _ _ _ _ _ (@my _ _ _ _ _ _ _ _ (@rZ _ _ _ _ _ _ _ _ "tuple" rfl (by decide) rfl T.b_isinstance rfl T.b_tuple PyProof.Rows.boot_tuple (by decide) (by decide) (¬0) (by rfl) (by rfl)) (@mz _ _ _ _ _ _ (@nZ _ _ _ _ _ _ _ _ _ (@lF _ _ _ rfl hr) (@aV _ _ _ _ _ _ _ _ _ (@b_len _ _ rfl) (by rfl) T.b_len ((¬0)∘ae) (by decide) (by decide) (by rfl) (by rfl)) (¬1) (aX _)))))))
noncomputable def cx:FS:=(ay (eu (c7 (ax (bJ 2 bx (aa (ac 0) (aa (vC (.int 2)) ai)))))
    (a8 (vC (.bool false)))
    bQ)
    (ay (i8 (ac 0) (bS (aq (ah 1) (aq (ah 2) bI))))
    (ay (eu (lu (c7 (ax (bJ 1 cg (aa (ac 1) ai)))) (lu (c7 (ax (bJ 1 cg (aa (ac 2) ai)))) (ax (ar ww (ac 2) (vC (.int 1))))))
    (a8 (vC (.bool false)))
    bQ)
    (a8 (ar (cQ false) (bJ 2 iD (aa (ac 1) (aa (ac 2) ai))) (ac 0))))))
noncomputable def br:FM:=gC 1 2 (([]++[])++(([1]++([2]++[]))++(([]++[])++[]))) cx
theorem iM:az ["thing","top","bottom"] ["thing"] (aj cR):=⟨rfl,rfl,rfl,by decide+kernel,rfl,by decide+kernel,by decide+kernel⟩
theorem mq(h:a_ K mg "is_fraction" cR f fd ["thing"])(T:iw mg){f_is_row_of:Addr}{e_is_row_of:FuncData}(h_is_row_of:a_ K mg "is_row_of" ci f_is_row_of e_is_row_of ["thing","many"])(G_is_row_of:aF P w K mg base bM 1 f_is_row_of e_is_row_of ["thing","many"] (bO K 2 bx)){f_lowest:Addr}{e_lowest:FuncData}(h_lowest:a_ K mg "lowest" iL f_lowest e_lowest ["top","bottom"])(G_lowest:aF P w K mg base bM 2 f_lowest e_lowest ["top","bottom"] (bO K 2 iD)){f_is_number:Addr}{e_is_number:FuncData}(h_is_number:a_ K mg "is_number" c_ f_is_number e_is_number ["thing"])(G_is_number:aF P w K mg base bM 1 f_is_number e_is_number ["thing"] (bO K 1 cg)):aF P w K mg base bM 3 f fd ["thing"] (bO K 1 br):=by
  have nd:=iM.nd
  exact h.fn iM rfl rfl (fun cdv A outer s H E hr=>(@ag _ _ _ _ _ _ _ _ (@bG _ _ _ _ _ _ _ _ _ _ _ (@cD _ _ _ _ _ (@b_ _ _ _ _ (@aT _ _ _ _ _ _ _ _ _ _ _ _ _ _ _ h_is_row_of G_is_row_of (hr.mono (by decide)) ((¬0)∘(af∘ae)) (by rfl) (by decide) (by rfl) (by rfl)) (by intro _;rfl)))
      (@am _ _ _ _ _ (@aw _ _ _ _ _ (@dr _ _ _ _ _)))
      (@aR _ _))
      (@ag _ _ _ _ _ _ _ _ (@jt _ _ _ _ _ _ _ _ (¬0) (@fw _ _ _ _ _ _ _ _ rfl rfl (@aB _ _ _ _ _ _ _ _ (@av _ _ _ 1 _ nd rfl (Or.inl rfl) (by trivial)) (@aB _ _ _ _ _ _ _ _ (@av _ _ _ 2 _ nd rfl (Or.inl rfl) (by trivial)) (@du _ _) (by rfl)) (by rfl)) (aM (aM fj)) (by rfl) (by rfl)) (by rfl) (by rfl) (by rfl))
      (@ag _ _ _ _ _ _ _ _ (@bG _ _ _ _ _ _ _ _ _ _ _ (@nj _ _ _ _ (@iI _ _ _ _ _ _ _ _ (@cD _ _ _ _ _ (@b_ _ _ _ _ (@aT _ _ _ _ _ _ _ _ _ _ _ _ _ _ _ h_is_number G_is_number (hr.mono (by decide)) ((¬1)∘ae) (by rfl) (by decide) (by rfl) (by rfl)) (by intro _;rfl))) (@iI _ _ _ _ _ _ _ _ (@cD _ _ _ _ _ (@b_ _ _ _ _ (@aT _ _ _ _ _ _ _ _ _ _ _ _ _ _ _ h_is_number G_is_number (hr.mono (by decide)) ((¬2)∘ae) (by rfl) (by decide) (by rfl) (by rfl)) (by intro _;rfl))) (@hE _ _ _ _ _ (@bj _ _ _ _ _ _ _ _ _ (@sJ _ _) (¬2) af (aX _))))))
      (@am _ _ _ _ _ (@aw _ _ _ _ _ (@dr _ _ _ _ _)))
      (@aR _ _))
      (@am _ _ _ _ _ (@aw _ _ _ _ _ (@nZ _ _ _ _ _ _ _ _ _ (@lF _ _ _ rfl hr) (@aT _ _ _ _ _ _ _ _ _ _ _ _ _ _ _ h_lowest G_lowest (hr.mono (by decide)) ((¬1)∘((¬2)∘ae)) (by rfl) (by decide) (by rfl) (by rfl)) (¬0) (aX _))))))))
noncomputable def d9:FS:=(ay (eu (c7 (ax (bJ 1 br (aa (ac 0) ai))))
    (a8 (vC (.bool false)))
    bQ)
    (ay (i8 (ac 0) (bS (aq (ah 1) (aq (ah 2) bI))))
    (a8 (hZ yH yH yH (vC (.int 0)) (ac 1) (ac 2) (vC (.int (100)))))))
noncomputable def cf:FM:=gC 1 2 (([]++[])++(([1]++([2]++[]))++[])) d9
theorem j3:az ["thing","top","bottom"] ["thing"] (aj el):=⟨rfl,rfl,rfl,by decide+kernel,rfl,by decide+kernel,by decide+kernel⟩
theorem o_(h:a_ K mg "is_chance" el f fd ["thing"])(T:iw mg){f_is_fraction:Addr}{e_is_fraction:FuncData}(h_is_fraction:a_ K mg "is_fraction" cR f_is_fraction e_is_fraction ["thing"])(G_is_fraction:aF P w K mg base bM 3 f_is_fraction e_is_fraction ["thing"] (bO K 1 br)){t_MOST_BOTTOM:Tok}(m_MOST_BOTTOM:mg "MOST_BOTTOM"=some (.int (100) t_MOST_BOTTOM)):aF P w K mg base bM 4 f fd ["thing"] (bO K 1 cf):=by
  have nd:=j3.nd
  exact h.fn j3 rfl rfl (fun cdv A outer s H E hr=>(@ag _ _ _ _ _ _ _ _ (@bG _ _ _ _ _ _ _ _ _ _ _ (@cD _ _ _ _ _ (@b_ _ _ _ _ (@aT _ _ _ _ _ _ _ _ _ _ _ _ _ _ _ h_is_fraction G_is_fraction (hr.mono (by decide)) ((¬0)∘ae) (by rfl) (by decide) (by rfl) (by rfl)) (by intro _;rfl)))
      (@am _ _ _ _ _ (@aw _ _ _ _ _ (@dr _ _ _ _ _)))
      (@aR _ _))
      (@ag _ _ _ _ _ _ _ _ (@jt _ _ _ _ _ _ _ _ (¬0) (@fw _ _ _ _ _ _ _ _ rfl rfl (@aB _ _ _ _ _ _ _ _ (@av _ _ _ 1 _ nd rfl (Or.inl rfl) (by trivial)) (@aB _ _ _ _ _ _ _ _ (@av _ _ _ 2 _ nd rfl (Or.inl rfl) (by trivial)) (@du _ _) (by rfl)) (by rfl)) (aM (aM fj)) (by rfl) (by rfl)) (by rfl) (by rfl) (by rfl))
      (@am _ _ _ _ _ (@aw _ _ _ _ _ (@vE _ _ _ _ _ _ _ _ _ _ _ _ _ _ _ _ _ (@uq _ _) (@uq _ _) (@uq _ _) af (¬1) (¬2) (@i3 _ _ _ (V.int (100)) _ _ (PyData.int (100)) rfl m_MOST_BOTTOM ⟨_,rfl⟩ (fun _=>bK.mpr rfl) (by decide)) (by with_unfolding_all rfl)))))))
noncomputable def cL:FS:=(ay (eu (c7 (ax (bJ 2 bx (aa (ac 0) (aa (vC (.int 4)) ai)))))
    (a8 (vC (.bool false)))
    bQ)
    (ay (i8 (ac 0) (bS (aq (ah 2) (aq (ah 3) (aq (ah 4) (aq (ah 5) bI))))))
    (ay (eu (lu (c7 (ax (bJ 3 au (aa (ac 2) (aa (vC (.int 0)) (aa (ar iB (ac 1) (vC (.int 1))) ai)))))) (c7 (ax (bJ 3 au (aa (ac 3) (aa (ar ba (ac 2) (vC (.int 1))) (aa (ar iB (ac 1) (vC (.int 1))) ai)))))))
    (a8 (vC (.bool false)))
    bQ)
    (a8 (fY (bJ 1 cf (aa (ac 4) ai)) (bJ 3 au (aa (ac 5) (aa (vC (.int 0)) (aa (vC (.int (1000))) ai)))))))))
noncomputable def bB:FM:=gC 2 4 (([]++[])++(([2]++([3]++([4]++([5]++[]))))++(([]++[])++[]))) cL
theorem jb:az ["thing","things","one","other","chance","worth"] ["thing","things"] (aj dy):=⟨rfl,rfl,rfl,by decide+kernel,rfl,by decide+kernel,by decide+kernel⟩
theorem nh(h:a_ K mg "is_tie_row" dy f fd ["thing","things"])(T:iw mg){f_is_row_of:Addr}{e_is_row_of:FuncData}(h_is_row_of:a_ K mg "is_row_of" ci f_is_row_of e_is_row_of ["thing","many"])(G_is_row_of:aF P w K mg base bM 1 f_is_row_of e_is_row_of ["thing","many"] (bO K 2 bx)){f_is_chance:Addr}{e_is_chance:FuncData}(h_is_chance:a_ K mg "is_chance" el f_is_chance e_is_chance ["thing"])(G_is_chance:aF P w K mg base bM 4 f_is_chance e_is_chance ["thing"] (bO K 1 cf)){f_is_number_within:Addr}{e_is_number_within:FuncData}(h_is_number_within:a_ K mg "is_number_within" a9 f_is_number_within e_is_number_within ["thing","low","high"])(G_is_number_within:aF P w K mg base bM 2 f_is_number_within e_is_number_within ["thing","low","high"] (bO K 3 au)){t_MOST_WORTH:Tok}(m_MOST_WORTH:mg "MOST_WORTH"=some (.int (1000) t_MOST_WORTH)):aF P w K mg base bM 5 f fd ["thing","things"] (bO K 2 bB):=by
  have nd:=jb.nd
  exact h.fn jb rfl rfl (fun cdv A outer s H E hr=>(@ag _ _ _ _ _ _ _ _ (@bG _ _ _ _ _ _ _ _ _ _ _ (@cD _ _ _ _ _ (@b_ _ _ _ _ (@aT _ _ _ _ _ _ _ _ _ _ _ _ _ _ _ h_is_row_of G_is_row_of (hr.mono (by decide)) ((¬0)∘(af∘ae)) (by rfl) (by decide) (by rfl) (by rfl)) (by intro _;rfl)))
      (@am _ _ _ _ _ (@aw _ _ _ _ _ (@dr _ _ _ _ _)))
      (@aR _ _))
      (@ag _ _ _ _ _ _ _ _ (@jt _ _ _ _ _ _ _ _ (¬0) (@fw _ _ _ _ _ _ _ _ rfl rfl (@aB _ _ _ _ _ _ _ _ (@av _ _ _ 2 _ nd rfl (Or.inl rfl) (by trivial)) (@aB _ _ _ _ _ _ _ _ (@av _ _ _ 3 _ nd rfl (Or.inl rfl) (by trivial)) (@aB _ _ _ _ _ _ _ _ (@av _ _ _ 4 _ nd rfl (Or.inl rfl) (by trivial)) (@aB _ _ _ _ _ _ _ _ (@av _ _ _ 5 _ nd rfl (Or.inl rfl) (by trivial)) (@du _ _) (by rfl)) (by rfl)) (by rfl)) (by rfl)) (aM (aM (aM (aM fj)))) (by rfl) (by rfl)) (by rfl) (by rfl) (by rfl))
      (@ag _ _ _ _ _ _ _ _ (@bG _ _ _ _ _ _ _ _ _ _ _ (@nj _ _ _ _ (@iI _ _ _ _ _ _ _ _ (@cD _ _ _ _ _ (@b_ _ _ _ _ (@aT _ _ _ _ _ _ _ _ _ _ _ _ _ _ _ h_is_number_within G_is_number_within (hr.mono (by decide)) ((¬2)∘(af∘((@p5 _ _ _ _ _ _ _ (¬1) af)∘ae))) (by rfl) (by decide) (by rfl) (by rfl)) (by intro _;rfl))) (@hE _ _ _ _ _ (@cD _ _ _ _ _ (@b_ _ _ _ _ (@aT _ _ _ _ _ _ _ _ _ _ _ _ _ _ _ h_is_number_within G_is_number_within (hr.mono (by decide)) ((¬3)∘((@aS _ _ _ _ _ _ _ rfl (¬2) af)∘((@p5 _ _ _ _ _ _ _ (¬1) af)∘ae))) (by rfl) (by decide) (by rfl) (by rfl)) (by intro _;rfl))))))
      (@am _ _ _ _ _ (@aw _ _ _ _ _ (@dr _ _ _ _ _)))
      (@aR _ _))
      (@am _ _ _ _ _ (@aw _ _ _ _ _ (@my _ _ _ _ _ _ _ _ (@aT _ _ _ _ _ _ _ _ _ _ _ _ _ _ _ h_is_chance G_is_chance (hr.mono (by decide)) ((¬4)∘ae) (by rfl) (by decide) (by rfl) (by rfl)) (@mz _ _ _ _ _ _ (@aT _ _ _ _ _ _ _ _ _ _ _ _ _ _ _ h_is_number_within G_is_number_within (hr.mono (by decide)) ((¬5)∘(af∘((@i3 _ _ _ (V.int (1000)) _ _ (PyData.int (1000)) rfl m_MOST_WORTH ⟨_,rfl⟩ (fun _=>bK.mpr rfl) (by decide))∘ae))) (by rfl) (by decide) (by rfl) (by rfl))))))))))
noncomputable def kS:FI:=(jJ (ac 0))
noncomputable def fU:FE:=(bJ 2 bB (aa (ac 1) (aa (ac 0) ai)))
noncomputable def iU:FS:=(ay (eu (lu (c7 (ax (qr (kZ "tuple") (ac 0)))) (ax (ar sU (aI (g1 fL) (aa (ac 0) ai)) (vC (.int (16))))))
    (a8 (vC (.bool false)))
    bQ)
    (a8 (aI (g1 (kQ nQ)) (aa (ez [(1,"things")] 1 kS (ah 1) cJ fU) ai))))
noncomputable def dM:FM:=gC 2 0 (([]++[])++[]) iU
theorem mQ:az ["thing","things"] ["thing","things"] (aj eO):=⟨rfl,rfl,rfl,by decide+kernel,rfl,by decide+kernel,by decide+kernel⟩
theorem qV(h:a_ K mg "is_ties" eO f fd ["thing","things"])(T:iw mg){f_is_tie_row:Addr}{e_is_tie_row:FuncData}(h_is_tie_row:a_ K mg "is_tie_row" dy f_is_tie_row e_is_tie_row ["thing","things"])(G_is_tie_row:aF P w K mg base bM 5 f_is_tie_row e_is_tie_row ["thing","things"] (bO K 2 bB)){t_MOST_TIES:Tok}(m_MOST_TIES:mg "MOST_TIES"=some (.int (16) t_MOST_TIES)):aF P w K mg base bM 6 f fd ["thing","things"] (bO K 2 dM):=by
  have nd:=mQ.nd
  exact h.fn mQ rfl rfl (fun cdv A outer s H E hr=>(@ag _ _ _ _ _ _ _ _ (@bG _ _ _ _ _ _ _ _ _ _ _ (@nj _ _ _ _ (@iI _ _ _ _ _ _ _ _ (@cD _ _ _ _ _ (@b_ _ _ _ _ (@rZ _ _ _ _ _ _ _ _ "tuple" rfl (by decide) rfl T.b_isinstance rfl T.b_tuple PyProof.Rows.boot_tuple (by decide) (by decide) (¬0) (by rfl) (by rfl)) (by intro _;rfl))) (@hE _ _ _ _ _ (@bj _ _ _ _ _ _ _ _ _ (@sI _ _) (@aV _ _ _ _ _ _ _ _ _ (@b_len _ _ rfl) (by rfl) T.b_len ((¬0)∘ae) (by decide) (by decide) (by rfl) (by rfl)) (@i3 _ _ _ (V.int (16)) _ _ (PyData.int (16)) rfl m_MOST_TIES ⟨_,rfl⟩ (fun _=>bK.mpr rfl) (by decide)) (aX _)))))
      (@am _ _ _ _ _ (@aw _ _ _ _ _ (@dr _ _ _ _ _)))
      (@aR _ _))
      (@am _ _ _ _ _ (@aw _ _ _ _ _ (@aV _ _ _ _ _ _ _ _ _ (@b_all _ _ _ rfl hr) (by rfl) T.b_all ((@iH _ _ _ _ _ _ _ _ _ _ _ _ _ (aj eO) ["thing","things"] [(1,"things")] ["part"] rfl rfl rfl (@fx _ _ _ _ _ rfl (¬0))
        (fun C s0 H0 fp=>(@av _ _ _ 1 _ (show List.Nodup (["things","part"]:List Str) by decide+kernel) rfl (Or.inl rfl) (by trivial))) (fun C s0 H0 fp=>(@g_ _ _))
        (fun C s0 H0 fp=>(@aT _ _ _ _ _ _ _ _ _ _ _ _ _ _ _ h_is_tie_row G_is_tie_row (hr.mono (by decide)) ((¬1)∘((¬0)∘ae)) (by rfl) (by decide) (by rfl) (by rfl))) rfl (by decide+kernel) (by decide+kernel) (by decide+kernel) (by decide+kernel) (by decide+kernel) (by decide+kernel) (by decide+kernel) (by intro _;rfl))∘ae) (by decide) (by decide) (by rfl) (by rfl))))))
noncomputable def ik:FI:=(jJ (ac 0))
noncomputable def cT:FE:=(bJ 3 au (aa (ac 0) (aa (vC (.int 0)) (aa (vC (.int (20))) ai))))
noncomputable def dS:FS:=(ay (eu (c7 (ax (bJ 2 bx (aa (ac 0) (aa (ac 1) ai)))))
    (a8 (vC (.bool false)))
    bQ)
    (a8 (aI (g1 (kQ nQ)) (aa (ez [] 1 ik (ah 0) cJ cT) ai))))
noncomputable def bP:FM:=gC 2 0 (([]++[])++[]) dS
theorem iO:az ["thing","things"] ["thing","things"] (aj cy):=⟨rfl,rfl,rfl,by decide+kernel,rfl,by decide+kernel,by decide+kernel⟩
theorem mr(h:a_ K mg "is_patience" cy f fd ["thing","things"])(T:iw mg){f_is_row_of:Addr}{e_is_row_of:FuncData}(h_is_row_of:a_ K mg "is_row_of" ci f_is_row_of e_is_row_of ["thing","many"])(G_is_row_of:aF P w K mg base bM 1 f_is_row_of e_is_row_of ["thing","many"] (bO K 2 bx)){f_is_number_within:Addr}{e_is_number_within:FuncData}(h_is_number_within:a_ K mg "is_number_within" a9 f_is_number_within e_is_number_within ["thing","low","high"])(G_is_number_within:aF P w K mg base bM 2 f_is_number_within e_is_number_within ["thing","low","high"] (bO K 3 au)){t_MOST_PATIENCE:Tok}(m_MOST_PATIENCE:mg "MOST_PATIENCE"=some (.int (20) t_MOST_PATIENCE)):aF P w K mg base bM 3 f fd ["thing","things"] (bO K 2 bP):=by
  have nd:=iO.nd
  exact h.fn iO rfl rfl (fun cdv A outer s H E hr=>(@ag _ _ _ _ _ _ _ _ (@bG _ _ _ _ _ _ _ _ _ _ _ (@cD _ _ _ _ _ (@b_ _ _ _ _ (@aT _ _ _ _ _ _ _ _ _ _ _ _ _ _ _ h_is_row_of G_is_row_of (hr.mono (by decide)) ((¬0)∘((¬1)∘ae)) (by rfl) (by decide) (by rfl) (by rfl)) (by intro _;rfl)))
      (@am _ _ _ _ _ (@aw _ _ _ _ _ (@dr _ _ _ _ _)))
      (@aR _ _))
      (@am _ _ _ _ _ (@aw _ _ _ _ _ (@aV _ _ _ _ _ _ _ _ _ (@b_all _ _ _ rfl hr) (by rfl) T.b_all ((@iH _ _ _ _ _ _ _ _ _ _ _ _ _ (aj cy) ["thing","things"] [] ["part"] rfl rfl rfl (@fx _ _ _ _ _ rfl (¬0))
        (fun C s0 H0 fp=>(@av _ _ _ 0 _ (show List.Nodup (["part"]:List Str) by decide+kernel) rfl (Or.inl rfl) (by trivial))) (fun C s0 H0 fp=>(@g_ _ _))
        (fun C s0 H0 fp=>(@aT _ _ _ _ _ _ _ _ _ _ _ _ _ _ _ h_is_number_within G_is_number_within (hr.mono (by decide)) ((¬0)∘(af∘((@i3 _ _ _ (V.int (20)) _ _ (PyData.int (20)) rfl m_MOST_PATIENCE ⟨_,rfl⟩ (fun _=>bK.mpr rfl) (by decide))∘ae))) (by rfl) (by decide) (by rfl) (by rfl))) rfl (by decide+kernel) (by decide+kernel) (by decide+kernel) (by decide+kernel) (by decide+kernel) (by decide+kernel) (by decide+kernel) (by intro _;rfl))∘ae) (by decide) (by decide) (by rfl) (by rfl))))))
noncomputable def gy:FS:=(ay (eu (c7 (ax (bJ 2 bx (aa (ac 0) (aa (vC (.int 4)) ai)))))
    (a8 (vC (.bool false)))
    bQ)
    (ay (i8 (ac 0) (bS (aq (ah 1) (aq (ah 2) (aq (ah 3) (aq (ah 4) bI))))))
    (ay (eu (lu (c7 (ax (bJ 3 au (aa (ac 1) (aa (vC (.int 0)) (aa (vC (.int (12))) ai)))))) (c7 (ax (bJ 3 au (aa (ac 4) (aa (vC (.int 0)) (aa (vC (.int (40))) ai)))))))
    (a8 (vC (.bool false)))
    bQ)
    (a8 (fY (bJ 2 dM (aa (ac 2) (aa (ac 1) ai))) (bJ 2 bP (aa (ac 3) (aa (ac 1) ai))))))))
noncomputable def bN:FM:=gC 1 4 (([]++[])++(([1]++([2]++([3]++([4]++[]))))++(([]++[])++[]))) gy
theorem oh:az ["thing","things","ties","patience","asks"] ["thing"] (aj fD):=⟨rfl,rfl,rfl,by decide+kernel,rfl,by decide+kernel,by decide+kernel⟩
theorem tH(h:a_ K mg "is_web" fD f fd ["thing"])(T:iw mg){f_is_row_of:Addr}{e_is_row_of:FuncData}(h_is_row_of:a_ K mg "is_row_of" ci f_is_row_of e_is_row_of ["thing","many"])(G_is_row_of:aF P w K mg base bM 1 f_is_row_of e_is_row_of ["thing","many"] (bO K 2 bx)){f_is_ties:Addr}{e_is_ties:FuncData}(h_is_ties:a_ K mg "is_ties" eO f_is_ties e_is_ties ["thing","things"])(G_is_ties:aF P w K mg base bM 6 f_is_ties e_is_ties ["thing","things"] (bO K 2 dM)){f_is_patience:Addr}{e_is_patience:FuncData}(h_is_patience:a_ K mg "is_patience" cy f_is_patience e_is_patience ["thing","things"])(G_is_patience:aF P w K mg base bM 3 f_is_patience e_is_patience ["thing","things"] (bO K 2 bP)){f_is_number_within:Addr}{e_is_number_within:FuncData}(h_is_number_within:a_ K mg "is_number_within" a9 f_is_number_within e_is_number_within ["thing","low","high"])(G_is_number_within:aF P w K mg base bM 2 f_is_number_within e_is_number_within ["thing","low","high"] (bO K 3 au)){t_MOST_THINGS:Tok}(m_MOST_THINGS:mg "MOST_THINGS"=some (.int (12) t_MOST_THINGS)){t_MOST_ASKS:Tok}(m_MOST_ASKS:mg "MOST_ASKS"=some (.int (40) t_MOST_ASKS)):aF P w K mg base bM 7 f fd ["thing"] (bO K 1 bN):=by
  have nd:=oh.nd
  exact h.fn oh rfl rfl (fun cdv A outer s H E hr=>(@ag _ _ _ _ _ _ _ _ (@bG _ _ _ _ _ _ _ _ _ _ _ (@cD _ _ _ _ _ (@b_ _ _ _ _ (@aT _ _ _ _ _ _ _ _ _ _ _ _ _ _ _ h_is_row_of G_is_row_of (hr.mono (by decide)) ((¬0)∘(af∘ae)) (by rfl) (by decide) (by rfl) (by rfl)) (by intro _;rfl)))
      (@am _ _ _ _ _ (@aw _ _ _ _ _ (@dr _ _ _ _ _)))
      (@aR _ _))
      (@ag _ _ _ _ _ _ _ _ (@jt _ _ _ _ _ _ _ _ (¬0) (@fw _ _ _ _ _ _ _ _ rfl rfl (@aB _ _ _ _ _ _ _ _ (@av _ _ _ 1 _ nd rfl (Or.inl rfl) (by trivial)) (@aB _ _ _ _ _ _ _ _ (@av _ _ _ 2 _ nd rfl (Or.inl rfl) (by trivial)) (@aB _ _ _ _ _ _ _ _ (@av _ _ _ 3 _ nd rfl (Or.inl rfl) (by trivial)) (@aB _ _ _ _ _ _ _ _ (@av _ _ _ 4 _ nd rfl (Or.inl rfl) (by trivial)) (@du _ _) (by rfl)) (by rfl)) (by rfl)) (by rfl)) (aM (aM (aM (aM fj)))) (by rfl) (by rfl)) (by rfl) (by rfl) (by rfl))
      (@ag _ _ _ _ _ _ _ _ (@bG _ _ _ _ _ _ _ _ _ _ _ (@nj _ _ _ _ (@iI _ _ _ _ _ _ _ _ (@cD _ _ _ _ _ (@b_ _ _ _ _ (@aT _ _ _ _ _ _ _ _ _ _ _ _ _ _ _ h_is_number_within G_is_number_within (hr.mono (by decide)) ((¬1)∘(af∘((@i3 _ _ _ (V.int (12)) _ _ (PyData.int (12)) rfl m_MOST_THINGS ⟨_,rfl⟩ (fun _=>bK.mpr rfl) (by decide))∘ae))) (by rfl) (by decide) (by rfl) (by rfl)) (by intro _;rfl))) (@hE _ _ _ _ _ (@cD _ _ _ _ _ (@b_ _ _ _ _ (@aT _ _ _ _ _ _ _ _ _ _ _ _ _ _ _ h_is_number_within G_is_number_within (hr.mono (by decide)) ((¬4)∘(af∘((@i3 _ _ _ (V.int (40)) _ _ (PyData.int (40)) rfl m_MOST_ASKS ⟨_,rfl⟩ (fun _=>bK.mpr rfl) (by decide))∘ae))) (by rfl) (by decide) (by rfl) (by rfl)) (by intro _;rfl))))))
      (@am _ _ _ _ _ (@aw _ _ _ _ _ (@dr _ _ _ _ _)))
      (@aR _ _))
      (@am _ _ _ _ _ (@aw _ _ _ _ _ (@my _ _ _ _ _ _ _ _ (@aT _ _ _ _ _ _ _ _ _ _ _ _ _ _ _ h_is_ties G_is_ties (hr.mono (by decide)) ((¬2)∘((¬1)∘ae)) (by rfl) (by decide) (by rfl) (by rfl)) (@mz _ _ _ _ _ _ (@aT _ _ _ _ _ _ _ _ _ _ _ _ _ _ _ h_is_patience G_is_patience (hr.mono (by decide)) ((¬3)∘((¬1)∘ae)) (by rfl) (by decide) (by rfl) (by rfl))))))))))
noncomputable def fm:FI:=(jJ (ar bR (ac 1) (vC (.int 1))))
noncomputable def cX:FE:=(bU (aa (ar ba (ac 1) (ar bR (ac 0) (vC (.int 0)))) (aa (ar ba (ac 2) (ar bR (ac 0) (vC (.int 0)))) (aa (ac 3) (aa (ac 4) ai)))))
noncomputable def pH:FS:=(ay (bg 2 (aI (g1 bY) (aa (ez [(0,"one")] 4 fm (bS (aq (ah 1) (aq (ah 2) (aq (ah 3) (aq (ah 4) bI))))) cJ cX) ai)))
    (ay (bg 3 (bU (aa (ar ba (ar bR (ac 0) (vC (.int 0))) (ar bR (ac 1) (vC (.int 0)))) (aa (ar ba (ar bR (ac 0) (vC (.int 1))) (ac 2)) (aa (ar ba (ar bR (ac 0) (vC (.int 2))) (ar bR (ac 1) (vC (.int 2)))) (aa (ar ba (ar bR (ac 0) (vC (.int 3))) (ar bR (ac 1) (vC (.int 3)))) ai))))))
    (ay (eu (c7 (ax (bJ 1 bN (aa (ac 3) ai))))
    y8
    bQ)
    (a8 (ac 3)))))
noncomputable def eh:FM:=gC 2 2 ([2]++([3]++(([]++[])++[]))) pH
theorem i4:az ["one","other","moved","web"] ["one","other"] (aj dw):=⟨rfl,rfl,rfl,by decide+kernel,rfl,by decide+kernel,by decide+kernel⟩
theorem tG(h:a_ K mg "beside" dw f fd ["one","other"])(T:iw mg){f_is_web:Addr}{e_is_web:FuncData}(h_is_web:a_ K mg "is_web" fD f_is_web e_is_web ["thing"])(G_is_web:aF P w K mg base bM 7 f_is_web e_is_web ["thing"] (bO K 1 bN)):aF P w K mg base bM 8 f fd ["one","other"] (bO K 2 eh):=by
  have nd:=i4.nd
  exact h.fn i4 rfl rfl (fun cdv A outer s H E hr=>(@ag _ _ _ _ _ _ _ _ (@aC _ _ _ _ _ 2 _ _ nd rfl (Or.inl rfl) (@aV _ _ _ _ _ _ _ _ _ (@b_tuple _ _ rfl) (by rfl) T.b_tuple ((@iH _ _ _ _ _ _ _ _ _ _ _ _ _ (aj dw) ["one","other","moved","web"] [(0,"one")] ["low","high","chance","worth"] rfl rfl rfl (@fx _ _ _ _ _ rfl (@aY _ _ _ _ _ _ _ rfl (¬1) af (fun _ _=>rfl)))
        (fun C s0 H0 fp=>(@fw _ _ _ _ _ _ _ _ rfl rfl (@aB _ _ _ _ _ _ _ _ (@av _ _ _ 1 _ (show List.Nodup (["one","low","high","chance","worth"]:List Str) by decide+kernel) rfl (Or.inl rfl) (by trivial)) (@aB _ _ _ _ _ _ _ _ (@av _ _ _ 2 _ (show List.Nodup (["one","low","high","chance","worth"]:List Str) by decide+kernel) rfl (Or.inl rfl) (by trivial)) (@aB _ _ _ _ _ _ _ _ (@av _ _ _ 3 _ (show List.Nodup (["one","low","high","chance","worth"]:List Str) by decide+kernel) rfl (Or.inl rfl) (by trivial)) (@aB _ _ _ _ _ _ _ _ (@av _ _ _ 4 _ (show List.Nodup (["one","low","high","chance","worth"]:List Str) by decide+kernel) rfl (Or.inl rfl) (by trivial)) (@du _ _) (by rfl)) (by rfl)) (by rfl)) (by rfl)) (aM (aM (aM (aM fj)))) (by rfl) (by rfl))) (fun C s0 H0 fp=>(@g_ _ _))
        (fun C s0 H0 fp=>(@bf _ _ _ _ _ _ ((@aS _ _ _ _ _ _ _ rfl (¬1) (@aY _ _ _ _ _ _ _ rfl (¬0) af (fun _ _=>rfl)))∘((@aS _ _ _ _ _ _ _ rfl (¬2) (@aY _ _ _ _ _ _ _ rfl (¬0) af (fun _ _=>rfl)))∘((¬3)∘((¬4)∘ae)))))) rfl (by decide+kernel) (by decide+kernel) (by decide+kernel) (by decide+kernel) (by decide+kernel) (by decide+kernel) (by decide+kernel) (by intro _;rfl))∘ae) (by decide) (by decide) (by rfl) (by rfl)) (by rfl) (by trivial))
      (@ag _ _ _ _ _ _ _ _ (@aC _ _ _ _ _ 3 _ _ nd rfl (Or.inl rfl) (@bf _ _ _ _ _ _ ((@aS _ _ _ _ _ _ _ rfl (@aY _ _ _ _ _ _ _ rfl (¬0) af (fun _ _=>rfl)) (@aY _ _ _ _ _ _ _ rfl (¬1) af (fun _ _=>rfl)))∘((@aS _ _ _ _ _ _ _ rfl (@aY _ _ _ _ _ _ _ rfl (¬0) af (fun _ _=>rfl)) (¬2))∘((@aS _ _ _ _ _ _ _ rfl (@aY _ _ _ _ _ _ _ rfl (¬0) af (fun _ _=>rfl)) (@aY _ _ _ _ _ _ _ rfl (¬1) af (fun _ _=>rfl)))∘((@aS _ _ _ _ _ _ _ rfl (@aY _ _ _ _ _ _ _ rfl (¬0) af (fun _ _=>rfl)) (@aY _ _ _ _ _ _ _ rfl (¬1) af (fun _ _=>rfl)))∘ae))))) (by rfl) (by trivial))
      (@ag _ _ _ _ _ _ _ _ (@bG _ _ _ _ _ _ _ _ _ _ _ (@cD _ _ _ _ _ (@b_ _ _ _ _ (@aT _ _ _ _ _ _ _ _ _ _ _ _ _ _ _ h_is_web G_is_web (hr.mono (by decide)) ((¬3)∘ae) (by rfl) (by decide) (by rfl) (by rfl)) (by intro _;rfl)))
      (@am _ _ _ _ _ (@xZ _ _ _))
      (@aR _ _))
      (@am _ _ _ _ _ (@aw _ _ _ _ _ (¬3)))))))
def l7:En→Prop:=fun e=>∃e1,(bg 2 (aI (g1 bY) (aa (ez [(0,"one")] 4 fm (bS (aq (ah 1) (aq (ah 2) (aq (ah 3) (aq (ah 4) bI))))) cJ cX) ai))) e=some (.nx e1)∧mf e1=true∧(fun e=>∃e1,(bg 3 (bU (aa (ar ba (ar bR (ac 0) (vC (.int 0))) (ar bR (ac 1) (vC (.int 0)))) (aa (ar ba (ar bR (ac 0) (vC (.int 1))) (ac 2)) (aa (ar ba (ar bR (ac 0) (vC (.int 2))) (ar bR (ac 1) (vC (.int 2)))) (aa (ar ba (ar bR (ac 0) (vC (.int 3))) (ar bR (ac 1) (vC (.int 3)))) ai)))))) e=some (.nx e1)∧mf e1=true∧(fun e=>∃e',(c7 (ax (bJ 1 bN (aa (ac 3) ai)))) e=some (true,e')) e1) e1
theorem qW(h:a_ K mg "beside" dw f fd ["one","other"])(T:iw mg){f_is_web:Addr}{e_is_web:FuncData}(h_is_web:a_ K mg "is_web" fD f_is_web e_is_web ["thing"])(G_is_web:aF P w K mg base bM 7 f_is_web e_is_web ["thing"] (bO K 1 bN)){C:Addr}(m_TooMany:mg "TooMany"=some (.ref C))(x_TooMany:W.excIn K C wm "ValueError.__new__"=true):aF P w K mg base (zb P w C) 8 f fd ["one","other"] (Bh K 2 2 l7):=by
  have nd:=i4.nd
  exact h.fnR i4 rfl rfl (fun cdv A outer s H E hr=>(sd (PS.nox (@aC _ _ _ _ _ 2 _ _ nd rfl (Or.inl rfl) (@aV _ _ _ _ _ _ _ _ _ (@b_tuple _ _ rfl) (by rfl) T.b_tuple ((@iH _ _ _ _ _ _ _ _ _ _ _ _ _ (aj dw) ["one","other","moved","web"] [(0,"one")] ["low","high","chance","worth"] rfl rfl rfl (@fx _ _ _ _ _ rfl (@aY _ _ _ _ _ _ _ rfl (¬1) af (fun _ _=>rfl)))
        (fun C s0 H0 fp=>(@fw _ _ _ _ _ _ _ _ rfl rfl (@aB _ _ _ _ _ _ _ _ (@av _ _ _ 1 _ (show List.Nodup (["one","low","high","chance","worth"]:List Str) by decide+kernel) rfl (Or.inl rfl) (by trivial)) (@aB _ _ _ _ _ _ _ _ (@av _ _ _ 2 _ (show List.Nodup (["one","low","high","chance","worth"]:List Str) by decide+kernel) rfl (Or.inl rfl) (by trivial)) (@aB _ _ _ _ _ _ _ _ (@av _ _ _ 3 _ (show List.Nodup (["one","low","high","chance","worth"]:List Str) by decide+kernel) rfl (Or.inl rfl) (by trivial)) (@aB _ _ _ _ _ _ _ _ (@av _ _ _ 4 _ (show List.Nodup (["one","low","high","chance","worth"]:List Str) by decide+kernel) rfl (Or.inl rfl) (by trivial)) (@du _ _) (by rfl)) (by rfl)) (by rfl)) (by rfl)) (aM (aM (aM (aM fj)))) (by rfl) (by rfl))) (fun C s0 H0 fp=>(@g_ _ _))
        (fun C s0 H0 fp=>(@bf _ _ _ _ _ _ ((@aS _ _ _ _ _ _ _ rfl (¬1) (@aY _ _ _ _ _ _ _ rfl (¬0) af (fun _ _=>rfl)))∘((@aS _ _ _ _ _ _ _ rfl (¬2) (@aY _ _ _ _ _ _ _ rfl (¬0) af (fun _ _=>rfl)))∘((¬3)∘((¬4)∘ae)))))) rfl (by decide+kernel) (by decide+kernel) (by decide+kernel) (by decide+kernel) (by decide+kernel) (by decide+kernel) (by decide+kernel) (by intro _;rfl))∘ae) (by decide) (by decide) (by rfl) (by rfl)) (by rfl) (by trivial)))
      (sd (PS.nox (@aC _ _ _ _ _ 3 _ _ nd rfl (Or.inl rfl) (@bf _ _ _ _ _ _ ((@aS _ _ _ _ _ _ _ rfl (@aY _ _ _ _ _ _ _ rfl (¬0) af (fun _ _=>rfl)) (@aY _ _ _ _ _ _ _ rfl (¬1) af (fun _ _=>rfl)))∘((@aS _ _ _ _ _ _ _ rfl (@aY _ _ _ _ _ _ _ rfl (¬0) af (fun _ _=>rfl)) (¬2))∘((@aS _ _ _ _ _ _ _ rfl (@aY _ _ _ _ _ _ _ rfl (¬0) af (fun _ _=>rfl)) (@aY _ _ _ _ _ _ _ rfl (¬1) af (fun _ _=>rfl)))∘((@aS _ _ _ _ _ _ _ rfl (@aY _ _ _ _ _ _ _ rfl (¬0) af (fun _ _=>rfl)) (@aY _ _ _ _ _ _ _ rfl (¬1) af (fun _ _=>rfl)))∘ae))))) (by rfl) (by trivial)))
      (B' (PT.nox (@cD _ _ _ _ _ (@b_ _ _ _ _ (@aT _ _ _ _ _ _ _ _ _ _ _ _ _ _ _ h_is_web G_is_web (hr.mono (by decide)) ((¬3)∘ae) (by rfl) (by decide) (by rfl) (by rfl)) (by intro _;rfl)))) (PS.mono (vB rfl rfl m_TooMany x_TooMany vN (bu Ag g9 rfl) (by decide) rfl) (fun _ _ _ kp=>⟨(show 1≤sizeLine by decide),kp⟩))))))
noncomputable def gz:FI:=(jJ (ac 2))
noncomputable def bX:FE:=(ar ba (ac 1) (aI (g1 fL) (aa (ar bR (ac 0) (vC (.int 1))) ai)))
noncomputable def iy:FS:=(a8 (ar ba (ac 1) (aI (g1 bY) (aa (ez [(0,"one")] 1 gz (ah 1) cJ bX) ai))))
noncomputable def b7:FM:=gC 3 0 [] iy
theorem iq:az ["one","order","other_order"] ["one","order","other_order"] (aj ce):=⟨rfl,rfl,rfl,by decide+kernel,rfl,by decide+kernel,by decide+kernel⟩
theorem k9(h:a_ K mg "order_beside" ce f fd ["one","order","other_order"])(T:iw mg):aF P w K mg base bM 1 f fd ["one","order","other_order"] (bO K 3 b7):=by
  have nd:=iq.nd
  exact h.fn iq rfl rfl (fun cdv A outer s H E hr=>(@am _ _ _ _ _ (@aw _ _ _ _ _ (@aS _ _ _ _ _ _ _ rfl (¬1) (@aV _ _ _ _ _ _ _ _ _ (@b_tuple _ _ rfl) (by rfl) T.b_tuple ((@iH _ _ _ _ _ _ _ _ _ _ _ _ _ (aj ce) ["one","order","other_order"] [(0,"one")] ["tie"] rfl rfl rfl (@fx _ _ _ _ _ rfl (¬2))
        (fun C s0 H0 fp=>(@av _ _ _ 1 _ (show List.Nodup (["one","tie"]:List Str) by decide+kernel) rfl (Or.inl rfl) (by trivial))) (fun C s0 H0 fp=>(@g_ _ _))
        (fun C s0 H0 fp=>(@aS _ _ _ _ _ _ _ rfl (¬1) (@aV _ _ _ _ _ _ _ _ _ (@b_len _ _ rfl) (by rfl) T.b_len ((@aY _ _ _ _ _ _ _ rfl (¬0) af (fun _ _=>rfl))∘ae) (by decide) (by decide) (by rfl) (by rfl)))) rfl (by decide+kernel) (by decide+kernel) (by decide+kernel) (by decide+kernel) (by decide+kernel) (by decide+kernel) (by decide+kernel) (by intro _;rfl))∘ae) (by decide) (by decide) (by rfl) (by rfl))))))
noncomputable def rF:FS:=(ay (bg 2 (ar a7 (ar ba (ar ba (ar lZ (ar a7 (ac 0) (vC (.int 2147483647))) (vC (.int 48271))) (ar lZ (ar lZ (vC (.int 7919)) (ac 1)) (ac 1))) (vC (.int 104729))) (vC (.int 2147483647))))
    (a8 (ar a7 (ar lZ (ac 2) (ac 2)) (vC (.int 2147483629)))))
noncomputable def iY:FM:=gC 2 1 ([2]++[]) rF
theorem qd:az ["_law_cell","_law_k","_law_number"] ["_law_cell","_law_k"] (aj jX):=⟨rfl,rfl,rfl,by decide+kernel,rfl,by decide+kernel,by decide+kernel⟩
theorem vf(h:a_ K mg "_law_mixed" jX f fd ["_law_cell","_law_k"])(T:iw mg):aF P w K mg base bM 1 f fd ["_law_cell","_law_k"] (bO K 2 iY):=by
  have nd:=qd.nd
  exact h.fn qd rfl rfl (fun cdv A outer s H E hr=>(@ag _ _ _ _ _ _ _ _ (@aC _ _ _ _ _ 2 _ _ nd rfl (Or.inl rfl) (@aZ _ _ _ _ _ _ _ (@aS _ _ _ _ _ _ _ rfl (@aS _ _ _ _ _ _ _ rfl (@n5 _ _ _ _ _ _ _ rfl (@aZ _ _ _ _ _ _ _ (¬0) af) af) (@n5 _ _ _ _ _ _ _ rfl (@n5 _ _ _ _ _ _ _ rfl af (¬1)) (¬1))) af) af) (by rfl) (by trivial))
      (@am _ _ _ _ _ (@aw _ _ _ _ _ (@aZ _ _ _ _ _ _ _ (@n5 _ _ _ _ _ _ _ rfl (¬2) (¬2)) af)))))
noncomputable def eI:FT:=(m5 (ax (ar zy (ac 3) (ar qJ (vC (.int 10)) (vC (.int 18))))) (ax (ar ww (aI (g1 fL) (aa (ac 1) ai)) (vC (.int 900)))))
noncomputable def iT:FS:=(ay (ej (cK bA (ac 1) (aa (ar a7 (ac 3) (vC (.int 2147483629))) ai)))
    (bg 3 (ar ed (ac 3) (vC (.int 2147483629)))))
noncomputable def iW:FI:=(dn (aa (vC (.int 12)) ai))
noncomputable def gu:FS:=(ej (cK bA (ac 1) (aa (bJ 2 iY (aa (bJ 2 iY (aa (ac 3) (aa (ar ba (ar lZ (vC (.int 3)) (ac 4)) (vC (.int 1))) ai))) (aa (ar ba (ar ba (ac 4) (ac 2)) (vC (.int 2))) ai))) ai)))
noncomputable def kf:FI:=(dn (aa (aI (g2 oR) (aa (aI (g1 fL) (aa (ac 0) ai)) (aa (vC (.int 63)) ai))) ai))
noncomputable def eG:FS:=(ay (bg 3 (aI (g1 qI) (aa (ar bR (ac 0) (ac 2)) ai)))
    (ay (eu (ax (ar ww (ac 3) (ar qJ (vC (.int 10)) (vC (.int 18)))))
    (eE ([4]++[]) iW (ah 4) gu)
    bQ)
    (ay (jv (2 ^ 4200) eI iT)
    (eu (ax (ar zy (ac 3) (vC (.int 2147483629))))
    (ej (cK bA (ac 1) (aa (ar a7 (ac 3) (vC (.int 2147483629))) ai)))
    bQ))))
noncomputable def rE:FS:=(ay (bg 1 (eF ai))
    (ay (eE ([2]++([3]++((([4]++[])++[])++(([]++[3])++([]++[]))))) kf (ah 2) eG)
    (a8 (ac 1))))
noncomputable def jM:FM:=gC 1 4 ([1]++(([2]++([3]++((([4]++[])++[])++(([]++[3])++([]++[])))))++[])) rE
theorem qc:az ["_law_script","_law_drawn","_law_k","_law_cell","_law_j"] ["_law_script"] (aj jW):=⟨rfl,rfl,rfl,by decide+kernel,rfl,by decide+kernel,by decide+kernel⟩
theorem ve(h:a_ K mg "_law_draws" jW f fd ["_law_script"])(T:iw mg){fLmixed:Addr}{eLmixed:FuncData}(hLmixed:a_ K mg "_law_mixed" jX fLmixed eLmixed ["_law_cell","_law_k"])(GLmixed:aF P w K mg base bM 1 fLmixed eLmixed ["_law_cell","_law_k"] (bO K 2 iY)):aF P w K mg base bM 2 f fd ["_law_script"] (bO K 1 jM):=by
  have nd:=qc.nd
  exact h.fn qc rfl rfl (fun cdv A outer s H E hr=>(@ag _ _ _ _ _ _ _ _ (@aC _ _ _ _ _ 1 _ _ nd rfl (Or.inl rfl) (@dt _ _ _ _ _ ae) (by rfl) (by trivial))
      (@ag _ _ _ _ _ _ _ _ (@gp _ _ _ _ _ _ _ _ _ _ _ PassesOwn.never rfl (@dO _ _ _ _ _ _ _ rfl T.b_range ((@aV _ _ _ _ _ _ _ _ _ (@b_min _ _ rfl) (by rfl) T.b_min ((@aV _ _ _ _ _ _ _ _ _ (@b_len _ _ rfl) (by rfl) T.b_len ((¬0)∘ae) (by decide) (by decide) (by rfl) (by rfl))∘(af∘ae)) (by decide) (by decide) (by rfl) (by rfl))∘ae) (by rfl)) (@av _ _ _ 2 _ nd rfl (Or.inl rfl) (by trivial))
      (@ag _ _ _ _ _ _ _ _ (@aC _ _ _ _ _ 3 _ _ nd rfl (Or.inl rfl) (@aV _ _ _ _ _ _ _ _ _ (@b_abs _ _) (by rfl) T.b_abs ((@aY _ _ _ _ _ _ _ rfl (¬0) (¬2) (fun _ _=>rfl))∘ae) (by decide) (by decide) (by rfl) (by rfl)) (by rfl) (by trivial))
      (@ag _ _ _ _ _ _ _ _ (@bG _ _ _ _ _ _ _ _ _ _ _ (@bj _ _ _ _ _ _ _ _ _ (@sJ _ _) (¬3) (@yX _ _ _ _ _ _ _ af af) (aX _))
      (@am _ _ _ _ _ (@gp _ _ _ _ _ _ _ _ _ _ _ PassesOwn.never rfl (@dO _ _ _ _ _ _ _ rfl T.b_range (af∘ae) (by rfl)) (@av _ _ _ 4 _ nd rfl (Or.inl rfl) (by trivial))
      (@am _ _ _ _ _ (@eD _ _ _ _ _ (@dq _ _ _ _ _ _ _ _ _ rfl (¬1) ((@aT _ _ _ _ _ _ _ _ _ _ _ _ _ _ _ hLmixed GLmixed (hr.mono (by decide)) ((@aT _ _ _ _ _ _ _ _ _ _ _ _ _ _ _ hLmixed GLmixed (hr.mono (by decide)) ((¬3)∘((@aS _ _ _ _ _ _ _ rfl (@n5 _ _ _ _ _ _ _ rfl af (¬4)) af)∘ae)) (by rfl) (by decide) (by rfl) (by rfl))∘((@aS _ _ _ _ _ _ _ rfl (@aS _ _ _ _ _ _ _ rfl (¬4) (¬2)) af)∘ae)) (by rfl) (by decide) (by rfl) (by rfl))∘ae) (by rfl) (by rfl) (by rfl) (by rfl) (by rfl)) (by rfl))) (by intro _;rfl)))
      (@aR _ _))
      (@ag _ _ _ _ _ _ _ _ (@mE _ _ _ _ _ _ _ _ _ PassesOwn.never (@nj _ _ _ _ (@Aw _ _ _ _ _ _ _ _ (@bj _ _ _ _ _ _ _ _ _ (@wM _ _) (¬3) (@yX _ _ _ _ _ _ _ af af) (aX _)) (@x5 _ _ _ _ _ (@bj _ _ _ _ _ _ _ _ _ (@sJ _ _) (@aV _ _ _ _ _ _ _ _ _ (@b_len _ _ rfl) (by rfl) T.b_len ((¬1)∘ae) (by decide) (by decide) (by rfl) (by rfl)) af (aX _)))))
      (@ag _ _ _ _ _ _ _ _ (@eD _ _ _ _ _ (@dq _ _ _ _ _ _ _ _ _ rfl (¬1) ((@aZ _ _ _ _ _ _ _ (¬3) af)∘ae) (by rfl) (by rfl) (by rfl) (by rfl) (by rfl)) (by rfl))
      (@am _ _ _ _ _ (@aC _ _ _ _ _ 3 _ _ nd rfl (Or.inl rfl) (@gk _ _ _ _ _ _ _ (¬3) af) (by rfl) (by trivial)))))
      (@am _ _ _ _ _ (@bG _ _ _ _ _ _ _ _ _ _ _ (@bj _ _ _ _ _ _ _ _ _ (@wM _ _) (¬3) af (aX _))
      (@am _ _ _ _ _ (@eD _ _ _ _ _ (@dq _ _ _ _ _ _ _ _ _ rfl (¬1) ((@aZ _ _ _ _ _ _ _ (¬3) af)∘ae) (by rfl) (by rfl) (by rfl) (by rfl) (by rfl)) (by rfl)))
      (@aR _ _)))))) (by intro _;rfl))
      (@am _ _ _ _ _ (@aw _ _ _ _ _ (¬1))))))
noncomputable def qB:FS:=(ay (eu (ax (ar (cQ false) (ac 0) (eF ai)))
    (a8 (vC (.int 0)))
    bQ)
    (a8 (cK en (ac 0) (aa (vC (.int 0)) ai))))
noncomputable def bc:FM:=gC 1 0 (([]++[])++[]) qB
theorem sj:az ["_law_drawn"] ["_law_drawn"] (aj hR):=⟨rfl,rfl,rfl,by decide+kernel,rfl,by decide+kernel,by decide+kernel⟩
theorem xr(h:a_ K mg "_law_next" hR f fd ["_law_drawn"])(T:iw mg):aF P w K mg base bM 1 f fd ["_law_drawn"] (bO K 1 bc):=by
  have nd:=sj.nd
  exact h.fn sj rfl rfl (fun cdv A outer s H E hr=>(@ag _ _ _ _ _ _ _ _ (@bG _ _ _ _ _ _ _ _ _ _ _ (@bj _ _ _ _ _ _ _ _ _ (@lF _ _ _ rfl hr) (¬0) (@dt _ _ _ _ _ ae) (aX _))
      (@am _ _ _ _ _ (@aw _ _ _ _ _ af))
      (@aR _ _))
      (@am _ _ _ _ _ (@aw _ _ _ _ _ (@r8 _ _ _ _ _ _ _ _ _ rfl (¬0) (af∘ae) (by rfl) (by rfl) (by rfl) (by rfl) (by rfl))))))
noncomputable def jC:FT:=(ax (ar (cQ true) (ac 1) (vC (.int 0))))
noncomputable def lc:FS:=(i9 0 1 (aa (ac 1) (aa (ar a7 (ac 0) (ac 1)) ai)))
noncomputable def yy:FS:=(ay (jv (2 ^ 4200) jC lc)
    (a8 (aI (g1 qI) (aa (ac 0) ai))))
noncomputable def pW:FM:=gC 2 0 ([0,1]++[]) yy
theorem vR:az ["_law_one","_law_other"] ["_law_one","_law_other"] (aj p9):=⟨rfl,rfl,rfl,by decide+kernel,rfl,by decide+kernel,by decide+kernel⟩
theorem zR(h:a_ K mg "_law_gcd" p9 f fd ["_law_one","_law_other"])(T:iw mg):aF P w K mg base bM 1 f fd ["_law_one","_law_other"] (bO K 2 pW):=by
  have nd:=vR.nd
  exact h.fn vR rfl rfl (fun cdv A outer s H E hr=>(@ag _ _ _ _ _ _ _ _ (@mE _ _ _ _ _ _ _ _ _ PassesOwn.never (@bj _ _ _ _ _ _ _ _ _ (@zo _ _ _ rfl hr) (¬1) af (aX _))
      (@am _ _ _ _ _ (@mD _ _ _ _ _ 0 1 _ _ _ _ _ _ _ _ _ rfl nd rfl rfl (by decide) rfl rfl ((¬1)∘((@aZ _ _ _ _ _ _ _ (¬0) (¬1))∘ae)) (by rfl) (by rfl))))
      (@am _ _ _ _ _ (@aw _ _ _ _ _ (@aV _ _ _ _ _ _ _ _ _ (@b_abs _ _) (by rfl) T.b_abs ((¬0)∘ae) (by decide) (by decide) (by rfl) (by rfl))))))
noncomputable def yz:FS:=(ay (bg 2 (bJ 2 pW (aa (ac 0) (aa (ac 1) ai))))
    (a8 (bU (aa (ar ed (ac 0) (ac 2)) (aa (ar ed (ac 1) (ac 2)) ai)))))
noncomputable def nV:FM:=gC 2 1 ([2]++[]) yz
theorem vS:az ["_law_top","_law_bottom","_law_common"] ["_law_top","_law_bottom"] (aj p_):=⟨rfl,rfl,rfl,by decide+kernel,rfl,by decide+kernel,by decide+kernel⟩
theorem zS(h:a_ K mg "_law_low" p_ f fd ["_law_top","_law_bottom"])(T:iw mg){fLgcd:Addr}{eLgcd:FuncData}(hLgcd:a_ K mg "_law_gcd" p9 fLgcd eLgcd ["_law_one","_law_other"])(GLgcd:aF P w K mg base bM 1 fLgcd eLgcd ["_law_one","_law_other"] (bO K 2 pW)):aF P w K mg base bM 2 f fd ["_law_top","_law_bottom"] (bO K 2 nV):=by
  have nd:=vS.nd
  exact h.fn vS rfl rfl (fun cdv A outer s H E hr=>(@ag _ _ _ _ _ _ _ _ (@aC _ _ _ _ _ 2 _ _ nd rfl (Or.inl rfl) (@aT _ _ _ _ _ _ _ _ _ _ _ _ _ _ _ hLgcd GLgcd (hr.mono (by decide)) ((¬0)∘((¬1)∘ae)) (by rfl) (by decide) (by rfl) (by rfl)) (by rfl) (by trivial))
      (@am _ _ _ _ _ (@aw _ _ _ _ _ (@bf _ _ _ _ _ _ ((@gk _ _ _ _ _ _ _ (¬0) (¬2))∘((@gk _ _ _ _ _ _ _ (¬1) (¬2))∘ae)))))))
noncomputable def qC:FS:=(a8 (ar (cQ false) (aI (g1 jI) (aa (ac 0) ai)) (aI (g1 jI) (aa (ac 1) ai))))
noncomputable def gj:FM:=gC 2 0 [] qC
theorem sk:az ["_law_found","_law_due"] ["_law_found","_law_due"] (aj kr):=⟨rfl,rfl,rfl,by decide+kernel,rfl,by decide+kernel,by decide+kernel⟩
theorem xt(h:a_ K mg "_law_same" kr f fd ["_law_found","_law_due"])(T:iw mg):aF P w K mg base bM 1 f fd ["_law_found","_law_due"] (bO K 2 gj):=by
  have nd:=sk.nd
  exact h.fn sk rfl rfl (fun cdv A outer s H E hr=>(@am _ _ _ _ _ (@aw _ _ _ _ _ (@nZ _ _ _ _ _ _ _ _ _ (@lF _ _ _ rfl hr) (@aV _ _ _ _ _ _ _ _ _ (@b_repr _ _ _ rfl hr) (by rfl) T.b_repr ((¬0)∘ae) (by decide) (by decide) (by rfl) (by rfl)) (@aV _ _ _ _ _ _ _ _ _ (@b_repr _ _ _ rfl hr) (by rfl) T.b_repr ((¬1)∘ae) (by decide) (by decide) (by rfl) (by rfl)) (aX _)))))
noncomputable def ix:FS:=(ay (eu (ax (ar (cQ false) (ac 1) (vC (.int 0))))
    (a8 (ar bR (eF (aa (bU (aa (vC (.int 1)) (aa (vC (.int 2)) ai))) (aa (bU (aa (vC (.int 1)) (aa (vC (.int 3)) ai))) (aa (bU (aa (vC (.int 2)) (aa (vC (.int 3)) ai))) (aa (bU (aa (vC (.int 1)) (aa (vC (.int 1)) ai))) (aa (bU (aa (vC (.int 0)) (aa (vC (.int 1)) ai))) (aa (bU (aa (vC (.int 3)) (aa (vC (.int 4)) ai))) ai))))))) (ar a7 (ac 0) (vC (.int 6)))))
    bQ)
    (ay (eu (ax (ar (cQ false) (ac 1) (vC (.int 1))))
    (ay (bg 2 (ar ba (vC (.int 2)) (ar a7 (ac 0) (vC (.int 9)))))
    (a8 (bJ 2 nV (aa (ar ba (vC (.int 1)) (ar a7 (ar ed (ac 0) (vC (.int 9))) (ar iB (ac 2) (vC (.int 1))))) (aa (ac 2) ai)))))
    bQ)
    (ay (eu (ax (ar (cQ false) (ac 1) (vC (.int 2))))
    (ay (bg 2 (ar ba (vC (.int 1)) (ar a7 (ac 0) (vC (.int 100)))))
    (a8 (bJ 2 nV (aa (ar a7 (ar ed (ac 0) (vC (.int 100))) (ar ba (ac 2) (vC (.int 1)))) (aa (ac 2) ai)))))
    bQ)
    (a8 (bU (aa (vC (.int 1)) (aa (vC (.int 1)) ai)))))))
noncomputable def eg:FM:=gC 2 1 (([]++[])++((([2]++[])++[])++((([2]++[])++[])++[]))) ix
theorem og:az ["_law_number","_law_kind","_law_bottom"] ["_law_number","_law_kind"] (aj iK):=⟨rfl,rfl,rfl,by decide+kernel,rfl,by decide+kernel,by decide+kernel⟩
theorem tF(h:a_ K mg "_law_chance" iK f fd ["_law_number","_law_kind"])(T:iw mg){fLlow:Addr}{eLlow:FuncData}(hLlow:a_ K mg "_law_low" p_ fLlow eLlow ["_law_top","_law_bottom"])(GLlow:aF P w K mg base bM 2 fLlow eLlow ["_law_top","_law_bottom"] (bO K 2 nV)):aF P w K mg base bM 3 f fd ["_law_number","_law_kind"] (bO K 2 eg):=by
  have nd:=og.nd
  exact h.fn og rfl rfl (fun cdv A outer s H E hr=>(@ag _ _ _ _ _ _ _ _ (@bG _ _ _ _ _ _ _ _ _ _ _ (@bj _ _ _ _ _ _ _ _ _ (@lF _ _ _ rfl hr) (¬1) af (aX _))
      (@am _ _ _ _ _ (@aw _ _ _ _ _ (@aY _ _ _ _ _ _ _ rfl (@dt _ _ _ _ _ ((@bf _ _ _ _ _ _ (af∘(af∘ae)))∘((@bf _ _ _ _ _ _ (af∘(af∘ae)))∘((@bf _ _ _ _ _ _ (af∘(af∘ae)))∘((@bf _ _ _ _ _ _ (af∘(af∘ae)))∘((@bf _ _ _ _ _ _ (af∘(af∘ae)))∘((@bf _ _ _ _ _ _ (af∘(af∘ae)))∘ae))))))) (@aZ _ _ _ _ _ _ _ (¬0) af) (fun _ _=>rfl))))
      (@aR _ _))
      (@ag _ _ _ _ _ _ _ _ (@bG _ _ _ _ _ _ _ _ _ _ _ (@bj _ _ _ _ _ _ _ _ _ (@lF _ _ _ rfl hr) (¬1) af (aX _))
      (@ag _ _ _ _ _ _ _ _ (@aC _ _ _ _ _ 2 _ _ nd rfl (Or.inl rfl) (@aS _ _ _ _ _ _ _ rfl af (@aZ _ _ _ _ _ _ _ (¬0) af)) (by rfl) (by trivial))
      (@am _ _ _ _ _ (@aw _ _ _ _ _ (@aT _ _ _ _ _ _ _ _ _ _ _ _ _ _ _ hLlow GLlow (hr.mono (by decide)) ((@aS _ _ _ _ _ _ _ rfl af (@aZ _ _ _ _ _ _ _ (@gk _ _ _ _ _ _ _ (¬0) af) (@p5 _ _ _ _ _ _ _ (¬2) af)))∘((¬2)∘ae)) (by rfl) (by decide) (by rfl) (by rfl)))))
      (@aR _ _))
      (@ag _ _ _ _ _ _ _ _ (@bG _ _ _ _ _ _ _ _ _ _ _ (@bj _ _ _ _ _ _ _ _ _ (@lF _ _ _ rfl hr) (¬1) af (aX _))
      (@ag _ _ _ _ _ _ _ _ (@aC _ _ _ _ _ 2 _ _ nd rfl (Or.inl rfl) (@aS _ _ _ _ _ _ _ rfl af (@aZ _ _ _ _ _ _ _ (¬0) af)) (by rfl) (by trivial))
      (@am _ _ _ _ _ (@aw _ _ _ _ _ (@aT _ _ _ _ _ _ _ _ _ _ _ _ _ _ _ hLlow GLlow (hr.mono (by decide)) ((@aZ _ _ _ _ _ _ _ (@gk _ _ _ _ _ _ _ (¬0) af) (@aS _ _ _ _ _ _ _ rfl (¬2) af))∘((¬2)∘ae)) (by rfl) (by decide) (by rfl) (by rfl)))))
      (@aR _ _))
      (@am _ _ _ _ _ (@aw _ _ _ _ _ (@bf _ _ _ _ _ _ (af∘(af∘ae)))))))))
noncomputable def rH:FS:=(a8 (ar bR (eF (aa (ar a7 (ac 0) (vC (.int 7))) (aa (ar ba (vC (.int 5)) (ar a7 (ac 0) (vC (.int 2)))) (aa (ar a7 (ac 0) (vC (.int 1001))) (aa (ar iB (vC (.int 1000)) (ar a7 (ac 0) (vC (.int 3)))) ai))))) (ar a7 (ac 1) (vC (.int 4)))))
noncomputable def jO:FM:=gC 2 0 [] rH
theorem qf:az ["_law_number","_law_kind"] ["_law_number","_law_kind"] (aj jZ):=⟨rfl,rfl,rfl,by decide+kernel,rfl,by decide+kernel,by decide+kernel⟩
theorem vh(h:a_ K mg "_law_worth" jZ f fd ["_law_number","_law_kind"])(T:iw mg):aF P w K mg base bM 1 f fd ["_law_number","_law_kind"] (bO K 2 jO):=by
  have nd:=qf.nd
  exact h.fn qf rfl rfl (fun cdv A outer s H E hr=>(@am _ _ _ _ _ (@aw _ _ _ _ _ (@aY _ _ _ _ _ _ _ rfl (@dt _ _ _ _ _ ((@aZ _ _ _ _ _ _ _ (¬0) af)∘((@aS _ _ _ _ _ _ _ rfl af (@aZ _ _ _ _ _ _ _ (¬0) af))∘((@aZ _ _ _ _ _ _ _ (¬0) af)∘((@p5 _ _ _ _ _ _ _ af (@aZ _ _ _ _ _ _ _ (¬0) af))∘ae))))) (@aZ _ _ _ _ _ _ _ (¬1) af) (fun _ _=>rfl)))))
noncomputable def l9:FI:=(dn (aa (ac 2) ai))
noncomputable def gv:FS:=(ay (bg 8 (bJ 1 bc (aa (ac 0) ai)))
    (ay (bg 9 (ar bR (eF (aa (ar a7 (ac 8) (ac 1)) (aa (vC (.int 0)) (aa (ar a7 (ac 7) (ac 1)) (aa (ar a7 (ac 8) (ac 1)) (aa (ar a7 (ac 8) (vC (.int 2))) (aa (ar a7 (ac 8) (ac 1)) ai))))))) (ac 3)))
    (ay (bg 10 (ar a7 (ar ba (ar ba (ac 9) (vC (.int 1))) (ar a7 (ar ed (ac 8) (vC (.int 12))) (ar iB (ac 1) (vC (.int 1))))) (ac 1)))
    (ay (eu (ax (ar (cQ false) (ac 3) (vC (.int 4))))
    (i8 (bU (aa (vC (.int 0)) (aa (vC (.int 1)) ai))) (bS (aq (ah 9) (aq (ah 10) bI))))
    bQ)
    (ay (bg 11 (bJ 1 bc (aa (ac 0) ai)))
    (ay (bg 12 (bU (aa (aI (g2 oR) (aa (ac 9) (aa (ac 10) ai))) (aa (aI (g2 sW) (aa (ac 9) (aa (ac 10) ai))) ai))))
    (ej (cK bA (ac 6) (aa (ar ba (ac 12) (bU (aa (bJ 2 eg (aa (ac 11) (aa (ac 4) ai))) (aa (bJ 2 jO (aa (ar ed (ac 11) (vC (.int 10007))) (aa (ac 5) ai))) ai)))) ai)))))))))
noncomputable def ul:FS:=(ay (bg 3 (ar a7 (bJ 1 bc (aa (ac 0) ai)) (vC (.int 6))))
    (ay (bg 4 (ar a7 (bJ 1 bc (aa (ac 0) ai)) (vC (.int 4))))
    (ay (bg 5 (ar a7 (bJ 1 bc (aa (ac 0) ai)) (vC (.int 4))))
    (ay (bg 6 (eF ai))
    (ay (eE ([7]++([8]++([9]++([10]++((([9]++([10]++[]))++[])++([11]++([12]++[]))))))) l9 (ah 7) gv)
    (a8 (aI (g1 bY) (aa (ac 6) ai))))))))
noncomputable def ma:FM:=gC 3 10 ([3]++([4]++([5]++([6]++(([7]++([8]++([9]++([10]++((([9]++([10]++[]))++[])++([11]++([12]++[])))))))++[]))))) ul
theorem sq:az ["_law_drawn","_law_things","_law_many","_law_shape","_law_odds","_law_worths","_law_found","_law_k","_law_number","_law_one","_law_other","_law_cell","_law_ends"] ["_law_drawn","_law_things","_law_many"] (aj mJ):=⟨rfl,rfl,rfl,by decide+kernel,rfl,by decide+kernel,by decide+kernel⟩
theorem xu(h:a_ K mg "_law_ties" mJ f fd ["_law_drawn","_law_things","_law_many"])(T:iw mg){fLnext:Addr}{eLnext:FuncData}(hLnext:a_ K mg "_law_next" hR fLnext eLnext ["_law_drawn"])(GLnext:aF P w K mg base bM 1 fLnext eLnext ["_law_drawn"] (bO K 1 bc)){fLchance:Addr}{eLchance:FuncData}(hLchance:a_ K mg "_law_chance" iK fLchance eLchance ["_law_number","_law_kind"])(GLchance:aF P w K mg base bM 3 fLchance eLchance ["_law_number","_law_kind"] (bO K 2 eg)){fLworth:Addr}{eLworth:FuncData}(hLworth:a_ K mg "_law_worth" jZ fLworth eLworth ["_law_number","_law_kind"])(GLworth:aF P w K mg base bM 1 fLworth eLworth ["_law_number","_law_kind"] (bO K 2 jO)):aF P w K mg base bM 4 f fd ["_law_drawn","_law_things","_law_many"] (bO K 3 ma):=by
  have nd:=sq.nd
  exact h.fn sq rfl rfl (fun cdv A outer s H E hr=>(@ag _ _ _ _ _ _ _ _ (@aC _ _ _ _ _ 3 _ _ nd rfl (Or.inl rfl) (@aZ _ _ _ _ _ _ _ (@aT _ _ _ _ _ _ _ _ _ _ _ _ _ _ _ hLnext GLnext (hr.mono (by decide)) ((¬0)∘ae) (by rfl) (by decide) (by rfl) (by rfl)) af) (by rfl) (by trivial))
      (@ag _ _ _ _ _ _ _ _ (@aC _ _ _ _ _ 4 _ _ nd rfl (Or.inl rfl) (@aZ _ _ _ _ _ _ _ (@aT _ _ _ _ _ _ _ _ _ _ _ _ _ _ _ hLnext GLnext (hr.mono (by decide)) ((¬0)∘ae) (by rfl) (by decide) (by rfl) (by rfl)) af) (by rfl) (by trivial))
      (@ag _ _ _ _ _ _ _ _ (@aC _ _ _ _ _ 5 _ _ nd rfl (Or.inl rfl) (@aZ _ _ _ _ _ _ _ (@aT _ _ _ _ _ _ _ _ _ _ _ _ _ _ _ hLnext GLnext (hr.mono (by decide)) ((¬0)∘ae) (by rfl) (by decide) (by rfl) (by rfl)) af) (by rfl) (by trivial))
      (@ag _ _ _ _ _ _ _ _ (@aC _ _ _ _ _ 6 _ _ nd rfl (Or.inl rfl) (@dt _ _ _ _ _ ae) (by rfl) (by trivial))
      (@ag _ _ _ _ _ _ _ _ (@gp _ _ _ _ _ _ _ _ _ _ _ PassesOwn.never rfl (@dO _ _ _ _ _ _ _ rfl T.b_range ((¬2)∘ae) (by rfl)) (@av _ _ _ 7 _ nd rfl (Or.inl rfl) (by trivial))
      (@ag _ _ _ _ _ _ _ _ (@aC _ _ _ _ _ 8 _ _ nd rfl (Or.inl rfl) (@aT _ _ _ _ _ _ _ _ _ _ _ _ _ _ _ hLnext GLnext (hr.mono (by decide)) ((¬0)∘ae) (by rfl) (by decide) (by rfl) (by rfl)) (by rfl) (by trivial))
      (@ag _ _ _ _ _ _ _ _ (@aC _ _ _ _ _ 9 _ _ nd rfl (Or.inl rfl) (@aY _ _ _ _ _ _ _ rfl (@dt _ _ _ _ _ ((@aZ _ _ _ _ _ _ _ (¬8) (¬1))∘(af∘((@aZ _ _ _ _ _ _ _ (¬7) (¬1))∘((@aZ _ _ _ _ _ _ _ (¬8) (¬1))∘((@aZ _ _ _ _ _ _ _ (¬8) af)∘((@aZ _ _ _ _ _ _ _ (¬8) (¬1))∘ae))))))) (¬3) (fun _ _=>rfl)) (by rfl) (by trivial))
      (@ag _ _ _ _ _ _ _ _ (@aC _ _ _ _ _ 10 _ _ nd rfl (Or.inl rfl) (@aZ _ _ _ _ _ _ _ (@aS _ _ _ _ _ _ _ rfl (@aS _ _ _ _ _ _ _ rfl (¬9) af) (@aZ _ _ _ _ _ _ _ (@gk _ _ _ _ _ _ _ (¬8) af) (@p5 _ _ _ _ _ _ _ (¬1) af))) (¬1)) (by rfl) (by trivial))
      (@ag _ _ _ _ _ _ _ _ (@bG _ _ _ _ _ _ _ _ _ _ _ (@bj _ _ _ _ _ _ _ _ _ (@lF _ _ _ rfl hr) (¬3) af (aX _))
      (@am _ _ _ _ _ (@jt _ _ _ _ _ _ _ _ (@bf _ _ _ _ _ _ (af∘(af∘ae))) (@fw _ _ _ _ _ _ _ _ rfl rfl (@aB _ _ _ _ _ _ _ _ (@av _ _ _ 9 _ nd rfl (Or.inl rfl) (by trivial)) (@aB _ _ _ _ _ _ _ _ (@av _ _ _ 10 _ nd rfl (Or.inl rfl) (by trivial)) (@du _ _) (by rfl)) (by rfl)) (aM (aM fj)) (by rfl) (by rfl)) (by rfl) (by rfl) (by rfl)))
      (@aR _ _))
      (@ag _ _ _ _ _ _ _ _ (@aC _ _ _ _ _ 11 _ _ nd rfl (Or.inl rfl) (@aT _ _ _ _ _ _ _ _ _ _ _ _ _ _ _ hLnext GLnext (hr.mono (by decide)) ((¬0)∘ae) (by rfl) (by decide) (by rfl) (by rfl)) (by rfl) (by trivial))
      (@ag _ _ _ _ _ _ _ _ (@aC _ _ _ _ _ 12 _ _ nd rfl (Or.inl rfl) (@bf _ _ _ _ _ _ ((@aV _ _ _ _ _ _ _ _ _ (@b_min _ _ rfl) (by rfl) T.b_min ((¬9)∘((¬10)∘ae)) (by decide) (by decide) (by rfl) (by rfl))∘((@aV _ _ _ _ _ _ _ _ _ (@b_max _ _ rfl) (by rfl) T.b_max ((¬9)∘((¬10)∘ae)) (by decide) (by decide) (by rfl) (by rfl))∘ae))) (by rfl) (by trivial))
      (@am _ _ _ _ _ (@eD _ _ _ _ _ (@dq _ _ _ _ _ _ _ _ _ rfl (¬6) ((@aS _ _ _ _ _ _ _ rfl (¬12) (@bf _ _ _ _ _ _ ((@aT _ _ _ _ _ _ _ _ _ _ _ _ _ _ _ hLchance GLchance (hr.mono (by decide)) ((¬11)∘((¬4)∘ae)) (by rfl) (by decide) (by rfl) (by rfl))∘((@aT _ _ _ _ _ _ _ _ _ _ _ _ _ _ _ hLworth GLworth (hr.mono (by decide)) ((@gk _ _ _ _ _ _ _ (¬11) af)∘((¬5)∘ae)) (by rfl) (by decide) (by rfl) (by rfl))∘ae))))∘ae) (by rfl) (by rfl) (by rfl) (by rfl) (by rfl)) (by rfl))))))))) (by intro _;rfl))
      (@am _ _ _ _ _ (@aw _ _ _ _ _ (@aV _ _ _ _ _ _ _ _ _ (@b_tuple _ _ rfl) (by rfl) T.b_tuple ((¬6)∘ae) (by decide) (by decide) (by rfl) (by rfl))))))))))
noncomputable def oU:FI:=(dn (aa (ac 3) ai))
noncomputable def lg:FS:=(ej (cK bA (ac 7) (aa (ar bR (eF (aa (vC (.int 20)) (aa (ar ba (vC (.int 1)) (ar a7 (bJ 1 bc (aa (ac 0) ai)) (vC (.int 3)))) (aa (ar a7 (bJ 1 bc (aa (ac 0) ai)) (vC (.int 21))) ai)))) (ac 6)) ai)))
noncomputable def yA:FS:=(ay (bg 3 (ar a7 (bJ 1 bc (aa (ac 0) ai)) (ar ba (ac 1) (vC (.int 1)))))
    (ay (bg 4 (ar lZ (ar a7 (bJ 1 bc (aa (ac 0) ai)) (ar ba (ac 2) (vC (.int 1)))) (aI (g1 sV) (aa (ar sU (ac 3) (vC (.int 1))) ai))))
    (ay (bg 5 (bJ 3 ma (aa (ac 0) (aa (aI (g2 sW) (aa (vC (.int 2)) (aa (ac 3) ai))) (aa (ac 4) ai)))))
    (ay (bg 6 (ar a7 (bJ 1 bc (aa (ac 0) ai)) (vC (.int 3))))
    (ay (bg 7 (eF ai))
    (ay (eE ([8]++[]) oU (ah 8) lg)
    (ay (bg 9 (ar bR (eF (aa (vC (.int 40)) (aa (ar ba (vC (.int 1)) (ar a7 (bJ 1 bc (aa (ac 0) ai)) (aI (g2 sW) (aa (vC (.int 1)) (aa (ac 4) ai))))) (aa (ar a7 (bJ 1 bc (aa (ac 0) ai)) (vC (.int 41))) ai)))) (ar a7 (bJ 1 bc (aa (ac 0) ai)) (vC (.int 3)))))
    (a8 (bU (aa (ac 3) (aa (ac 5) (aa (aI (g1 bY) (aa (ac 7) ai)) (aa (ac 9) ai)))))))))))))
noncomputable def kT:FM:=gC 3 7 ([3]++([4]++([5]++([6]++([7]++(([8]++[])++([9]++[]))))))) yA
theorem vU:az ["_law_drawn","_law_most","_law_ties_here","_law_things","_law_many","_law_rows","_law_way","_law_patience","_law_k","_law_asks"] ["_law_drawn","_law_most","_law_ties_here"] (aj qb):=⟨rfl,rfl,rfl,by decide+kernel,rfl,by decide+kernel,by decide+kernel⟩
theorem zU(h:a_ K mg "_law_web" qb f fd ["_law_drawn","_law_most","_law_ties_here"])(T:iw mg){fLties:Addr}{eLties:FuncData}(hLties:a_ K mg "_law_ties" mJ fLties eLties ["_law_drawn","_law_things","_law_many"])(GLties:aF P w K mg base bM 4 fLties eLties ["_law_drawn","_law_things","_law_many"] (bO K 3 ma)){fLnext:Addr}{eLnext:FuncData}(hLnext:a_ K mg "_law_next" hR fLnext eLnext ["_law_drawn"])(GLnext:aF P w K mg base bM 1 fLnext eLnext ["_law_drawn"] (bO K 1 bc)):aF P w K mg base bM 5 f fd ["_law_drawn","_law_most","_law_ties_here"] (bO K 3 kT):=by
  have nd:=vU.nd
  exact h.fn vU rfl rfl (fun cdv A outer s H E hr=>(@ag _ _ _ _ _ _ _ _ (@aC _ _ _ _ _ 3 _ _ nd rfl (Or.inl rfl) (@aZ _ _ _ _ _ _ _ (@aT _ _ _ _ _ _ _ _ _ _ _ _ _ _ _ hLnext GLnext (hr.mono (by decide)) ((¬0)∘ae) (by rfl) (by decide) (by rfl) (by rfl)) (@aS _ _ _ _ _ _ _ rfl (¬1) af)) (by rfl) (by trivial))
      (@ag _ _ _ _ _ _ _ _ (@aC _ _ _ _ _ 4 _ _ nd rfl (Or.inl rfl) (@n5 _ _ _ _ _ _ _ rfl (@aZ _ _ _ _ _ _ _ (@aT _ _ _ _ _ _ _ _ _ _ _ _ _ _ _ hLnext GLnext (hr.mono (by decide)) ((¬0)∘ae) (by rfl) (by decide) (by rfl) (by rfl)) (@aS _ _ _ _ _ _ _ rfl (¬2) af)) (@aV _ _ _ _ _ _ _ _ _ (@b_int _ _) (by rfl) T.b_int ((@nZ _ _ _ _ _ _ _ _ _ (@sI _ _) (¬3) af (aX _))∘ae) (by decide) (by decide) (by rfl) (by rfl))) (by rfl) (by trivial))
      (@ag _ _ _ _ _ _ _ _ (@aC _ _ _ _ _ 5 _ _ nd rfl (Or.inl rfl) (@aT _ _ _ _ _ _ _ _ _ _ _ _ _ _ _ hLties GLties (hr.mono (by decide)) ((¬0)∘((@aV _ _ _ _ _ _ _ _ _ (@b_max _ _ rfl) (by rfl) T.b_max (af∘((¬3)∘ae)) (by decide) (by decide) (by rfl) (by rfl))∘((¬4)∘ae))) (by rfl) (by decide) (by rfl) (by rfl)) (by rfl) (by trivial))
      (@ag _ _ _ _ _ _ _ _ (@aC _ _ _ _ _ 6 _ _ nd rfl (Or.inl rfl) (@aZ _ _ _ _ _ _ _ (@aT _ _ _ _ _ _ _ _ _ _ _ _ _ _ _ hLnext GLnext (hr.mono (by decide)) ((¬0)∘ae) (by rfl) (by decide) (by rfl) (by rfl)) af) (by rfl) (by trivial))
      (@ag _ _ _ _ _ _ _ _ (@aC _ _ _ _ _ 7 _ _ nd rfl (Or.inl rfl) (@dt _ _ _ _ _ ae) (by rfl) (by trivial))
      (@ag _ _ _ _ _ _ _ _ (@gp _ _ _ _ _ _ _ _ _ _ _ PassesOwn.never rfl (@dO _ _ _ _ _ _ _ rfl T.b_range ((¬3)∘ae) (by rfl)) (@av _ _ _ 8 _ nd rfl (Or.inl rfl) (by trivial))
      (@am _ _ _ _ _ (@eD _ _ _ _ _ (@dq _ _ _ _ _ _ _ _ _ rfl (¬7) ((@aY _ _ _ _ _ _ _ rfl (@dt _ _ _ _ _ (af∘((@aS _ _ _ _ _ _ _ rfl af (@aZ _ _ _ _ _ _ _ (@aT _ _ _ _ _ _ _ _ _ _ _ _ _ _ _ hLnext GLnext (hr.mono (by decide)) ((¬0)∘ae) (by rfl) (by decide) (by rfl) (by rfl)) af))∘((@aZ _ _ _ _ _ _ _ (@aT _ _ _ _ _ _ _ _ _ _ _ _ _ _ _ hLnext GLnext (hr.mono (by decide)) ((¬0)∘ae) (by rfl) (by decide) (by rfl) (by rfl)) af)∘ae)))) (¬6) (fun _ _=>rfl))∘ae) (by rfl) (by rfl) (by rfl) (by rfl) (by rfl)) (by rfl))) (by intro _;rfl))
      (@ag _ _ _ _ _ _ _ _ (@aC _ _ _ _ _ 9 _ _ nd rfl (Or.inl rfl) (@aY _ _ _ _ _ _ _ rfl (@dt _ _ _ _ _ (af∘((@aS _ _ _ _ _ _ _ rfl af (@aZ _ _ _ _ _ _ _ (@aT _ _ _ _ _ _ _ _ _ _ _ _ _ _ _ hLnext GLnext (hr.mono (by decide)) ((¬0)∘ae) (by rfl) (by decide) (by rfl) (by rfl)) (@aV _ _ _ _ _ _ _ _ _ (@b_max _ _ rfl) (by rfl) T.b_max (af∘((¬4)∘ae)) (by decide) (by decide) (by rfl) (by rfl))))∘((@aZ _ _ _ _ _ _ _ (@aT _ _ _ _ _ _ _ _ _ _ _ _ _ _ _ hLnext GLnext (hr.mono (by decide)) ((¬0)∘ae) (by rfl) (by decide) (by rfl) (by rfl)) af)∘ae)))) (@aZ _ _ _ _ _ _ _ (@aT _ _ _ _ _ _ _ _ _ _ _ _ _ _ _ hLnext GLnext (hr.mono (by decide)) ((¬0)∘ae) (by rfl) (by decide) (by rfl) (by rfl)) af) (fun _ _=>rfl)) (by rfl) (by trivial))
      (@am _ _ _ _ _ (@aw _ _ _ _ _ (@bf _ _ _ _ _ _ ((¬3)∘((¬5)∘((@aV _ _ _ _ _ _ _ _ _ (@b_tuple _ _ rfl) (by rfl) T.b_tuple ((¬7)∘ae) (by decide) (by decide) (by rfl) (by rfl))∘((¬9)∘ae)))))))))))))))
noncomputable def kR:FI:=(jJ (ac 1))
noncomputable def d_:FT:=(ax (ar (wY false) (ac 0) (qp (ar bR (ar bR (ac 1) (vC (.int 1))) (ac 2)) fq (er (vC (.int 2))))))
noncomputable def ec:FE:=(ac 2)
noncomputable def nD:FS:=(a8 (aI (g1 fL) (aa (ez [(2,"_law_thing"),(0,"_law_web_here")] 1 kR (ah 2) d_ ec) ai)))
noncomputable def eL:FM:=gC 3 0 [] nD
theorem mM:az ["_law_web_here","_law_asked","_law_thing"] ["_law_web_here","_law_asked","_law_thing"] (aj eN):=⟨rfl,rfl,rfl,by decide+kernel,rfl,by decide+kernel,by decide+kernel⟩
theorem qS(h:a_ K mg "_law_asks_of" eN f fd ["_law_web_here","_law_asked","_law_thing"])(T:iw mg):aF P w K mg base bM 1 f fd ["_law_web_here","_law_asked","_law_thing"] (bO K 3 eL):=by
  have nd:=mM.nd
  exact h.fn mM rfl rfl (fun cdv A outer s H E hr=>(@am _ _ _ _ _ (@aw _ _ _ _ _ (@aV _ _ _ _ _ _ _ _ _ (@b_len _ _ rfl) (by rfl) T.b_len ((@iH _ _ _ _ _ _ _ _ _ _ _ _ _ (aj eN) ["_law_web_here","_law_asked","_law_thing"] [(2,"_law_thing"),(0,"_law_web_here")] ["_law_tie"] rfl rfl rfl (@fx _ _ _ _ _ rfl (¬1))
        (fun C s0 H0 fp=>(@av _ _ _ 2 _ (show List.Nodup (["_law_thing","_law_web_here","_law_tie"]:List Str) by decide+kernel) rfl (Or.inl rfl) (by trivial))) (fun C s0 H0 fp=>(@x4 _ _ _ _ (@bj _ _ _ _ _ _ _ _ _ (@zm _ _ _ rfl hr) (¬0) (@jT _ _ _ _ _ _ _ _ _ _ rfl (@aY _ _ _ _ _ _ _ rfl (@aY _ _ _ _ _ _ _ rfl (¬1) af (fun _ _=>rfl)) (¬2) (fun _ _=>rfl)) (@jU _ _) (@jV _ _ _ _ af)) (by with_unfolding_all rfl))))
        (fun C s0 H0 fp=>(¬2)) rfl (by decide+kernel) (by decide+kernel) (by decide+kernel) (by decide+kernel) (by decide+kernel) (by decide+kernel) (by decide+kernel) (by intro _;rfl))∘ae) (by decide) (by decide) (by rfl) (by rfl)))))
noncomputable def rQ:FI:=(jJ (qp (ar bR (ar bR (ac 0) (vC (.int 1))) (ac 2)) fq (er (vC (.int 2)))))
noncomputable def gN:FS:=(eu (lu (ax (ar (wY false) (ac 5) (ac 4))) (ax (ar zy (bJ 3 eL (aa (ac 0) (aa (ac 3) (aa (ac 5) ai)))) (ar bR (ar bR (ac 0) (vC (.int 2))) (ac 5)))))
    (a8 (vC (.bool false)))
    bQ)
noncomputable def nE:FS:=(ay (i8 (ac 1) (bS (aq (ah 3) (aq (ah 4) bI))))
    (ay (eu (lu (ax (ar (wY false) (ac 2) (ac 3))) (ax (ar zy (aI (g1 fL) (aa (ac 3) ai)) (ar bR (ac 0) (vC (.int 3))))))
    (a8 (vC (.bool false)))
    bQ)
    (ay (eE ([5]++([]++[])) rQ (ah 5) gN)
    (a8 (vC (.bool true))))))
noncomputable def jN:FM:=gC 3 3 (([3]++([4]++[]))++(([]++[])++(([5]++([]++[]))++[]))) nE
theorem vT:az ["_law_web_here","_law_stand","_law_tie","_law_asked","_law_taken","_law_thing"] ["_law_web_here","_law_stand","_law_tie"] (aj qa):=⟨rfl,rfl,rfl,by decide+kernel,rfl,by decide+kernel,by decide+kernel⟩
theorem zT(h:a_ K mg "_law_may" qa f fd ["_law_web_here","_law_stand","_law_tie"])(T:iw mg){fLasks_of:Addr}{eLasks_of:FuncData}(hLasks_of:a_ K mg "_law_asks_of" eN fLasks_of eLasks_of ["_law_web_here","_law_asked","_law_thing"])(GLasks_of:aF P w K mg base bM 1 fLasks_of eLasks_of ["_law_web_here","_law_asked","_law_thing"] (bO K 3 eL)):aF P w K mg base bM 2 f fd ["_law_web_here","_law_stand","_law_tie"] (bO K 3 jN):=by
  have nd:=vT.nd
  exact h.fn vT rfl rfl (fun cdv A outer s H E hr=>(@ag _ _ _ _ _ _ _ _ (@jt _ _ _ _ _ _ _ _ (¬1) (@fw _ _ _ _ _ _ _ _ rfl rfl (@aB _ _ _ _ _ _ _ _ (@av _ _ _ 3 _ nd rfl (Or.inl rfl) (by trivial)) (@aB _ _ _ _ _ _ _ _ (@av _ _ _ 4 _ nd rfl (Or.inl rfl) (by trivial)) (@du _ _) (by rfl)) (by rfl)) (aM (aM fj)) (by rfl) (by rfl)) (by rfl) (by rfl) (by rfl))
      (@ag _ _ _ _ _ _ _ _ (@bG _ _ _ _ _ _ _ _ _ _ _ (@nj _ _ _ _ (@iI _ _ _ _ _ _ _ _ (@bj _ _ _ _ _ _ _ _ _ (@zm _ _ _ rfl hr) (¬2) (¬3) (by with_unfolding_all rfl)) (@hE _ _ _ _ _ (@bj _ _ _ _ _ _ _ _ _ (@wM _ _) (@aV _ _ _ _ _ _ _ _ _ (@b_len _ _ rfl) (by rfl) T.b_len ((¬3)∘ae) (by decide) (by decide) (by rfl) (by rfl)) (@aY _ _ _ _ _ _ _ rfl (¬0) af (fun _ _=>rfl)) (aX _)))))
      (@am _ _ _ _ _ (@aw _ _ _ _ _ (@dr _ _ _ _ _)))
      (@aR _ _))
      (@ag _ _ _ _ _ _ _ _ (@gp _ _ _ _ _ _ _ _ _ _ _ PassesOwn.never rfl (@fx _ _ _ _ _ rfl (@jT _ _ _ _ _ _ _ _ _ _ rfl (@aY _ _ _ _ _ _ _ rfl (@aY _ _ _ _ _ _ _ rfl (¬0) af (fun _ _=>rfl)) (¬2) (fun _ _=>rfl)) (@jU _ _) (@jV _ _ _ _ af))) (@av _ _ _ 5 _ nd rfl (Or.inl rfl) (by trivial))
      (@am _ _ _ _ _ (@bG _ _ _ _ _ _ _ _ _ _ _ (@nj _ _ _ _ (@iI _ _ _ _ _ _ _ _ (@bj _ _ _ _ _ _ _ _ _ (@zm _ _ _ rfl hr) (¬5) (¬4) (by with_unfolding_all rfl)) (@hE _ _ _ _ _ (@bj _ _ _ _ _ _ _ _ _ (@wM _ _) (@aT _ _ _ _ _ _ _ _ _ _ _ _ _ _ _ hLasks_of GLasks_of (hr.mono (by decide)) ((¬0)∘((¬3)∘((¬5)∘ae))) (by rfl) (by decide) (by rfl) (by rfl)) (@aY _ _ _ _ _ _ _ rfl (@aY _ _ _ _ _ _ _ rfl (¬0) af (fun _ _=>rfl)) (¬5) (fun _ _=>rfl)) (aX _)))))
      (@am _ _ _ _ _ (@aw _ _ _ _ _ (@dr _ _ _ _ _)))
      (@aR _ _))) (by intro _;rfl))
      (@am _ _ _ _ _ (@aw _ _ _ _ _ (@dr _ _ _ _ _)))))))
noncomputable def lD:FS:=(ay (i8 (ac 1) (bS (aq (ah 4) (aq (ah 5) bI))))
    (ay (bg 6 (ac 5))
    (ay (eu (ax (ac 3))
    (bg 6 (aI (g1 bY) (aa (aI (g1 gX) (aa (ar ba (ac 5) (qp (ar bR (ar bR (ac 0) (vC (.int 1))) (ac 2)) fq (er (vC (.int 2))))) ai)) ai)))
    bQ)
    (a8 (bU (aa (aI (g1 bY) (aa (aI (g1 gX) (aa (ar ba (ac 4) (bU (aa (ac 2) ai))) ai)) ai)) (aa (ac 6) ai)))))))
noncomputable def gA:FM:=gC 4 3 (([4]++([5]++[]))++([6]++(([6]++[])++[]))) lD
theorem n_:az ["_law_web_here","_law_stand","_law_tie","_law_truth","_law_asked","_law_taken","_law_more"] ["_law_web_here","_law_stand","_law_tie","_law_truth"] (aj iJ):=⟨rfl,rfl,rfl,by decide+kernel,rfl,by decide+kernel,by decide+kernel⟩
theorem tD(h:a_ K mg "_law_behind" iJ f fd ["_law_web_here","_law_stand","_law_tie","_law_truth"])(T:iw mg):aF P w K mg base bM 1 f fd ["_law_web_here","_law_stand","_law_tie","_law_truth"] (bO K 4 gA):=by
  have nd:=n_.nd
  exact h.fn n_ rfl rfl (fun cdv A outer s H E hr=>(@ag _ _ _ _ _ _ _ _ (@jt _ _ _ _ _ _ _ _ (¬1) (@fw _ _ _ _ _ _ _ _ rfl rfl (@aB _ _ _ _ _ _ _ _ (@av _ _ _ 4 _ nd rfl (Or.inl rfl) (by trivial)) (@aB _ _ _ _ _ _ _ _ (@av _ _ _ 5 _ nd rfl (Or.inl rfl) (by trivial)) (@du _ _) (by rfl)) (by rfl)) (aM (aM fj)) (by rfl) (by rfl)) (by rfl) (by rfl) (by rfl))
      (@ag _ _ _ _ _ _ _ _ (@aC _ _ _ _ _ 6 _ _ nd rfl (Or.inl rfl) (¬5) (by rfl) (by trivial))
      (@ag _ _ _ _ _ _ _ _ (@bG _ _ _ _ _ _ _ _ _ _ _ (@b_ _ _ _ _ (¬3) (by intro _;rfl))
      (@am _ _ _ _ _ (@aC _ _ _ _ _ 6 _ _ nd rfl (Or.inl rfl) (@aV _ _ _ _ _ _ _ _ _ (@b_tuple _ _ rfl) (by rfl) T.b_tuple ((@aV _ _ _ _ _ _ _ _ _ (@b_sorted _ _ rfl) (by rfl) T.b_sorted ((@aS _ _ _ _ _ _ _ rfl (¬5) (@jT _ _ _ _ _ _ _ _ _ _ rfl (@aY _ _ _ _ _ _ _ rfl (@aY _ _ _ _ _ _ _ rfl (¬0) af (fun _ _=>rfl)) (¬2) (fun _ _=>rfl)) (@jU _ _) (@jV _ _ _ _ af)))∘ae) (by decide) (by decide) (by rfl) (by rfl))∘ae) (by decide) (by decide) (by rfl) (by rfl)) (by rfl) (by trivial)))
      (@aR _ _))
      (@am _ _ _ _ _ (@aw _ _ _ _ _ (@bf _ _ _ _ _ _ ((@aV _ _ _ _ _ _ _ _ _ (@b_tuple _ _ rfl) (by rfl) T.b_tuple ((@aV _ _ _ _ _ _ _ _ _ (@b_sorted _ _ rfl) (by rfl) T.b_sorted ((@aS _ _ _ _ _ _ _ rfl (¬4) (@bf _ _ _ _ _ _ ((¬2)∘ae)))∘ae) (by decide) (by decide) (by rfl) (by rfl))∘ae) (by decide) (by decide) (by rfl) (by rfl))∘((¬6)∘ae)))))))))
noncomputable def kg:FI:=(dn (aa (ar a7 (bJ 1 bc (aa (ac 0) ai)) (ar ba (ac 2) (vC (.int 1)))) ai))
noncomputable def eH:FS:=(eu (ax (ar (cQ true) (ac 3) (eF ai)))
    (ej (cK bA (ac 4) (aa (cK en (ac 3) (aa (ar a7 (bJ 1 bc (aa (ac 0) ai)) (aI (g1 fL) (aa (ac 3) ai))) ai)) ai)))
    bQ)
noncomputable def rG:FS:=(ay (bg 3 (i6 (aa (aI (g1 fL) (aa (ar bR (ac 1) (vC (.int 1))) ai)) ai)))
    (ay (bg 4 (eF ai))
    (ay (eE ([5]++([]++[])) kg (ah 5) eH)
    (a8 (aI (g1 bY) (aa (ac 4) ai))))))
noncomputable def iZ:FM:=gC 3 3 ([3]++([4]++(([5]++([]++[]))++[]))) rG
theorem qe:az ["_law_drawn","_law_web_here","_law_most","_law_left","_law_found","_law_k"] ["_law_drawn","_law_web_here","_law_most"] (aj jY):=⟨rfl,rfl,rfl,by decide+kernel,rfl,by decide+kernel,by decide+kernel⟩
theorem vg(h:a_ K mg "_law_order" jY f fd ["_law_drawn","_law_web_here","_law_most"])(T:iw mg){fLnext:Addr}{eLnext:FuncData}(hLnext:a_ K mg "_law_next" hR fLnext eLnext ["_law_drawn"])(GLnext:aF P w K mg base bM 1 fLnext eLnext ["_law_drawn"] (bO K 1 bc)):aF P w K mg base bM 2 f fd ["_law_drawn","_law_web_here","_law_most"] (bO K 3 iZ):=by
  have nd:=qe.nd
  exact h.fn qe rfl rfl (fun cdv A outer s H E hr=>(@ag _ _ _ _ _ _ _ _ (@aC _ _ _ _ _ 3 _ _ nd rfl (Or.inl rfl) (@p4 _ _ _ _ _ _ _ _ rfl rfl T.b_list rfl T.b_range ((@aV _ _ _ _ _ _ _ _ _ (@b_len _ _ rfl) (by rfl) T.b_len ((@aY _ _ _ _ _ _ _ rfl (¬1) af (fun _ _=>rfl))∘ae) (by decide) (by decide) (by rfl) (by rfl))∘ae) (by rfl) (by rfl)) (by rfl) (by trivial))
      (@ag _ _ _ _ _ _ _ _ (@aC _ _ _ _ _ 4 _ _ nd rfl (Or.inl rfl) (@dt _ _ _ _ _ ae) (by rfl) (by trivial))
      (@ag _ _ _ _ _ _ _ _ (@gp _ _ _ _ _ _ _ _ _ _ _ PassesOwn.never rfl (@dO _ _ _ _ _ _ _ rfl T.b_range ((@aZ _ _ _ _ _ _ _ (@aT _ _ _ _ _ _ _ _ _ _ _ _ _ _ _ hLnext GLnext (hr.mono (by decide)) ((¬0)∘ae) (by rfl) (by decide) (by rfl) (by rfl)) (@aS _ _ _ _ _ _ _ rfl (¬2) af))∘ae) (by rfl)) (@av _ _ _ 5 _ nd rfl (Or.inl rfl) (by trivial))
      (@am _ _ _ _ _ (@bG _ _ _ _ _ _ _ _ _ _ _ (@bj _ _ _ _ _ _ _ _ _ (@zo _ _ _ rfl hr) (¬3) (@dt _ _ _ _ _ ae) (aX _))
      (@am _ _ _ _ _ (@eD _ _ _ _ _ (@dq _ _ _ _ _ _ _ _ _ rfl (¬4) ((@r8 _ _ _ _ _ _ _ _ _ rfl (¬3) ((@aZ _ _ _ _ _ _ _ (@aT _ _ _ _ _ _ _ _ _ _ _ _ _ _ _ hLnext GLnext (hr.mono (by decide)) ((¬0)∘ae) (by rfl) (by decide) (by rfl) (by rfl)) (@aV _ _ _ _ _ _ _ _ _ (@b_len _ _ rfl) (by rfl) T.b_len ((¬3)∘ae) (by decide) (by decide) (by rfl) (by rfl)))∘ae) (by rfl) (by rfl) (by rfl) (by rfl) (by rfl))∘ae) (by rfl) (by rfl) (by rfl) (by rfl) (by rfl)) (by rfl)))
      (@aR _ _))) (by intro _;rfl))
      (@am _ _ _ _ _ (@aw _ _ _ _ _ (@aV _ _ _ _ _ _ _ _ _ (@b_tuple _ _ rfl) (by rfl) T.b_tuple ((¬4)∘ae) (by decide) (by decide) (by rfl) (by rfl))))))))
noncomputable def iC:FI:=(dn (aa (ac 1) ai))
noncomputable def dZ:FS:=(ay (eu (ax (ar (cQ false) (ar a7 (ac 4) (vC (.int 16))) (vC (.int 0))))
    (bg 3 (bJ 1 bc (aa (ac 0) ai)))
    bQ)
    (ej (cK bA (ac 2) (aa (ar (cQ false) (ar a7 (ar ed (ac 3) (ar xa (vC (.int 1)) (ar a7 (ac 4) (vC (.int 16))))) (vC (.int 2))) (vC (.int 1))) ai))))
noncomputable def nB:FS:=(ay (bg 2 (eF ai))
    (ay (bg 3 (vC (.int 0)))
    (ay (eE ([4]++(([3]++[])++[])) iC (ah 4) dZ)
    (a8 (aI (g1 bY) (aa (ac 2) ai))))))
noncomputable def eK:FM:=gC 2 3 ([2]++([3]++(([4]++(([3]++[])++[]))++[]))) nB
theorem mL:az ["_law_drawn","_law_many","_law_found","_law_number","_law_k"] ["_law_drawn","_law_many"] (aj gG):=⟨rfl,rfl,rfl,by decide+kernel,rfl,by decide+kernel,by decide+kernel⟩
theorem qR(h:a_ K mg "_law_answers" gG f fd ["_law_drawn","_law_many"])(T:iw mg){fLnext:Addr}{eLnext:FuncData}(hLnext:a_ K mg "_law_next" hR fLnext eLnext ["_law_drawn"])(GLnext:aF P w K mg base bM 1 fLnext eLnext ["_law_drawn"] (bO K 1 bc)):aF P w K mg base bM 2 f fd ["_law_drawn","_law_many"] (bO K 2 eK):=by
  have nd:=mL.nd
  exact h.fn mL rfl rfl (fun cdv A outer s H E hr=>(@ag _ _ _ _ _ _ _ _ (@aC _ _ _ _ _ 2 _ _ nd rfl (Or.inl rfl) (@dt _ _ _ _ _ ae) (by rfl) (by trivial))
      (@ag _ _ _ _ _ _ _ _ (@aC _ _ _ _ _ 3 _ _ nd rfl (Or.inl rfl) af (by rfl) (by trivial))
      (@ag _ _ _ _ _ _ _ _ (@gp _ _ _ _ _ _ _ _ _ _ _ PassesOwn.never rfl (@dO _ _ _ _ _ _ _ rfl T.b_range ((¬1)∘ae) (by rfl)) (@av _ _ _ 4 _ nd rfl (Or.inl rfl) (by trivial))
      (@ag _ _ _ _ _ _ _ _ (@bG _ _ _ _ _ _ _ _ _ _ _ (@bj _ _ _ _ _ _ _ _ _ (@lF _ _ _ rfl hr) (@aZ _ _ _ _ _ _ _ (¬4) af) af (aX _))
      (@am _ _ _ _ _ (@aC _ _ _ _ _ 3 _ _ nd rfl (Or.inl rfl) (@aT _ _ _ _ _ _ _ _ _ _ _ _ _ _ _ hLnext GLnext (hr.mono (by decide)) ((¬0)∘ae) (by rfl) (by decide) (by rfl) (by rfl)) (by rfl) (by trivial)))
      (@aR _ _))
      (@am _ _ _ _ _ (@eD _ _ _ _ _ (@dq _ _ _ _ _ _ _ _ _ rfl (¬2) ((@nZ _ _ _ _ _ _ _ _ _ (@lF _ _ _ rfl hr) (@aZ _ _ _ _ _ _ _ (@gk _ _ _ _ _ _ _ (¬3) (@BZ _ _ _ _ _ _ _ af (@aZ _ _ _ _ _ _ _ (¬4) af))) af) af (aX _))∘ae) (by rfl) (by rfl) (by rfl) (by rfl) (by rfl)) (by rfl)))) (by intro _;rfl))
      (@am _ _ _ _ _ (@aw _ _ _ _ _ (@aV _ _ _ _ _ _ _ _ _ (@b_tuple _ _ rfl) (by rfl) T.b_tuple ((¬2)∘ae) (by decide) (by decide) (by rfl) (by rfl))))))))
noncomputable def gg:FI:=(jJ (ac 1))
noncomputable def aW:FS:=(eu (ax (bJ 3 jN (aa (ac 0) (aa (ac 3) (aa (ac 5) ai)))))
    (ay (ej (cK bA (ac 4) (aa (bU (aa (ac 5) (aa (ar bR (ac 2) (ac 5)) ai))) ai)))
    (bg 3 (bJ 4 gA (aa (ac 0) (aa (ac 3) (aa (ac 5) (aa (ar bR (ac 2) (ac 5)) ai)))))))
    bQ)
noncomputable def kG:FS:=(ay (bg 3 (bU (aa (bU ai) (aa (bU ai) ai))))
    (ay (bg 4 (eF ai))
    (ay (eE ([5]++(([]++[3])++[])) gg (ah 5) aW)
    (a8 (aI (g1 bY) (aa (ac 4) ai))))))
noncomputable def cI:FM:=gC 3 3 ([3]++([4]++(([5]++(([]++[3])++[]))++[]))) kG
theorem j2:az ["_law_web_here","_law_order_here","_law_answers_here","_law_stand","_law_run","_law_tie"] ["_law_web_here","_law_order_here","_law_answers_here"] (aj ek):=⟨rfl,rfl,rfl,by decide+kernel,rfl,by decide+kernel,by decide+kernel⟩
theorem o8(h:a_ K mg "_law_run_order" ek f fd ["_law_web_here","_law_order_here","_law_answers_here"])(T:iw mg){fLmay:Addr}{eLmay:FuncData}(hLmay:a_ K mg "_law_may" qa fLmay eLmay ["_law_web_here","_law_stand","_law_tie"])(GLmay:aF P w K mg base bM 2 fLmay eLmay ["_law_web_here","_law_stand","_law_tie"] (bO K 3 jN)){fLbehind:Addr}{eLbehind:FuncData}(hLbehind:a_ K mg "_law_behind" iJ fLbehind eLbehind ["_law_web_here","_law_stand","_law_tie","_law_truth"])(GLbehind:aF P w K mg base bM 1 fLbehind eLbehind ["_law_web_here","_law_stand","_law_tie","_law_truth"] (bO K 4 gA)):aF P w K mg base bM 3 f fd ["_law_web_here","_law_order_here","_law_answers_here"] (bO K 3 cI):=by
  have nd:=j2.nd
  exact h.fn j2 rfl rfl (fun cdv A outer s H E hr=>(@ag _ _ _ _ _ _ _ _ (@aC _ _ _ _ _ 3 _ _ nd rfl (Or.inl rfl) (@bf _ _ _ _ _ _ ((@bf _ _ _ _ _ _ ae)∘((@bf _ _ _ _ _ _ ae)∘ae))) (by rfl) (by trivial))
      (@ag _ _ _ _ _ _ _ _ (@aC _ _ _ _ _ 4 _ _ nd rfl (Or.inl rfl) (@dt _ _ _ _ _ ae) (by rfl) (by trivial))
      (@ag _ _ _ _ _ _ _ _ (@gp _ _ _ _ _ _ _ _ _ _ _ PassesOwn.never rfl (@fx _ _ _ _ _ rfl (¬1)) (@av _ _ _ 5 _ nd rfl (Or.inl rfl) (by trivial))
      (@am _ _ _ _ _ (@bG _ _ _ _ _ _ _ _ _ _ _ (@b_ _ _ _ _ (@aT _ _ _ _ _ _ _ _ _ _ _ _ _ _ _ hLmay GLmay (hr.mono (by decide)) ((¬0)∘((¬3)∘((¬5)∘ae))) (by rfl) (by decide) (by rfl) (by rfl)) (by intro _;rfl))
      (@ag _ _ _ _ _ _ _ _ (@eD _ _ _ _ _ (@dq _ _ _ _ _ _ _ _ _ rfl (¬4) ((@bf _ _ _ _ _ _ ((¬5)∘((@aY _ _ _ _ _ _ _ rfl (¬2) (¬5) (fun _ _=>rfl))∘ae)))∘ae) (by rfl) (by rfl) (by rfl) (by rfl) (by rfl)) (by rfl))
      (@am _ _ _ _ _ (@aC _ _ _ _ _ 3 _ _ nd rfl (Or.inl rfl) (@aT _ _ _ _ _ _ _ _ _ _ _ _ _ _ _ hLbehind GLbehind (hr.mono (by decide)) ((¬0)∘((¬3)∘((¬5)∘((@aY _ _ _ _ _ _ _ rfl (¬2) (¬5) (fun _ _=>rfl))∘ae)))) (by rfl) (by decide) (by rfl) (by rfl)) (by rfl) (by trivial))))
      (@aR _ _))) (by intro _;rfl))
      (@am _ _ _ _ _ (@aw _ _ _ _ _ (@aV _ _ _ _ _ _ _ _ _ (@b_tuple _ _ rfl) (by rfl) T.b_tuple ((¬4)∘ae) (by decide) (by decide) (by rfl) (by rfl))))))))
theorem mO:az ["_law_kept","_law_found"] ["_law_kept"] (aj gH):=⟨rfl,rfl,rfl,by decide+kernel,rfl,by decide+kernel,by decide+kernel⟩
theorem qT(h:a_ K mg "_law_refusal" gH f fd ["_law_kept"])(T:iw mg){C:Addr}(Z:pD K C){c_PairsError:Addr}(m_PairsError:mg "PairsError"=some (.ref c_PairsError))(k_PairsError:W.kitOne K (.ref C) (.ref c_PairsError)=some true)(k_ValueError:W.kitOne K (.ref C) (.type "ValueError")=some true){c_TooMany:Addr}(m_TooMany:mg "TooMany"=some (.ref c_TooMany))(k_TooMany:W.kitOne K (.ref C) (.ref c_TooMany)=some true){c_NoRise:Addr}(m_NoRise:mg "NoRise"=some (.ref c_NoRise))(k_NoRise:W.kitOne K (.ref C) (.ref c_NoRise)=some false){c_NotTwoSided:Addr}(m_NotTwoSided:mg "NotTwoSided"=some (.ref c_NotTwoSided))(k_NotTwoSided:W.kitOne K (.ref C) (.ref c_NotTwoSided)=some false){c_NoText:Addr}(m_NoText:mg "NoText"=some (.ref c_NoText))(k_NoText:W.kitOne K (.ref C) (.ref c_NoText)=some false):aF P w K mg base bM 1 f fd ["_law_kept"] (Dt C [true,true,true,false,false,false]):=by
  have nd:=mO.nd
  refine h.F.ok mO (fun vs H Q E q=>by obtain⟨a,rfl,_⟩:=q;rfl) fun cdv A outer s H vs Q E hr hsp=>⟨_,iG (pj (i:=1) nd rfl (Or.inl rfl) (ph (bu (km Z rfl T.b_isinstance boot_isinstance (pv 0) (i0 (v:=V.ref c_PairsError) rfl m_PairsError rfl) (fun _ r=>r) k_PairsError) (bu (km Z rfl T.b_isinstance boot_isinstance (pv 0) (pZ (T:="ValueError") rfl T.b_ValueError (by decide+kernel) (by decide) (by decide)) (fun _ r=>r) k_ValueError) (bu (km Z rfl T.b_isinstance boot_isinstance (pv 0) (i0 (v:=V.ref c_TooMany) rfl m_TooMany rfl) (fun _ r=>r) k_TooMany) g9 rfl) rfl) rfl)) rfl (.inl rfl)) (jS (rc (yV vk (pv 1) (ph (bu (km Z rfl T.b_isinstance boot_isinstance (pv 0) (i0 (v:=V.ref c_NoRise) rfl m_NoRise rfl) (fun _ r=>r) k_NoRise) (bu (km Z rfl T.b_isinstance boot_isinstance (pv 0) (i0 (v:=V.ref c_NotTwoSided) rfl m_NotTwoSided rfl) (fun _ r=>r) k_NotTwoSided) (bu (km Z rfl T.b_isinstance boot_isinstance (pv 0) (i0 (v:=V.ref c_NoText) rfl m_NoText rfl) (fun _ r=>r) k_NoText) g9 rfl) rfl) rfl))))),?_⟩
  obtain⟨a,rfl,ha,q⟩:=hsp
  exact x_ ha q
noncomputable def gB:FM:=Bd 2 2 l7
theorem mP:az ["_law_one","_law_other","_law_kept","error"] ["_law_one","_law_other"] (aj gJ):=⟨rfl,rfl,rfl,by decide+kernel,rfl,by decide+kernel,by decide+kernel⟩
theorem qU(h:a_ K mg "_law_refused" gJ f fd ["_law_one","_law_other"])(T:iw mg){C Cb:Addr}{f_beside:Addr}{e_beside:FuncData}(h_beside:a_ K mg "beside" dw f_beside e_beside ["one","other"])(R_beside:aF P w K mg base (zb P w C) 8 f_beside e_beside ["one","other"] (Bh K 2 2 l7)){fLrefusal:Addr}{eLrefusal:FuncData}(hLrefusal:a_ K mg "_law_refusal" gH fLrefusal eLrefusal ["_law_kept"])(GLrefusal:aF P w K mg base bM 1 fLrefusal eLrefusal ["_law_kept"] (Dt C [true,true,true,false,false,false]))(m_PairsError:mg "PairsError"=some (.ref Cb))(hex:W.exmOne K (.ref C) (.ref Cb)=some true):aF P w K mg base bM 9 f fd ["_law_one","_law_other"] (bO K 2 gB):=by
  have nd:=mP.nd
  refine h.F.ok mP (fun vs H Q E q=>q.1) fun cdv A outer s H vs Q E hr hsp=>⟨_,iG (pj (i:=2) nd rfl (Or.inl rfl) Ad rfl (.inl rfl)) (iG (vA (i:=2) (j:=3) rfl rfl R_beside (hr.mono (by decide)) rfl h_beside.m h_beside.F.kp h_beside.b (bu (pv 0) (bu (pv 1) g9 rfl) rfl) rfl m_PairsError hex nd rfl rfl rfl rfl (by decide)) (jS (rc (rV (vm hr) (rT GLrefusal (hr.mono (by decide)) rfl hLrefusal.m hLrefusal.F.kp hLrefusal.b .nil yU (bu (pv 2) g9 rfl)) (ph (bu ms (bu ms (bu ms (bu ms (bu ms (bu ms g9 rfl) rfl) rfl) rfl) rfl) rfl)) (aX _))))),?_⟩
  obtain⟨v0,v1,rfl⟩:∃v0 v1,vs=[v0,v1]:=match vs,hsp.1 with | [v0,v1],_=>⟨_,_,rfl⟩
  refine⟨v0,rfl,v1,rfl,vZ hsp,fun a H' kp hn=>?_⟩
  exact x9 rfl aH (by decide) (fun H Q q=>q) fun H2 k2=>zu hsp fun c o e=>k2 c o (l_ hn c o (kp c o e))
noncomputable def l8:FI:=(jJ (ar bR (ac 1) (vC (.int 1))))
noncomputable def jA:FS:=(ej (cK bA (ac 2) (aa (bU (aa (ar ba (ac 3) (ar bR (ac 0) (vC (.int 0)))) (aa (ar ba (ac 4) (ar bR (ac 0) (vC (.int 0)))) (aa (ac 5) (aa (ac 6) ai))))) ai)))
noncomputable def uk:FS:=(ay (bg 2 (aI (g1 rO) (aa (ar bR (ac 0) (vC (.int 1))) ai)))
    (ay (eE (([3]++([4]++([5]++([6]++[]))))++[]) l8 (bS (aq (ah 3) (aq (ah 4) (aq (ah 5) (aq (ah 6) bI))))) jA)
    (a8 (bU (aa (ar ba (ar bR (ac 0) (vC (.int 0))) (ar bR (ac 1) (vC (.int 0)))) (aa (aI (g1 bY) (aa (ac 2) ai)) (aa (ar ba (ar bR (ac 0) (vC (.int 2))) (ar bR (ac 1) (vC (.int 2)))) (aa (ar ba (ar bR (ac 0) (vC (.int 3))) (ar bR (ac 1) (vC (.int 3)))) ai))))))))
noncomputable def kj:FM:=gC 2 5 ([2]++((([3]++([4]++([5]++([6]++[]))))++[])++[])) uk
theorem si:az ["_law_one","_law_other","_law_ties_here","_law_low_here","_law_high","_law_chance_here","_law_worth_here"] ["_law_one","_law_other"] (aj mI):=⟨rfl,rfl,rfl,by decide+kernel,rfl,by decide+kernel,by decide+kernel⟩
theorem xq(h:a_ K mg "_law_both" mI f fd ["_law_one","_law_other"])(T:iw mg):aF P w K mg base bM 1 f fd ["_law_one","_law_other"] (bO K 2 kj):=by
  have nd:=si.nd
  exact h.fn si rfl rfl (fun cdv A outer s H E hr=>(@ag _ _ _ _ _ _ _ _ (@aC _ _ _ _ _ 2 _ _ nd rfl (Or.inl rfl) (@aV _ _ _ _ _ _ _ _ _ (@b_list _ _ rfl) (by rfl) T.b_list ((@aY _ _ _ _ _ _ _ rfl (¬0) af (fun _ _=>rfl))∘ae) (by decide) (by decide) (by rfl) (by rfl)) (by rfl) (by trivial))
      (@ag _ _ _ _ _ _ _ _ (@gp _ _ _ _ _ _ _ _ _ _ _ PassesOwn.never rfl (@fx _ _ _ _ _ rfl (@aY _ _ _ _ _ _ _ rfl (¬1) af (fun _ _=>rfl))) (@fw _ _ _ _ _ _ _ _ rfl rfl (@aB _ _ _ _ _ _ _ _ (@av _ _ _ 3 _ nd rfl (Or.inl rfl) (by trivial)) (@aB _ _ _ _ _ _ _ _ (@av _ _ _ 4 _ nd rfl (Or.inl rfl) (by trivial)) (@aB _ _ _ _ _ _ _ _ (@av _ _ _ 5 _ nd rfl (Or.inl rfl) (by trivial)) (@aB _ _ _ _ _ _ _ _ (@av _ _ _ 6 _ nd rfl (Or.inl rfl) (by trivial)) (@du _ _) (by rfl)) (by rfl)) (by rfl)) (by rfl)) (aM (aM (aM (aM fj)))) (by rfl) (by rfl))
      (@am _ _ _ _ _ (@eD _ _ _ _ _ (@dq _ _ _ _ _ _ _ _ _ rfl (¬2) ((@bf _ _ _ _ _ _ ((@aS _ _ _ _ _ _ _ rfl (¬3) (@aY _ _ _ _ _ _ _ rfl (¬0) af (fun _ _=>rfl)))∘((@aS _ _ _ _ _ _ _ rfl (¬4) (@aY _ _ _ _ _ _ _ rfl (¬0) af (fun _ _=>rfl)))∘((¬5)∘((¬6)∘ae)))))∘ae) (by rfl) (by rfl) (by rfl) (by rfl) (by rfl)) (by rfl))) (by intro _;rfl))
      (@am _ _ _ _ _ (@aw _ _ _ _ _ (@bf _ _ _ _ _ _ ((@aS _ _ _ _ _ _ _ rfl (@aY _ _ _ _ _ _ _ rfl (¬0) af (fun _ _=>rfl)) (@aY _ _ _ _ _ _ _ rfl (¬1) af (fun _ _=>rfl)))∘((@aV _ _ _ _ _ _ _ _ _ (@b_tuple _ _ rfl) (by rfl) T.b_tuple ((¬2)∘ae) (by decide) (by decide) (by rfl) (by rfl))∘((@aS _ _ _ _ _ _ _ rfl (@aY _ _ _ _ _ _ _ rfl (¬0) af (fun _ _=>rfl)) (@aY _ _ _ _ _ _ _ rfl (¬1) af (fun _ _=>rfl)))∘((@aS _ _ _ _ _ _ _ rfl (@aY _ _ _ _ _ _ _ rfl (¬0) af (fun _ _=>rfl)) (@aY _ _ _ _ _ _ _ rfl (¬1) af (fun _ _=>rfl)))∘ae))))))))))
noncomputable def cM:FI:=(jJ (bJ 3 cI (aa (ac 2) (aa (ac 5) (aa (ac 9) ai)))))
noncomputable def bE:FE:=(bU (aa (ar ba (ac 1) (ac 0)) (aa (ac 2) ai)))
noncomputable def dJ:FI:=(jJ (ac 5))
noncomputable def bV:FE:=(ar ba (ac 1) (ac 0))
noncomputable def dh:FS:=(ay (i9 4 5 (aa (bJ 3 iZ (aa (ac 0) (aa (ac 1) (aa (vC (.int 8)) ai)))) (aa (bJ 3 iZ (aa (ac 0) (aa (ac 2) (aa (vC (.int 8)) ai)))) ai)))
    (ay (bg 6 (aI (g1 fL) (aa (ar bR (ac 1) (vC (.int 1))) ai)))
    (ay (bg 7 (ar ba (ac 4) (aI (g1 bY) (aa (ez [(6,"_law_many")] 1 dJ (ah 1) cJ bV) ai))))
    (ay (eu (c7 (ax (bJ 2 gj (aa (bJ 3 b7 (aa (ac 1) (aa (ac 4) (aa (ac 5) ai)))) (aa (ac 7) ai)))))
    (a8 (vC (.bool false)))
    bQ)
    (ay (eu (lu (ax (ar ww (ar bR (ac 1) (vC (.int 3))) (ac 6))) (ax (ar ww (ar bR (ac 2) (vC (.int 3))) (aI (g1 fL) (aa (ar bR (ac 2) (vC (.int 1))) ai)))))
    (a8 (vC (.bool true)))
    bQ)
    (ay (bg 8 (bJ 2 eK (aa (ac 0) (aa (ac 6) ai))))
    (ay (bg 9 (bJ 2 eK (aa (ac 0) (aa (aI (g1 fL) (aa (ar bR (ac 2) (vC (.int 1))) ai)) ai))))
    (ay (bg 10 (bJ 3 cI (aa (ac 1) (aa (ac 4) (aa (ac 8) ai)))))
    (ay (bg 10 (ar ba (ac 10) (aI (g1 bY) (aa (ez [(6,"_law_many")] 2 cM (bS (aq (ah 1) (aq (ah 2) bI))) cJ bE) ai))))
    (a8 (ar (cQ false) (bJ 3 cI (aa (ac 3) (aa (bJ 3 b7 (aa (ac 1) (aa (ac 4) (aa (ac 5) ai)))) (aa (ar ba (ac 8) (ac 9)) ai)))) (ac 10))))))))))))
noncomputable def bv:FM:=gC 4 7 ([4,5]++([6]++([7]++(([]++[])++(([]++[])++([8]++([9]++([10]++([10]++[]))))))))) dh
theorem ip:az ["_law_drawn","_law_one","_law_other","_law_both_here","_law_first","_law_second","_law_many","_law_due","_law_answers_here","_law_more","_law_runs"] ["_law_drawn","_law_one","_law_other","_law_both_here"] (aj bH):=⟨rfl,rfl,rfl,by decide+kernel,rfl,by decide+kernel,by decide+kernel⟩
theorem k8(h:a_ K mg "_law_right_orders" bH f fd ["_law_drawn","_law_one","_law_other","_law_both_here"])(T:iw mg){fLanswers:Addr}{eLanswers:FuncData}(hLanswers:a_ K mg "_law_answers" gG fLanswers eLanswers ["_law_drawn","_law_many"])(GLanswers:aF P w K mg base bM 2 fLanswers eLanswers ["_law_drawn","_law_many"] (bO K 2 eK)){fLrun_order:Addr}{eLrun_order:FuncData}(hLrun_order:a_ K mg "_law_run_order" ek fLrun_order eLrun_order ["_law_web_here","_law_order_here","_law_answers_here"])(GLrun_order:aF P w K mg base bM 3 fLrun_order eLrun_order ["_law_web_here","_law_order_here","_law_answers_here"] (bO K 3 cI)){fLorder:Addr}{eLorder:FuncData}(hLorder:a_ K mg "_law_order" jY fLorder eLorder ["_law_drawn","_law_web_here","_law_most"])(GLorder:aF P w K mg base bM 2 fLorder eLorder ["_law_drawn","_law_web_here","_law_most"] (bO K 3 iZ)){fLsame:Addr}{eLsame:FuncData}(hLsame:a_ K mg "_law_same" kr fLsame eLsame ["_law_found","_law_due"])(GLsame:aF P w K mg base bM 1 fLsame eLsame ["_law_found","_law_due"] (bO K 2 gj)){f_order_beside:Addr}{e_order_beside:FuncData}(h_order_beside:a_ K mg "order_beside" ce f_order_beside e_order_beside ["one","order","other_order"])(G_order_beside:aF P w K mg base bM 1 f_order_beside e_order_beside ["one","order","other_order"] (bO K 3 b7)):aF P w K mg base bM 4 f fd ["_law_drawn","_law_one","_law_other","_law_both_here"] (bO K 4 bv):=by
  have nd:=ip.nd
  exact h.fn ip rfl rfl (fun cdv A outer s H E hr=>(@ag _ _ _ _ _ _ _ _ (@mD _ _ _ _ _ 4 5 _ _ _ _ _ _ _ _ _ rfl nd rfl rfl (by decide) rfl rfl ((@aT _ _ _ _ _ _ _ _ _ _ _ _ _ _ _ hLorder GLorder (hr.mono (by decide)) ((¬0)∘((¬1)∘(af∘ae))) (by rfl) (by decide) (by rfl) (by rfl))∘((@aT _ _ _ _ _ _ _ _ _ _ _ _ _ _ _ hLorder GLorder (hr.mono (by decide)) ((¬0)∘((¬2)∘(af∘ae))) (by rfl) (by decide) (by rfl) (by rfl))∘ae)) (by rfl) (by rfl))
      (@ag _ _ _ _ _ _ _ _ (@aC _ _ _ _ _ 6 _ _ nd rfl (Or.inr rfl) (@aV _ _ _ _ _ _ _ _ _ (@b_len _ _ rfl) (by rfl) T.b_len ((@aY _ _ _ _ _ _ _ rfl (¬1) af (fun _ _=>rfl))∘ae) (by decide) (by decide) (by rfl) (by rfl)) (by rfl) (by trivial))
      (@ag _ _ _ _ _ _ _ _ (@aC _ _ _ _ _ 7 _ _ nd rfl (Or.inl rfl) (@aS _ _ _ _ _ _ _ rfl (¬4) (@aV _ _ _ _ _ _ _ _ _ (@b_tuple _ _ rfl) (by rfl) T.b_tuple ((@iH _ _ _ _ _ _ _ _ _ _ _ _ _ (aj bH) ["_law_drawn","_law_one","_law_other","_law_both_here","_law_first","_law_second","_law_many","_law_due","_law_answers_here","_law_more","_law_runs"] [(6,"_law_many")] ["_law_tie"] rfl rfl rfl (@fx _ _ _ _ _ rfl (¬5))
        (fun C s0 H0 fp=>(@av _ _ _ 1 _ (show List.Nodup (["_law_many","_law_tie"]:List Str) by decide+kernel) rfl (Or.inl rfl) (by trivial))) (fun C s0 H0 fp=>(@g_ _ _))
        (fun C s0 H0 fp=>(@aS _ _ _ _ _ _ _ rfl (¬1) (¬0))) rfl (by decide+kernel) (by decide+kernel) (by decide+kernel) (by decide+kernel) (by decide+kernel) (by decide+kernel) (by decide+kernel) (by intro _;rfl))∘ae) (by decide) (by decide) (by rfl) (by rfl))) (by rfl) (by trivial))
      (@ag _ _ _ _ _ _ _ _ (@bG _ _ _ _ _ _ _ _ _ _ _ (@cD _ _ _ _ _ (@b_ _ _ _ _ (@aT _ _ _ _ _ _ _ _ _ _ _ _ _ _ _ hLsame GLsame (hr.mono (by decide)) ((@aT _ _ _ _ _ _ _ _ _ _ _ _ _ _ _ h_order_beside G_order_beside (hr.mono (by decide)) ((¬1)∘((¬4)∘((¬5)∘ae))) (by rfl) (by decide) (by rfl) (by rfl))∘((¬7)∘ae)) (by rfl) (by decide) (by rfl) (by rfl)) (by intro _;rfl)))
      (@am _ _ _ _ _ (@aw _ _ _ _ _ (@dr _ _ _ _ _)))
      (@aR _ _))
      (@ag _ _ _ _ _ _ _ _ (@bG _ _ _ _ _ _ _ _ _ _ _ (@nj _ _ _ _ (@iI _ _ _ _ _ _ _ _ (@bj _ _ _ _ _ _ _ _ _ (@sJ _ _) (@aY _ _ _ _ _ _ _ rfl (¬1) af (fun _ _=>rfl)) (¬6) (aX _)) (@hE _ _ _ _ _ (@bj _ _ _ _ _ _ _ _ _ (@sJ _ _) (@aY _ _ _ _ _ _ _ rfl (¬2) af (fun _ _=>rfl)) (@aV _ _ _ _ _ _ _ _ _ (@b_len _ _ rfl) (by rfl) T.b_len ((@aY _ _ _ _ _ _ _ rfl (¬2) af (fun _ _=>rfl))∘ae) (by decide) (by decide) (by rfl) (by rfl)) (aX _)))))
      (@am _ _ _ _ _ (@aw _ _ _ _ _ (@dr _ _ _ _ _)))
      (@aR _ _))
      (@ag _ _ _ _ _ _ _ _ (@aC _ _ _ _ _ 8 _ _ nd rfl (Or.inl rfl) (@aT _ _ _ _ _ _ _ _ _ _ _ _ _ _ _ hLanswers GLanswers (hr.mono (by decide)) ((¬0)∘((¬6)∘ae)) (by rfl) (by decide) (by rfl) (by rfl)) (by rfl) (by trivial))
      (@ag _ _ _ _ _ _ _ _ (@aC _ _ _ _ _ 9 _ _ nd rfl (Or.inl rfl) (@aT _ _ _ _ _ _ _ _ _ _ _ _ _ _ _ hLanswers GLanswers (hr.mono (by decide)) ((¬0)∘((@aV _ _ _ _ _ _ _ _ _ (@b_len _ _ rfl) (by rfl) T.b_len ((@aY _ _ _ _ _ _ _ rfl (¬2) af (fun _ _=>rfl))∘ae) (by decide) (by decide) (by rfl) (by rfl))∘ae)) (by rfl) (by decide) (by rfl) (by rfl)) (by rfl) (by trivial))
      (@ag _ _ _ _ _ _ _ _ (@aC _ _ _ _ _ 10 _ _ nd rfl (Or.inl rfl) (@aT _ _ _ _ _ _ _ _ _ _ _ _ _ _ _ hLrun_order GLrun_order (hr.mono (by decide)) ((¬1)∘((¬4)∘((¬8)∘ae))) (by rfl) (by decide) (by rfl) (by rfl)) (by rfl) (by trivial))
      (@ag _ _ _ _ _ _ _ _ (@aC _ _ _ _ _ 10 _ _ nd rfl (Or.inl rfl) (@aS _ _ _ _ _ _ _ rfl (¬10) (@aV _ _ _ _ _ _ _ _ _ (@b_tuple _ _ rfl) (by rfl) T.b_tuple ((@iH _ _ _ _ _ _ _ _ _ _ _ _ _ (aj bH) ["_law_drawn","_law_one","_law_other","_law_both_here","_law_first","_law_second","_law_many","_law_due","_law_answers_here","_law_more","_law_runs"] [(6,"_law_many")] ["_law_tie","_law_truth"] rfl rfl rfl (@fx _ _ _ _ _ rfl (@aT _ _ _ _ _ _ _ _ _ _ _ _ _ _ _ hLrun_order GLrun_order (hr.mono (by decide)) ((¬2)∘((¬5)∘((¬9)∘ae))) (by rfl) (by decide) (by rfl) (by rfl)))
        (fun C s0 H0 fp=>(@fw _ _ _ _ _ _ _ _ rfl rfl (@aB _ _ _ _ _ _ _ _ (@av _ _ _ 1 _ (show List.Nodup (["_law_many","_law_tie","_law_truth"]:List Str) by decide+kernel) rfl (Or.inl rfl) (by trivial)) (@aB _ _ _ _ _ _ _ _ (@av _ _ _ 2 _ (show List.Nodup (["_law_many","_law_tie","_law_truth"]:List Str) by decide+kernel) rfl (Or.inl rfl) (by trivial)) (@du _ _) (by rfl)) (by rfl)) (aM (aM fj)) (by rfl) (by rfl))) (fun C s0 H0 fp=>(@g_ _ _))
        (fun C s0 H0 fp=>(@bf _ _ _ _ _ _ ((@aS _ _ _ _ _ _ _ rfl (¬1) (¬0))∘((¬2)∘ae)))) rfl (by decide+kernel) (by decide+kernel) (by decide+kernel) (by decide+kernel) (by decide+kernel) (by decide+kernel) (by decide+kernel) (by intro _;rfl))∘ae) (by decide) (by decide) (by rfl) (by rfl))) (by rfl) (by trivial))
      (@am _ _ _ _ _ (@aw _ _ _ _ _ (@nZ _ _ _ _ _ _ _ _ _ (@lF _ _ _ rfl hr) (@aT _ _ _ _ _ _ _ _ _ _ _ _ _ _ _ hLrun_order GLrun_order (hr.mono (by decide)) ((¬3)∘((@aT _ _ _ _ _ _ _ _ _ _ _ _ _ _ _ h_order_beside G_order_beside (hr.mono (by decide)) ((¬1)∘((¬4)∘((¬5)∘ae))) (by rfl) (by decide) (by rfl) (by rfl))∘((@aS _ _ _ _ _ _ _ rfl (¬8) (¬9))∘ae))) (by rfl) (by decide) (by rfl) (by rfl)) (¬10) (aX _))))))))))))))
noncomputable def DP:FI:=(dn (aa (vC (.int 6)) ai))
noncomputable def CH:FS:=(ay (bg 3 (ar bR (eF (aa (bU (aa (vC (.int 6)) (aa (vC (.int 8)) ai))) (aa (bU (aa (vC (.int 12)) (aa (vC (.int 16)) ai))) ai))) (ar a7 (bJ 1 bc (aa (ac 1) ai)) (vC (.int 2)))))
    (ay (i9 4 5 (aa (bJ 3 kT (aa (ac 1) (aa (ar bR (ac 3) (vC (.int 0))) (aa (ar bR (ac 3) (vC (.int 1))) ai)))) (aa (bJ 3 kT (aa (ac 1) (aa (ar bR (ac 3) (vC (.int 0))) (aa (ar bR (ac 3) (vC (.int 1))) ai)))) ai)))
    (ay (eu (ax (ar sU (ar a7 (bJ 1 bc (aa (ac 1) ai)) (vC (.int 4))) (vC (.int 0))))
    (i9 4 5 (aa (ar ba (qp (ac 4) fq (er (vC (.int 3)))) (bU (aa (aI (g2 oR) (aa (vC (.int 20)) (aa (ar bR (ac 4) (vC (.int 3))) ai))) ai))) (aa (ar ba (qp (ac 5) fq (er (vC (.int 3)))) (bU (aa (aI (g2 oR) (aa (vC (.int 20)) (aa (ar bR (ac 5) (vC (.int 3))) ai))) ai))) ai)))
    bQ)
    (ay (bg 6 (bJ 2 kj (aa (ac 4) (aa (ac 5) ai))))
    (ay (eu (lu (ax (ar sU (ar bR (ac 6) (vC (.int 0))) (vC (.int 12)))) (lu (ax (ar sU (aI (g1 fL) (aa (ar bR (ac 6) (vC (.int 1))) ai)) (vC (.int 16)))) (ax (ar sU (ar bR (ac 6) (vC (.int 3))) (vC (.int 40))))))
    (eu (c7 (ax (bJ 2 gB (aa (ac 4) (aa (ac 5) ai)))))
    (a8 (vC (.bool false)))
    bQ)
    (eu (lu (c7 (ax (bJ 2 gj (aa (bJ 2 eh (aa (ac 4) (aa (ac 5) ai))) (aa (ac 6) ai))))) (ax (ar lW (bJ 1 bN (aa (bJ 2 eh (aa (ac 4) (aa (ac 5) ai))) ai)) (vC (.bool true)))))
    (a8 (vC (.bool false)))
    bQ))
    (eu (c7 (ax (bJ 4 bv (aa (ac 1) (aa (ac 4) (aa (ac 5) (aa (ac 6) ai)))))))
    (a8 (vC (.bool false)))
    bQ))))))
noncomputable def yB:FS:=(ay (bg 1 (bJ 1 jM (aa (ac 0) ai)))
    (ay (eE ([2]++([3]++([4,5]++(([4,5]++[])++([6]++((([]++[])++([]++[]))++([]++[]))))))) DP (ah 2) CH)
    (a8 (vC (.bool true)))))
noncomputable def me:FM:=gC 1 6 ([1]++(([2]++([3]++([4,5]++(([4,5]++[])++([6]++((([]++[])++([]++[]))++([]++[])))))))++[])) yB
theorem vV:az ["_law_script","_law_drawn","_law_turn","_law_most","_law_one","_law_other","_law_both_here"] ["_law_script"] (aj mK):=⟨rfl,rfl,rfl,by decide+kernel,rfl,by decide+kernel,by decide+kernel⟩
theorem zW(h:a_ K mg "law" mK f fd ["_law_script"])(T:iw mg){fLdraws:Addr}{eLdraws:FuncData}(hLdraws:a_ K mg "_law_draws" jW fLdraws eLdraws ["_law_script"])(GLdraws:aF P w K mg base bM 2 fLdraws eLdraws ["_law_script"] (bO K 1 jM)){fLboth:Addr}{eLboth:FuncData}(hLboth:a_ K mg "_law_both" mI fLboth eLboth ["_law_one","_law_other"])(GLboth:aF P w K mg base bM 1 fLboth eLboth ["_law_one","_law_other"] (bO K 2 kj)){fLweb:Addr}{eLweb:FuncData}(hLweb:a_ K mg "_law_web" qb fLweb eLweb ["_law_drawn","_law_most","_law_ties_here"])(GLweb:aF P w K mg base bM 5 fLweb eLweb ["_law_drawn","_law_most","_law_ties_here"] (bO K 3 kT)){fLright_orders:Addr}{eLright_orders:FuncData}(hLright_orders:a_ K mg "_law_right_orders" bH fLright_orders eLright_orders ["_law_drawn","_law_one","_law_other","_law_both_here"])(GLright_orders:aF P w K mg base bM 4 fLright_orders eLright_orders ["_law_drawn","_law_one","_law_other","_law_both_here"] (bO K 4 bv)){fLnext:Addr}{eLnext:FuncData}(hLnext:a_ K mg "_law_next" hR fLnext eLnext ["_law_drawn"])(GLnext:aF P w K mg base bM 1 fLnext eLnext ["_law_drawn"] (bO K 1 bc)){fLrefused:Addr}{eLrefused:FuncData}(hLrefused:a_ K mg "_law_refused" gJ fLrefused eLrefused ["_law_one","_law_other"])(GLrefused:aF P w K mg base bM 9 fLrefused eLrefused ["_law_one","_law_other"] (bO K 2 gB)){fLsame:Addr}{eLsame:FuncData}(hLsame:a_ K mg "_law_same" kr fLsame eLsame ["_law_found","_law_due"])(GLsame:aF P w K mg base bM 1 fLsame eLsame ["_law_found","_law_due"] (bO K 2 gj)){f_is_web:Addr}{e_is_web:FuncData}(h_is_web:a_ K mg "is_web" fD f_is_web e_is_web ["thing"])(G_is_web:aF P w K mg base bM 7 f_is_web e_is_web ["thing"] (bO K 1 bN)){f_beside:Addr}{e_beside:FuncData}(h_beside:a_ K mg "beside" dw f_beside e_beside ["one","other"])(G_beside:aF P w K mg base bM 8 f_beside e_beside ["one","other"] (bO K 2 eh)):aF P w K mg base bM 10 f fd ["_law_script"] (bO K 1 me):=by
  have nd:=vV.nd
  exact h.fn vV rfl rfl (fun cdv A outer s H E hr=>(@ag _ _ _ _ _ _ _ _ (@aC _ _ _ _ _ 1 _ _ nd rfl (Or.inl rfl) (@aT _ _ _ _ _ _ _ _ _ _ _ _ _ _ _ hLdraws GLdraws (hr.mono (by decide)) ((¬0)∘ae) (by rfl) (by decide) (by rfl) (by rfl)) (by rfl) (by trivial))
      (@ag _ _ _ _ _ _ _ _ (@gp _ _ _ _ _ _ _ _ _ _ _ PassesOwn.never rfl (@dO _ _ _ _ _ _ _ rfl T.b_range (af∘ae) (by rfl)) (@av _ _ _ 2 _ nd rfl (Or.inl rfl) (by trivial))
      (@ag _ _ _ _ _ _ _ _ (@aC _ _ _ _ _ 3 _ _ nd rfl (Or.inl rfl) (@aY _ _ _ _ _ _ _ rfl (@dt _ _ _ _ _ ((@bf _ _ _ _ _ _ (af∘(af∘ae)))∘((@bf _ _ _ _ _ _ (af∘(af∘ae)))∘ae))) (@aZ _ _ _ _ _ _ _ (@aT _ _ _ _ _ _ _ _ _ _ _ _ _ _ _ hLnext GLnext (hr.mono (by decide)) ((¬1)∘ae) (by rfl) (by decide) (by rfl) (by rfl)) af) (fun _ _=>rfl)) (by rfl) (by trivial))
      (@ag _ _ _ _ _ _ _ _ (@mD _ _ _ _ _ 4 5 _ _ _ _ _ _ _ _ _ rfl nd rfl rfl (by decide) rfl rfl ((@aT _ _ _ _ _ _ _ _ _ _ _ _ _ _ _ hLweb GLweb (hr.mono (by decide)) ((¬1)∘((@aY _ _ _ _ _ _ _ rfl (¬3) af (fun _ _=>rfl))∘((@aY _ _ _ _ _ _ _ rfl (¬3) af (fun _ _=>rfl))∘ae))) (by rfl) (by decide) (by rfl) (by rfl))∘((@aT _ _ _ _ _ _ _ _ _ _ _ _ _ _ _ hLweb GLweb (hr.mono (by decide)) ((¬1)∘((@aY _ _ _ _ _ _ _ rfl (¬3) af (fun _ _=>rfl))∘((@aY _ _ _ _ _ _ _ rfl (¬3) af (fun _ _=>rfl))∘ae))) (by rfl) (by decide) (by rfl) (by rfl))∘ae)) (by rfl) (by rfl))
      (@ag _ _ _ _ _ _ _ _ (@bG _ _ _ _ _ _ _ _ _ _ _ (@bj _ _ _ _ _ _ _ _ _ (@sI _ _) (@aZ _ _ _ _ _ _ _ (@aT _ _ _ _ _ _ _ _ _ _ _ _ _ _ _ hLnext GLnext (hr.mono (by decide)) ((¬1)∘ae) (by rfl) (by decide) (by rfl) (by rfl)) af) af (aX _))
      (@am _ _ _ _ _ (@mD _ _ _ _ _ 4 5 _ _ _ _ _ _ _ _ _ rfl nd rfl rfl (by decide) rfl rfl ((@aS _ _ _ _ _ _ _ rfl (@jT _ _ _ _ _ _ _ _ _ _ rfl (¬4) (@jU _ _) (@jV _ _ _ _ af)) (@bf _ _ _ _ _ _ ((@aV _ _ _ _ _ _ _ _ _ (@b_min _ _ rfl) (by rfl) T.b_min (af∘((@aY _ _ _ _ _ _ _ rfl (¬4) af (fun _ _=>rfl))∘ae)) (by decide) (by decide) (by rfl) (by rfl))∘ae)))∘((@aS _ _ _ _ _ _ _ rfl (@jT _ _ _ _ _ _ _ _ _ _ rfl (¬5) (@jU _ _) (@jV _ _ _ _ af)) (@bf _ _ _ _ _ _ ((@aV _ _ _ _ _ _ _ _ _ (@b_min _ _ rfl) (by rfl) T.b_min (af∘((@aY _ _ _ _ _ _ _ rfl (¬5) af (fun _ _=>rfl))∘ae)) (by decide) (by decide) (by rfl) (by rfl))∘ae)))∘ae)) (by rfl) (by rfl)))
      (@aR _ _))
      (@ag _ _ _ _ _ _ _ _ (@aC _ _ _ _ _ 6 _ _ nd rfl (Or.inl rfl) (@aT _ _ _ _ _ _ _ _ _ _ _ _ _ _ _ hLboth GLboth (hr.mono (by decide)) ((¬4)∘((¬5)∘ae)) (by rfl) (by decide) (by rfl) (by rfl)) (by rfl) (by trivial))
      (@ag _ _ _ _ _ _ _ _ (@bG _ _ _ _ _ _ _ _ _ _ _ (@nj _ _ _ _ (@iI _ _ _ _ _ _ _ _ (@bj _ _ _ _ _ _ _ _ _ (@sI _ _) (@aY _ _ _ _ _ _ _ rfl (¬6) af (fun _ _=>rfl)) af (aX _)) (@iI _ _ _ _ _ _ _ _ (@bj _ _ _ _ _ _ _ _ _ (@sI _ _) (@aV _ _ _ _ _ _ _ _ _ (@b_len _ _ rfl) (by rfl) T.b_len ((@aY _ _ _ _ _ _ _ rfl (¬6) af (fun _ _=>rfl))∘ae) (by decide) (by decide) (by rfl) (by rfl)) af (aX _)) (@hE _ _ _ _ _ (@bj _ _ _ _ _ _ _ _ _ (@sI _ _) (@aY _ _ _ _ _ _ _ rfl (¬6) af (fun _ _=>rfl)) af (aX _))))))
      (@am _ _ _ _ _ (@bG _ _ _ _ _ _ _ _ _ _ _ (@cD _ _ _ _ _ (@b_ _ _ _ _ (@aT _ _ _ _ _ _ _ _ _ _ _ _ _ _ _ hLrefused GLrefused (hr.mono (by decide)) ((¬4)∘((¬5)∘ae)) (by rfl) (by decide) (by rfl) (by rfl)) (by intro _;rfl)))
      (@am _ _ _ _ _ (@aw _ _ _ _ _ (@dr _ _ _ _ _)))
      (@aR _ _)))
      (@am _ _ _ _ _ (@bG _ _ _ _ _ _ _ _ _ _ _ (@nj _ _ _ _ (@iI _ _ _ _ _ _ _ _ (@cD _ _ _ _ _ (@b_ _ _ _ _ (@aT _ _ _ _ _ _ _ _ _ _ _ _ _ _ _ hLsame GLsame (hr.mono (by decide)) ((@aT _ _ _ _ _ _ _ _ _ _ _ _ _ _ _ h_beside G_beside (hr.mono (by decide)) ((¬4)∘((¬5)∘ae)) (by rfl) (by decide) (by rfl) (by rfl))∘((¬6)∘ae)) (by rfl) (by decide) (by rfl) (by rfl)) (by intro _;rfl))) (@hE _ _ _ _ _ (@bj _ _ _ _ _ _ _ _ _ (@wN _ _) (@aT _ _ _ _ _ _ _ _ _ _ _ _ _ _ _ h_is_web G_is_web (hr.mono (by decide)) ((@aT _ _ _ _ _ _ _ _ _ _ _ _ _ _ _ h_beside G_beside (hr.mono (by decide)) ((¬4)∘((¬5)∘ae)) (by rfl) (by decide) (by rfl) (by rfl))∘ae) (by rfl) (by decide) (by rfl) (by rfl)) (@dr _ _ _ _ _) (aX _)))))
      (@am _ _ _ _ _ (@aw _ _ _ _ _ (@dr _ _ _ _ _)))
      (@aR _ _))))
      (@am _ _ _ _ _ (@bG _ _ _ _ _ _ _ _ _ _ _ (@cD _ _ _ _ _ (@b_ _ _ _ _ (@aT _ _ _ _ _ _ _ _ _ _ _ _ _ _ _ hLright_orders GLright_orders (hr.mono (by decide)) ((¬1)∘((¬4)∘((¬5)∘((¬6)∘ae)))) (by rfl) (by decide) (by rfl) (by rfl)) (by intro _;rfl)))
      (@am _ _ _ _ _ (@aw _ _ _ _ _ (@dr _ _ _ _ _)))
      (@aR _ _)))))))) (by intro _;rfl))
      (@am _ _ _ _ _ (@aw _ _ _ _ _ (@dr _ _ _ _ _))))))
local macro_rules | `(tactic| simp? [$ts,*]) => `(tactic| simp [$ts,*, gC, ja, ay, eu, a8, bQ, bg, ej, i8, i9, pk, ax, ar, qr, ac, vC, eF, ai, aa, bU, aI, bJ, m5, lu, c7, AZ, fY, ro, jd, qp, fq, er, cK, bA, qQ, en, fQ, lJ, cz, cv, oP, pC, bS, aq, ah, bI, cj, aL, bh, pY, di, eV, cY, gP, gW, gT, gR, gQ, eY, eX, eZ, dH, eU, lX, ii, jl, lY, jo, gU, jm, jn, ff, e_, dI, fg, l5, f9, eS, jh, ji, lI, dG, dD, ee, gS, List.replicate, -List.map_nil, -List.map_cons, -List.nil_append, -List.cons_append, -Option.bind_some, -Option.map_some, -getElem?_pos, -List.append_nil, lQ, lP, lL, lK, lN, lO, lM, lS])
theorem ud{n k:Int}(h:0 < k):0≤n % k:=Int.emod_nonneg _ (Int.ne_of_gt h)
theorem uA{n k:Int}(h:0 < k):n % k < k:=Int.emod_lt_of_pos _ h
def nx:List Int→Int
  | []=>0
  | d::_=>d
def ic(ds:List Int):Prop:=∀d∈ds,0≤d∧d < 2147483648
theorem yQ{ds:List Int}(h:ic ds):0≤nx ds∧nx ds < 2147483648:=by
  cases ds with
  | nil=>exact⟨Int.le_refl 0,by show(0:Int) < 2147483648;decide⟩
  | cons d r=>exact h d (by simp)
theorem Cw{ds:List Int}(h:ic ds):ic ds.tail:=fun d hd=>h d (List.mem_of_mem_tail hd)
theorem AS(ds:List Int):bc [.l (ds.map .int)]=some (.d (.int (nx ds)),[.l (ds.tail.map .int)]):=by
  have hq:∀e:En,e[0]?=some (some (.l (ds.map .int)))→cQ false e (.s 0) (.l [])=some (.d (.bool (ds.map PyData.int).isEmpty)):=fun e he=>pR he (kU ds).1
  cases ds with
  | nil=>simp? [bc,qB,hq,nx]
  | cons d r=>simp? [bc,qB,hq,nx]
theorem iu{ds:List Int}(hd:ic ds):∃(n:Int) (ds':List Int),bc [.l (ds.map .int)]=some (.d (.int n),[.l (ds'.map .int)])∧0≤n∧n < 2147483648∧ic ds':=⟨nx ds,ds.tail,AS ds,(yQ hd).1,(yQ hd).2,Cw hd⟩
theorem sy(cell k:Int)(h0:0≤k)(h1:k≤1000):∃r,iY [.d (.int cell),.d (.int k)]=some (.d (.int r),[.d (.int cell),.d (.int k)])∧0≤r∧r < 2147483648:=by
  have a1:kl (cell % 2147483647) 48271=true:=o5 (by decide) (by decide)
  have a2:kl 7919 k=true:=u9 (by decide) (by decide)
  have a3:kl (7919*k) k=true:=o5 (by lia) (by lia)
  have a4:kl ((cell % 2147483647*48271+7919*k*k+104729) % 2147483647) ((cell % 2147483647*48271+7919*k*k+104729) % 2147483647)=true:=o5 (by lia) (by lia)
  refine⟨_,by simp? [iY,rF,aQ,l0,a1,a2,a3,a4];rfl,?_,?_⟩
  · lia
  · lia
theorem oO{ds:List Int}(h:ic ds){r:Int}(h0:0≤r)(h1:r < 2147483648):ic (ds++[r]):=fun d hd=>by
  rcases List.mem_append.mp hd with hd | hd
  · exact h d hd
  · simp at hd;subst hd;exact⟨h0,h1⟩
abbrev dE(ns ds:List Int)(v2 v3 v4:Option Sv):En:=[some (.d (.list (ns.map .int))),some (.l (ds.map .int)),v2,v3,v4]
inductive DI (ns:List Int) (i:Nat):En→Prop
  | mk {ds v2 v3 v4} (hd:ic ds) (hl:ds.length≤1000*i):DI ns i (dE ns ds v2 v3 v4)
inductive DJ (ns:List Int) (k cell:Int) (n i:Nat):En→Prop
  | mk {ds v4} (hd:ic ds) (hl:ds.length=n+i):DJ ns k cell n i (dE ns ds (some (.d (.int k))) (some (.d (.int cell))) v4)
inductive DW (ns:List Int) (k:Int) (v4:Option Sv) (n:Nat):En→Prop
  | mk {cell ds} (hc:0≤cell) (hd:ic ds) (hl:ds.length≤max n 900):DW ns k v4 n (dE ns ds (some (.d (.int k))) (some (.d (.int cell))) v4)
theorem yi(ns:List Int)(hn:ns.length≤63):∃ds,jM [.d (.list (ns.map .int))]=some (.l (ds.map .int),[.d (.list (ns.map .int))])∧ic ds:=by
  have inner:∀(cell k:Int) (ds:List Int) (v4:Option Sv),0≤k→k≤63→ic ds→ds.length≤63000→∃ds' v4',(∀W,eE W iW (ah 4) gu (dE ns ds (some (.d (.int k))) (some (.d (.int cell))) v4)=some (.nx (dE ns ds' (some (.d (.int k))) (some (.d (.int cell))) v4')))∧ic ds'∧ds'.length=ds.length+12:=by
    intro cell k ds v4 k0 k1 hd hl
    obtain⟨e',h1,h2⟩:=dm (own:=[]) (g:=ah 4) (f:=gu) (DJ ns k cell ds.length) (bL 0 12) 0 (dE ns ds (some (.d (.int k))) (some (.d (.int cell))) v4) (fun i x e hx hI=>by
      obtain⟨rfl,hi⟩:=fy hx
      obtain⟨hd',hl'⟩:=hI
      rename_i ds' v4'
      obtain⟨r1,c1,_,_⟩:=sy cell (3*(0+(i:Int))+1) (by lia) (by lia)
      obtain⟨r2,c2,c3,c4⟩:=sy r1 (0+(i:Int)+k+2) (by lia) (by lia)
      have a1:kl 3 (0+(i:Int))=true:=u9 (by decide) (by decide)
      refine⟨_,dE ns (ds'++[r2]) (some (.d (.int k))) (some (.d (.int cell))) (some (.d (.int (0+(i:Int))))),rfl,?_,bo,.mk (oO hd' c3 c4) (by simp;lia)⟩
      have hlen:ds'.length < 1000000:=by lia
      simp only [Int.zero_add] at a1 c1 c2
      simp? [dE,gu,c1,c2,l0,a1,hlen]) (.mk hd rfl)
    obtain⟨hd',hl'⟩:=h2
    rename_i ds' v4'
    rw [fC] at hl'
    refine⟨ds',v4',fun W=>?_,hd',by lia⟩
    rw [dW (show iW _=some (bL 0 12,[],_) from cZ (n:=12) rfl (by decide) (by decide))]
    exact h1
  have wh:∀(cell k:Int) (ds:List Int) (v4:Option Sv),0≤cell→ic ds→ds.length≤63100→∃cell' ds',jv (2 ^ 4200) eI iT (dE ns ds (some (.d (.int k))) (some (.d (.int cell))) v4)=some (.nx (dE ns ds' (some (.d (.int k))) (some (.d (.int cell'))) v4))∧0≤cell'∧ic ds'∧ds'.length≤max ds.length 900:=by
    intro cell k ds v4 hc hd hl
    have tst:∀(cell:Int) (ds:List Int),eI (dE ns ds (some (.d (.int k))) (some (.d (.int cell))) v4)=some (decide (1000000000000000000≤cell)&&decide ((ds.length:Int) < 900),dE ns ds (some (.d (.int k))) (some (.d (.int cell))) v4):=by
      intro cell ds
      by_cases h:(1000000000000000000:Int)≤cell
      · simp? [dE,eI,jH,jR,h]
      · simp? [dE,eI,jH,jR,h]
    obtain⟨e0,e',h1,hI,h3⟩:=jx (ft:=eI) (f:=iT) (DW ns k v4 ds.length)
      (fun e=>1000000 - yL 1 e) (fun e hI=>by
        obtain⟨hc',hd',hl'⟩:=hI
        rename_i cell' ds'
        rw [tst]
        by_cases c1:(1000000000000000000:Int)≤cell'
        · by_cases c2:(ds'.length:Int) < 900
          · refine .inr ⟨_,dE ns (ds'++[cell' % 2147483629]) (some (.d (.int k))) (some (.d (.int (cell' / 2147483629)))) v4,by rw [decide_eq_true c1,decide_eq_true c2];rfl,?_,.mk (by lia) (oO hd' (by lia) (by lia)) (by simp;lia),?_⟩
            · have hlen:ds'.length < 1000000:=by lia
              have b8:Bt 8000 2147483629:=kd (by decide) (by decide)
              simp? [dE,iT,aQ,eJ,b8,hlen]
            · simp [yL,dE];lia
          · exact .inl ⟨_,by rw [decide_eq_true c1,decide_eq_false c2];rfl,trivial⟩
        · exact .inl ⟨_,by rw [decide_eq_false c1];rfl,trivial⟩) (2 ^ 4200) _ (.mk hc hd (by lia)) (oX (m:=20) (Nat.lt_of_le_of_lt (Nat.sub_le _ _) (by decide)) (by decide))
    obtain⟨hc',hd',hl'⟩:=hI
    rename_i cell' ds'
    rw [tst] at h3
    have h4:=(Prod.mk.inj (Option.some.inj h3)).2
    subst h4
    exact⟨cell',ds',h1,hc',hd',hl'⟩
  have turn:∀(i:Nat) (ds:List Int) (v3 v4:Option Sv) (hi:i < ns.length),ic ds→ds.length≤1000*i→∃ds2 v3' v4',eG (dE ns ds (some (.d (.int (i:Int)))) v3 v4)=some (.nx (dE ns ds2 (some (.d (.int (i:Int)))) v3' v4'))∧ic ds2∧ds2.length≤1000*(i+1):=by
    intro i ds v3 v4 hi hd hl
    have hcell:atI (ns.map PyData.int) (i:Int)=some (.int ns[i]):=by
      rw [f_ (by lia) (by rw [List.length_map];lia)]
      simp [hi]
    have c0:(0:Int)≤(ns[i].natAbs:Int):=by lia
    have st:bg 3 (aI (g1 qI) (aa (ar bR (ac 0) (ac 2)) ai)) (dE ns ds (some (.d (.int (i:Int)))) v3 v4)=some (.nx (dE ns ds (some (.d (.int (i:Int)))) (some (.d (.int (ns[i].natAbs:Int)))) v4)):=by
      simp? [dE,hcell]
    generalize (ns[i].natAbs:Int)=cell at c0 st
    have mid:∃ds1 v4',eu (ax (ar ww (ac 3) (ar qJ (vC (.int 10)) (vC (.int 18))))) (eE ([4]++[]) iW (ah 4) gu) bQ (dE ns ds (some (.d (.int (i:Int)))) (some (.d (.int cell))) v4)=some (.nx (dE ns ds1 (some (.d (.int (i:Int)))) (some (.d (.int cell))) v4'))∧ic ds1∧ds1.length≤ds.length+12:=by
      by_cases cb:cell < 1000000000000000000
      · obtain⟨ds1,v4',f1,f2,f3⟩:=inner cell (i:Int) ds v4 (by lia) (by lia) hd (by lia)
        refine⟨ds1,v4',?_,f2,by lia⟩
        rw [Cc (e1:=dE ns ds (some (.d (.int (i:Int)))) (some (.d (.int cell))) v4) (by simp? [dE,jH,jR,cb])]
        exact f1 _
      · refine⟨ds,v4,?_,hd,by lia⟩
        rw [Ca (e1:=dE ns ds (some (.d (.int (i:Int)))) (some (.d (.int cell))) v4) (by simp? [dE,jH,jR,cb])]
        rfl
    obtain⟨ds1,v4',m1,m2,m3⟩:=mid
    obtain⟨cell2,ds2,w1,w2,w3,w4⟩:=wh cell (i:Int) ds1 v4' c0 m2 (by lia)
    by_cases c2:(2147483629:Int)≤cell2
    · refine⟨ds2++[cell2 % 2147483629],some (.d (.int cell2)),v4',?_,oO w3 (by lia) (by lia),by simp;lia⟩
      have hlen:ds2.length < 1000000:=by lia
      unfold eG
      rw [cV st,cV m1,cV w1]
      simp? [dE,c2,aQ,hlen]
    · refine⟨ds2,some (.d (.int cell2)),v4',?_,w3,by lia⟩
      unfold eG
      rw [cV st,cV m1,cV w1]
      simp? [dE,c2]
  obtain⟨e',h1,hI⟩:=dm (own:=[]) (g:=ah 2) (f:=eG) (DI ns) (bL 0 (min (ns.length:Int) 63).toNat) 0 (dE ns [] none none none) (fun i x e hx hI=>by
    obtain⟨rfl,hi⟩:=fy hx
    obtain⟨hd,hl⟩:=hI
    rename_i ds v2 v3 v4
    rw [Nat.zero_add] at hl ⊢
    obtain⟨ds2,v3',v4',t1,t2,t3⟩:=turn i ds v3 v4 (by lia) hd hl
    exact⟨dE ns ds (some (.d (.int (i:Int)))) v3 v4,_,by simp [ah,dE],t1,bo,.mk t2 t3⟩) (.mk (fun d hd=>by cases hd) (by simp))
  obtain⟨hd,hl⟩:=hI
  rename_i ds v2 v3 v4
  refine⟨ds,?_,hd⟩
  have hf:∀W,eE W kf (ah 2) eG (dE ns [] none none none)=some (.nx (dE ns ds v2 v3 v4)):=fun W=>by
    rw [dW (show kf _=some (bL 0 (min (ns.length:Int) 63).toNat,[],dE ns [] none none none) from cZ (n:=min (ns.length:Int) 63) (by simp? [dE]) (by lia) (by lia))]
    exact h1
  unfold dE at hf
  simp only [List.map_nil] at hf
  simp? [jM,rE,hf]
theorem Ct(a b:Int)(hb:Bt 4000 b):pW [.d (.int a),.d (.int b)]=some (.d (.int (Int.gcd a b)),[.d (.int a),.d (.int b)]):=by
  have tst:∀x y:Int,jC [some (.d (.int x)),some (.d (.int y))]=some (!(y==0),[some (.d (.int x)),some (.d (.int y))]):=fun x y=>by simp? [jC]
  obtain⟨e0,e',h1,⟨x,y,he,hg,hy⟩,h3⟩:=jx (ft:=jC) (f:=lc) (fun e=>∃x y,e=[some (.d (.int x)),some (.d (.int y))]∧Int.gcd x y=Int.gcd a b∧Bt 4000 y) (nX 1) (fun e ⟨x,y,he,hg,hy⟩=>by
    subst he
    rw [tst]
    by_cases c:y=0
    · subst c;exact .inl ⟨_,rfl,trivial⟩
    · refine .inr ⟨_,[some (.d (.int y)),some (.d (.int (x.fmod y)))],by rw [beq_false_of_ne c];rfl,by simp? [lc,uG c],⟨y,x.fmod y,rfl,by rw [pS,hg],?_⟩,?_⟩
      · have:=fV x c
        exact Bt.of_le hy (by lia)
      · have:=fV x c
        simpa [nX] using this) (2 ^ 4200) _ ⟨a,b,rfl,rfl,hb⟩ (oX (m:=4000) (by simpa [nX,Bt] using hb) (by decide))
  subst he
  rw [tst] at h3
  have h4:=Prod.mk.inj (Option.some.inj h3)
  have hy0:y=0:=by simpa using h4.1
  subst hy0
  have h5:=h4.2
  subst h5
  have hs:jv (2 ^ 4200) jC lc [some (.d (.int a)),some (.d (.int b))]=some (.nx [some (.d (.int x)),some (.d (.int 0))]):=h1
  have hg':(x.natAbs:Int)=(Int.gcd a b:Int):=by rw [←hg];simp
  simp only [pW,yy,gC,ja,ay,eu,a8,bQ,bg,ej,i8,i9,pk,ax,ar,qr,ac,vC,eF,ai,aa,bU,aI,bJ,m5,lu,c7,AZ,fY,ro,jd,qp,fq,er,cK,bA,qQ,en,fQ,lJ,cz,cv,oP,pC,bS,aq,ah,bI,cj,aL,bh,pY,di,eV,cY,gP,gW,gT,gR,gQ,eY,eX,eZ,dH,eU,lX,ii,jl,lY,jo,gU,jm,jn,ff,e_,dI,fg,l5,f9,eS,jh,ji,lI,dG,dD,ee,gS,List.replicate, -List.map_nil, -List.map_cons, -List.nil_append, -List.cons_append, -Option.bind_some, -Option.map_some, -getElem?_pos, -List.append_nil,lQ,lP,lL,lK,lN,lO,lM,lS]
  simp? [hs,hg']
theorem y_(t b:Int)(hb:0 < b)(h:Bt 4000 b):nV [.d (.int t),.d (.int b)]=some (.d (.tuple [.int (cF t b).1,.int (cF t b).2]),[.d (.int t),.d (.int b)]):=by
  have g0:=oS (t:=t) (b:=b) (by lia)
  have g1:(Int.gcd t b:Int)≠0:=by lia
  have g8:Bt 8000 (Int.gcd t b:Int):=(uL (t:=t) (by lia) h).mono (by decide)
  have e:cF t b=(t.fdiv (Int.gcd t b:Int),b.fdiv (Int.gcd t b:Int)):=by unfold cF;rw [if_neg (by lia)]
  rw [e]
  simp? [nV,yz,Ct t b h,rN g1 g8]
theorem yC{i:Int}{n:Nat}(h1: -2147483648 < i)(h2:i < 2147483648)(hn:31≤n):Bt n i:=Bt.mono (m:=31) (by unfold Bt;lia) hn
def ux(t b:Int):Prop:=0≤t∧t≤b∧1≤b∧b≤100∧Int.gcd t b=1
theorem we(n k:Int)(hn:0≤n):∃t b,eg [.d (.int n),.d (.int k)]=some (.d (.tuple [.int t,.int b]),[.d (.int n),.d (.int k)])∧ux t b:=by
  have b9:Bt 8000 9:=kd (by decide) (by decide)
  have b100:Bt 8000 100:=kd (by decide) (by decide)
  have low:∀t b:Int,0 < b→0≤t→t≤b→b≤100→ux (cF t b).1 (cF t b).2:=fun t b hb h0 h1 h2=>by
    obtain⟨r1,r2,r3,r4⟩:=qP hb h0 h1 h2
    exact⟨r1,r2,r3,r4,pV (by lia)⟩
  by_cases c0:k=0
  · subst c0
    obtain⟨x,hx,ha⟩:=kc (xs:=[PyData.tuple [.int 1,.int 2],.tuple [.int 1,.int 3],.tuple [.int 2,.int 3],.tuple [.int 1,.int 1],.tuple [.int 0,.int 1],.tuple [.int 3,.int 4]]) (i:=n % 6) (by lia) (by simp;lia)
    obtain⟨t,b,rfl,hc⟩:∃t b,x=.tuple [.int t,.int b]∧ux t b:=by
      simp only [List.mem_cons,List.not_mem_nil,or_false] at hx
      rcases hx with rfl | rfl | rfl | rfl | rfl | rfl<;>exact⟨_,_,rfl,by unfold ux;decide⟩
    exact⟨t,b,by simp? [eg,ix,aQ,ha],hc⟩
  · by_cases c1:k=1
    · subst c1
      have hm:(n / 9) % (2+n % 9 - 1) < 2+n % 9 - 1:=Int.emod_lt_of_pos _ (by lia)
      have hm0:0≤(n / 9) % (2+n % 9 - 1):=Int.emod_nonneg _ (by lia)
      refine⟨_,_,?_,low (1+(n / 9) % (2+n % 9 - 1)) (2+n % 9) (by lia) (by lia) (by lia) (by lia)⟩
      have hpos:∀e:En,a7 e (.d (.int (n / 9))) (.d (.int (2+n % 9 - 1)))=_:=fun e=>aQ (by lia)
      have hl:=y_ (1+(n / 9) % (2+n % 9 - 1)) (2+n % 9) (by lia) (yC (by lia) (by lia) (by decide))
      simp? [eg,ix,aQ,eJ,b9,hpos,hl]
    · by_cases c2:k=2
      · subst c2
        have hm:(n / 100) % (1+n % 100+1) < 1+n % 100+1:=Int.emod_lt_of_pos _ (by lia)
        have hm0:0≤(n / 100) % (1+n % 100+1):=Int.emod_nonneg _ (by lia)
        refine⟨_,_,?_,low ((n / 100) % (1+n % 100+1)) (1+n % 100) (by lia) (by lia) (by lia) (by lia)⟩
        have hpos:∀e:En,a7 e (.d (.int (n / 100))) (.d (.int (1+n % 100+1)))=_:=fun e=>aQ (by lia)
        have hl:=y_ ((n / 100) % (1+n % 100+1)) (1+n % 100) (by lia) (yC (by lia) (by lia) (by decide))
        simp? [eg,ix,aQ,eJ,b100,hpos,hl]
      · refine⟨1,1,?_,by unfold ux;decide⟩
        simp? [eg,ix,c0,c1,c2]
theorem yk(n k:Int):∃r,jO [.d (.int n),.d (.int k)]=some (.d (.int r),[.d (.int n),.d (.int k)])∧0≤r∧r≤1000:=by
  obtain⟨x,hx,ha⟩:=kc (xs:=[PyData.int (n % 7),.int (5+n % 2),.int (n % 1001),.int (1000 - n % 3)]) (i:=k % 4) (by lia) (by simp;lia)
  obtain⟨r,rfl,hr⟩:∃r,x=.int r∧0≤r∧r≤1000:=by
    simp only [List.mem_cons,List.not_mem_nil,or_false] at hx
    rcases hx with rfl | rfl | rfl | rfl<;>exact⟨_,rfl,by lia,by lia⟩
  exact⟨r,by simp? [jO,rH,aQ,ha],hr⟩
abbrev tE(ds:List Int)(things many shape odds ws:Int)(ts:List j9)(v7 v8 v9 v10 v11 v12:Option Sv):En:=[some (.l (ds.map .int)),some (.d (.int things)),some (.d (.int many)),some (.d (.int shape)),some (.d (.int odds)),some (.d (.int ws)),some (.l (ts.map aG)),v7,v8,v9,v10,v11,v12]
inductive TR (things many shape odds ws:Int) (ts:List j9) (k:Option Sv):En→Prop
  | mk {t ds w8 w9 w10 w11 w12} (hd:ic ds) (ht:t.Ok things):TR things many shape odds ws ts k (tE ds things many shape odds ws (ts++[t]) k w8 w9 w10 w11 w12)
inductive TI (things many a b c:Int) (i:Nat):En→Prop
  | mk {ts ds w7 w8 w9 w10 w11 w12} (hd:ic ds) (hl:ts.length=i) (ht:∀t∈ts,t.Ok things):TI things many a b c i (tE ds things many a b c ts w7 w8 w9 w10 w11 w12)
theorem Cv(ds:List Int)(things many shape odds ws:Int)(ts:List j9)(k:Int)(v8 v9 v10 v11 v12:Option Sv)(hd:ic ds)(h2:2≤things)(h12:things≤100)(s0:0≤shape)(s1:shape < 6)(k0:0≤k)(hl:ts.length≤1000):
    ∃e',gv (tE ds things many shape odds ws ts (some (.d (.int k))) v8 v9 v10 v11 v12)=some (.nx e')∧TR things many shape odds ws ts (some (.d (.int k))) e':=by
  obtain⟨n,d1,tn, -, -,hd1⟩:=iu hd
  obtain⟨m,d2,tm,m0, -,hd2⟩:=iu hd1
  obtain⟨x,hx,ha⟩:=kc (xs:=[PyData.int (n % things),.int 0,.int (k % things),.int (n % things),.int (n % 2),.int (n % things)]) (i:=shape) s0 (by simp;lia)
  have tp:0 < things:=Int.lt_of_lt_of_le (by decide) h2
  have tq:0 < things - 1:=Int.sub_pos_of_lt (Int.lt_of_lt_of_le (by decide) h2)
  have nt:0≤n % things∧n % things < things:=⟨ud tp,uA tp⟩
  have kt:0≤k % things∧k % things < things:=⟨ud tp,uA tp⟩
  obtain⟨one,rfl,o0,o1⟩:∃r,x=.int r∧0≤r∧r < things:=by
    simp only [List.mem_cons,List.not_mem_nil,or_false] at hx
    rcases hx with rfl | rfl | rfl | rfl | rfl | rfl<;>exact⟨_,rfl,by lia,by lia⟩
  have r0:0≤(n / 12) % (things - 1):=ud tq
  have r1:(n / 12) % (things - 1) < things - 1:=uA tq
  have q0:0≤(one+1+(n / 12) % (things - 1)) % things:=ud tp
  have q1:(one+1+(n / 12) % (things - 1)) % things < things:=uA tp
  have qn:(one+1+(n / 12) % (things - 1)) % things≠one:=fun z=>by
    by_cases c:one+1+(n / 12) % (things - 1) < things
    · rw [Int.emod_eq_of_lt (by lia) c] at z;lia
    · have e:(one+1+(n / 12) % (things - 1)) % things=(one+1+(n / 12) % (things - 1) - things) % things:=by rw [Int.sub_emod_right]
      rw [e,Int.emod_eq_of_lt (by lia) (by lia)] at z;lia
  obtain⟨t,b,c1,c2,c3,c4,c5,c6⟩:=we m odds m0
  obtain⟨w,w1,w2,w3⟩:=yk (m / 10007) ws
  have b12:Bt 8000 12:=kd (by decide) (by decide)
  have b107:Bt 8000 10007:=kd (by decide) (by decide)
  have g1:∀(e:En) (i:Int),a7 e (.d (.int i)) (.d (.int things))=some (.d (.int (i % things))):=fun e i=>aQ tp
  have g2:∀(e:En) (i:Int),a7 e (.d (.int i)) (.d (.int (things - 1)))=some (.d (.int (i % (things - 1)))):=fun e i=>aQ tq
  have hlen:ts.length < 1000000:=by lia
  by_cases c:shape=4
  · subst c
    refine⟨tE d2 things many 4 odds ws (ts++[⟨0,1,t,b,w⟩]) (some (.d (.int k))) (some (.d (.int n))) (some (.d (.int 0))) (some (.d (.int 1))) (some (.d (.int m))) (some (.d (.tuple [.int 0,.int 1]))),?_,.mk hd2 ⟨by show(0:Int)≤0;decide,by show(0:Int) < 1;decide,by show(1:Int) < things;lia,c2,c3,c4,c5,w2,w3,c6⟩⟩
    simp? [tE,gv,tn,tm,aQ,g1,g2,eJ,b12,b107,ha,c1,w1,eW,aG,hlen]
    decide
  · refine⟨tE d2 things many shape odds ws (ts++[⟨min one ((one+1+(n / 12) % (things - 1)) % things),max one ((one+1+(n / 12) % (things - 1)) % things),t,b,w⟩]) (some (.d (.int k))) (some (.d (.int n))) (some (.d (.int one))) (some (.d (.int ((one+1+(n / 12) % (things - 1)) % things)))) (some (.d (.int m))) (some (.d (.tuple [.int (min one ((one+1+(n / 12) % (things - 1)) % things)),.int (max one ((one+1+(n / 12) % (things - 1)) % things))]))),?_,.mk hd2 ⟨by show 0≤min _ _;lia,by show min _ _ < max _ _;lia,by show max _ _ < _;lia,c2,c3,c4,c5,w2,w3,c6⟩⟩
    simp? [tE,gv,tn,tm,aQ,g1,g2,eJ,b12,b107,ha,c1,w1,eW,aG,hlen,c]
theorem AU(ds:List Int)(things many:Int)(hd:ic ds)(h2:2≤things)(h12:things≤100)(m0:0≤many)(m1:many≤1000):∃(ts:List j9) (ds':List Int),ma [.l (ds.map .int),.d (.int things),.d (.int many)]=some (.d (.tuple (ts.map aG)),[.l (ds'.map .int),.d (.int things),.d (.int many)])∧ic ds'∧(ts.length:Int)=many∧∀t∈ts,t.Ok things:=by
  obtain⟨n0,d1,t0, -, -,hd1⟩:=iu hd
  obtain⟨n1,d2,t1, -, -,hd2⟩:=iu hd1
  obtain⟨n2,d3,t2, -, -,hd3⟩:=iu hd2
  obtain⟨e',h1,hI⟩:=dm (own:=[]) (g:=ah 7) (f:=gv) (TI things many (n0 % 6) (n1 % 4) (n2 % 4)) (bL 0 many.toNat) 0 (tE d3 things many (n0 % 6) (n1 % 4) (n2 % 4) [] none none none none none none) (fun i x e hx hI=>by
    obtain⟨rfl,hi⟩:=fy hx
    obtain⟨hd',hl,ht⟩:=hI
    rename_i ts ds' w7 w8 w9 w10 w11 w12
    obtain⟨e9,s1,⟨s2,s3⟩⟩:=Cv ds' things many (n0 % 6) (n1 % 4) (n2 % 4) ts (0+(i:Int)) w8 w9 w10 w11 w12 hd' h2 h12 (ud (by decide)) (uA (by decide)) (by lia) (by lia)
    exact⟨_,_,rfl,s1,bo,.mk s2 (by simp;lia) fun z hz=>by
      rcases List.mem_append.mp hz with hz | hz
      · exact ht z hz
      · simp at hz;subst hz;exact s3⟩) (.mk hd3 rfl fun t ht=>by cases ht)
  obtain⟨hd',hl,ht⟩:=hI
  rename_i ts ds' w7 w8 w9 w10 w11 w12
  refine⟨ts,ds',?_,hd',by rw [hl,fC];lia,ht⟩
  have hf:∀W,eE W l9 (ah 7) gv (tE d3 things many (n0 % 6) (n1 % 4) (n2 % 4) [] none none none none none none)=some (.nx (tE ds' things many (n0 % 6) (n1 % 4) (n2 % 4) ts w7 w8 w9 w10 w11 w12)):=fun W=>by
    rw [dW (show l9 _=some (bL 0 many.toNat,[],tE d3 things many (n0 % 6) (n1 % 4) (n2 % 4) [] none none none none none none) from cZ (n:=many) (by simp? [tE]) (by lia) (by lia))]
    exact h1
  unfold tE at hf
  simp only [List.map_nil] at hf
  simp? [ma,ul,t0,t1,t2,aQ,hf]
abbrev wE(ds:List Int)(most tn things many:Int)(ts:List j9)(way:Int)(ps:List Int)(v8 v9:Option Sv):En:=[some (.l (ds.map .int)),some (.d (.int most)),some (.d (.int tn)),some (.d (.int things)),some (.d (.int many)),some (.d (.tuple (ts.map aG))),some (.d (.int way)),some (.l (ps.map .int)),v8,v9]
inductive WI (most tn things many:Int) (ts:List j9) (way:Int) (i:Nat):En→Prop
  | mk {ps ds w8} (hd:ic ds) (hpl:ps.length=i) (hps:∀p∈ps,0≤p∧p≤20):WI most tn things many ts way i (wE ds most tn things many ts way ps w8 none)
theorem y'(ds:List Int)(most tn:Int)(hd:ic ds)(m0:0≤most)(m1:most≤12)(k0:0≤tn)(k1:tn≤16):∃(W:aP) (ds':List Int),kT [.l (ds.map .int),.d (.int most),.d (.int tn)]=some (.d (ao W),[.l (ds'.map .int),.d (.int most),.d (.int tn)])∧ic ds'∧W.Ok∧W.things≤most∧(W.ties.length:Int)≤tn:=by
  obtain⟨n0,d1,t0, -, -,hd1⟩:=iu hd
  obtain⟨n1,d2,t1, -, -,hd2⟩:=iu hd1
  have mp:0 < most+1:=Int.lt_add_one_of_le m0
  have kp:0 < tn+1:=Int.lt_add_one_of_le k0
  have g0:∀(e:En),a7 e (.d (.int n0)) (.d (.int (most+1)))=some (.d (.int (n0 % (most+1)))):=fun e=>aQ mp
  have g1':∀(e:En),a7 e (.d (.int n1)) (.d (.int (tn+1)))=some (.d (.int (n1 % (tn+1)))):=fun e=>aQ kp
  have th0:0≤n0 % (most+1):=ud mp
  have th1:n0 % (most+1) < most+1:=uA mp
  have ti0:0≤n1 % (tn+1):=ud kp
  have ti1:n1 % (tn+1) < tn+1:=uA kp
  clear mp kp
  generalize n0 % (most+1)=things at th0 th1 g0
  generalize n1 % (tn+1)=tm at ti0 ti1 g1'
  obtain⟨many,hmany,mm,m00,m01⟩:∃many:Int,many=tm*(if decide (1 < things)=true then 1 else 0)∧(1 < things∨many=0)∧0≤many∧many≤tn:=by
    by_cases c:1 < things
    · exact⟨tm,by simp [c],.inl c,ti0,by lia⟩
    · exact⟨0,by simp [c],.inr rfl,by lia,by lia⟩
  have gm:∀e:En,lZ e (.d (.int tm)) (.d (.int (if decide (1 < things)=true then 1 else 0)))=some (.d (.int many)):=fun e=>by
    rw [l0 (o5 (by split<;>decide) (by split<;>decide)),hmany]
  have gi:∀e:En,g1 sV e [.d (.bool (decide (1 < things)))]=some (.d (.int (if decide (1 < things)=true then 1 else 0))):=fun e=>rfl
  generalize (if decide (1 < things)=true then 1 else 0:Int)=one at gm gi
  obtain⟨ts,d3,t3,hd3,hlen,hts⟩:=AU d2 (max 2 things) many hd2 (by lia) (by lia) m00 (by lia)
  obtain⟨n4,d4,t4, -, -,hd4⟩:=iu hd3
  obtain⟨e',h1,hI⟩:=dm (own:=[]) (g:=ah 8) (f:=lg) (WI most tn things many ts (n4 % 3)) (bL 0 things.toNat) 0 (wE d4 most tn things many ts (n4 % 3) [] none none) (fun i x e hx hI=>by
    obtain⟨rfl,hi⟩:=fy hx
    obtain⟨hd5,hpl,hps⟩:=hI
    rename_i ps d5 w8
    obtain⟨p1,d6,t6, -, -,hd6⟩:=iu hd5
    obtain⟨p2,d7,t7, -, -,hd7⟩:=iu hd6
    obtain⟨z,hz,ha⟩:=kc (xs:=[PyData.int 20,.int (1+p1 % 3),.int (p2 % 21)]) (i:=n4 % 3) (ud (by decide)) (uA (k:=3) (by decide))
    obtain⟨p,rfl,hp⟩:∃r,z=.int r∧0≤r∧r≤20:=by
      simp only [List.mem_cons,List.not_mem_nil,or_false] at hz
      rcases hz with rfl | rfl | rfl<;>exact⟨_,rfl,by lia,by lia⟩
    refine⟨wE d5 most tn things many ts (n4 % 3) ps (some (.d (.int (0+(i:Int))))) none,wE d7 most tn things many ts (n4 % 3) (ps++[p]) (some (.d (.int (0+(i:Int))))) none,rfl,?_,bo,.mk hd7 (by simp;lia) fun q hq=>by
      rcases List.mem_append.mp hq with hq | hq
      · exact hps q hq
      · simp at hq;subst hq;exact hp⟩
    have hlen:ps.length < 1000000:=by lia
    simp? [wE,lg,t6,t7,aQ,ha,hlen]) (.mk hd4 rfl fun p hp=>by cases hp)
  obtain⟨hd5,hpl,hps⟩:=hI
  rename_i ps d5 w8
  have hf:∀W,eE W oU (ah 8) lg (wE d4 most tn things many ts (n4 % 3) [] none none)=some (.nx (wE d5 most tn things many ts (n4 % 3) ps w8 none)):=fun W=>by
    rw [dW (show oU _=some (bL 0 things.toNat,[],wE d4 most tn things many ts (n4 % 3) [] none none) from cZ (n:=things) (by simp? [wE]) (by lia) (by lia))]
    exact h1
  obtain⟨p1,d6,t6, -, -,hd6⟩:=iu hd5
  obtain⟨p2,d7,t7, -, -,hd7⟩:=iu hd6
  obtain⟨p3,d8,t8, -, -,hd8⟩:=iu hd7
  have xp:0 < max 1 many:=Int.lt_of_lt_of_le Int.zero_lt_one (Int.le_max_left _ _)
  have gx:∀(e:En),a7 e (.d (.int p1)) (.d (.int (max 1 many)))=some (.d (.int (p1 % max 1 many))):=fun e=>aQ xp
  have x0:0≤p1 % max 1 many:=ud xp
  have x1:p1 % max 1 many < max 1 many:=uA xp
  obtain⟨z,hz,ha⟩:=kc (xs:=[PyData.int 40,.int (1+p1 % max 1 many),.int (p2 % 41)]) (i:=p3 % 3) (ud (by decide)) (uA (k:=3) (by decide))
  obtain⟨asks,rfl,hasks⟩:∃r,z=.int r∧0≤r∧r≤40:=by
    simp only [List.mem_cons,List.not_mem_nil,or_false] at hz
    rcases hz with rfl | rfl | rfl<;>exact⟨_,rfl,by lia,by lia⟩
  rw [fC] at hpl
  refine⟨⟨things,ts,ps,asks⟩,d8,?_,hd8,⟨th0,by show things≤12;lia,fun t ht=>?_,by show ts.length≤16;lia,by show(ps.length:Int)=things;lia,hps,hasks.1,hasks.2⟩,by show things≤most;lia,by show(ts.length:Int)≤tn;lia⟩
  · unfold wE at hf
    simp only [List.map_nil] at hf
    simp? [kT,yA,t0,t1,g0,g1',gm,gi,t3,t4,aQ,hf,t6,t7,t8,gx,ha,ao]
  · rcases mm with c | c
    · have:=hts t ht
      rw [show max 2 things=things by lia] at this
      exact this
    · have:ts=[]:=List.length_eq_zero_iff.mp (by lia)
      subst this;cases ht
theorem rj(d:PyData):cg [.d d]=some (.d (.bool (uQ d)),[.d d]):=by
  cases d<;>simp? [cg,kJ,uQ,kZ,qM,qh,wA]
theorem eP(d:PyData)(lo hi:Int):au [.d d,.d (.int lo),.d (.int hi)]=some (.d (.bool (bC lo hi d)),[.d d,.d (.int lo),.d (.int hi)]):=by
  have t:=rj d
  cases d with
  | int i=>
    by_cases c:lo≤i
    · simp? [au,cm,t,uQ,bC,iS,c]
    · simp? [au,cm,t,uQ,bC,iS,c]
  | _=>simp? [au,cm,t,uQ,bC,iS]
theorem ky(a b:Int)(hb:Bt 4000 b):bZ [.d (.int a),.d (.int b)]=some (.d (.int (Int.gcd a b)),[.d (.int a),.d (.int b)]):=by
  have tst:∀x y:Int,bF [some (.d (.int x)),some (.d (.int y))]=some (!(y==0),[some (.d (.int x)),some (.d (.int y))]):=fun x y=>by simp? [bF]
  obtain⟨e0,e',h1,⟨x,y,he,hg,hy⟩,h3⟩:=jx (ft:=bF) (f:=ck) (fun e=>∃x y,e=[some (.d (.int x)),some (.d (.int y))]∧Int.gcd x y=Int.gcd a b∧Bt 4000 y) (nX 1) (fun e ⟨x,y,he,hg,hy⟩=>by
    subst he
    rw [tst]
    by_cases c:y=0
    · subst c;exact .inl ⟨_,rfl,trivial⟩
    · refine .inr ⟨_,[some (.d (.int y)),some (.d (.int (x.fmod y)))],by rw [beq_false_of_ne c];rfl,by simp? [ck,uG c],⟨y,x.fmod y,rfl,by rw [pS,hg],?_⟩,?_⟩
      · have:=fV x c
        exact Bt.of_le hy (by lia)
      · have:=fV x c
        simpa [nX] using this) (2 ^ 4200) _ ⟨a,b,rfl,rfl,hb⟩ (oX (m:=4000) (by simpa [nX,Bt] using hb) (by decide))
  subst he
  rw [tst] at h3
  have h4:=Prod.mk.inj (Option.some.inj h3)
  have hy0:y=0:=by simpa using h4.1
  subst hy0
  have h5:=h4.2
  subst h5
  have hs:jv (2 ^ 4200) bF ck [some (.d (.int a)),some (.d (.int b))]=some (.nx [some (.d (.int x)),some (.d (.int 0))]):=h1
  have hg':(x.natAbs:Int)=(Int.gcd a b:Int):=by rw [←hg];simp
  simp only [bZ,gw,gC,ja,ay,eu,a8,bQ,bg,ej,i8,i9,pk,ax,ar,qr,ac,vC,eF,ai,aa,bU,aI,bJ,m5,lu,c7,AZ,fY,ro,jd,qp,fq,er,cK,bA,qQ,en,fQ,lJ,cz,cv,oP,pC,bS,aq,ah,bI,cj,aL,bh,pY,di,eV,cY,gP,gW,gT,gR,gQ,eY,eX,eZ,dH,eU,lX,ii,jl,lY,jo,gU,jm,jn,ff,e_,dI,fg,l5,f9,eS,jh,ji,lI,dG,dD,ee,gS,List.replicate, -List.map_nil, -List.map_cons, -List.nil_append, -List.cons_append, -Option.bind_some, -Option.map_some, -getElem?_pos, -List.append_nil,lQ,lP,lL,lK,lN,lO,lM,lS]
  simp? [hs,hg']
theorem wf(t b:Int)(hb:0 < b)(h:Bt 4000 b):iD [.d (.int t),.d (.int b)]=some (.d (dF (cF t b)),[.d (.int t),.d (.int b)]):=by
  have g0:=oS (t:=t) (b:=b) (by lia)
  have g1:(Int.gcd t b:Int)≠0:=by lia
  have g8:Bt 8000 (Int.gcd t b:Int):=(uL (t:=t) (by lia) h).mono (by decide)
  have e:cF t b=(t.fdiv (Int.gcd t b:Int),b.fdiv (Int.gcd t b:Int)):=by unfold cF;rw [if_neg (by lia)]
  have nb:¬b < 0:=by lia
  rw [e]
  simp? [iD,pI,ky t b h,rN g1 g8,nb,dF]
theorem i5(d:PyData)(n:Int):bx [.d d,.d (.int n)]=some (.d (.bool (fM n d)),[.d d,.d (.int n)]):=by
  cases d<;>simp? [bx,kM,kZ,qM,qh,wA,fM]
theorem mW{d:PyData}(h:d.showable=true):br [.d d]=some (.d (.bool (sT d)),[.d d]):=by
  have tr:=i5 d 2
  cases c:fM 2 d with
  | false=>
    rw [c] at tr
    have e:sT d=false:=by
      cases q:sT d with
      | false=>rfl
      | true=>
        unfold sT at q
        split at q
        · simp [fM] at c
        · cases q
    rw [e]
    simp? [br,cx,tr]
  | true=>
    obtain⟨x,y,rfl⟩:=Dr c
    rw [c] at tr
    have nx:=rj x
    have ny:=rj y
    cases hx:uQ x with
    | false=>
      rw [hx] at nx
      have e:sT (.tuple [x,y])=false:=by cases x<;>first | rfl | simp [uQ] at hx
      rw [e]
      simp? [br,cx,tr,nx]
    | true=>
      obtain⟨t,rfl⟩:=rR hx
      rw [hx] at nx
      cases hy:uQ y with
      | false=>
        rw [hy] at ny
        have e:sT (.tuple [.int t,y])=false:=by cases y<;>first | rfl | simp [uQ] at hy
        rw [e]
        simp? [br,cx,tr,nx,ny]
      | true=>
        obtain⟨b,rfl⟩:=rR hy
        rw [hy] at ny
        by_cases c1:b < 1
        · have e:sT (.tuple [.int t,.int b])=false:=by
            simp only [sT,Bool.and_eq_false_iff,decide_eq_false_iff_not];left;lia
          rw [e]
          simp? [br,cx,tr,nx,ny,c1]
        · simp only [PyData.showable,PyData.showableAll,Bool.and_eq_true,decide_eq_true_eq] at h
          have tl:=wf t b (by lia) (zl h.2.1 (by lia))
          have e:sT (.tuple [.int t,.int b])=((cF t b).1==t&&(cF t b).2==b):=by
            rw [xk (by lia)]
            show(decide (1≤b)&&_)=_
            rw [decide_eq_true (by lia),Bool.true_and]
          rw [e]
          unfold dF at tl
          have ge:=fun e=>uF (e:=e) (a:=(cF t b).1) (b:=(cF t b).2) (c:=t) (d:=b)
          generalize cF t b=p at*
          simp? [br,cx,tr,nx,ny,c1,tl,ge]
theorem qj{d:PyData}(h:d.showable=true):cf [.d d]=some (.d (.bool (uw d)),[.d d]):=by
  have tf:=mW h
  cases c:sT d with
  | false=>
    rw [c] at tf
    have e:uw d=false:=by
      cases q:uw d with
      | false=>rfl
      | true=>rw [zr d q] at c;cases c
    rw [e]
    simp? [cf,d9,tf]
  | true=>
    rw [c] at tf
    unfold sT at c
    split at c
    · rename_i t b
      simp only [Bool.and_eq_true,decide_eq_true_eq] at c
      have e:uw (.tuple [.int t,.int b])=(decide (0≤t)&&(decide (t≤b)&&decide (b≤100))):=by
        simp only [uw,decide_eq_true c.1,decide_eq_true c.2,Bool.true_and,Bool.and_true]
      rw [e]
      by_cases c1:0≤t
      · by_cases c2:t≤b
        · simp? [cf,d9,tf,hZ,c1,c2]
        · simp? [cf,d9,tf,hZ,c1,c2]
      · simp? [cf,d9,tf,hZ,c1]
    · cases c
theorem pz{d:PyData}(h:d.showable=true)(n:Int):bB [.d d,.d (.int n)]=some (.d (.bool (fN n d)),[.d d,.d (.int n)]):=by
  have tr:=i5 d 4
  cases c:fM 4 d with
  | false=>
    rw [c] at tr
    have e:fN n d=false:=by
      cases q:fN n d with
      | false=>rfl
      | true=>
        unfold fN at q
        split at q
        · simp [fM] at c
        · cases q
    rw [e]
    simp? [bB,cL,tr]
  | true=>
    obtain⟨x,y,z,w,rfl⟩:=B_ c
    rw [c] at tr
    simp only [PyData.showable,PyData.showableAll,Bool.and_eq_true] at h
    have tc:=qj h.2.2.1
    have tw:=eP w 0 1000
    have tx:=eP x 0 (n - 1)
    cases hx:bC 0 (n - 1) x with
    | false=>
      rw [hx] at tx
      have e:fN n (.tuple [x,y,z,w])=false:=by
        cases x with
        | int a=>
          cases y with
          | int b=>
            simp only [bC,Bool.and_eq_false_iff,decide_eq_false_iff_not] at hx
            rw [Bool.eq_false_iff]
            intro q
            simp only [fN,Bool.and_eq_true,decide_eq_true_eq] at q
            lia
          | _=>rfl
        | _=>rfl
      rw [e]
      simp? [bB,cL,tr,tx]
    | true=>
      obtain⟨a,rfl,a0,a1⟩:=kh hx
      rw [hx] at tx
      have ty:=eP y (a+1) (n - 1)
      cases hy:bC (a+1) (n - 1) y with
      | false=>
        rw [hy] at ty
        have e:fN n (.tuple [.int a,y,z,w])=false:=by
          cases y with
          | int b=>
            simp only [bC,Bool.and_eq_false_iff,decide_eq_false_iff_not] at hy
            rw [Bool.eq_false_iff]
            intro q
            simp only [fN,Bool.and_eq_true,decide_eq_true_eq] at q
            lia
          | _=>rfl
        rw [e]
        simp? [bB,cL,tr,tx,ty]
      | true=>
        obtain⟨b,rfl,b0,b1⟩:=kh hy
        rw [hy] at ty
        have e:fN n (.tuple [.int a,.int b,z,w])=(uw z&&bC 0 1000 w):=by
          simp only [fN,decide_eq_true a0,decide_eq_true (show a < b by lia),decide_eq_true b1,Bool.true_and]
        rw [e]
        cases hz:uw z with
        | false=>
          rw [hz] at tc
          simp? [bB,cL,tr,tx,ty,tc]
        | true=>
          rw [hz] at tc
          generalize bC 0 1000 w=bw at*
          simp? [bB,cL,tr,tx,ty,tc,tw]
theorem tY{d:PyData}(h:d.showable=true)(n:Int):dM [.d d,.d (.int n)]=some (.d (.bool (jc n d)),[.d d,.d (.int n)]):=by
  cases d with
  | tuple ts=>
    by_cases c:ts.length≤16
    · let cs:En:=[some (.d (.int n))]
      simp only [PyData.showable] at h
      obtain⟨t',hf⟩:=dC (cs:=cs) (ft:=cJ) (fe:=fU) (b:=fun _=>true) (y:=fun d=>.bool (fN n d)) ts none [] (fun x _=>rfl) (fun x hx _=>by
        have t:=pz (uh h x hx) n
        generalize fN n x=bb at*
        simp? [cs,fU,t]) (by simp;lia)
      have hv:=fK (cp:=[(1,"things")]) (nT:=1) (fi:=kS) (g:=ah 1) (ft:=cJ) (fe:=fU) (e:=[some (.d (.tuple ts)),some (.d (.int n))]) (cs:=cs) (t:=[none]) (t':=[t']) (jp (fa:=ac 0) rfl) rfl rfl hf
      rw [List.nil_append,show List.filter (fun _=>true) ts=ts from List.filter_eq_self.mpr fun _ _=>rfl] at hv
      have ga:=fun e=>pQ (e:=e) (fN n) ts
      have c':¬(16:Int) < (ts.length:Int):=by lia
      rw [show jc n (.tuple ts)=ts.all (fN n) by simp only [jc,decide_eq_true c,Bool.true_and]]
      generalize ts.all (fN n)=bb at*
      generalize ts.map (fun d=>PyData.bool (fN n d))=M at*
      simp? [dM,iU,kZ,qM,qh,wA,c',hv,ga]
    · have c':(16:Int) < (ts.length:Int):=by lia
      rw [show jc n (.tuple ts)=false by simp only [jc,decide_eq_false c,Bool.false_and]]
      simp? [dM,iU,kZ,qM,qh,wA,c']
  | _=>simp? [dM,iU,kZ,qM,qh,wA,jc]
theorem nu(d:PyData){n:Int}(hn:n≤12):bP [.d d,.d (.int n)]=some (.d (.bool (ni n d)),[.d d,.d (.int n)]):=by
  have tr:=i5 d n
  cases d with
  | tuple ps=>
    cases c:fM n (.tuple ps) with
    | true=>
      rw [c] at tr
      have c2:((ps.length:Int)==n)=true:=c
      have c3:(ps.length:Int)=n:=by simpa using c2
      obtain⟨t',hf⟩:=dC (cs:=[]) (ft:=cJ) (fe:=cT) (b:=fun _=>true) (y:=fun d=>.bool (bC 0 20 d)) ps none [] (fun x _=>rfl) (fun x hx _=>by
        have t:=eP x 0 20
        generalize bC 0 20 x=bb at*
        simp? [cT,t]) (by simp;lia)
      have hv:=fK (cp:=[]) (nT:=1) (fi:=ik) (g:=ah 0) (ft:=cJ) (fe:=cT) (e:=[some (.d (.tuple ps)),some (.d (.int n))]) (cs:=[]) (t:=[none]) (t':=[t']) (jp (fa:=ac 0) rfl) rfl rfl hf
      rw [List.nil_append,show List.filter (fun _=>true) ps=ps from List.filter_eq_self.mpr fun _ _=>rfl] at hv
      have ga:=fun e=>pQ (e:=e) (bC 0 20) ps
      rw [show ni n (.tuple ps)=ps.all (bC 0 20) by simp only [ni,c2,Bool.true_and]]
      generalize ps.all (bC 0 20)=bb at*
      generalize ps.map (fun d=>PyData.bool (bC 0 20 d))=M at*
      simp? [bP,dS,tr,hv,ga]
    | false=>
      rw [c] at tr
      have c2:((ps.length:Int)==n)=false:=c
      rw [show ni n (.tuple ps)=false by simp only [ni,c2,Bool.false_and]]
      simp? [bP,dS,tr]
  | _=>simp? [bP,dS,tr,fM,ni]
theorem mX{d:PyData}(h:d.showable=true):bN [.d d]=some (.d (.bool (iv d)),[.d d]):=by
  have tr:=i5 d 4
  cases c:fM 4 d with
  | false=>
    rw [c] at tr
    have e:iv d=false:=by
      cases q:iv d with
      | false=>rfl
      | true=>
        unfold iv at q
        split at q
        · simp [fM] at c
        · cases q
    rw [e]
    simp? [bN,gy,tr]
  | true=>
    obtain⟨x,y,z,w,rfl⟩:=B_ c
    rw [c] at tr
    simp only [PyData.showable,PyData.showableAll,Bool.and_eq_true] at h
    have tx:=eP x 0 12
    have tw:=eP w 0 40
    cases hx:bC 0 12 x with
    | false=>
      rw [hx] at tx
      have e:iv (.tuple [x,y,z,w])=false:=by
        cases x with
        | int n=>cases y<;>first | rfl | (cases z<;>first | rfl | (simp only [iv,hx,Bool.false_and]))
        | _=>rfl
      rw [e]
      simp? [bN,gy,tr,tx]
    | true=>
      obtain⟨n,rfl,n0,n1⟩:=kh hx
      rw [hx] at tx
      have ti:=tY h.2.1 n
      have tp:=nu z n1
      cases hw:bC 0 40 w with
      | false=>
        rw [hw] at tw
        have e:iv (.tuple [.int n,y,z,w])=false:=by
          cases y<;>first | rfl | (cases z<;>first | rfl | (simp only [iv,hw,Bool.false_and,Bool.and_false]))
        rw [e]
        simp? [bN,gy,tr,tx,tw]
      | true=>
        rw [hw] at tw
        have e:iv (.tuple [.int n,y,z,w])=(jc n y&&ni n z):=by
          cases y with
          | tuple ts=>
            cases z with
            | tuple ps=>
              simp only [iv,jc,ni,hx,hw,Bool.true_and]
              cases decide (ts.length≤16)<;>cases ts.all (fN n)<;>cases ((ps.length:Int)==n)<;>rfl
            | _=>simp only [iv,ni,Bool.and_false]
          | _=>simp only [iv,jc,Bool.false_and]
        rw [e]
        generalize jc n y=b1 at*
        generalize ni n z=b2 at*
        cases b1 with
        | true=>simp? [bN,gy,tr,tx,tw,ti,tp]
        | false=>simp? [bN,gy,tr,tx,tw,ti]
theorem xw{ts:List j9}{N:Int}(hN:N≤12)(h:∀t∈ts,t.Ok N):c9 2 (ts.map aG)=true:=gE.mpr fun d hd=>by
  obtain⟨t,ht,rfl⟩:=List.mem_map.mp hd
  have o:=h t ht
  have o0:=o.o0;have o1:=o.o1;have o2:=o.o2;have c0:=o.c0;have c1:=o.c1;have b1:=o.b1;have w0:=o.w0;have w1:=o.w1
  simp only [aG,iE,c9,Bool.and_eq_true,decide_eq_true_eq,Nat.reducePow]
  refine⟨by decide,by lia,by lia,⟨by decide,by lia,by lia,trivial⟩,by lia,trivial⟩
theorem sG:∀(ts:List j9),je (ts.map aG)=7*ts.length
  | []=>rfl
  | t::r=>by simp only [List.map_cons,je,sG r,aG,wt,List.length_cons];lia
theorem vj{ps:List Int}(h:∀p∈ps,0≤p∧p≤20):c9 0 (ps.map .int)=true:=gE.mpr fun d hd=>by
  obtain⟨p,hp,rfl⟩:=List.mem_map.mp hd
  have:=h p hp
  simp only [iE,decide_eq_true_eq,Nat.reducePow]
  lia
theorem rq:∀(ps:List Int),je (ps.map .int)=ps.length
  | []=>rfl
  | t::r=>by simp only [List.map_cons,je,rq r,wt,List.length_cons];lia
theorem qs{W:aP}(ok:W.Ok):iv (ao W)=true:=by
  have t0:=ok.t0;have t1:=ok.t1;have a0:=ok.a0;have a1:=ok.a1
  have h1:(W.ties.map aG).all (fN W.things)=true:=by
    rw [List.all_map,List.all_eq_true]
    intro t ht
    have o:=ok.ties t ht
    have o0:=o.o0;have o1:=o.o1;have o2:=o.o2;have c0:=o.c0;have c1:=o.c1;have b0:=o.b0;have b1:=o.b1;have w0:=o.w0;have w1:=o.w1
    show fN W.things (aG t)=true
    simp only [aG,fN,uw,bC,Bool.and_eq_true,decide_eq_true_eq]
    exact⟨o0,o1,by lia,⟨c0,c1,b0,b1,o.cop⟩,w0,w1⟩
  have h2:(W.pat.map PyData.int).all (bC 0 20)=true:=by
    rw [nz,List.all_eq_true]
    intro p hp
    have:=ok.pat p hp
    simp only [Bool.and_eq_true,decide_eq_true_eq]
    exact this
  simp only [ao,iv,bC,h1,h2,List.length_map,Bool.and_eq_true,decide_eq_true_eq,beq_iff_eq,and_true]
  exact⟨⟨t0,t1⟩,⟨a0,a1⟩,ok.len,ok.pl⟩
theorem zV{k:Nat}{xs:List PyData}(h:c9 k xs=true):iE (k+1) (.tuple xs)=true:=by simp only [iE,Nat.add_sub_cancel,h,Bool.and_true];simp
theorem yT{k:Nat}{x:PyData}{r:List PyData}(h1:iE k x=true)(h2:c9 k r=true):c9 k (x::r)=true:=by simp only [c9,h1,h2,Bool.and_self]
theorem zX{W:aP}(ok:W.Ok):iE 4 (ao W)=true:=by
  have t0:=ok.t0;have t1:=ok.t1;have a0:=ok.a0;have a1:=ok.a1
  have T2:=xw t1 ok.ties
  have P2:=fv (fv (vj ok.pat))
  have iN:iE 3 (.int W.things)=true:=by simp only [iE,decide_eq_true_eq,Nat.reducePow];lia
  have iA:iE 3 (.int W.asks)=true:=by simp only [iE,decide_eq_true_eq,Nat.reducePow];lia
  exact zV (yT iN (yT (zV T2) (yT (zV P2) (yT iA rfl))))
theorem A9{W:aP}(ok:W.Ok):wt (ao W)≤1000:=by
  have h1:=ok.len
  have h2:=ok.pl
  have h3:=ok.t1
  simp only [ao,wt,je,sG,rq]
  lia
theorem wg{W:aP}(ok:W.Ok):gj [.d (ao W),.d (ao W)]=some (.d (.bool true),[.d (ao W),.d (ao W)]):=by
  have a:=kb (zX ok)
  have w:=A9 ok
  have so:=a.so
  have r:∀e,g1 jI e [.d (ao W)]=some (.d (.str (ao W).shown)):=fun e=>rP (a.ok (by decide) (by lia))
  generalize ao W=d at*
  have q:∀e,cQ false e (.d (.str d.shown)) (.d (.str d.shown))=some (.d (.bool true)):=fun e=>rM so
  generalize d.shown=x at*
  simp? [gj,qC,r,q]
def ka(n:Int)(t:j9):j9:=⟨t.one+n,t.other+n,t.top,t.bot,t.worth⟩
def bW(A B:aP):aP:=⟨A.things+B.things,A.ties++B.ties.map (ka A.things),A.pat++B.pat,A.asks+B.asks⟩
structure Md (W:aP):Prop where
  tie:∀k,fZ W k→0≤(W.tie k).one∧(W.tie k).one < W.things∧0≤(W.tie k).other∧(W.tie k).other < W.things
  pl:(W.pat.length:Int)=W.things
theorem i_{W:aP}(ok:W.Ok):Md W:=⟨fun k hk=>by have o:=hk.ok ok;have:=o.o0;have:=o.o1;have:=o.o2;lia,ok.pl⟩
theorem qm{A B:aP}{k:Int}(h:fZ A k):(bW A B).tie k=A.tie k:=by
  unfold aP.tie bW
  dsimp only
  have:=h.1;have:=h.2
  rw [List.getD_eq_getElem?_getD,List.getElem?_append_left (by lia),List.getD_eq_getElem?_getD]
theorem sD{A B:aP}{k:Int}(h:fZ B k):(bW A B).tie (k+(A.ties.length:Int))=ka A.things (B.tie k):=by
  have e:=h.get
  unfold aP.tie at e ⊢
  unfold bW
  dsimp only
  have:=h.1;have:=h.2
  rw [List.getD_eq_getElem?_getD,List.getElem?_append_right (by lia),show(k+(A.ties.length:Int)).toNat - A.ties.length=k.toNat by lia,List.getElem?_map,e]
  rfl
theorem Dd{A B:aP}{k:Int}(h:fZ A k):fZ (bW A B) k:=⟨h.1,by have:=h.2;show k < ((A.ties++B.ties.map (ka A.things)).length:Int);rw [List.length_append];lia⟩
theorem De{A B:aP}{k:Int}(h:fZ B k):fZ (bW A B) (k+(A.ties.length:Int)):=⟨by have:=h.1;lia,by have:=h.2;show k+_ < ((A.ties++B.ties.map (ka A.things)).length:Int);rw [List.length_append,List.length_map];lia⟩
theorem Bx{A B:aP}{k:Int}(h:fZ (bW A B) k):fZ A k∨∃j,fZ B j∧k=j+(A.ties.length:Int):=by
  have h1:=h.1
  have h2:k < ((A.ties++B.ties.map (ka A.things)).length:Int):=h.2
  rw [List.length_append,List.length_map] at h2
  by_cases c:k < (A.ties.length:Int)
  · exact .inl ⟨h1,c⟩
  · exact .inr ⟨k - (A.ties.length:Int),⟨by lia,by lia⟩,by lia⟩
theorem rS{A B:aP}(oA:A.Ok)(oB:B.Ok):Md (bW A B):=by
  have a0:=oA.t0;have b0:=oB.t0
  refine⟨fun k hk=>?_,?_⟩
  · rcases Bx hk with q | ⟨j,q,rfl⟩
    · rw [qm q]
      have:=(i_ oA).tie k q
      show _∧_ < A.things+B.things∧_∧_ < A.things+B.things
      lia
    · rw [sD q]
      have:=(i_ oB).tie j q
      show 0≤(B.tie j).one+A.things∧(B.tie j).one+A.things < A.things+B.things∧0≤(B.tie j).other+A.things∧(B.tie j).other+A.things < A.things+B.things
      lia
  · show((A.pat++B.pat).length:Int)=A.things+B.things
    rw [List.length_append]
    have:=oA.pl;have:=oB.pl
    lia
def gq(W:aP)(ans:Int→Bool):List Int→List Int→List Int→List (Int × Bool)
  | [],_,_=>[]
  | k::r,a,t=>if W.may a t k=true then(k,ans k)::gq W ans r (aP.askd a k) (W.took t k (ans k)) else gq W ans r a t
theorem dP{W:aP}{ans:Int→Bool}{k:Int}{r a t:List Int}:gq W ans (k::r) a t=if W.may a t k=true then(k,ans k)::gq W ans r (aP.askd a k) (W.took t k (ans k)) else gq W ans r a t:=rfl
theorem yP{m:Nat}{l:List Int}(nd:l.Nodup)(h:∀x∈l,0≤x∧x < (m:Int)){k:Int}(k0:0≤k)(k1:k < (m:Int))(hk:k∉l):l.length < m:=by
  have:=mj m (k::l) (List.nodup_cons.mpr ⟨hk,nd⟩) (fun x hx=>by
    rcases List.mem_cons.mp hx with rfl | hx
    · exact⟨k0,k1⟩
    · exact h x hx)
  rw [List.length_cons] at this
  lia
structure St (W:aP) (a t:List Int):Prop where
  nd:a.Nodup
  ain:∀x∈a,fZ W x
  tin:∀x∈t,0≤x∧x < W.things
  as:a.Pairwise (· ≤·)
  ts:t.Pairwise (· ≤·)
theorem St.nil{W:aP}:St W [] []:=⟨by simp,fun _ h=>(by cases h),fun _ h=>(by cases h),by simp,by simp⟩
theorem St.next{W:aP}(md:Md W){a t:List Int}(h:St W a t){k:Int}(hk:fZ W k)(nk:k∉a)(b:Bool):St W (aP.askd a k) (W.took t k b):=by
  have tk:=md.tie k hk
  refine⟨?_,fun x hx=>?_,fun x hx=>?_,hX _,?_⟩
  · refine(hV _).nodup_iff.mpr ?_
    rw [List.nodup_append]
    exact⟨h.nd,by simp,fun x hx y hy e=>by simp at hy;subst hy;subst e;exact nk hx⟩
  · rcases List.mem_append.mp (ku.mp hx) with q | q
    · exact h.ain x q
    · simp at q;subst q;exact hk
  · unfold aP.took at hx
    cases b with
    | false=>exact h.tin x hx
    | true=>
      rcases List.mem_append.mp (ku.mp hx) with q | q
      · exact h.tin x q
      · simp at q
        rcases q with rfl | rfl<;>lia
  · unfold aP.took
    cases b with
    | false=>exact h.ts
    | true=>exact hX _
theorem oY{W:aP}{a t:List Int}{k:Int}(h:W.may a t k=true):k∉a:=fun z=>by
  unfold aP.may at h
  rw [List.contains_iff_mem.mpr z] at h
  simp at h
theorem BG{A B:aP}(oA:A.Ok)(oB:B.Ok)(hA:(A.ties.length:Int)≤A.asks){a t:List Int}(s:St A a t){k:Int}(hk:fZ A k):(bW A B).may a t k=A.may a t k:=by
  by_cases c:k∈a
  · unfold aP.may
    rw [List.contains_iff_mem.mpr c]
    simp
  · have lt:=yP s.nd (fun x hx=>s.ain x hx) hk.1 hk.2 c
    have b0:=oB.a0
    have e1:decide ((bW A B).asks≤(a.length:Int))=decide (A.asks≤(a.length:Int)):=by
      rw [decide_eq_false (by show ¬A.asks+B.asks≤_;lia),decide_eq_false (by lia)]
    have tk:=(i_ oA).tie k hk
    have mn:∀th,(bW A B).many a th=A.many a th:=fun th=>by
      unfold aP.many
      congr 2
      refine List.filter_congr fun x hx=>?_
      unfold aP.has
      rw [qm (s.ain x hx)]
    have be:∀th,0≤th→th < A.things→(bW A B).bears a t th=A.bears a t th:=fun th t0 t1=>by
      have pl:=oA.pl
      unfold aP.bears
      rw [mn th]
      have:(bW A B).pat.getD th.toNat 0=A.pat.getD th.toNat 0:=by
        show(A.pat++B.pat).getD _ 0=_
        rw [List.getD_eq_getElem?_getD,List.getElem?_append_left (by lia),List.getD_eq_getElem?_getD]
      rw [this]
    unfold aP.may
    rw [e1,qm hk,be _ tk.1 tk.2.1,be _ tk.2.2.1 tk.2.2.2]
abbrev sh(n:Int)(l:List Int):List Int:=l.map (· +n)
theorem vX{n x:Int}{l:List Int}:x+n∈sh n l↔ x∈l:=by
  rw [List.mem_map]
  constructor
  · rintro⟨y,h,e⟩
    have e2:y=x:=by lia
    rw [←e2];exact h
  · exact fun h=>⟨x,h,rfl⟩
theorem zM{A B:aP}{a1 a2:List Int}(oA:A.Ok)(h1:∀x∈a1,fZ A x)(h2:∀x∈a2,fZ B x){th:Int}(t0:0≤th):(bW A B).many (a1++sh (A.ties.length:Int) a2) (th+A.things)=B.many a2 th:=by
  unfold aP.many
  rw [List.filter_append,List.filter_eq_nil_iff.mpr,List.nil_append,List.filter_map,List.length_map]
  · congr 2
    refine List.filter_congr fun x hx=>?_
    show(bW A B).has (x+_) _=_
    unfold aP.has
    rw [sD (h2 x hx)]
    show((B.tie x).one+A.things==th+A.things || (B.tie x).other+A.things==th+A.things)=_
    rw [Bool.eq_iff_iff]
    simp only [Bool.or_eq_true,beq_iff_eq]
    lia
  · intro x hx
    have tk:=(i_ oA).tie x (h1 x hx)
    unfold aP.has
    rw [qm (h1 x hx)]
    simp only [Bool.or_eq_true,beq_iff_eq]
    lia
theorem BH{A B:aP}(oA:A.Ok)(oB:B.Ok)(hA:(A.ties.length:Int)≤A.asks)(hB:(B.ties.length:Int)≤B.asks){a1 t1 a2 t2:List Int}(s1:St A a1 t1)(s2:St B a2 t2){k:Int}(hk:fZ B k):
    (bW A B).may (a1++sh (A.ties.length:Int) a2) (t1++sh A.things t2) (k+(A.ties.length:Int))=B.may a2 t2 k:=by
  have k0:=hk.1
  have cn:(a1++sh (A.ties.length:Int) a2).contains (k+(A.ties.length:Int))=a2.contains k:=by
    rw [Bool.eq_iff_iff,List.contains_iff_mem,List.contains_iff_mem,List.mem_append,vX]
    exact⟨fun z=>z.resolve_left fun q=>by have:=(s1.ain _ q).2;lia,.inr⟩
  by_cases c:k∈a2
  · unfold aP.may
    rw [cn,List.contains_iff_mem.mpr c]
    simp
  · have lt:=yP s2.nd (fun x hx=>s2.ain x hx) hk.1 hk.2 c
    have l1:=mj A.ties.length a1 s1.nd (fun x hx=>s1.ain x hx)
    have e1:decide ((bW A B).asks≤((a1++sh (A.ties.length:Int) a2).length:Int))=decide (B.asks≤(a2.length:Int)):=by
      rw [decide_eq_false (by show ¬A.asks+B.asks≤_;rw [List.length_append,List.length_map];lia),decide_eq_false (by lia)]
    have tk:=(i_ oB).tie k hk
    have be:∀th,0≤th→th < B.things→(bW A B).bears (a1++sh (A.ties.length:Int) a2) (t1++sh A.things t2) (th+A.things)=B.bears a2 t2 th:=fun th q0 q1=>by
      have pl:=oA.pl;have t0:=oA.t0
      unfold aP.bears
      rw [zM oA s1.ain s2.ain q0]
      have e2:(t1++sh A.things t2).contains (th+A.things)=t2.contains th:=by
        rw [Bool.eq_iff_iff,List.contains_iff_mem,List.contains_iff_mem,List.mem_append,vX]
        exact⟨fun z=>z.resolve_left fun q=>by have:=(s1.tin _ q).2;lia,.inr⟩
      have e3:(bW A B).pat.getD (th+A.things).toNat 0=B.pat.getD th.toNat 0:=by
        show(A.pat++B.pat).getD _ 0=_
        rw [List.getD_eq_getElem?_getD,List.getElem?_append_right (by lia),List.getD_eq_getElem?_getD]
        congr 2
        lia
      rw [e2,e3]
    unfold aP.may
    rw [e1,cn,sD hk]
    show(_&&((bW A B).bears _ _ ((B.tie k).one+A.things)&&(bW A B).bears _ _ ((B.tie k).other+A.things)))=_
    rw [be _ tk.1 tk.2.1,be _ tk.2.2.1 tk.2.2.2]
theorem vY{n:Int}{l1 l2 l3:List Int}(h1:l1.Pairwise (· ≤·))(hl:∀x∈l1,x < n)(h2:∀x∈l2++l3,0≤x):fX (l1++sh n l2++sh n l3)=l1++sh n (fX (l2++l3)):=by
  refine(qg ?_ ?_).symm
  · rw [List.append_assoc,←List.map_append]
    exact((hV (l2++l3)).map _).append_left l1
  · rw [List.pairwise_append]
    refine⟨h1,?_,fun x hx y hy=>?_⟩
    · rw [List.pairwise_map]
      exact(hX _).imp fun h=>by lia
    · obtain⟨z,hz,rfl⟩:=List.mem_map.mp hy
      have:=hl x hx
      have:=h2 z (ku.mp hz)
      lia
theorem y6{A B:aP}(oA:A.Ok)(oB:B.Ok)(hA:(A.ties.length:Int)≤A.asks)(hB:(B.ties.length:Int)≤B.asks){ans ans2:Int→Bool}(ha:∀k,fZ B k→ans (k+(A.ties.length:Int))=ans2 k){a1 t1:List Int}(s1:St A a1 t1):
    ∀(o:List Int) (a2 t2:List Int),(∀k∈o,fZ B k)→St B a2 t2→gq (bW A B) ans (sh (A.ties.length:Int) o) (a1++sh (A.ties.length:Int) a2) (t1++sh A.things t2)=(gq B ans2 o a2 t2).map fun p=>(p.1+(A.ties.length:Int),p.2)
  | [],_,_,_,_=>rfl
  | k::r,a2,t2,ho,s2=>by
    have hk:=ho k (by simp)
    have ih:=y6 oA oB hA hB ha s1 r
    show gq (bW A B) ans ((k+(A.ties.length:Int))::sh (A.ties.length:Int) r) _ _=_
    rw [dP,dP,BH oA oB hA hB s1 s2 hk]
    cases c:B.may a2 t2 k with
    | false=>
      rw [if_neg (by simp),if_neg (by simp)]
      exact ih a2 t2 (fun x hx=>ho x (by simp [hx])) s2
    | true=>
      rw [if_pos rfl,if_pos rfl,List.map_cons,ha k hk]
      congr 1
      have nk:=oY c
      have tk:=(i_ oB).tie k hk
      have e1:aP.askd (a1++sh (A.ties.length:Int) a2) (k+(A.ties.length:Int))=a1++sh (A.ties.length:Int) (aP.askd a2 k):=by
        unfold aP.askd
        exact vY (l3:=[k]) s1.as (fun x hx=>(s1.ain x hx).2) (fun x hx=>by
          rcases List.mem_append.mp hx with q | q
          · exact(s2.ain x q).1
          · simp at q;subst q;exact hk.1)
      have e2:(bW A B).took (t1++sh A.things t2) (k+(A.ties.length:Int)) (ans2 k)=t1++sh A.things (B.took t2 k (ans2 k)):=by
        unfold aP.took
        cases ans2 k with
        | false=>rfl
        | true=>
          rw [sD hk]
          exact vY (l3:=[(B.tie k).one,(B.tie k).other]) s1.ts (fun x hx=>(s1.tin x hx).2) (fun x hx=>by
            rcases List.mem_append.mp hx with q | q
            · exact(s2.tin x q).1
            · simp at q
              rcases q with rfl | rfl<;>lia)
      rw [e1,e2]
      exact ih _ _ (fun x hx=>ho x (by simp [hx])) (s2.next (i_ oB) hk nk _)
theorem y4{A B:aP}(oA:A.Ok)(oB:B.Ok)(hA:(A.ties.length:Int)≤A.asks)(hB:(B.ties.length:Int)≤B.asks){ans ans1 ans2:Int→Bool}(hl:∀k,fZ A k→ans k=ans1 k)(ha:∀k,fZ B k→ans (k+(A.ties.length:Int))=ans2 k)(o2:List Int)(ho2:∀k∈o2,fZ B k):
    ∀(o:List Int) (a t:List Int),(∀k∈o,fZ A k)→St A a t→gq (bW A B) ans (o++sh (A.ties.length:Int) o2) a t=gq A ans1 o a t++(gq B ans2 o2 [] []).map fun p=>(p.1+(A.ties.length:Int),p.2)
  | [],a,t,_,s=>by
    have:=y6 oA oB hA hB ha s o2 [] [] ho2 St.nil
    simpa [gq] using this
  | k::r,a,t,ho,s=>by
    have hk:=ho k (by simp)
    have ih:=y4 oA oB hA hB hl ha o2 ho2 r
    rw [List.cons_append,dP,dP,BG oA oB hA s hk]
    cases c:A.may a t k with
    | false=>
      rw [if_neg (by simp),if_neg (by simp)]
      exact ih a t (fun x hx=>ho x (by simp [hx])) s
    | true=>
      rw [if_pos rfl,if_pos rfl,List.cons_append,hl k hk]
      congr 1
      have e2:(bW A B).took t k (ans1 k)=A.took t k (ans1 k):=by unfold aP.took;rw [qm hk]
      rw [e2]
      exact ih _ _ (fun x hx=>ho x (by simp [hx])) (s.next (i_ oA) hk (oY c) _)
theorem ou{W:aP}{asked:List Int}{thing:Int}(h:∀k∈asked,fZ W k)(hl:asked.length≤1000):eL [.d (ao W),.d (.tuple (asked.map .int)),.d (.int thing)]=some (.d (.int (W.many asked thing)),[.d (ao W),.d (.tuple (asked.map .int)),.d (.int thing)]):=by
  let cs:En:=[some (.d (.int thing)),some (.d (ao W))]
  have hc:∀x∈asked.map PyData.int,d_ (cs++[some (.d x)])=some (BM (fun k=>W.has k thing) x,cs++[some (.d x)]):=fun x hx=>by
    obtain⟨k,hk,rfl⟩:=List.mem_map.mp hx
    simp? [BM,cs,d_,ao,lC (h k hk),aG,aP.has]
  have he:∀x∈asked.map PyData.int,BM (fun k=>W.has k thing) x=true→ec (cs++[some (.d x)])=some (.d (id x),cs++[some (.d x)]):=fun x hx _=>by
    simp? [cs,ec]
  obtain⟨t',hf⟩:=dC (cs:=cs) (ft:=d_) (fe:=ec) (b:=BM (fun k=>W.has k thing)) (y:=id) (asked.map PyData.int) none [] hc he (by simp;lia)
  have hv:=fK (cp:=[(2,"_law_thing"),(0,"_law_web_here")]) (nT:=1) (fi:=kR) (g:=ah 2) (ft:=d_) (fe:=ec) (e:=[some (.d (ao W)),some (.d (.tuple (asked.map PyData.int))),some (.d (.int thing))]) (cs:=cs) (t:=[none]) (t':=[t']) (jp (fa:=ac 1) rfl) rfl rfl hf
  have hlen:(([]++List.map id (List.filter (BM (fun k=>W.has k thing)) (asked.map PyData.int))).length:Int)=W.many asked thing:=by
    unfold aP.many
    simp [List.filter_map]
    rfl
  simp only [eL,nD,gC,ja,ay,eu,a8,bQ,bg,ej,i8,i9,pk,ax,ar,qr,ac,vC,eF,ai,aa,bU,aI,bJ,m5,lu,c7,AZ,fY,ro,jd,qp,fq,er,cK,bA,qQ,en,fQ,lJ,cz,cv,oP,pC,bS,aq,ah,bI,cj,aL,bh,pY,di,eV,cY,gP,gW,gT,gR,gQ,eY,eX,eZ,dH,eU,lX,ii,jl,lY,jo,gU,jm,jn,ff,e_,dI,fg,l5,f9,eS,jh,ji,lI,dG,dD,ee,gS,List.replicate, -List.map_nil, -List.map_cons, -List.nil_append, -List.cons_append, -Option.bind_some, -Option.map_some, -getElem?_pos, -List.append_nil,lQ,lP,lL,lK,lN,lO,lM,lS]
  simp? [hv]
  simpa using hlen
theorem vp{W:aP}(ok:Md W){thing:Int}(h0:0≤thing)(h1:thing < W.things):atI (W.pat.map PyData.int) thing=some (.int (W.pat.getD thing.toNat 0)):=uj h0 (by have:=ok.pl;lia)
theorem Cu{W:aP}(ok:Md W){asked taken:List Int}{k:Int}(h:∀k∈asked,fZ W k)(hl:asked.length≤1000)(hk:fZ W k):jN [.d (ao W),.d (m_ asked taken),.d (.int k)]=some (.d (.bool (W.may asked taken k)),[.d (ao W),.d (m_ asked taken),.d (.int k)]):=by
  have tk:=ok.tie k hk
  have p1:=vp ok (thing:=(W.tie k).one) (by lia) (by lia)
  have p2:=vp ok (thing:=(W.tie k).other) (by lia) (by lia)
  have a1:=ou (W:=W) (asked:=asked) (thing:=(W.tie k).one) h hl
  have a2:=ou (W:=W) (asked:=asked) (thing:=(W.tie k).other) h hl
  rw [iz] at a1 a2 ⊢
  unfold aP.may aP.bears
  by_cases c1:asked.contains k=true
  · simp? [jN,nE,m_,c1]
    simp at c1
    simp [c1]
  · by_cases c2:W.asks≤(asked.length:Int)
    · have c1':k∉asked:=by simpa using c1
      simp? [jN,nE,m_,c1',c2]
    · have c1':k∉asked:=by simpa using c1
      have turn:∀(thing:Int) (v5:Option Sv),eL [.d (.tuple [.int W.things,.tuple (W.ties.map aG),.tuple (W.pat.map .int),.int W.asks]),.d (.tuple (asked.map .int)),.d (.int thing)]=some (.d (.int (W.many asked thing)),[.d (.tuple [.int W.things,.tuple (W.ties.map aG),.tuple (W.pat.map .int),.int W.asks]),.d (.tuple (asked.map .int)),.d (.int thing)])→atI (W.pat.map PyData.int) thing=some (.int (W.pat.getD thing.toNat 0))→
          gN [some (.d (.tuple [.int W.things,.tuple (W.ties.map aG),.tuple (W.pat.map .int),.int W.asks])),some (.d (m_ asked taken)),some (.d (.int k)),some (.d (.tuple (asked.map .int))),some (.d (.tuple (taken.map .int))),some (.d (.int thing))]=(if (!taken.contains thing&&decide (W.many asked thing < W.pat.getD thing.toNat 0))=true then some (.nx [some (.d (.tuple [.int W.things,.tuple (W.ties.map aG),.tuple (W.pat.map .int),.int W.asks])),some (.d (m_ asked taken)),some (.d (.int k)),some (.d (.tuple (asked.map .int))),some (.d (.tuple (taken.map .int))),some (.d (.int thing))]) else some (.rt (.d (.bool false)) [some (.d (.tuple [.int W.things,.tuple (W.ties.map aG),.tuple (W.pat.map .int),.int W.asks])),some (.d (m_ asked taken)),some (.d (.int k)),some (.d (.tuple (asked.map .int))),some (.d (.tuple (taken.map .int))),some (.d (.int thing))])):=by
        intro thing v5 ha hp
        by_cases d1:taken.contains thing=true
        · have d1':thing∈taken:=by simpa using d1
          simp? [gN,d1']
        · have d1':thing∉taken:=by simpa using d1
          by_cases d2:W.many asked thing < W.pat.getD thing.toNat 0
          · have d2':¬W.pat.getD thing.toNat 0≤W.many asked thing:=by lia
            simp only [List.getD_eq_getElem?_getD] at d2 d2' hp
            simp? [gN,d1',ha,hp,d2,d2']
          · have d2':W.pat.getD thing.toNat 0≤W.many asked thing:=by lia
            simp only [List.getD_eq_getElem?_getD] at d2 d2' hp
            simp? [gN,d1',ha,hp,d2,d2']
      have u1:=turn (W.tie k).one none a1 p1
      have u2:=turn (W.tie k).other none a2 p2
      have hf:∀Wl,eE Wl rQ (ah 5) gN [some (.d (.tuple [.int W.things,.tuple (W.ties.map aG),.tuple (W.pat.map .int),.int W.asks])),some (.d (m_ asked taken)),some (.d (.int k)),some (.d (.tuple (asked.map .int))),some (.d (.tuple (taken.map .int))),none]=gb [] (ah 5) gN [.int (W.tie k).one,.int (W.tie k).other] [some (.d (.tuple [.int W.things,.tuple (W.ties.map aG),.tuple (W.pat.map .int),.int W.asks])),some (.d (m_ asked taken)),some (.d (.int k)),some (.d (.tuple (asked.map .int))),some (.d (.tuple (taken.map .int))),none]:=fun Wl=>by
        rw [dW]
        exact jp (by simp? [lC hk,aG])
      unfold m_ at u1 u2 hf ⊢
      by_cases e1:(!taken.contains (W.tie k).one&&decide (W.many asked (W.tie k).one < W.pat.getD (W.tie k).one.toNat 0))=true
      · by_cases e2:(!taken.contains (W.tie k).other&&decide (W.many asked (W.tie k).other < W.pat.getD (W.tie k).other.toNat 0))=true
        · rw [if_pos e1] at u1
          rw [if_pos e2] at u2
          rw [e1,e2]
          simp only [jN,nE,gC,ja,ay,eu,a8,bQ,bg,ej,i8,i9,pk,ax,ar,qr,ac,vC,eF,ai,aa,bU,aI,bJ,m5,lu,c7,AZ,fY,ro,jd,qp,fq,er,cK,bA,qQ,en,fQ,lJ,cz,cv,oP,pC,bS,aq,ah,bI,cj,aL,bh,pY,di,eV,cY,gP,gW,gT,gR,gQ,eY,eX,eZ,dH,eU,lX,ii,jl,lY,jo,gU,jm,jn,ff,e_,dI,fg,l5,f9,eS,jh,ji,lI,dG,dD,ee,gS,List.replicate, -List.map_nil, -List.map_cons, -List.nil_append, -List.cons_append, -Option.bind_some, -Option.map_some, -getElem?_pos, -List.append_nil,lQ,lP,lL,lK,lN,lO,lM,lS]
          simp? [c1',c2,hf,gb,u1,u2,bo]
        · rw [if_pos e1] at u1
          rw [if_neg e2] at u2
          rw [e1,Bool.not_eq_true _ |>.mp e2]
          simp only [jN,nE,gC,ja,ay,eu,a8,bQ,bg,ej,i8,i9,pk,ax,ar,qr,ac,vC,eF,ai,aa,bU,aI,bJ,m5,lu,c7,AZ,fY,ro,jd,qp,fq,er,cK,bA,qQ,en,fQ,lJ,cz,cv,oP,pC,bS,aq,ah,bI,cj,aL,bh,pY,di,eV,cY,gP,gW,gT,gR,gQ,eY,eX,eZ,dH,eU,lX,ii,jl,lY,jo,gU,jm,jn,ff,e_,dI,fg,l5,f9,eS,jh,ji,lI,dG,dD,ee,gS,List.replicate, -List.map_nil, -List.map_cons, -List.nil_append, -List.cons_append, -Option.bind_some, -Option.map_some, -getElem?_pos, -List.append_nil,lQ,lP,lL,lK,lN,lO,lM,lS]
          simp? [c1',c2,hf,gb,u1,u2,bo]
      · rw [if_neg e1] at u1
        rw [Bool.not_eq_true _ |>.mp e1]
        simp only [jN,nE,gC,ja,ay,eu,a8,bQ,bg,ej,i8,i9,pk,ax,ar,qr,ac,vC,eF,ai,aa,bU,aI,bJ,m5,lu,c7,AZ,fY,ro,jd,qp,fq,er,cK,bA,qQ,en,fQ,lJ,cz,cv,oP,pC,bS,aq,ah,bI,cj,aL,bh,pY,di,eV,cY,gP,gW,gT,gR,gQ,eY,eX,eZ,dH,eU,lX,ii,jl,lY,jo,gU,jm,jn,ff,e_,dI,fg,l5,f9,eS,jh,ji,lI,dG,dD,ee,gS,List.replicate, -List.map_nil, -List.map_cons, -List.nil_append, -List.cons_append, -Option.bind_some, -Option.map_some, -getElem?_pos, -List.append_nil,lQ,lP,lL,lK,lN,lO,lM,lS]
        simp? [c1',c2,hf,gb,u1,bo]
theorem wc{W:aP}{asked taken:List Int}{k:Int}(truth:Bool)(hk:fZ W k)(h1:asked.length < 60)(h2:taken.length < 60):gA [.d (ao W),.d (m_ asked taken),.d (.int k),.d (.bool truth)]=some (.d (m_ (aP.askd asked k) (W.took taken k truth)),[.d (ao W),.d (m_ asked taken),.d (.int k),.d (.bool truth)]):=by
  have s1:∀e,g1 gX e [.d (.tuple (asked.map PyData.int++[.int k]))]=some (.l ((fX (asked++[k])).map .int)):=fun e=>by
    have:=l6 (e:=e) (ns:=asked++[k]) (by simp;lia)
    simpa using this
  have s2:∀e,g1 gX e [.d (.tuple (taken.map PyData.int++[.int (W.tie k).one,.int (W.tie k).other]))]=some (.l ((fX (taken++[(W.tie k).one,(W.tie k).other])).map .int)):=fun e=>by
    have:=l6 (e:=e) (ns:=taken++[(W.tie k).one,(W.tie k).other]) (by simp;lia)
    simpa using this
  have g1':∀e,ba e (.d (.tuple (asked.map .int))) (.d (.tuple [.int k]))=some (.d (.tuple (asked.map .int++[.int k]))):=fun e=>eW (by simp;lia)
  have g2':∀e,ba e (.d (.tuple (taken.map .int))) (.d (.tuple [.int (W.tie k).one,.int (W.tie k).other]))=some (.d (.tuple (taken.map .int++[.int (W.tie k).one,.int (W.tie k).other]))):=fun e=>eW (by simp;lia)
  rw [iz]
  cases truth with
  | true=>simp? [gA,lD,m_,lC hk,aG,g1',g2',s1,s2,aP.askd,aP.took]
  | false=>simp? [gA,lD,m_,g1',s1,aP.askd,aP.took]
def dR(p:Int × Bool):PyData:=.tuple [.int p.1,.bool p.2]
def j_(bs:List Bool)(k:Int):Bool:=bs.getD k.toNat false
theorem nA{bs:List Bool}{k:Int}(h0:0≤k)(h1:k < (bs.length:Int)):atI (bs.map PyData.bool) k=some (.bool (j_ bs k)):=by
  have hk:k.toNat < bs.length:=by lia
  rw [f_ h0 (by rw [List.length_map];exact h1),List.getElem?_map]
  unfold j_
  rw [List.getD_eq_getElem?_getD,List.getElem?_eq_getElem hk]
  rfl
abbrev n9(W:aP)(O:List PyData)(bs:List Bool)(a t:List Int)(R:List PyData)(v5:Option Sv):En:=[some (.d (ao W)),some (.d (.tuple O)),some (.d (.tuple (bs.map .bool))),some (.d (m_ a t)),some (.l R),v5]
theorem mG{W:aP}(md:Md W){O:List PyData}{bs:List Bool}(hb:(bs.length:Int)=(W.ties.length:Int)):∀(o:List Int) (a t:List Int) (R:List PyData) (v5:Option Sv),(∀k∈o,fZ W k)→St W a t→a.length+o.length≤50→t.length+2*o.length≤55→R.length+o.length≤100→
    ∃a' t' w5,gb [] (ah 5) aW (o.map .int) (n9 W O bs a t R v5)=some (.nx (n9 W O bs a' t' (R++(gq W (j_ bs) o a t).map dR) w5))
  | [],a,t,R,v5,_,_,_,_,_=>⟨a,t,v5,by simp [gb,gq]⟩
  | k::r,a,t,R,v5,ho,s,l1,l2,l3=>by
    have hk:=ho k (by simp)
    simp only [List.length_cons] at l1 l2 l3
    have tm:=Cu md (asked:=a) (taken:=t) (k:=k) s.ain (by lia) hk
    have ab:=nA (bs:=bs) (k:=k) hk.1 (by rw [hb];exact hk.2)
    cases c:W.may a t k with
    | false=>
      rw [c] at tm
      have st:aW (n9 W O bs a t R (some (.d (.int k))))=some (.nx (n9 W O bs a t R (some (.d (.int k))))):=by
        unfold n9
        generalize ao W=WW at*
        generalize m_ a t=SS at*
        generalize bs.map PyData.bool=BB at*
        simp? [aW,tm]
      obtain⟨a',t',w5,ih⟩:=mG md (O:=O) hb r a t R (some (.d (.int k))) (fun x hx=>ho x (by simp [hx])) s (by lia) (by lia) (by lia)
      refine⟨a',t',w5,?_⟩
      rw [dP,c,if_neg (by simp),List.map_cons]
      rw [show gb [] (ah 5) aW (PyData.int k::r.map .int) (n9 W O bs a t R v5)=gb [] (ah 5) aW (r.map .int) (n9 W O bs a t R (some (.d (.int k)))) by
        have g:ah 5 (.int k) (n9 W O bs a t R v5)=some (n9 W O bs a t R (some (.d (.int k)))):=rfl
        simp only [gb,g,st,Option.bind_some]
        rw [if_pos bo]]
      exact ih
    | true=>
      rw [c] at tm
      have tb:=wc (W:=W) (asked:=a) (taken:=t) (k:=k) (j_ bs k) hk (by lia) (by lia)
      have lr:R.length < 1000000:=by lia
      have st:aW (n9 W O bs a t R (some (.d (.int k))))=some (.nx (n9 W O bs (aP.askd a k) (W.took t k (j_ bs k)) (R++[dR (k,j_ bs k)]) (some (.d (.int k))))):=by
        unfold n9
        rw [show dR (k,j_ bs k)=.tuple [.int k,.bool (j_ bs k)] from rfl]
        generalize m_ (aP.askd a k) (W.took t k (j_ bs k))=S2 at*
        generalize j_ bs k=x at*
        generalize ao W=WW at*
        generalize m_ a t=SS at*
        generalize bs.map PyData.bool=BB at*
        simp? [aW,tm,ab,tb,lr]
      have la:(aP.askd a k).length=a.length+1:=by unfold aP.askd;rw [om];simp
      have lt:(W.took t k (j_ bs k)).length≤t.length+2:=by
        unfold aP.took
        cases j_ bs k with
        | false=>simp
        | true=>rw [if_pos rfl,om];simp
      obtain⟨a',t',w5,ih⟩:=mG md (O:=O) hb r (aP.askd a k) (W.took t k (j_ bs k)) (R++[dR (k,j_ bs k)]) (some (.d (.int k))) (fun x hx=>ho x (by simp [hx])) (s.next md hk (oY c) _) (by lia) (by lia) (by simp;lia)
      refine⟨a',t',w5,?_⟩
      rw [dP,c,if_pos rfl,List.map_cons,List.map_cons]
      rw [show gb [] (ah 5) aW (PyData.int k::r.map .int) (n9 W O bs a t R v5)=gb [] (ah 5) aW (r.map .int) (n9 W O bs (aP.askd a k) (W.took t k (j_ bs k)) (R++[dR (k,j_ bs k)]) (some (.d (.int k)))) by
        have g:ah 5 (.int k) (n9 W O bs a t R v5)=some (n9 W O bs a t R (some (.d (.int k)))):=rfl
        simp only [gb,g,st,Option.bind_some]
        rw [if_pos bo]]
      rw [ih,List.append_assoc]
      rfl
theorem iR{W:aP}(md:Md W){o:List Int}{bs:List Bool}(ho:∀k∈o,fZ W k)(lo:o.length≤16)(hb:(bs.length:Int)=(W.ties.length:Int)):cI [.d (ao W),.d (.tuple (o.map .int)),.d (.tuple (bs.map .bool))]=some (.d (.tuple ((gq W (j_ bs) o [] []).map dR)),[.d (ao W),.d (.tuple (o.map .int)),.d (.tuple (bs.map .bool))]):=by
  obtain⟨a',t',w5,h⟩:=mG md (O:=o.map .int) hb o [] [] [] none ho St.nil (by simp;lia) (by simp;lia) (by simp;lia)
  have hf:∀Wl,eE Wl gg (ah 5) aW (n9 W (o.map .int) bs [] [] [] none)=some (.nx (n9 W (o.map .int) bs a' t' ([]++(gq W (j_ bs) o [] []).map dR) w5)):=fun Wl=>by
    rw [dW (show gg _=some (o.map .int,[],n9 W (o.map .int) bs [] [] [] none) from rfl)]
    exact h
  unfold n9 at hf
  rw [show m_ [] []=.tuple [.tuple [],.tuple []] from rfl] at hf
  rw [List.nil_append] at hf
  generalize (gq W (j_ bs) o [] []).map dR=RR at*
  generalize m_ a' t'=SS at*
  generalize o.map PyData.int=OO at*
  generalize bs.map PyData.bool=BB at*
  generalize ao W=WW at*
  simp? [cI,kG,hf]
theorem yI{W:aP}(e:En):bR e (.d (ao W)) (.d (.int 0))=some (.d (.int W.things)):=by rw [iz,ii,f9];rfl
theorem xc{W:aP}(e:En):bR e (.d (ao W)) (.d (.int 1))=some (.d (.tuple (W.ties.map aG))):=by rw [iz,ii,eS];rfl
theorem Bc{W:aP}(e:En):bR e (.d (ao W)) (.d (.int 2))=some (.d (.tuple (W.pat.map .int))):=rfl
theorem uO{W:aP}(e:En):bR e (.d (ao W)) (.d (.int 3))=some (.d (.int W.asks)):=rfl
theorem Cd{t:j9}{n m:Int}(h:t.Ok m)(n0:0≤n):(ka n t).Ok (n+m):=⟨by show 0≤t.one+n;have:=h.o0;lia,by show t.one+n < t.other+n;have:=h.o1;lia,by show t.other+n < n+m;have:=h.o2;lia,h.c0,h.c1,h.b0,h.b1,h.w0,h.w1,h.cop⟩
theorem Cy{t:j9}{n m:Int}(h:t.Ok n)(k:0≤m):t.Ok (n+m):=⟨h.o0,h.o1,by have:=h.o2;lia,h.c0,h.c1,h.b0,h.b1,h.w0,h.w1,h.cop⟩
theorem nL{A B:aP}(oA:A.Ok)(oB:B.Ok):∀t∈(bW A B).ties,t.Ok (bW A B).things:=fun t ht=>by
  rcases List.mem_append.mp (show t∈A.ties++B.ties.map (ka A.things) from ht) with q | q
  · exact Cy (oA.ties t q) oB.t0
  · obtain⟨u,hu,rfl⟩:=List.mem_map.mp q
    exact Cd (oB.ties u hu) oA.t0
theorem pK{A B:aP}(oA:A.Ok)(oB:B.Ok):∀p∈(bW A B).pat,0≤p∧p≤20:=fun p hp=>(List.mem_append.mp (show p∈A.pat++B.pat from hp)).elim (oA.pat p) (oB.pat p)
theorem wL{A B:aP}(oA:A.Ok)(oB:B.Ok)(h1:A.things+B.things≤12)(h2:A.ties.length+B.ties.length≤16)(h3:A.asks+B.asks≤40):(bW A B).Ok:=by
  have a0:=oA.t0;have b0:=oB.t0;have a1:=oA.a0;have b1:=oB.a0
  exact⟨by show 0≤A.things+B.things;lia,h1,nL oA oB,by show(A.ties++B.ties.map (ka A.things)).length≤16;rw [List.length_append,List.length_map];exact h2,(rS oA oB).pl,pK oA oB,by show 0≤A.asks+B.asks;lia,h3⟩
theorem tJ{ts:List j9}{N:Int}(hN:N≤24)(h:∀t∈ts,t.Ok N):c9 2 (ts.map aG)=true:=gE.mpr fun d hd=>by
  obtain⟨t,ht,rfl⟩:=List.mem_map.mp hd
  have o:=h t ht
  have o0:=o.o0;have o1:=o.o1;have o2:=o.o2;have c0:=o.c0;have c1:=o.c1;have b1:=o.b1;have w0:=o.w0;have w1:=o.w1
  simp only [aG,iE,c9,Bool.and_eq_true,decide_eq_true_eq,Nat.reducePow]
  refine⟨by decide,by lia,by lia,⟨by decide,by lia,by lia,trivial⟩,by lia,trivial⟩
theorem oI{A B:aP}(oA:A.Ok)(oB:B.Ok):iE 4 (ao (bW A B))=true:=by
  have a0:=oA.t0;have b0:=oB.t0;have a1:=oA.t1;have b1:=oB.t1;have a2:=oA.a0;have b2:=oB.a0;have a3:=oA.a1;have b3:=oB.a1
  have T2:=tJ (N:=(bW A B).things) (by show A.things+B.things≤24;lia) (nL oA oB)
  have P2:=fv (fv (vj (pK oA oB)))
  have iN:iE 3 (.int (bW A B).things)=true:=by
    show iE 3 (.int (A.things+B.things))=true
    simp only [iE,decide_eq_true_eq,Nat.reducePow];lia
  have iA:iE 3 (.int (bW A B).asks)=true:=by
    show iE 3 (.int (A.asks+B.asks))=true
    simp only [iE,decide_eq_true_eq,Nat.reducePow];lia
  exact zV (yT iN (yT (zV T2) (yT (zV P2) (yT iA rfl))))
theorem wK{A B:aP}(h:12 < A.things+B.things∨16 < A.ties.length+B.ties.length∨40 < A.asks+B.asks):iv (ao (bW A B))=false:=by
  rw [Bool.eq_false_iff]
  intro z
  simp only [ao,iv,bC,List.length_map,Bool.and_eq_true,decide_eq_true_eq,beq_iff_eq] at z
  have z1:A.things+B.things≤12:=z.1.2
  have z2:A.asks+B.asks≤40:=z.2.1.2
  have z3:(A.ties++B.ties.map (ka A.things)).length≤16:=z.2.2.1
  rw [List.length_append,List.length_map] at z3
  lia
def yS(n:Int):PyData→PyData
  | .tuple [.int a,.int b,c,d]=>.tuple [.int (a+n),.int (b+n),c,d]
  | d=>d
theorem A_(n:Int)(ts:List j9):(ts.map aG).map (yS n)=(ts.map (ka n)).map aG:=by
  rw [List.map_map,List.map_map];rfl
def DV:PyData→En
  | .tuple [a,b,c,d]=>[some (.d a),some (.d b),some (.d c),some (.d d)]
  | _=>[]
theorem C8{A B:aP}:ao (bW A B)=.tuple [.int (A.things+B.things),.tuple (A.ties.map aG++(B.ties.map (ka A.things)).map aG),.tuple (A.pat.map .int++B.pat.map .int),.int (A.asks+B.asks)]:=by
  show PyData.tuple [.int (A.things+B.things),.tuple ((A.ties++B.ties.map (ka A.things)).map aG),.tuple ((A.pat++B.pat).map .int),.int (A.asks+B.asks)]=_
  rw [List.map_append,List.map_append]
theorem pJ{A B:aP}(oB:B.Ok):ez [(0,"one")] 4 fm (bS (aq (ah 1) (aq (ah 2) (aq (ah 3) (aq (ah 4) bI))))) cJ cX [some (.d (ao A)),some (.d (ao B)),none,none]=some (.l ((B.ties.map (ka A.things)).map aG),[some (.d (ao A)),some (.d (ao B)),none,none]):=by
  have g0:=yI (W:=A)
  have g1':=xc (W:=B)
  obtain⟨t',ht,hf⟩:=gO (cs:=[some (.d (ao A))]) (g:=bS (aq (ah 1) (aq (ah 2) (aq (ah 3) (aq (ah 4) bI))))) (ft:=cJ) (fe:=cX) (b:=fun _=>true) (y:=yS A.things) (u:=DV) 4 (B.ties.map aG) [none,none,none,none] [] rfl (fun x hx t ht=>by
    obtain⟨ti,_,rfl⟩:=List.mem_map.mp hx
    rcases t with _ | ⟨a1,_ | ⟨a2,_ | ⟨a3,_ | ⟨a4,_ | ⟨a5,r⟩⟩⟩⟩⟩
    · simp at ht
    · simp at ht
    · simp at ht
    · simp at ht
    · unfold aG
      generalize ao A=AA at*
      simp? [DV]
    · simp at ht) (fun x hx=>by
    obtain⟨ti,_,rfl⟩:=List.mem_map.mp hx
    rfl) (fun x _=>rfl) (fun x hx _=>by
    obtain⟨ti,_,rfl⟩:=List.mem_map.mp hx
    show cX [some (.d (ao A)),some (.d (.int ti.one)),some (.d (.int ti.other)),some (.d (.tuple [.int ti.top,.int ti.bot])),some (.d (.int ti.worth))]=some (.d (.tuple [.int (ti.one+A.things),.int (ti.other+A.things),.tuple [.int ti.top,.int ti.bot],.int ti.worth]),[some (.d (ao A)),some (.d (.int ti.one)),some (.d (.int ti.other)),some (.d (.tuple [.int ti.top,.int ti.bot])),some (.d (.int ti.worth))])
    generalize ao A=AA at*
    simp? [cX,g0]) (by have:=oB.len;simp;lia)
  have hv:=fK (cp:=[(0,"one")]) (nT:=4) (fi:=fm) (g:=bS (aq (ah 1) (aq (ah 2) (aq (ah 3) (aq (ah 4) bI))))) (ft:=cJ) (fe:=cX) (e:=[some (.d (ao A)),some (.d (ao B)),none,none]) (e1:=[some (.d (ao A)),some (.d (ao B)),none,none]) (cs:=[some (.d (ao A))]) (t:=[none,none,none,none]) (t':=t') (show fm _=_ from jp (by
    generalize B.ties.map aG=TT at*
    generalize ao A=AA at*
    generalize ao B=BB at*
    simp? [g1'])) rfl rfl hf
  rw [List.nil_append,show List.filter (fun _=>true) (B.ties.map aG)=B.ties.map aG from List.filter_eq_self.mpr fun _ _=>rfl,A_] at hv
  exact hv
theorem zh{A B:aP}(oA:A.Ok)(oB:B.Ok):(∀e:En,ba e (.d (.tuple (A.ties.map aG))) (.d (.tuple ((B.ties.map (ka A.things)).map aG)))=some (.d (.tuple (A.ties.map aG++(B.ties.map (ka A.things)).map aG))))∧∀e:En,ba e (.d (.tuple (A.pat.map PyData.int))) (.d (.tuple (B.pat.map PyData.int)))=some (.d (.tuple (A.pat.map .int++B.pat.map .int))):=by
  have:=oA.len;have:=oB.len;have:=oA.pl;have:=oB.pl;have:=oA.t1;have:=oB.t1
  exact⟨fun e=>eW (by simp;lia),fun e=>eW (by simp;lia)⟩
theorem wd{A B:aP}(oA:A.Ok)(oB:B.Ok)(h:iv (ao (bW A B))=true):eh [.d (ao A),.d (ao B)]=some (.d (ao (bW A B)),[.d (ao A),.d (ao B)]):=by
  have hv:=pJ (A:=A) oB
  obtain⟨ad1,ad2⟩:=zh oA oB
  have a0:=yI (W:=A);have a1:=xc (W:=A);have a2:=Bc (W:=A);have a3:=uO (W:=A)
  have b0:=yI (W:=B);have b2:=Bc (W:=B);have b3:=uO (W:=B)
  have tw:=mX (kb (oI oA oB)).sh
  rw [h] at tw
  rw [C8] at tw ⊢
  generalize A.ties.map aG++(B.ties.map (ka A.things)).map aG=TT at*
  generalize (B.ties.map (ka A.things)).map aG=T2 at*
  generalize A.ties.map aG=T1 at*
  generalize A.pat.map PyData.int++B.pat.map PyData.int=PP at*
  generalize A.pat.map PyData.int=P1 at*
  generalize B.pat.map PyData.int=P2 at*
  generalize ao A=AA at*
  generalize ao B=BB at*
  simp? [eh,pH,hv,a0,a1,a2,a3,b0,b2,b3,ad1,ad2,tw]
theorem tZ{A B:aP}(oA:A.Ok)(oB:B.Ok)(h:iv (ao (bW A B))=false):gB [.d (ao A),.d (ao B)]=some (.d (.bool true),[.d (ao A),.d (ao B)]):=by
  have hv:=pJ (A:=A) oB
  obtain⟨ad1,ad2⟩:=zh oA oB
  have a0:=yI (W:=A);have a1:=xc (W:=A);have a2:=Bc (W:=A);have a3:=uO (W:=A)
  have b0:=yI (W:=B);have b2:=Bc (W:=B);have b3:=uO (W:=B)
  have tw:=mX (kb (oI oA oB)).sh
  rw [h] at tw
  rw [C8] at tw
  generalize A.ties.map aG++(B.ties.map (ka A.things)).map aG=TT at*
  generalize (B.ties.map (ka A.things)).map aG=T2 at*
  generalize A.ties.map aG=T1 at*
  generalize A.pat.map PyData.int++B.pat.map PyData.int=PP at*
  generalize A.pat.map PyData.int=P1 at*
  generalize B.pat.map PyData.int=P2 at*
  generalize ao A=AA at*
  generalize ao B=BB at*
  refine zL rfl rfl ⟨[some (.d AA),some (.d BB),some (.d (.tuple T2)),none],?_,rfl,[some (.d AA),some (.d BB),some (.d (.tuple T2)),some (.d (.tuple [.int (A.things+B.things),.tuple TT,.tuple PP,.int (A.asks+B.asks)]))],?_,rfl,[some (.d AA),some (.d BB),some (.d (.tuple T2)),some (.d (.tuple [.int (A.things+B.things),.tuple TT,.tuple PP,.int (A.asks+B.asks)]))],?_⟩
  · simp? [hv]
  · simp? [a0,a1,a2,a3,b0,b2,b3,ad1,ad2]
  · simp? [tw]
abbrev uc(A B:aP)(R:List PyData)(v3 v4 v5 v6:Option Sv):En:=[some (.d (ao A)),some (.d (ao B)),some (.l R),v3,v4,v5,v6]
theorem AR{A B:aP}(oA:A.Ok)(oB:B.Ok):kj [.d (ao A),.d (ao B)]=some (.d (ao (bW A B)),[.d (ao A),.d (ao B)]):=by
  obtain⟨_,ad2⟩:=zh oA oB
  have lA:=oA.len;have lB:=oB.len
  have a0:=yI (W:=A);have a1:=xc (W:=A);have a2:=Bc (W:=A);have a3:=uO (W:=A)
  have b0:=yI (W:=B);have b1:=xc (W:=B);have b2:=Bc (W:=B);have b3:=uO (W:=B)
  obtain⟨e2,h1,⟨v3,v4,v5,v6,he⟩⟩:=dm (own:=[]) (g:=bS (aq (ah 3) (aq (ah 4) (aq (ah 5) (aq (ah 6) bI))))) (f:=jA) (fun i e=>∃v3 v4 v5 v6,e=uc A B (A.ties.map aG++((B.ties.take i).map (ka A.things)).map aG) v3 v4 v5 v6) (B.ties.map aG) 0 (uc A B (A.ties.map aG) none none none none) (fun i x e hx ⟨v3,v4,v5,v6,he⟩=>by
    subst he
    rw [Nat.zero_add]
    rw [List.getElem?_map] at hx
    obtain⟨ti,hti,rfl⟩:=Option.map_eq_some_iff.mp hx
    have il:=(List.getElem?_eq_some_iff.mp hti).1
    have et:B.ties.take (i+1)=B.ties.take i++[ti]:=by
      rw [List.take_add_one,hti];rfl
    have lr:(A.ties.map aG++((B.ties.take i).map (ka A.things)).map aG).length < 1000000:=by
      simp only [List.length_append,List.length_map,List.length_take];lia
    rw [et,List.map_append,List.map_append,←List.append_assoc]
    refine⟨uc A B (A.ties.map aG++((B.ties.take i).map (ka A.things)).map aG) (some (.d (.int ti.one))) (some (.d (.int ti.other))) (some (.d (.tuple [.int ti.top,.int ti.bot]))) (some (.d (.int ti.worth))),uc A B (A.ties.map aG++((B.ties.take i).map (ka A.things)).map aG++[.tuple [.int (ti.one+A.things),.int (ti.other+A.things),.tuple [.int ti.top,.int ti.bot],.int ti.worth]]) (some (.d (.int ti.one))) (some (.d (.int ti.other))) (some (.d (.tuple [.int ti.top,.int ti.bot]))) (some (.d (.int ti.worth))),?_,?_,bo,_,_,_,_,rfl⟩
    · unfold aG uc
      generalize ao A=AA at*
      generalize ao B=BB at*
      simp? [List.replicate]
    · unfold uc
      generalize A.ties.map aG++((B.ties.take i).map (ka A.things)).map aG=RR at*
      generalize ao A=AA at*
      generalize ao B=BB at*
      simp? [jA,a0,lr]) ⟨none,none,none,none,by simp [uc]⟩
  subst he
  rw [Nat.zero_add,List.length_map,List.take_length] at h1
  have hf:∀Wl,eE Wl l8 (bS (aq (ah 3) (aq (ah 4) (aq (ah 5) (aq (ah 6) bI))))) jA (uc A B (A.ties.map aG) none none none none)=some (.nx (uc A B (A.ties.map aG++(B.ties.map (ka A.things)).map aG) v3 v4 v5 v6)):=fun Wl=>by
    rw [dW (show l8 _=some (B.ties.map aG,[],uc A B (A.ties.map aG) none none none none) from jp (by
      unfold uc
      generalize B.ties.map aG=TT at*
      generalize A.ties.map aG=TA at*
      generalize ao A=AA at*
      generalize ao B=BB at*
      simp? [b1]))]
    exact h1
  rw [C8]
  unfold uc at hf
  have gl:∀(e:En) (xs:List PyData),g1 rO e [.d (.tuple xs)]=some (.l xs):=fun _ _=>rfl
  generalize A.ties.map aG++(B.ties.map (ka A.things)).map aG=TT at*
  generalize A.ties.map aG=T1 at*
  generalize A.pat.map PyData.int++B.pat.map PyData.int=PP at*
  generalize A.pat.map PyData.int=P1 at*
  generalize B.pat.map PyData.int=P2 at*
  generalize ao A=AA at*
  generalize ao B=BB at*
  simp? [kj,uk,gl,hf,a0,a1,a2,a3,b0,b2,b3,ad2]
abbrev oE(ds:List Int)(W:aP)(most:Int)(left found:List Int)(v5:Option Sv):En:=[some (.l (ds.map .int)),some (.d (ao W)),some (.d (.int most)),some (.l (left.map .int)),some (.l (found.map .int)),v5]
theorem qY{ds:List Int}{W:aP}{most:Int}{left found:List Int}{v5:Option Sv}(hd:ic ds)(hl:left.length≤100)(hf:found.length≤100):
    ∃ds' left' found',eH (oE ds W most left found v5)=some (.nx (oE ds' W most left' found' v5))∧ic ds'∧(found'++left').Perm (found++left)∧found'.length≤found.length+1:=by
  have gn:∀(e:En) (xs:List Int),e[3]?=some (some (.l (xs.map .int)))→cQ true e (.s 3) (.l [])=some (.d (.bool (!(xs.map PyData.int).isEmpty))):=fun e xs he=>pR he (kU xs).1
  by_cases c:left=[]
  · subst c
    refine⟨ds,[],found,?_,hd,.refl _,by lia⟩
    have gn':=fun e he=>gn e [] he
    simp only [List.map_nil,List.isEmpty_nil,Bool.not_true] at gn'
    simp? [oE,eH,gn']
  · obtain⟨n,d1,t1,a1,b1,hd1⟩:=iu hd
    have pos:0 < left.length:=List.length_pos_iff.mpr c
    have m0:0≤n % (left.length:Int):=Int.emod_nonneg _ (by lia)
    have m1:n % (left.length:Int) < (left.length:Int):=Int.emod_lt_of_pos _ (by lia)
    have gm:∀e,a7 e (.d (.int n)) (.d (.int (left.length:Int)))=some (.d (.int (n % (left.length:Int)))):=fun e=>aQ (by lia)
    generalize n % (left.length:Int)=i at*
    have hi:i.toNat < left.length:=by lia
    have hx:(left.map PyData.int)[i.toNat]?=some (.int left[i.toNat]):=by rw [List.getElem?_map,List.getElem?_eq_getElem hi];rfl
    have he:(left.map PyData.int).eraseIdx i.toNat=(left.eraseIdx i.toNat).map .int:=by rw [nM]
    refine⟨d1,left.eraseIdx i.toNat,found++[left[i.toNat]],?_,hd1,?_,by simp⟩
    · have gn':=fun e he=>gn e left he
      have ne:(left.map PyData.int).isEmpty=false:=by
        cases hq:left with
        | nil=>exact absurd hq c
        | cons x r=>rfl
      rw [ne] at gn'
      have ql:((left.map PyData.int).length:Int)=(left.length:Int):=by simp
      have hb:i < 1000000000:=by lia
      have lf:(found.map PyData.int).length < 1000000:=by simp;lia
      have e1:(found++[left[i.toNat]]).map PyData.int=found.map .int++[.int left[i.toNat]]:=by simp
      simp only [oE,e1,←he]
      generalize left[i.toNat]=x at*
      generalize found.map PyData.int=FF at*
      generalize (left.length:Int)=L at*
      generalize left.map PyData.int=LL at*
      simp? [eH,gn',t1,ql,gm,m0,hb,hx,lf]
    · rw [List.append_assoc]
      exact List.Perm.append_left _ (lH left i.toNat hi)
theorem sC{W:aP}(ok:W.Ok){ds:List Int}(hd:ic ds){most:Int}(m0:0≤most)(m1:most≤100):
    ∃(os ds' left:List Int),iZ [.l (ds.map .int),.d (ao W),.d (.int most)]=some (.d (.tuple (os.map .int)),[.l (ds'.map .int),.d (ao W),.d (.int most)])∧ic ds'∧(os++left).Perm (ir W.ties.length)∧(os.length:Int)≤most:=by
  have wl:=ok.len
  obtain⟨n,d1,t1,a1,b1,hd1⟩:=iu hd
  have k0:0≤n % (most+1):=Int.emod_nonneg _ (by lia)
  have k1:n % (most+1) < most+1:=Int.emod_lt_of_pos _ (by lia)
  have gm:∀e,a7 e (.d (.int n)) (.d (.int (most+1)))=some (.d (.int (n % (most+1)))):=fun e=>aQ (by lia)
  generalize n % (most+1)=many at*
  have g1':∀e,bR e (.d (ao W)) (.d (.int 1))=some (.d (.tuple (W.ties.map aG))):=fun e=>by rw [iz,ii,eS];rfl
  obtain⟨e',h1,⟨d2,left,found,v5,he,hd2,hp,hfl⟩⟩:=dm (own:=[]) (g:=ah 5) (f:=eH) (fun i e=>∃ds left found v5,e=oE ds W most left found v5∧ic ds∧(found++left).Perm (ir W.ties.length)∧found.length≤i) (bL 0 many.toNat) 0 (oE d1 W most (ir W.ties.length) [] none) (fun i x e hx ⟨ds,left,found,v5,he,hd,hp,hfl⟩=>by
    subst he
    have hl:=hp.length_eq
    rw [List.length_append,p8] at hl
    obtain⟨ds',left',found',h1,h2,h3,h4⟩:=qY (W:=W) (most:=most) (left:=left) (found:=found) (v5:=some (.d x)) hd (by lia) (by lia)
    exact⟨_,_,rfl,h1,bo,ds',left',found',_,rfl,h2,h3.trans hp,by lia⟩) ⟨d1,_,[],none,rfl,hd1,by simp,by simp⟩
  subst he
  have hf:∀Wl,eE Wl kg (ah 5) eH (oE ds W most (ir W.ties.length) [] none)=some (.nx (oE d2 W most left found v5)):=fun Wl=>by
    rw [dW (show kg (oE ds W most (ir W.ties.length) [] none)=some (bL 0 many.toNat,[],oE d1 W most (ir W.ties.length) [] none) from cZ (n:=many) (by simp? [oE,t1,gm]) (by lia) (by lia))]
    exact h1
  rw [fC] at hfl
  refine⟨found,d2,left,?_,hd2,hp,by lia⟩
  simp only [oE,List.map_nil] at hf
  have ql:((W.ties.map aG).length:Int)=(W.ties.length:Int):=by simp
  have lr:∀(fs:FA) (e e1:En) (n:Nat),n≤16→fs e=some ([.d (.int (n:Int))],e1)→i6 fs e=some (.l ((ir n).map .int),e1):=fun fs e e1 n hn h=>by
    unfold i6;rw [h]
    simp only [Option.bind_some,cv]
    rw [if_pos (by lia),Int.toNat_natCast]
  have hr:i6 (aa (aI (g1 fL) (aa (ar bR (ac 1) (vC (.int 1))) ai)) ai) [some (.l (ds.map .int)),some (.d (ao W)),some (.d (.int most)),none,none,none]=some (.l ((ir W.ties.length).map .int),[some (.l (ds.map .int)),some (.d (ao W)),some (.d (.int most)),none,none,none]):=lr _ _ _ _ wl (by simp? [g1'])
  simp? [iZ,rG,hr,hf]
def aE(ds:List Int)(many:Int)(bs:List Bool)(num:Int)(v4:Option Sv):En:=[some (.l (ds.map .int)),some (.d (.int many)),some (.l (bs.map .bool)),some (.d (.int num)),v4]
theorem oq{ds:List Int}{many:Int}(hd:ic ds)(m0:0≤many)(m1:many≤1000):∃(ds':List Int) (bs:List Bool),eK [.l (ds.map .int),.d (.int many)]=some (.d (.tuple (bs.map .bool)),[.l (ds'.map .int),.d (.int many)])∧ic ds'∧(bs.length:Int)=many:=by
  obtain⟨e2,h1,⟨d1,bs,num,v4,he,hd1,hl⟩⟩:=dm (own:=[]) (g:=ah 4) (f:=dZ) (fun i e=>∃(ds:List Int) (bs:List Bool) (num:Int) (v4:Option Sv),e=aE ds many bs num v4∧ic ds∧bs.length=i) (bL 0 many.toNat) 0 (aE ds many [] 0 none) (fun i x e hx ⟨ds,bs,num,v4,he,hd,hl⟩=>by
    subst he
    obtain⟨rfl,hi⟩:=fy hx
    generalize hq:(0+(i:Int))=q at*
    have g16:∀e:En,a7 e (.d (.int q)) (.d (.int 16))=some (.d (.int (q % 16))):=fun e=>aQ (by decide)
    obtain⟨m,hm0,hm1,hs⟩:=AH (q:=q % 16) (by lia) (by lia)
    have gd:∀(e:En) (n:Int),ed e (.d (.int n)) (.d (.int m))=some (.d (.int (n / m))):=fun e n=>eJ hm0 (kd hm0 hm1)
    have g2:∀(e:En) (n:Int),a7 e (.d (.int n)) (.d (.int 2))=some (.d (.int (n % 2))):=fun e n=>aQ (by decide)
    have bl:bs.length < 1000000:=by lia
    obtain⟨n,d1,t1,n0,n1,hd1⟩:=iu hd
    by_cases c:q % 16=0
    · refine⟨aE ds many bs num (some (.d (.int q))),aE d1 many (bs++[n / m % 2==1]) n (some (.d (.int q))),rfl,?_,bo,_,_,_,_,rfl,hd1,by simp;lia⟩
      rw [c] at g16 hs
      simp? [aE,dZ,g16,t1,hs,gd,g2,bl]
    · refine⟨aE ds many bs num (some (.d (.int q))),aE ds many (bs++[num / m % 2==1]) num (some (.d (.int q))),rfl,?_,bo,_,_,_,_,rfl,hd,by simp;lia⟩
      simp? [aE,dZ,g16,c,hs,gd,g2,bl]) ⟨ds,[],0,none,rfl,hd,rfl⟩
  subst he
  rw [fC] at hl
  refine⟨d1,bs,?_,hd1,by lia⟩
  have hf:∀Wl,eE Wl iC (ah 4) dZ (aE ds many [] 0 none)=some (.nx (aE d1 many bs num v4)):=fun Wl=>by
    rw [dW (show iC (aE ds many [] 0 none)=some (bL 0 many.toNat,[],aE ds many [] 0 none) from cZ (n:=many) (by simp? [aE]) (by lia) (by lia))]
    exact h1
  unfold aE at hf
  simp only [List.map_nil] at hf
  simp? [eK,nB,hf]
theorem mY{A:aP}{o1 o2:List Int}(l1:o1.length≤16)(l2:o2.length≤16):b7 [.d (ao A),.d (.tuple (o1.map .int)),.d (.tuple (o2.map .int))]=some (.d (.tuple ((o1++sh (A.ties.length:Int) o2).map .int)),[.d (ao A),.d (.tuple (o1.map .int)),.d (.tuple (o2.map .int))]):=by
  have a1:=xc (W:=A)
  obtain⟨t',hf⟩:=dC (cs:=[some (.d (ao A))]) (ft:=cJ) (fe:=bX) (b:=fun _=>true) (y:=fun x=>match x with | .int i=>.int (i+(A.ties.length:Int)) | d=>d) (o2.map .int) none [] (fun x hx=>rfl) (fun x hx _=>by
    obtain⟨i,_,rfl⟩:=List.mem_map.mp hx
    have ll:((A.ties.map aG).length:Int)=(A.ties.length:Int):=by rw [List.length_map]
    show bX [some (.d (ao A)),some (.d (.int i))]=some (.d (.int (i+(A.ties.length:Int))),[some (.d (ao A)),some (.d (.int i))])
    rw [←ll]
    generalize A.ties.map aG=TT at*
    generalize ao A=AA at*
    simp? [bX,a1]) (by simp;lia)
  have hv:=fK (cp:=[(0,"one")]) (nT:=1) (fi:=gz) (g:=ah 1) (ft:=cJ) (fe:=bX) (e:=[some (.d (ao A)),some (.d (.tuple (o1.map .int))),some (.d (.tuple (o2.map .int)))]) (cs:=[some (.d (ao A))]) (t:=[none]) (t':=[t']) rfl rfl rfl hf
  rw [List.nil_append,show List.filter (fun _=>true) (o2.map PyData.int)=o2.map .int from List.filter_eq_self.mpr fun _ _=>rfl,List.map_map] at hv
  have em:(o2.map (Function.comp (fun x=>match x with | PyData.int i=>PyData.int (i+(A.ties.length:Int)) | d=>d) PyData.int))=(sh (A.ties.length:Int) o2).map .int:=by rw [List.map_map];rfl
  rw [em] at hv
  have gc:∀e:En,ba e (.d (.tuple (o1.map .int))) (.d (.tuple ((sh (A.ties.length:Int) o2).map .int)))=some (.d (.tuple ((o1++sh (A.ties.length:Int) o2).map .int))):=fun e=>by rw [List.map_append];exact eW (by simp;lia)
  generalize (o1++sh (A.ties.length:Int) o2).map PyData.int=RR at*
  generalize (sh (A.ties.length:Int) o2).map PyData.int=SS at*
  generalize o1.map PyData.int=OO at*
  generalize o2.map PyData.int=O2 at*
  generalize ao A=AA at*
  simp? [b7,iy,hv,gc]
theorem yj{ns:List Int}(h:∀x∈ns,0≤x∧x < 1000)(hl:ns.length≤100):gj [.d (.tuple (ns.map .int)),.d (.tuple (ns.map .int))]=some (.d (.bool true),[.d (.tuple (ns.map .int)),.d (.tuple (ns.map .int))]):=by
  have ok:iE 1 (.tuple (ns.map .int))=true:=zV (gE.mpr fun d hd=>by
    obtain⟨p,hp,rfl⟩:=List.mem_map.mp hd
    have:=h p hp
    simp only [iE,decide_eq_true_eq,Nat.reducePow]
    lia)
  have a:=kb ok
  have w:wt (.tuple (ns.map PyData.int))≤1000:=by simp only [wt,rq];lia
  have so:=a.so
  have r:∀e,g1 jI e [.d (.tuple (ns.map .int))]=some (.d (.str (PyData.tuple (ns.map .int)).shown)):=fun e=>rP (a.ok (by decide) (by lia))
  generalize PyData.tuple (ns.map .int)=d at*
  have q:∀e,cQ false e (.d (.str d.shown)) (.d (.str d.shown))=some (.d (.bool true)):=fun e=>rM so
  generalize d.shown=x at*
  simp? [gj,qC,r,q]
theorem AD{e:En}(l:List (Int × Bool)):cQ false e (.d (.tuple (l.map dR))) (.d (.tuple (l.map dR)))=some (.d (.bool true)):=by
  have h1:PyData.canLayAll0 (l.map dR)=true:=by
    induction l with
    | nil=>rfl
    | cons p r ih=>simp [PyData.canLayAll0,PyData.canLay0,dR,ih]
  have h2:PyData.depthAll (l.map dR)≤1:=by
    clear h1
    induction l with
    | nil=>simp [PyData.depthAll]
    | cons p r ih=>simp [PyData.depthAll,PyData.depth,dR];lia
  have h0:(PyData.tuple (l.map dR)).canLay0=true:=by simp [PyData.canLay0,h1]
  have sh:SeqAt.shaped (.tuple (l.map dR))=true:=by
    simp [SeqAt.shaped,h0,PyData.depth]
    lia
  unfold cQ
  simp [ie,sh,SeqAt.eqv_refl _ h0]
def yR(m:Int):PyData→PyData
  | .tuple [.int k,.bool b]=>.tuple [.int (k+m),.bool b]
  | d=>d
def uR:PyData→En
  | .tuple [a,b]=>[some (.d a),some (.d b)]
  | _=>[]
theorem rW{W:aP}{os left:List Int}(h:(os++left).Perm (ir W.ties.length)):∀k∈os,fZ W k:=fun k hk=>by
  have:=h.mem_iff.mp (List.mem_append_left left hk)
  unfold ir at this
  obtain⟨i,hi,rfl⟩:=List.mem_map.mp this
  have:=List.mem_range.mp hi
  exact⟨by show 0≤(i:Int);lia,by show(i:Int) < _;lia⟩
abbrev wz(ds:List Int)(A B:aP)(D:PyData)(v4 v5 v6 v7 v8 v9 v10:Option Sv):En:=[some (.l (ds.map .int)),some (.d (ao A)),some (.d (ao B)),some (.d D),v4,v5,v6,v7,v8,v9,v10]
theorem mZ{A B:aP}(oA:A.Ok)(oB:B.Ok){ds:List Int}(hd:ic ds):∃ds',bv [.l (ds.map .int),.d (ao A),.d (ao B),.d (ao (bW A B))]=some (.d (.bool true),[.l (ds'.map .int),.d (ao A),.d (ao B),.d (ao (bW A B))])∧ic ds':=by
  obtain⟨o1,d1,r1,t1,hd1,p1,q1⟩:=sC oA hd (most:=8) (by decide) (by decide)
  obtain⟨o2,d2,r2,t2,hd2,p2,q2⟩:=sC oB hd1 (most:=8) (by decide) (by decide)
  have i1:=rW p1;have i2:=rW p2
  have lA:=oA.len;have lB:=oB.len
  have a1:=xc (W:=A);have a3:=uO (W:=A);have b1:=xc (W:=B);have b3:=uO (W:=B)
  have mA:((A.ties.map aG).length:Int)=(A.ties.length:Int):=by rw [List.length_map]
  have mB:((B.ties.map aG).length:Int)=(B.ties.length:Int):=by rw [List.length_map]
  have tob:=mY (A:=A) (o1:=o1) (o2:=o2) (by lia) (by lia)
  have tsm:=yj (ns:=o1++sh (A.ties.length:Int) o2) (fun x hx=>by
    rcases List.mem_append.mp hx with z | z
    · have:=i1 x z;have:=this.1;have:=(i1 x z).2;lia
    · obtain⟨y,hy,rfl⟩:=List.mem_map.mp z
      have:=(i2 y hy).1;have:=(i2 y hy).2;lia) (by simp;lia)
  obtain⟨t',hf⟩:=dC (cs:=[some (.d (.int (A.ties.length:Int)))]) (ft:=cJ) (fe:=bV) (b:=fun _=>true) (y:=fun x=>match x with | .int i=>.int (i+(A.ties.length:Int)) | d=>d) (o2.map .int) none [] (fun x hx=>rfl) (fun x hx _=>by
    obtain⟨i,_,rfl⟩:=List.mem_map.mp hx
    simp? [bV]) (by simp;lia)
  have hv:∀v7 v8 v9 v10,ez [(6,"_law_many")] 1 dJ (ah 1) cJ bV (wz d2 A B (ao (bW A B)) (some (.d (.tuple (o1.map .int)))) (some (.d (.tuple (o2.map .int)))) (some (.d (.int (A.ties.length:Int)))) v7 v8 v9 v10)=some (.l ((sh (A.ties.length:Int) o2).map .int),wz d2 A B (ao (bW A B)) (some (.d (.tuple (o1.map .int)))) (some (.d (.tuple (o2.map .int)))) (some (.d (.int (A.ties.length:Int)))) v7 v8 v9 v10):=fun v7 v8 v9 v10=>by
    have:=fK (cp:=[(6,"_law_many")]) (nT:=1) (fi:=dJ) (g:=ah 1) (ft:=cJ) (fe:=bV) (e:=wz d2 A B (ao (bW A B)) (some (.d (.tuple (o1.map .int)))) (some (.d (.tuple (o2.map .int)))) (some (.d (.int (A.ties.length:Int)))) v7 v8 v9 v10) (cs:=[some (.d (.int (A.ties.length:Int)))]) (t:=[none]) (t':=[t']) rfl rfl rfl hf
    rw [List.nil_append,show List.filter (fun _=>true) (o2.map PyData.int)=o2.map .int from List.filter_eq_self.mpr fun _ _=>rfl,List.map_map] at this
    rw [this,List.map_map]
    rfl
  have gc:∀e:En,ba e (.d (.tuple (o1.map .int))) (.d (.tuple ((sh (A.ties.length:Int) o2).map .int)))=some (.d (.tuple ((o1++sh (A.ties.length:Int) o2).map .int))):=fun e=>by rw [List.map_append];exact eW (by simp;lia)
  by_cases c:A.asks < (A.ties.length:Int)∨B.asks < (B.ties.length:Int)
  · refine⟨d2,?_,hd2⟩
    have hv:=hv none none none none
    unfold wz at hv
    generalize hG:ao (bW A B)=DD at*
    generalize (o1++sh (A.ties.length:Int) o2).map PyData.int=RR at*
    generalize (sh (A.ties.length:Int) o2).map PyData.int=SS at*
    generalize o1.map PyData.int=O1 at*
    generalize o2.map PyData.int=O2 at*
    rw [←mA] at hv c
    rw [←mB] at c
    generalize A.ties.map aG=TA at*
    generalize B.ties.map aG=TB at*
    generalize ao A=AA at*
    generalize ao B=BB at*
    by_cases c1:A.asks < (TA.length:Int)
    · simp? [bv,dh,t1,t2,a1,hv,gc,tob,tsm,a3,c1]
    · have c2:=c.resolve_left c1
      simp? [bv,dh,t1,t2,a1,b1,hv,gc,tob,tsm,a3,b3,c1,c2]
  · have cA:(A.ties.length:Int)≤A.asks:=by lia
    have cB:(B.ties.length:Int)≤B.asks:=by lia
    obtain⟨d3,x1,t3,hd3,l3⟩:=oq hd2 (many:=(A.ties.length:Int)) (by lia) (by lia)
    obtain⟨d4,x2,t4,hd4,l4⟩:=oq hd3 (many:=(B.ties.length:Int)) (by lia) (by lia)
    have ru1:=iR (i_ oA) i1 (by lia) (bs:=x1) l3
    have ru2:=iR (i_ oB) i2 (by lia) (bs:=x2) l4
    have lb:(((x1++x2).length:Nat):Int)=((bW A B).ties.length:Int):=by
      show((x1++x2).length:Int)=((A.ties++B.ties.map (ka A.things)).length:Int)
      rw [List.length_append,List.length_append,List.length_map];lia
    have ru3:=iR (rS oA oB) (o:=o1++sh (A.ties.length:Int) o2) (fun k hk=>by
      rcases List.mem_append.mp hk with z | z
      · exact Dd (i1 k z)
      · obtain⟨y,hy,rfl⟩:=List.mem_map.mp z
        exact De (i2 y hy)) (by simp;lia) (bs:=x1++x2) lb
    have key:=y4 oA oB cA cB (ans:=j_ (x1++x2)) (ans1:=j_ x1) (ans2:=j_ x2) (fun k hk=>by
      unfold j_
      have:=hk.1;have:=hk.2
      rw [List.getD_eq_getElem?_getD,List.getElem?_append_left (by lia),List.getD_eq_getElem?_getD]) (fun k hk=>by
      unfold j_
      have:=hk.1;have:=hk.2
      rw [List.getD_eq_getElem?_getD,List.getElem?_append_right (by lia),List.getD_eq_getElem?_getD]
      congr 2
      lia) o2 i2 o1 [] [] i1 St.nil
    rw [key] at ru3
    generalize hR1:gq A (j_ x1) o1 [] []=R1 at*
    generalize hR2:gq B (j_ x2) o2 [] []=R2 at*
    have lR:∀(W:aP) (an:Int→Bool) (o a t:List Int),(gq W an o a t).length≤o.length:=by
      intro W an o
      induction o with
      | nil=>intro a t;simp [gq]
      | cons k r ih=>
        intro a t
        rw [dP]
        split
        · have:=ih (aP.askd a k) (W.took t k (an k));simp;lia
        · have:=ih a t;simp;lia
    have lR1:R1.length≤16:=by rw [←hR1];have:=lR A (j_ x1) o1 [] [];lia
    have lR2:R2.length≤16:=by rw [←hR2];have:=lR B (j_ x2) o2 [] [];lia
    obtain⟨t5,ht5,hf5⟩:=gO (cs:=[some (.d (.int (A.ties.length:Int)))]) (g:=bS (aq (ah 1) (aq (ah 2) bI))) (ft:=cJ) (fe:=bE) (b:=fun _=>true) (y:=yR (A.ties.length:Int)) (u:=uR) 2 (R2.map dR) [none,none] [] rfl (fun x hx t ht=>by
      obtain⟨p,_,rfl⟩:=List.mem_map.mp hx
      rcases t with _ | ⟨y1,_ | ⟨y2,_ | ⟨y3,r⟩⟩⟩
      · simp at ht
      · simp at ht
      · simp? [uR,dR]
      · simp at ht) (fun x hx=>by
      obtain⟨p,_,rfl⟩:=List.mem_map.mp hx
      rfl) (fun x _=>rfl) (fun x hx _=>by
      obtain⟨p,_,rfl⟩:=List.mem_map.mp hx
      show bE [some (.d (.int (A.ties.length:Int))),some (.d (.int p.1)),some (.d (.bool p.2))]=some (.d (.tuple [.int (p.1+(A.ties.length:Int)),.bool p.2]),[some (.d (.int (A.ties.length:Int))),some (.d (.int p.1)),some (.d (.bool p.2))])
      simp? [bE]) (by simp;lia)
    have hv5:ez [(6,"_law_many")] 2 cM (bS (aq (ah 1) (aq (ah 2) bI))) cJ bE (wz d4 A B (ao (bW A B)) (some (.d (.tuple (o1.map .int)))) (some (.d (.tuple (o2.map .int)))) (some (.d (.int (A.ties.length:Int)))) (some (.d (.tuple ((o1++sh (A.ties.length:Int) o2).map .int)))) (some (.d (.tuple (x1.map .bool)))) (some (.d (.tuple (x2.map .bool)))) (some (.d (.tuple (R1.map dR)))))=some (.l ((R2.map fun p=>(p.1+(A.ties.length:Int),p.2)).map dR),wz d4 A B (ao (bW A B)) (some (.d (.tuple (o1.map .int)))) (some (.d (.tuple (o2.map .int)))) (some (.d (.int (A.ties.length:Int)))) (some (.d (.tuple ((o1++sh (A.ties.length:Int) o2).map .int)))) (some (.d (.tuple (x1.map .bool)))) (some (.d (.tuple (x2.map .bool)))) (some (.d (.tuple (R1.map dR))))):=by
      have:=fK (cp:=[(6,"_law_many")]) (nT:=2) (fi:=cM) (g:=bS (aq (ah 1) (aq (ah 2) bI))) (ft:=cJ) (fe:=bE) (e:=wz d4 A B (ao (bW A B)) (some (.d (.tuple (o1.map .int)))) (some (.d (.tuple (o2.map .int)))) (some (.d (.int (A.ties.length:Int)))) (some (.d (.tuple ((o1++sh (A.ties.length:Int) o2).map .int)))) (some (.d (.tuple (x1.map .bool)))) (some (.d (.tuple (x2.map .bool)))) (some (.d (.tuple (R1.map dR))))) (e1:=wz d4 A B (ao (bW A B)) (some (.d (.tuple (o1.map .int)))) (some (.d (.tuple (o2.map .int)))) (some (.d (.int (A.ties.length:Int)))) (some (.d (.tuple ((o1++sh (A.ties.length:Int) o2).map .int)))) (some (.d (.tuple (x1.map .bool)))) (some (.d (.tuple (x2.map .bool)))) (some (.d (.tuple (R1.map dR))))) (items:=R2.map dR) (cs:=[some (.d (.int (A.ties.length:Int)))]) (t:=[none,none]) (t':=t5) (show cM _=_ from jp (by
        unfold wz
        generalize R2.map dR=RR2 at*
        generalize (o1++sh (A.ties.length:Int) o2).map PyData.int=RR at*
        generalize o1.map PyData.int=O1 at*
        generalize o2.map PyData.int=O2 at*
        generalize x1.map PyData.bool=X1 at*
        generalize x2.map PyData.bool=X2 at*
        generalize R1.map dR=RR1 at*
        generalize ao (bW A B)=DD at*
        generalize ao A=AA at*
        generalize ao B=BB at*
        simp? [ru2])) rfl rfl hf5
      rw [List.nil_append,show List.filter (fun _=>true) (R2.map dR)=R2.map dR from List.filter_eq_self.mpr fun _ _=>rfl,List.map_map] at this
      rw [this,List.map_map]
      rfl
    have gx:∀e:En,ba e (.d (.tuple (x1.map .bool))) (.d (.tuple (x2.map .bool)))=some (.d (.tuple ((x1++x2).map .bool))):=fun e=>by rw [List.map_append];exact eW (by simp;lia)
    have gr:∀e:En,ba e (.d (.tuple (R1.map dR))) (.d (.tuple ((R2.map fun p=>(p.1+(A.ties.length:Int),p.2)).map dR)))=some (.d (.tuple ((R1++R2.map fun p=>(p.1+(A.ties.length:Int),p.2)).map dR))):=fun e=>by rw [List.map_append (f:=dR)];exact eW (by simp;lia)
    have ge:=fun e=>AD (e:=e) (R1++R2.map fun p=>(p.1+(A.ties.length:Int),p.2))
    refine⟨d4,?_,hd4⟩
    have hv:=hv none none none none
    unfold wz at hv hv5
    generalize (R1++R2.map fun p=>(p.1+(A.ties.length:Int),p.2)).map dR=RF at*
    generalize (R2.map fun p=>(p.1+(A.ties.length:Int),p.2)).map dR=RS at*
    generalize (x1++x2).map PyData.bool=XX at*
    generalize (o1++sh (A.ties.length:Int) o2).map PyData.int=RR at*
    generalize (sh (A.ties.length:Int) o2).map PyData.int=SS at*
    generalize o1.map PyData.int=O1 at*
    generalize o2.map PyData.int=O2 at*
    generalize x1.map PyData.bool=X1 at*
    generalize x2.map PyData.bool=X2 at*
    generalize R1.map dR=RR1 at*
    generalize R2.map dR=RR2 at*
    generalize ao (bW A B)=DD at*
    rw [←mA] at hv hv5 t3 cA
    rw [←mB] at t4 cB
    generalize A.ties.map aG=TA at*
    generalize B.ties.map aG=TB at*
    have cA':¬A.asks < (TA.length:Int):=by lia
    have cB':¬B.asks < (TB.length:Int):=by lia
    generalize ao A=AA at*
    generalize ao B=BB at*
    simp? [bv,dh,t1,t2,a1,b1,hv,gc,tob,tsm,a3,b3,cA',cB',t3,t4,ru1,hv5,gx,gr,ru3,ge]
inductive LI (ns:List Int):En→Prop
  | mk {ds v2 v3 v4 v5 v6} (hd:ic ds):LI ns [some (.d (.list (ns.map .int))),some (.l (ds.map .int)),v2,v3,v4,v5,v6]
def wu(W:aP):aP:=⟨W.things,W.ties,W.pat,min 20 W.asks⟩
theorem uC{W:aP}(ok:W.Ok):(wu W).Ok:=⟨ok.t0,ok.t1,ok.ties,ok.len,ok.pl,ok.pat,by show 0≤min 20 W.asks;have:=ok.a0;lia,by show min 20 W.asks≤40;lia⟩
abbrev s_(ns ds:List Int)(v2 v3:Option Sv)(A B:aP)(v6:Option Sv):En:=[some (.d (.list (ns.map .int))),some (.l (ds.map .int)),v2,v3,some (.d (ao A)),some (.d (ao B)),v6]
theorem uX(ns:List Int)(hl:ns.length≤63):∃as',me [.d (.list (ns.map .int))]=some (.d (.bool true),as'):=by
  obtain⟨ds,td,hd⟩:=yi ns hl
  obtain⟨e2,h1,hI⟩:=dm (own:=[]) (g:=ah 2) (f:=CH) (fun _=>LI ns) (bL 0 6) 0 [some (.d (.list (ns.map .int))),some (.l (ds.map .int)),none,none,none,none,none] (fun i x e hx hI=>by
    obtain⟨hd⟩:=hI
    rename_i ds v2 v3 v4 v5 v6
    obtain⟨n,d1,t1, -, -,hd1⟩:=iu hd
    have gn:∀e:En,a7 e (.d (.int n)) (.d (.int 2))=some (.d (.int (n % 2))):=fun e=>aQ (by decide)
    have q0:=ud (n:=n) (k:=2) (by decide);have q1:=uA (n:=n) (k:=2) (by decide)
    generalize n % 2=r at*
    obtain⟨z,hz,ha⟩:=kc (xs:=[PyData.tuple [.int 6,.int 8],.tuple [.int 12,.int 16]]) (i:=r) q0 (by simpa using q1)
    obtain⟨most,many,rfl,m0,m1,k0,k1⟩:∃a b:Int,z=.tuple [.int a,.int b]∧0≤a∧a≤12∧0≤b∧b≤16:=by
      simp only [List.mem_cons,List.not_mem_nil,or_false] at hz
      rcases hz with rfl | rfl<;>exact⟨_,_,rfl,by decide,by decide,by decide,by decide⟩
    obtain⟨A,d2,tA,hd2,oA,_,_⟩:=y' d1 most many hd1 m0 m1 k0 k1
    obtain⟨B,d3,tB,hd3,oB,_,_⟩:=y' d2 most many hd2 m0 m1 k0 k1
    obtain⟨n2,d4,t4, -, -,hd4⟩:=iu hd3
    have g4:∀e:En,a7 e (.d (.int n2)) (.d (.int 4))=some (.d (.int (n2 % 4))):=fun e=>aQ (by decide)
    have p0:=ud (n:=n2) (k:=4) (by decide)
    generalize n2 % 4=r2 at*
    have dc:∀(A B:aP),A.Ok→B.Ok→∃ds' v6',(ay (bg 6 (bJ 2 kj (aa (ac 4) (aa (ac 5) ai))))
        (ay (eu (lu (ax (ar sU (ar bR (ac 6) (vC (.int 0))) (vC (.int 12)))) (lu (ax (ar sU (aI (g1 fL) (aa (ar bR (ac 6) (vC (.int 1))) ai)) (vC (.int 16)))) (ax (ar sU (ar bR (ac 6) (vC (.int 3))) (vC (.int 40))))))
        (eu (c7 (ax (bJ 2 gB (aa (ac 4) (aa (ac 5) ai)))))
        (a8 (vC (.bool false)))
        bQ)
        (eu (lu (c7 (ax (bJ 2 gj (aa (bJ 2 eh (aa (ac 4) (aa (ac 5) ai))) (aa (ac 6) ai))))) (ax (ar lW (bJ 1 bN (aa (bJ 2 eh (aa (ac 4) (aa (ac 5) ai))) ai)) (vC (.bool true)))))
        (a8 (vC (.bool false)))
        bQ))
        (eu (c7 (ax (bJ 4 bv (aa (ac 1) (aa (ac 4) (aa (ac 5) (aa (ac 6) ai)))))))
        (a8 (vC (.bool false)))
        bQ))) (s_ ns d4 (some (.d x)) (some (.d (.tuple [.int most,.int many]))) A B v6)=some (.nx (s_ ns ds' (some (.d x)) (some (.d (.tuple [.int most,.int many]))) A B v6'))∧ic ds':=fun A B oA oB=>by
      have tb:=AR oA oB
      obtain⟨d5,tr,hd5⟩:=mZ oA oB hd4
      have w0:=yI (W:=bW A B);have w1:=xc (W:=bW A B);have w3:=uO (W:=bW A B)
      have bT:∀e:En,lW e (.d (.bool true)) (.d (.bool true))=some (.d (.bool false)):=fun e=>rfl
      have lT:(((bW A B).ties.map aG).length:Int)=((A.ties.length+B.ties.length:Nat):Int):=by
        show(((A.ties++B.ties.map (ka A.things)).map aG).length:Int)=_
        rw [List.length_map,List.length_append,List.length_map]
      have eT:(bW A B).things=A.things+B.things:=rfl
      have eA:(bW A B).asks=A.asks+B.asks:=rfl
      refine⟨d5,some (.d (ao (bW A B))),?_,hd5⟩
      unfold s_
      by_cases c:12 < A.things+B.things∨16 < A.ties.length+B.ties.length∨40 < A.asks+B.asks
      · have rf:=tZ oA oB (wK c)
        generalize (bW A B).ties.map aG=TT at*
        generalize (bW A B).things=th at*
        generalize (bW A B).asks=ak at*
        generalize ao (bW A B)=DD at*
        generalize ao A=AA at*
        generalize ao B=BB at*
        by_cases c1:12 < th
        · simp? [tb,w0,c1,rf,tr]
        · by_cases c2:16 < (TT.length:Int)
          · simp? [tb,w0,w1,c1,c2,rf,tr]
          · have c3:40 < ak:=by lia
            simp? [tb,w0,w1,w3,c1,c2,c3,rf,tr]
      · have ok:=wL oA oB (by lia) (by lia) (by lia)
        have te:=wd oA oB (qs ok)
        have ts:=wg ok
        have tw:=mX (kb (oI oA oB)).sh
        rw [qs ok] at tw
        generalize (bW A B).ties.map aG=TT at*
        generalize (bW A B).things=th at*
        generalize (bW A B).asks=ak at*
        generalize ao (bW A B)=DD at*
        generalize ao A=AA at*
        generalize ao B=BB at*
        have c1:¬12 < th:=by lia
        have c2:¬16 < (TT.length:Int):=by lia
        have c3:¬40 < ak:=by lia
        simp? [tb,w0,w1,w3,c1,c2,c3,te,ts,tw,bT,tr]
    have bl:CH=(ay (bg 3 (ar bR (eF (aa (bU (aa (vC (.int 6)) (aa (vC (.int 8)) ai))) (aa (bU (aa (vC (.int 12)) (aa (vC (.int 16)) ai))) ai))) (ar a7 (bJ 1 bc (aa (ac 1) ai)) (vC (.int 2)))))
        (ay (i9 4 5 (aa (bJ 3 kT (aa (ac 1) (aa (ar bR (ac 3) (vC (.int 0))) (aa (ar bR (ac 3) (vC (.int 1))) ai)))) (aa (bJ 3 kT (aa (ac 1) (aa (ar bR (ac 3) (vC (.int 0))) (aa (ar bR (ac 3) (vC (.int 1))) ai)))) ai)))
        (ay (eu (ax (ar sU (ar a7 (bJ 1 bc (aa (ac 1) ai)) (vC (.int 4))) (vC (.int 0))))
        (i9 4 5 (aa (ar ba (qp (ac 4) fq (er (vC (.int 3)))) (bU (aa (aI (g2 oR) (aa (vC (.int 20)) (aa (ar bR (ac 4) (vC (.int 3))) ai))) ai))) (aa (ar ba (qp (ac 5) fq (er (vC (.int 3)))) (bU (aa (aI (g2 oR) (aa (vC (.int 20)) (aa (ar bR (ac 5) (vC (.int 3))) ai))) ai))) ai)))
        bQ) _))):=rfl
    have gs:∀(e:En) (W:aP),CK e (.d (ao W)) none (some 3)=some (.d (.tuple [.int W.things,.tuple (W.ties.map aG),.tuple (W.pat.map .int)])):=fun e W=>rfl
    have gf:∀(e:En) (W:aP),ba e (.d (.tuple [.int W.things,.tuple (W.ties.map aG),.tuple (W.pat.map .int)])) (.d (.tuple [.int (min 20 W.asks)]))=some (.d (ao (wu W))):=fun e W=>eW (by simp)
    have a3:=uO (W:=A);have b3:=uO (W:=B)
    by_cases c:0 < r2
    · obtain⟨d5,v6',hr,hd5⟩:=dc (wu A) (wu B) (uC oA) (uC oB)
      refine⟨[some (.d (.list (ns.map .int))),some (.l (ds.map .int)),some (.d x),v3,v4,v5,v6],s_ ns d5 (some (.d x)) (some (.d (.tuple [.int most,.int many]))) (wu A) (wu B) v6',rfl,?_,bo,.mk hd5⟩
      rw [bl]
      refine(cV (e1:=[some (.d (.list (ns.map .int))),some (.l (d1.map .int)),some (.d x),some (.d (.tuple [.int most,.int many])),v4,v5,v6]) (by simp? [t1,gn,ha])).trans ?_
      refine(cV (e1:=s_ ns d3 (some (.d x)) (some (.d (.tuple [.int most,.int many]))) A B v6) (by
        unfold s_
        generalize ao A=AA at*
        generalize ao B=BB at*
        simp? [tA,tB,ii,f9,eS])).trans ?_
      refine(cV (e1:=s_ ns d4 (some (.d x)) (some (.d (.tuple [.int most,.int many]))) (wu A) (wu B) v6) ?_).trans hr
      have fA:=fun e=>gf e A;have fB:=fun e=>gf e B
      have sA:=fun e=>gs e A;have sB:=fun e=>gs e B
      unfold s_
      generalize ao (wu A)=FA at*
      generalize ao (wu B)=FB at*
      generalize PyData.tuple (A.ties.map aG)=TA at*
      generalize PyData.tuple (B.ties.map aG)=TB at*
      generalize PyData.tuple (A.pat.map .int)=PA at*
      generalize PyData.tuple (B.pat.map .int)=PB at*
      generalize ao A=AA at*
      generalize ao B=BB at*
      simp? [t4,g4,c,sA,sB,a3,b3,fA,fB]
    · obtain⟨d5,v6',hr,hd5⟩:=dc A B oA oB
      refine⟨[some (.d (.list (ns.map .int))),some (.l (ds.map .int)),some (.d x),v3,v4,v5,v6],s_ ns d5 (some (.d x)) (some (.d (.tuple [.int most,.int many]))) A B v6',rfl,?_,bo,.mk hd5⟩
      rw [bl]
      refine(cV (e1:=[some (.d (.list (ns.map .int))),some (.l (d1.map .int)),some (.d x),some (.d (.tuple [.int most,.int many])),v4,v5,v6]) (by simp? [t1,gn,ha])).trans ?_
      refine(cV (e1:=s_ ns d3 (some (.d x)) (some (.d (.tuple [.int most,.int many]))) A B v6) (by
        unfold s_
        generalize ao A=AA at*
        generalize ao B=BB at*
        simp? [tA,tB,ii,f9,eS])).trans ?_
      refine(cV (e1:=s_ ns d4 (some (.d x)) (some (.d (.tuple [.int most,.int many]))) A B v6) ?_).trans hr
      unfold s_
      generalize ao A=AA at*
      generalize ao B=BB at*
      simp? [t4,g4,c]) (.mk hd)
  obtain⟨hd2⟩:=hI
  rename_i ds2 v2 v3 v4 v5 v6
  have hi:DP [some (.d (.list (ns.map .int))),some (.l (ds.map .int)),none,none,none,none,none]=some (bL 0 6,[],[some (.d (.list (ns.map .int))),some (.l (ds.map .int)),none,none,none,none,none]):=cZ (n:=6) (by simp? [List.replicate]) (by lia) (by lia)
  have hfor:=fun Wl=>dW (W:=Wl) (g:=ah 2) (f:=CH) hi
  rw [h1] at hfor
  simp? [me,yB,td,hfor]
def kL(n:Str)(bs mro:List Value)(ns:Addr)(sub:List Value)(sl:Array (Option Value)):Obj:=⟨.type "type",none,.cls {name:=n,bases:=bs,mro:=mro,ns:=ns,qualname:=n,hasDict:=true,slotNames:=[],subclasses:=sub,abstract:=false,collection:=none,hasDel:=false},sl⟩
def kE(P:Params)(k:Str)(t:Tok)(v:Value):DictEntry:=⟨PyData.keyHash P k,.str k t,v⟩
def kF(n:Str)(s:Stmt)(doc pm:Value)(c:Addr):Obj:=⟨.type "function",none,.func (W.fnOf n n (dk s) (cq s) (aj s) .none .none doc pm none (.ref c) .none),#[]⟩
def kI(n:Int):Value:=.int n 0
def kC(n:Str)(a:Nat)(l:List Value)(z:Nat):Obj:=⟨.type "code",none,.fields (Value.str n a::Value.str n (a+1)::Value.str "/claim/cut.py" (a+2)::l++[Value.str "/claim/cut.py" z]).toArray,#[]⟩
def CL:Value:=.str "askedpairs.fractions" 271
def yK:Value:=.str "askedpairs.forms" 290
def wy:Value:=.str "askedpairs.webs" 325
def CM:Value:=.str "askedpairs.led" 383
def gh:Value:=.str "law_askedpairs_k79_webs_beside" 397
def kK(P:Params):W.Frag:=[(3,⟨.type "dict",none,.dict (List.toArray [kE P "__name__" 165 (.str "law_askedpairs_k79_webs_beside" 397),kE P "__doc__" 166 (.none),kE P "__package__" 167 (.none),kE P "__loader__" 168 (.builtin "__main__.__loader__#opaque"),kE P "__spec__" 169 (.none),kE P "__annotations__" 170 (.ref 6),kE P "__builtins__" 171 (.ref 4),kE P "__file__" 173 (.str "/claim/cut.py" 172),kE P "__cached__" 174 (.none),kE P "PairsError" 206 (.ref 24),kE P "TooMany" 222 (.ref 37),kE P "NoRise" 238 (.ref 49),kE P "NotTwoSided" 254 (.ref 61),kE P "NoText" 270 (.ref 73),kE P "common_divisor" 280 (.ref 82),kE P "lowest" 289 (.ref 89),kE P "is_number" 298 (.ref 96),kE P "is_number_within" 307 (.ref 103),kE P "is_row_of" 315 (.ref 110),kE P "is_fraction" 324 (.ref 117),kE P "MOST_THINGS" 328 (.int (12) 327),kE P "MOST_TIES" 330 (.int (16) 329),kE P "MOST_BOTTOM" 332 (.int (100) 331),kE P "MOST_WORTH" 334 (.int (1000) 333),kE P "MOST_PATIENCE" 336 (.int (20) 335),kE P "MOST_ASKS" 338 (.int (40) 337),kE P "is_chance" 347 (.ref 124),kE P "is_tie_row" 359 (.ref 131),kE P "is_ties" 365 (.ref 136),kE P "is_patience" 371 (.ref 141),kE P "is_web" 382 (.ref 148),kE P "beside" 390 (.ref 153),kE P "order_beside" 396 (.ref 158),kE P "_law_mixed" 407 (.ref 165),kE P "_law_draws" 418 (.ref 172),kE P "_law_next" 425 (.ref 179),kE P "_law_gcd" 433 (.ref 186),kE P "_law_low" 442 (.ref 193),kE P "_law_same" 450 (.ref 200),kE P "_law_chance" 459 (.ref 207),kE P "_law_worth" 467 (.ref 214),kE P "_law_ties" 486 (.ref 221),kE P "_law_web" 502 (.ref 228),kE P "_law_asks_of" 508 (.ref 233),kE P "_law_may" 520 (.ref 240),kE P "_law_behind" 533 (.ref 247),kE P "_law_order" 545 (.ref 254),kE P "_law_answers" 556 (.ref 261),kE P "_law_run_order" 568 (.ref 268),kE P "_law_refusal" 576 (.ref 275),kE P "_law_refused" 586 (.ref 282),kE P "_law_both" 599 (.ref 289),kE P "_law_right_orders" 605 (.ref 294),kE P "law" 618 (.ref 301)]) 54,#[]⟩),
  (82,kF "common_divisor" cc (.none) CL 81),
  (81,kC "common_divisor" 273 [kI 13,kI 2,kI 0,kI 0,kI 3,.ref 76,.bool true,kI 181,.ref 77,.none,.ref 78,.ref 79,.ref 80,kI 278,kI 13] 279),
  (89,kF "lowest" iL (.none) CL 88),
  (88,kC "lowest" 281 [kI 17,kI 2,kI 0,kI 0,kI 3,.ref 83,.bool true,kI 181,.ref 84,.none,.ref 85,.ref 86,.ref 87,kI 287,kI 17] 288),
  (96,kF "is_number" c_ (.none) yK 95),
  (95,kC "is_number" 292 [kI 23,kI 1,kI 0,kI 0,kI 3,.ref 90,.bool true,kI 181,.ref 91,.none,.ref 92,.ref 93,.ref 94,kI 296,kI 23] 297),
  (103,kF "is_number_within" a9 (.none) yK 102),
  (102,kC "is_number_within" 299 [kI 25,kI 3,kI 0,kI 0,kI 3,.ref 97,.bool true,kI 181,.ref 98,.none,.ref 99,.ref 100,.ref 101,kI 305,kI 25] 306),
  (110,kF "is_row_of" ci (.none) yK 109),
  (109,kC "is_row_of" 308 [kI 27,kI 2,kI 0,kI 0,kI 3,.ref 104,.bool true,kI 181,.ref 105,.none,.ref 106,.ref 107,.ref 108,kI 313,kI 27] 314),
  (117,kF "is_fraction" cR (.none) yK 116),
  (116,kC "is_fraction" 316 [kI 29,kI 1,kI 0,kI 0,kI 3,.ref 111,.bool true,kI 181,.ref 112,.none,.ref 113,.ref 114,.ref 115,kI 322,kI 29] 323),
  (124,kF "is_chance" el (.none) wy 123),
  (123,kC "is_chance" 339 [kI 43,kI 1,kI 0,kI 0,kI 3,.ref 118,.bool true,kI 181,.ref 119,.none,.ref 120,.ref 121,.ref 122,kI 345,kI 43] 346),
  (131,kF "is_tie_row" dy (.none) wy 130),
  (130,kC "is_tie_row" 348 [kI 48,kI 2,kI 0,kI 0,kI 3,.ref 125,.bool true,kI 181,.ref 126,.none,.ref 127,.ref 128,.ref 129,kI 357,kI 48] 358),
  (136,kF "is_ties" eO (.none) wy 135),
  (135,kC "is_ties" 360 [kI 55,kI 2,kI 0,kI 0,kI 3,.ref 132,.bool true,kI 181,.ref 133,.none,.none,.none,.ref 134,kI 363,kI 55] 364),
  (141,kF "is_patience" cy (.none) wy 140),
  (140,kC "is_patience" 366 [kI 59,kI 2,kI 0,kI 0,kI 3,.ref 137,.bool true,kI 181,.ref 138,.none,.none,.none,.ref 139,kI 369,kI 59] 370),
  (148,kF "is_web" fD (.none) wy 147),
  (147,kC "is_web" 372 [kI 63,kI 1,kI 0,kI 0,kI 3,.ref 142,.bool true,kI 181,.ref 143,.none,.ref 144,.ref 145,.ref 146,kI 380,kI 63] 381),
  (153,kF "beside" dw (.none) CM 152),
  (152,kC "beside" 385 [kI 71,kI 2,kI 0,kI 0,kI 3,.ref 149,.bool true,kI 181,.ref 150,.none,.none,.none,.ref 151,kI 388,kI 71] 389),
  (158,kF "order_beside" ce (.none) CM 157),
  (157,kC "order_beside" 391 [kI 77,kI 3,kI 0,kI 0,kI 3,.ref 154,.bool true,kI 181,.ref 155,.none,.none,.none,.ref 156,kI 394,kI 77] 395),
  (165,kF "_law_mixed" jX (.none) gh 164),
  (164,kC "_law_mixed" 399 [kI 80,kI 2,kI 0,kI 0,kI 3,.ref 159,.bool true,kI 181,.ref 160,.none,.ref 161,.ref 162,.ref 163,kI 405,kI 80] 406),
  (172,kF "_law_draws" jW (.none) gh 171),
  (171,kC "_law_draws" 408 [kI 83,kI 1,kI 0,kI 0,kI 3,.ref 166,.bool true,kI 181,.ref 167,.none,.ref 168,.ref 169,.ref 170,kI 416,kI 83] 417),
  (179,kF "_law_next" hR (.none) gh 178),
  (178,kC "_law_next" 419 [kI 96,kI 1,kI 0,kI 0,kI 3,.ref 173,.bool true,kI 181,.ref 174,.none,.ref 175,.ref 176,.ref 177,kI 423,kI 96] 424),
  (186,kF "_law_gcd" p9 (.none) gh 185),
  (185,kC "_law_gcd" 426 [kI 100,kI 2,kI 0,kI 0,kI 3,.ref 180,.bool true,kI 181,.ref 181,.none,.ref 182,.ref 183,.ref 184,kI 431,kI 100] 432),
  (193,kF "_law_low" p_ (.none) gh 192),
  (192,kC "_law_low" 434 [kI 104,kI 2,kI 0,kI 0,kI 3,.ref 187,.bool true,kI 181,.ref 188,.none,.ref 189,.ref 190,.ref 191,kI 440,kI 104] 441),
  (200,kF "_law_same" kr (.none) gh 199),
  (199,kC "_law_same" 443 [kI 107,kI 2,kI 0,kI 0,kI 3,.ref 194,.bool true,kI 181,.ref 195,.none,.ref 196,.ref 197,.ref 198,kI 448,kI 107] 449),
  (207,kF "_law_chance" iK (.none) gh 206),
  (206,kC "_law_chance" 451 [kI 109,kI 2,kI 0,kI 0,kI 3,.ref 201,.bool true,kI 181,.ref 202,.none,.ref 203,.ref 204,.ref 205,kI 457,kI 109] 458),
  (214,kF "_law_worth" jZ (.none) gh 213),
  (213,kC "_law_worth" 460 [kI 119,kI 2,kI 0,kI 0,kI 3,.ref 208,.bool true,kI 181,.ref 209,.none,.ref 210,.ref 211,.ref 212,kI 465,kI 119] 466),
  (221,kF "_law_ties" mJ (.none) gh 220),
  (220,kC "_law_ties" 468 [kI 121,kI 3,kI 0,kI 0,kI 3,.ref 215,.bool true,kI 181,.ref 216,.none,.ref 217,.ref 218,.ref 219,kI 484,kI 121] 485),
  (228,kF "_law_web" qb (.none) gh 227),
  (227,kC "_law_web" 487 [kI 136,kI 3,kI 0,kI 0,kI 3,.ref 222,.bool true,kI 181,.ref 223,.none,.ref 224,.ref 225,.ref 226,kI 500,kI 136] 501),
  (233,kF "_law_asks_of" eN (.none) gh 232),
  (232,kC "_law_asks_of" 503 [kI 146,kI 3,kI 0,kI 0,kI 3,.ref 229,.bool true,kI 181,.ref 230,.none,.none,.none,.ref 231,kI 506,kI 146] 507),
  (240,kF "_law_may" qa (.none) gh 239),
  (239,kC "_law_may" 509 [kI 148,kI 3,kI 0,kI 0,kI 3,.ref 234,.bool true,kI 181,.ref 235,.none,.ref 236,.ref 237,.ref 238,kI 518,kI 148] 519),
  (247,kF "_law_behind" iJ (.none) gh 246),
  (246,kC "_law_behind" 521 [kI 156,kI 4,kI 0,kI 0,kI 3,.ref 241,.bool true,kI 181,.ref 242,.none,.ref 243,.ref 244,.ref 245,kI 531,kI 156] 532),
  (254,kF "_law_order" jY (.none) gh 253),
  (253,kC "_law_order" 534 [kI 162,kI 3,kI 0,kI 0,kI 3,.ref 248,.bool true,kI 181,.ref 249,.none,.ref 250,.ref 251,.ref 252,kI 543,kI 162] 544),
  (261,kF "_law_answers" gG (.none) gh 260),
  (260,kC "_law_answers" 546 [kI 169,kI 2,kI 0,kI 0,kI 3,.ref 255,.bool true,kI 181,.ref 256,.none,.ref 257,.ref 258,.ref 259,kI 554,kI 169] 555),
  (268,kF "_law_run_order" ek (.none) gh 267),
  (267,kC "_law_run_order" 557 [kI 177,kI 3,kI 0,kI 0,kI 3,.ref 262,.bool true,kI 181,.ref 263,.none,.ref 264,.ref 265,.ref 266,kI 566,kI 177] 567),
  (275,kF "_law_refusal" gH (.none) gh 274),
  (274,kC "_law_refusal" 569 [kI 185,kI 1,kI 0,kI 0,kI 3,.ref 269,.bool true,kI 181,.ref 270,.none,.ref 271,.ref 272,.ref 273,kI 574,kI 185] 575),
  (282,kF "_law_refused" gJ (.none) gh 281),
  (281,kC "_law_refused" 577 [kI 188,kI 2,kI 0,kI 0,kI 3,.ref 276,.bool true,kI 181,.ref 277,.none,.ref 278,.ref 279,.ref 280,kI 584,kI 188] 585),
  (289,kF "_law_both" mI (.none) gh 288),
  (288,kC "_law_both" 587 [kI 195,kI 2,kI 0,kI 0,kI 3,.ref 283,.bool true,kI 181,.ref 284,.none,.ref 285,.ref 286,.ref 287,kI 597,kI 195] 598),
  (294,kF "_law_right_orders" bH (.none) gh 293),
  (293,kC "_law_right_orders" 600 [kI 200,kI 4,kI 0,kI 0,kI 3,.ref 290,.bool true,kI 181,.ref 291,.none,.none,.none,.ref 292,kI 603,kI 200] 604),
  (301,kF "law" mK (.none) gh 300),
  (300,kC "law" 606 [kI 213,kI 1,kI 0,kI 0,kI 3,.ref 295,.bool true,kI 181,.ref 296,.none,.ref 297,.ref 298,.ref 299,kI 616,kI 213] 617),
  (24,kL "PairsError" [.type "ValueError"] [.ref 24,.type "ValueError",.type "Exception",.type "BaseException",.type "object"] 23 [.ref 37,.ref 49,.ref 61,.ref 73] #[some (.ref 15),none,some (.str "PairsError" 189),some (.str "PairsError" 197),some (.builtin "ValueError.__new__"),some (.bool true)]),
  (23,⟨.type "dict",none,.dict (List.toArray [kE P "__module__" 196 (.str "askedpairs.errors" 187),kE P "__firstlineno__" 200 (.int (2) 199),kE P "__static_attributes__" 201 (.ref 22),kE P "__weakref__" 203 (.ref 25),kE P "__doc__" 204 (.none)]) 3,#[]⟩),
  (37,kL "TooMany" [.ref 24] [.ref 37,.ref 24,.type "ValueError",.type "Exception",.type "BaseException",.type "object"] 36 [] #[some (.ref 28),none,some (.str "TooMany" 207),some (.str "TooMany" 215),some (.builtin "ValueError.__new__"),some (.bool true)]),
  (36,⟨.type "dict",none,.dict (List.toArray [kE P "__module__" 214 (.str "askedpairs.errors" 187),kE P "__firstlineno__" 218 (.int (4) 217),kE P "__static_attributes__" 219 (.ref 35),kE P "__doc__" 220 (.none)]) 2,#[]⟩),
  (49,kL "NoRise" [.ref 24] [.ref 49,.ref 24,.type "ValueError",.type "Exception",.type "BaseException",.type "object"] 48 [] #[some (.ref 40),none,some (.str "NoRise" 223),some (.str "NoRise" 231),some (.builtin "ValueError.__new__"),some (.bool true)]),
  (48,⟨.type "dict",none,.dict (List.toArray [kE P "__module__" 230 (.str "askedpairs.errors" 187),kE P "__firstlineno__" 234 (.int (6) 233),kE P "__static_attributes__" 235 (.ref 47),kE P "__doc__" 236 (.none)]) 2,#[]⟩),
  (61,kL "NotTwoSided" [.ref 24] [.ref 61,.ref 24,.type "ValueError",.type "Exception",.type "BaseException",.type "object"] 60 [] #[some (.ref 52),none,some (.str "NotTwoSided" 239),some (.str "NotTwoSided" 247),some (.builtin "ValueError.__new__"),some (.bool true)]),
  (60,⟨.type "dict",none,.dict (List.toArray [kE P "__module__" 246 (.str "askedpairs.errors" 187),kE P "__firstlineno__" 250 (.int (8) 249),kE P "__static_attributes__" 251 (.ref 59),kE P "__doc__" 252 (.none)]) 2,#[]⟩),
  (73,kL "NoText" [.ref 24] [.ref 73,.ref 24,.type "ValueError",.type "Exception",.type "BaseException",.type "object"] 72 [] #[some (.ref 64),none,some (.str "NoText" 255),some (.str "NoText" 263),some (.builtin "ValueError.__new__"),some (.bool true)]),
  (72,⟨.type "dict",none,.dict (List.toArray [kE P "__module__" 262 (.str "askedpairs.errors" 187),kE P "__firstlineno__" 266 (.int (10) 265),kE P "__static_attributes__" 267 (.ref 71),kE P "__doc__" 268 (.none)]) 2,#[]⟩)]
def kA:List Addr:=[3,82,81,89,88,96,95,103,102,110,109,117,116,124,123,131,130,136,135,141,140,148,147,153,152,158,157,165,164,172,171,179,178,186,185,193,192,200,199,207,206,214,213,221,220,228,227,233,232,240,239,247,246,254,253,261,260,268,267,275,274,282,281,289,288,294,293,301,300,24,23,37,36,49,48,61,60,73,72]
def kq:Program:={PySem.Challenge.pw_askedpairs_k79_webs_beside with main:={PySem.Challenge.pw_askedpairs_k79_webs_beside.main with body:=[top 1,top 2,top 3,top 4,top 5,top 7,top 8,top 10,top 11,top 12,top 13,top 15,top 16,top 17,top 18,top 19,top 20,top 21,top 22,top 23,top 24,top 25,top 27,top 28,top 30,top 31,top 32,top 33,top 34,top 35,top 36,top 37,top 38,top 39,top 40,top 41,top 42,top 43,top 44,top 45,top 46,top 47,top 48,top 49,top 50]}}
def kH:W.Hook:=W.kHook kK kA (fun _=>by kernel_rfl)
theorem left:W.LeftO PySem.Challenge.pw_askedpairs_k79_webs_beside kq [] (fun s=>W.xlAt kq [] s&&W.recOk (W.RowW.records (W.OpenRow.toRowW (W.OpenLaw.row PySem.Challenge.rw_askedpairs_k79_webs_beside))) s) (W.Hook.obs kH) (W.Hook.val kH) 4542:=fun w=>by kernel_rfl
theorem yN{P:List Value→Prop}(h:∀a0,P [a0]):∀us:List Value,us.length=1→P us:=fun us e=>match us,e with | [a0],_=>h a0
theorem qt{P:List Value→Prop}(h:∀a0 a1,P [a0,a1]):∀us:List Value,us.length=2→P us:=fun us e=>match us,e with | [a0,a1],_=>h a0 a1
theorem yO{P:List Value→Prop}(h:∀a0 a1 a2,P [a0,a1,a2]):∀us:List Value,us.length=3→P us:=fun us e=>match us,e with | [a0,a1,a2],_=>h a0 a1 a2
theorem DQ{P:List Value→Prop}(h:∀a0 a1 a2 a3,P [a0,a1,a2,a3]):∀us:List Value,us.length=4→P us:=fun us e=>match us,e with | [a0,a1,a2,a3],_=>h a0 a1 a2 a3
theorem hm{w:World}{h:Heap}{mg:Str→Option Value}{n:Str}{s:Stmt}{a:Addr}{ps:List Str}(c:Addr)(d p:Value)(X:(kK w.params).In h)(G:h.Ns mainGlobals mg)
    (e:(W.nsIn (kK w.params) mainGlobals n,List.lookup a (kK w.params),W.codeIn (kK w.params) (.ref c) n,W.keepIn (kK w.params) (.ref a))=(some (some (.ref a)),some (kF n s d p c),true,true))
    (b:∀(kV doc pm:Value) (an:Option Addr) (cdv ct:Value) (us:List Value),us.length=ps.length→bindArgs (W.fnOf n n (dk s) (cq s) (aj s) .none kV doc pm an cdv ct) ⟨us,[]⟩=pure (ps.zip us)):
    a_ (kK w.params) mg n s a (W.fnOf n n (dk s) (cq s) (aj s) .none .none d p none (.ref c) .none) ps:=zB X G (congrArg (·.1) e) (congrArg (·.2.1) e) (congrArg (·.2.2.1) e) (congrArg (·.2.2.2) e) b
theorem all_mk{l:W.OpenLaw}{w:World}{h:Heap}{mg:Str→Option Value}{fa:Addr}(X:(kK w.params).In h)(G:h.Ns mainGlobals mg)(hfa:mg "law"=some (.ref fa)):
    ∃fd:FuncData,(∀(s:Shared) (v:Value),BindsTo s fd ⟨[v],[]⟩ [("_law_script",v)])∧∀base:Heap,(kK w.params).In base→base.Ns mainGlobals mg→aF l.prog w (kK w.params) mg base bM 10 fa fd ["_law_script"] (bO (kK w.params) 1 me):=by
  have e:=hfa.symm.trans (W.mg_of X G (show W.nsIn (kK w.params) mainGlobals "law"=some (some (.ref 301)) by kernel_rfl))
  cases e
  have T:iw mg:=⟨W.mg_none_of X G (show W.nsIn (kK w.params) mainGlobals "abs"=some none by kernel_rfl),W.mg_none_of X G (show W.nsIn (kK w.params) mainGlobals "len"=some none by kernel_rfl),W.mg_none_of X G (show W.nsIn (kK w.params) mainGlobals "min"=some none by kernel_rfl),W.mg_none_of X G (show W.nsIn (kK w.params) mainGlobals "max"=some none by kernel_rfl),W.mg_none_of X G (show W.nsIn (kK w.params) mainGlobals "range"=some none by kernel_rfl),W.mg_none_of X G (show W.nsIn (kK w.params) mainGlobals "repr"=some none by kernel_rfl),W.mg_none_of X G (show W.nsIn (kK w.params) mainGlobals "tuple"=some none by kernel_rfl),W.mg_none_of X G (show W.nsIn (kK w.params) mainGlobals "int"=some none by kernel_rfl),W.mg_none_of X G (show W.nsIn (kK w.params) mainGlobals "sorted"=some none by kernel_rfl),W.mg_none_of X G (show W.nsIn (kK w.params) mainGlobals "isinstance"=some none by kernel_rfl),W.mg_none_of X G (show W.nsIn (kK w.params) mainGlobals "bool"=some none by kernel_rfl),W.mg_none_of X G (show W.nsIn (kK w.params) mainGlobals "all"=some none by kernel_rfl),W.mg_none_of X G (show W.nsIn (kK w.params) mainGlobals "list"=some none by kernel_rfl),W.mg_none_of X G (show W.nsIn (kK w.params) mainGlobals "ValueError"=some none by kernel_rfl)⟩
  have h_common_divisor:a_ (kK w.params) mg "common_divisor" cc 82 _ ["one","other"]:=hm 81 (.none) CL X G (by kernel_rfl) fun _ _ _ _ _ _=>qt fun _ _=>rfl
  have h_lowest:a_ (kK w.params) mg "lowest" iL 89 _ ["top","bottom"]:=hm 88 (.none) CL X G (by kernel_rfl) fun _ _ _ _ _ _=>qt fun _ _=>rfl
  have h_is_number:a_ (kK w.params) mg "is_number" c_ 96 _ ["thing"]:=hm 95 (.none) yK X G (by kernel_rfl) fun _ _ _ _ _ _=>yN fun _=>rfl
  have h_is_number_within:a_ (kK w.params) mg "is_number_within" a9 103 _ ["thing","low","high"]:=hm 102 (.none) yK X G (by kernel_rfl) fun _ _ _ _ _ _=>yO fun _ _ _=>rfl
  have h_is_row_of:a_ (kK w.params) mg "is_row_of" ci 110 _ ["thing","many"]:=hm 109 (.none) yK X G (by kernel_rfl) fun _ _ _ _ _ _=>qt fun _ _=>rfl
  have h_is_fraction:a_ (kK w.params) mg "is_fraction" cR 117 _ ["thing"]:=hm 116 (.none) yK X G (by kernel_rfl) fun _ _ _ _ _ _=>yN fun _=>rfl
  have h_is_chance:a_ (kK w.params) mg "is_chance" el 124 _ ["thing"]:=hm 123 (.none) wy X G (by kernel_rfl) fun _ _ _ _ _ _=>yN fun _=>rfl
  have h_is_tie_row:a_ (kK w.params) mg "is_tie_row" dy 131 _ ["thing","things"]:=hm 130 (.none) wy X G (by kernel_rfl) fun _ _ _ _ _ _=>qt fun _ _=>rfl
  have h_is_ties:a_ (kK w.params) mg "is_ties" eO 136 _ ["thing","things"]:=hm 135 (.none) wy X G (by kernel_rfl) fun _ _ _ _ _ _=>qt fun _ _=>rfl
  have h_is_patience:a_ (kK w.params) mg "is_patience" cy 141 _ ["thing","things"]:=hm 140 (.none) wy X G (by kernel_rfl) fun _ _ _ _ _ _=>qt fun _ _=>rfl
  have h_is_web:a_ (kK w.params) mg "is_web" fD 148 _ ["thing"]:=hm 147 (.none) wy X G (by kernel_rfl) fun _ _ _ _ _ _=>yN fun _=>rfl
  have h_beside:a_ (kK w.params) mg "beside" dw 153 _ ["one","other"]:=hm 152 (.none) CM X G (by kernel_rfl) fun _ _ _ _ _ _=>qt fun _ _=>rfl
  have h_order_beside:a_ (kK w.params) mg "order_beside" ce 158 _ ["one","order","other_order"]:=hm 157 (.none) CM X G (by kernel_rfl) fun _ _ _ _ _ _=>yO fun _ _ _=>rfl
  have hLmixed:a_ (kK w.params) mg "_law_mixed" jX 165 _ ["_law_cell","_law_k"]:=hm 164 (.none) gh X G (by kernel_rfl) fun _ _ _ _ _ _=>qt fun _ _=>rfl
  have hLdraws:a_ (kK w.params) mg "_law_draws" jW 172 _ ["_law_script"]:=hm 171 (.none) gh X G (by kernel_rfl) fun _ _ _ _ _ _=>yN fun _=>rfl
  have hLnext:a_ (kK w.params) mg "_law_next" hR 179 _ ["_law_drawn"]:=hm 178 (.none) gh X G (by kernel_rfl) fun _ _ _ _ _ _=>yN fun _=>rfl
  have hLgcd:a_ (kK w.params) mg "_law_gcd" p9 186 _ ["_law_one","_law_other"]:=hm 185 (.none) gh X G (by kernel_rfl) fun _ _ _ _ _ _=>qt fun _ _=>rfl
  have hLlow:a_ (kK w.params) mg "_law_low" p_ 193 _ ["_law_top","_law_bottom"]:=hm 192 (.none) gh X G (by kernel_rfl) fun _ _ _ _ _ _=>qt fun _ _=>rfl
  have hLsame:a_ (kK w.params) mg "_law_same" kr 200 _ ["_law_found","_law_due"]:=hm 199 (.none) gh X G (by kernel_rfl) fun _ _ _ _ _ _=>qt fun _ _=>rfl
  have hLchance:a_ (kK w.params) mg "_law_chance" iK 207 _ ["_law_number","_law_kind"]:=hm 206 (.none) gh X G (by kernel_rfl) fun _ _ _ _ _ _=>qt fun _ _=>rfl
  have hLworth:a_ (kK w.params) mg "_law_worth" jZ 214 _ ["_law_number","_law_kind"]:=hm 213 (.none) gh X G (by kernel_rfl) fun _ _ _ _ _ _=>qt fun _ _=>rfl
  have hLties:a_ (kK w.params) mg "_law_ties" mJ 221 _ ["_law_drawn","_law_things","_law_many"]:=hm 220 (.none) gh X G (by kernel_rfl) fun _ _ _ _ _ _=>yO fun _ _ _=>rfl
  have hLweb:a_ (kK w.params) mg "_law_web" qb 228 _ ["_law_drawn","_law_most","_law_ties_here"]:=hm 227 (.none) gh X G (by kernel_rfl) fun _ _ _ _ _ _=>yO fun _ _ _=>rfl
  have hLasks_of:a_ (kK w.params) mg "_law_asks_of" eN 233 _ ["_law_web_here","_law_asked","_law_thing"]:=hm 232 (.none) gh X G (by kernel_rfl) fun _ _ _ _ _ _=>yO fun _ _ _=>rfl
  have hLmay:a_ (kK w.params) mg "_law_may" qa 240 _ ["_law_web_here","_law_stand","_law_tie"]:=hm 239 (.none) gh X G (by kernel_rfl) fun _ _ _ _ _ _=>yO fun _ _ _=>rfl
  have hLbehind:a_ (kK w.params) mg "_law_behind" iJ 247 _ ["_law_web_here","_law_stand","_law_tie","_law_truth"]:=hm 246 (.none) gh X G (by kernel_rfl) fun _ _ _ _ _ _=>DQ fun _ _ _ _=>rfl
  have hLorder:a_ (kK w.params) mg "_law_order" jY 254 _ ["_law_drawn","_law_web_here","_law_most"]:=hm 253 (.none) gh X G (by kernel_rfl) fun _ _ _ _ _ _=>yO fun _ _ _=>rfl
  have hLanswers:a_ (kK w.params) mg "_law_answers" gG 261 _ ["_law_drawn","_law_many"]:=hm 260 (.none) gh X G (by kernel_rfl) fun _ _ _ _ _ _=>qt fun _ _=>rfl
  have hLrun_order:a_ (kK w.params) mg "_law_run_order" ek 268 _ ["_law_web_here","_law_order_here","_law_answers_here"]:=hm 267 (.none) gh X G (by kernel_rfl) fun _ _ _ _ _ _=>yO fun _ _ _=>rfl
  have hLrefusal:a_ (kK w.params) mg "_law_refusal" gH 275 _ ["_law_kept"]:=hm 274 (.none) gh X G (by kernel_rfl) fun _ _ _ _ _ _=>yN fun _=>rfl
  have hLrefused:a_ (kK w.params) mg "_law_refused" gJ 282 _ ["_law_one","_law_other"]:=hm 281 (.none) gh X G (by kernel_rfl) fun _ _ _ _ _ _=>qt fun _ _=>rfl
  have hLboth:a_ (kK w.params) mg "_law_both" mI 289 _ ["_law_one","_law_other"]:=hm 288 (.none) gh X G (by kernel_rfl) fun _ _ _ _ _ _=>qt fun _ _=>rfl
  have hLright_orders:a_ (kK w.params) mg "_law_right_orders" bH 294 _ ["_law_drawn","_law_one","_law_other","_law_both_here"]:=hm 293 (.none) gh X G (by kernel_rfl) fun _ _ _ _ _ _=>DQ fun _ _ _ _=>rfl
  have h_law:a_ (kK w.params) mg "law" mK 301 _ ["_law_script"]:=hm 300 (.none) gh X G (by kernel_rfl) fun _ _ _ _ _ _=>yN fun _=>rfl
  have m_MOST_THINGS:=W.mg_of X G (show W.nsIn (kK w.params) mainGlobals "MOST_THINGS"=some (some (.int (12) 327)) by kernel_rfl)
  have m_MOST_TIES:=W.mg_of X G (show W.nsIn (kK w.params) mainGlobals "MOST_TIES"=some (some (.int (16) 329)) by kernel_rfl)
  have m_MOST_BOTTOM:=W.mg_of X G (show W.nsIn (kK w.params) mainGlobals "MOST_BOTTOM"=some (some (.int (100) 331)) by kernel_rfl)
  have m_MOST_WORTH:=W.mg_of X G (show W.nsIn (kK w.params) mainGlobals "MOST_WORTH"=some (some (.int (1000) 333)) by kernel_rfl)
  have m_MOST_PATIENCE:=W.mg_of X G (show W.nsIn (kK w.params) mainGlobals "MOST_PATIENCE"=some (some (.int (20) 335)) by kernel_rfl)
  have m_MOST_ASKS:=W.mg_of X G (show W.nsIn (kK w.params) mainGlobals "MOST_ASKS"=some (some (.int (40) 337)) by kernel_rfl)
  have m_NoRise:=W.mg_of X G (show W.nsIn (kK w.params) mainGlobals "NoRise"=some (some (.ref 49)) by kernel_rfl)
  have m_NoText:=W.mg_of X G (show W.nsIn (kK w.params) mainGlobals "NoText"=some (some (.ref 73)) by kernel_rfl)
  have m_NotTwoSided:=W.mg_of X G (show W.nsIn (kK w.params) mainGlobals "NotTwoSided"=some (some (.ref 61)) by kernel_rfl)
  have m_PairsError:=W.mg_of X G (show W.nsIn (kK w.params) mainGlobals "PairsError"=some (some (.ref 24)) by kernel_rfl)
  have m_TooMany:=W.mg_of X G (show W.nsIn (kK w.params) mainGlobals "TooMany"=some (some (.ref 37)) by kernel_rfl)
  have x_TooMany:W.excIn (kK w.params) 37 wm "ValueError.__new__"=true:=by kernel_rfl
  have Z_TooMany:pD (kK w.params) 37:=⟨by kernel_rfl,by kernel_rfl,by kernel_rfl,by kernel_rfl,by kernel_rfl,by kernel_rfl⟩
  have k_PairsError:W.kitOne (kK w.params) (.ref 37) (.ref 24)=some true:=by kernel_rfl
  have k_ValueError:W.kitOne (kK w.params) (.ref 37) (.type "ValueError")=some true:=by kernel_rfl
  have k_TooMany:W.kitOne (kK w.params) (.ref 37) (.ref 37)=some true:=by kernel_rfl
  have k_NoRise:W.kitOne (kK w.params) (.ref 37) (.ref 49)=some false:=by kernel_rfl
  have k_NotTwoSided:W.kitOne (kK w.params) (.ref 37) (.ref 61)=some false:=by kernel_rfl
  have k_NoText:W.kitOne (kK w.params) (.ref 37) (.ref 73)=some false:=by kernel_rfl
  have x2_PairsError:W.exmOne (kK w.params) (.ref 37) (.ref 24)=some true:=by kernel_rfl
  refine⟨W.fnOf "law" "law" (dk mK) (cq mK) (aj mK) .none .none (.none) gh none (.ref 300) .none,fun s v=>.of_eq rfl,fun base _ _=>?_⟩
  have G_common_divisor:=jQ (P:=l.prog) (w:=w) (base:=base) h_common_divisor T
  have G_lowest:=tI (P:=l.prog) (w:=w) (base:=base) h_lowest T h_common_divisor G_common_divisor
  have G_is_number:=pb (P:=l.prog) (w:=w) (base:=base) h_is_number T
  have G_is_number_within:=i7 (P:=l.prog) (w:=w) (base:=base) h_is_number_within T h_is_number G_is_number
  have G_is_row_of:=pd (P:=l.prog) (w:=w) (base:=base) h_is_row_of T
  have G_is_fraction:=mq (P:=l.prog) (w:=w) (base:=base) h_is_fraction T h_is_row_of G_is_row_of h_lowest G_lowest h_is_number G_is_number
  have G_is_chance:=o_ (P:=l.prog) (w:=w) (base:=base) h_is_chance T h_is_fraction G_is_fraction m_MOST_BOTTOM
  have G_is_tie_row:=nh (P:=l.prog) (w:=w) (base:=base) h_is_tie_row T h_is_row_of G_is_row_of h_is_chance G_is_chance h_is_number_within G_is_number_within m_MOST_WORTH
  have G_is_ties:=qV (P:=l.prog) (w:=w) (base:=base) h_is_ties T h_is_tie_row G_is_tie_row m_MOST_TIES
  have G_is_patience:=mr (P:=l.prog) (w:=w) (base:=base) h_is_patience T h_is_row_of G_is_row_of h_is_number_within G_is_number_within m_MOST_PATIENCE
  have G_is_web:=tH (P:=l.prog) (w:=w) (base:=base) h_is_web T h_is_row_of G_is_row_of h_is_ties G_is_ties h_is_patience G_is_patience h_is_number_within G_is_number_within m_MOST_THINGS m_MOST_ASKS
  have G_beside:=tG (P:=l.prog) (w:=w) (base:=base) h_beside T h_is_web G_is_web
  have R_beside:=qW (P:=l.prog) (w:=w) (base:=base) h_beside T h_is_web G_is_web m_TooMany x_TooMany
  have G_order_beside:=k9 (P:=l.prog) (w:=w) (base:=base) h_order_beside T
  have GLmixed:=vf (P:=l.prog) (w:=w) (base:=base) hLmixed T
  have GLdraws:=ve (P:=l.prog) (w:=w) (base:=base) hLdraws T hLmixed GLmixed
  have GLnext:=xr (P:=l.prog) (w:=w) (base:=base) hLnext T
  have GLgcd:=zR (P:=l.prog) (w:=w) (base:=base) hLgcd T
  have GLlow:=zS (P:=l.prog) (w:=w) (base:=base) hLlow T hLgcd GLgcd
  have GLsame:=xt (P:=l.prog) (w:=w) (base:=base) hLsame T
  have GLchance:=tF (P:=l.prog) (w:=w) (base:=base) hLchance T hLlow GLlow
  have GLworth:=vh (P:=l.prog) (w:=w) (base:=base) hLworth T
  have GLties:=xu (P:=l.prog) (w:=w) (base:=base) hLties T hLnext GLnext hLchance GLchance hLworth GLworth
  have GLweb:=zU (P:=l.prog) (w:=w) (base:=base) hLweb T hLties GLties hLnext GLnext
  have GLasks_of:=qS (P:=l.prog) (w:=w) (base:=base) hLasks_of T
  have GLmay:=zT (P:=l.prog) (w:=w) (base:=base) hLmay T hLasks_of GLasks_of
  have GLbehind:=tD (P:=l.prog) (w:=w) (base:=base) hLbehind T
  have GLorder:=vg (P:=l.prog) (w:=w) (base:=base) hLorder T hLnext GLnext
  have GLanswers:=qR (P:=l.prog) (w:=w) (base:=base) hLanswers T hLnext GLnext
  have GLrun_order:=o8 (P:=l.prog) (w:=w) (base:=base) hLrun_order T hLmay GLmay hLbehind GLbehind
  have GLrefusal:=qT (P:=l.prog) (w:=w) (base:=base) hLrefusal T Z_TooMany m_PairsError k_PairsError k_ValueError m_TooMany k_TooMany m_NoRise k_NoRise m_NotTwoSided k_NotTwoSided m_NoText k_NoText
  have GLrefused:=qU (P:=l.prog) (w:=w) (base:=base) hLrefused T h_beside R_beside hLrefusal GLrefusal m_PairsError x2_PairsError
  have GLboth:=xq (P:=l.prog) (w:=w) (base:=base) hLboth T
  have GLright_orders:=k8 (P:=l.prog) (w:=w) (base:=base) hLright_orders T hLanswers GLanswers hLrun_order GLrun_order hLorder GLorder hLsame GLsame h_order_beside G_order_beside
  have G_law:=zW (P:=l.prog) (w:=w) (base:=base) h_law T hLdraws GLdraws hLboth GLboth hLweb GLweb hLright_orders GLright_orders hLnext GLnext hLrefused GLrefused hLsame GLsame h_is_web G_is_web h_beside G_beside
  exact G_law
def Cf(K:W.Frag):Sp:=fun vs H Q _=>∃(a:Addr) (ns:List Int),vs=[.ref a]∧gL K H a (ns.map V.int)∧ns.length≤63∧∀H',Q (.bl true) H'
theorem zJ{K:W.Frag}{vs:List V}{H:Hp}{Q:VK}{E:XK}(h:Cf K vs H Q E):bO K 1 me vs H Q E:=by
  obtain⟨a,ns,rfl,hS,hl,q⟩:=h
  obtain⟨as',hm⟩:=uX ns hl
  exact ri hS hm q
theorem walk{l:W.OpenLaw}{q:Program}{loose:List Str}{XP:(Str→Option Value)→Heap→Prop}{YP:World→Heap→Prop}{d:DefRec}{K:Params→W.Frag}(hn:l.most=some 63)(hdf:d.params.defaults=[])
    (hY:∀(w:World) (h:Heap),YP w h→(K w.params).In h)
    (F:∀(w:World) (mg:Str→Option Value) (fa:Addr) (h:Heap),(K w.params).In h→h.Ns mainGlobals mg→mg d.name=some (.ref fa)→
      ∃fd:FuncData,(∀(s:Shared) (u:Value),BindsTo s fd ⟨[u],[]⟩ [("_law_script",u)])∧∀base:Heap,(K w.params).In base→base.Ns mainGlobals mg→aF l.prog w (K w.params) mg base bM 10 fa fd ["_law_script"] (bO (K w.params) 1 me)):
    W.WalkO q loose XP YP l.row.toRowW d [] (fun f vs=>PySem.call f vs):=
  L2.walk_of (n:=63) (k:=10) (x:="_law_script") (CX:=fun _=>bM) (sp:=fun w=>bO (K w.params) 1 me) hn (by decide) hdf ⟨rfl,by decide,by decide,rfl⟩ hY F (fun _ _ a ns hl _ hS=>zJ ⟨a,ns,rfl,hS,hl,fun _=>rfl⟩) fun _ _ _ _ _ z=>z
end V79
open PySem PySem.W PyProof.Rows
set_option maxRecDepth 100000 in
set_option maxHeartbeats 0 in
theorem PySem.Challenge.cw_askedpairs_k79_webs_beside_holds : PySem.Challenge.rw_askedpairs_k79_webs_beside.Holds := by
  w_on;o_law
  refine holds_open (q:=V79.kq) (loose:=[]) (Xt:=fun s=>xlAt V79.kq [] s&&recOk (RowW.records (OpenRow.toRowW (OpenLaw.row PySem.Challenge.rw_askedpairs_k79_webs_beside))) s) (XP:=XL V79.kq []) (Yf:=Hook.obs V79.kH) (Ya:=Hook.val V79.kH) (YP:=Hook.says V79.kH) (N:=4542) V79.left (Hook.of V79.kH) (Hook.keeps V79.kH) (fun s e=>xl_of s (Bool.and_eq_true_iff.mp e).1) XL.keeps (by rfl) (by rfl) (by rfl) (fun s e=>recFacts_of (Bool.and_eq_true_iff.mp e).2) (by rfl) (by assumption) (by decide+kernel) ⟨rfl,rfl,rfl,rfl,rfl,by decide+kernel⟩ ?hw ?hc
  case hw=>w_witness2
  case hc=>exact V79.walk (l:=PySem.Challenge.rw_askedpairs_k79_webs_beside) rfl rfl (fun w h Y=>kIn_of Y) (fun w mg fa h KX G hmg=>V79.all_mk KX G hmg)
